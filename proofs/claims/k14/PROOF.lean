import PyProof.Rows.All
import Wide.All
import OpenK.AllK
import Wide.FinOn
import Lean
import PyProof.EqAt
import PyProof.EqKinds
import PyProof.TupleCall
import PySem.SetOps
import PyProof.SetKind
import PyProof.TupleKey
import PyProof.DictKinds
import PyProof.Rows.SetFrom
import PyProof.WalksMore
import KE.KSortTup
import PyProof.CollectWalk
import PyProof.ExcArgsOwn
import PyProof.Rows.CountFlat
import PyProof.Rows.SeqMore2
import PyProof.Rows.FStr
import PyProof.Rows.StrWeight2
import PyProof.Rows.StrNews
import PyProof.StrLawsTight
import PyProof.ExcBaseAll.ValueError
import PyProof.ZipIter
import PyProof.CallFns
import PyProof.Draws
import PyProof.EnumMake
import PyProof.SetRoads
import PyProof.Rows.SortWalk
import PyProof.SeqI3
import PyProof.Rows.SortShell
import PyProof.Rows.Range3
import KE.KStateDown
import PyProof.Rows.SumAny
import PyProof.ListRange
import PyProof.MaxThree
import PyProof.IsiH_list
import PyProof.RaisesAny
import KE.KDictOf
import PyProof.Rows.BitMore
import PySem.Challenge.RW_rowsorder_k14_whole_rows_tell
set_option Elab.async false
set_option linter.all false
set_option maxRecDepth 100000
set_option maxHeartbeats 1000000
def Mu:=@List.getElem?_eq_getElem
def Mv:=@PySem.wpAny_bind
def Mw:=@PySem.Heap.get?_push_of_some
def My:=@Nat.le_refl
def Mz:=@PySem.wpAny_pure
def MA:=@if_pos
def MB:=@List.mem_cons
def MC:=@List.mem_cons_self
def MD:=@List.mem_cons_of_mem
def ME:=@decide_eq_true
def MF:=@if_neg
def MG:=@List.getElem?_map
def MH:=@PySem.Heap.lt_size
def MI:=@List.length_map
def MJ:=@List.getElem?_eq_some_iff
def MK:=@decide_eq_false
def ML:=@List.mem_filter
def MM:=@List.mem_map
def MN:=@PySem.Heap.get?_push_size
def MO:=@List.mem_of_getElem?
def MP:=@Bool.and_eq_true
def MQ:=@Bool.false_eq_true
def MR:=@List.getElem?_set_ne
def MS:=@List.all_eq_true
def MT:=@decide_eq_true_eq
def MU:=@List.length_cons
def MV:=@List.getElem?_set_self
def MW:=@List.size_toArray
def MX:=@List.mem_range
def MY:=@List.getD_eq_getElem?_getD
def MZ:=@List.mem_singleton
def M1:=@List.mem_append
def M4:=@Nat.lt_of_lt_of_le
def M5:=@List.length_append
def M6:=@Int.toNat_natCast
def M7:=@Nat.ne_of_lt
def M8:=@Array.getElem?_eq_getElem
def M9:=@Bool.false_ne_true
def Na:=@PySem.sizeLine_eq
def Nb:=@List.getElem?_append_right
def Nc:=@List.nodup_cons
def Nd:=@Nat.zero_le
def Nf:=@List.mem_iff_getElem
def Ng:=@List.getElem?_append_left
def Nh:=@Nat.lt_irrefl
def Ni:=@List.mem_append_right
def Nj:=@List.map_cons
def Nk:=@if_false
def Nl:=@Array.getD_eq_getD_getElem?
def Nm:=@List.append_assoc
def Np:=@List.not_mem_nil
def Nq:=@List.idxOf_lt_length_iff
def Nr:=@List.replicate_succ
def Nt:=@Nat.zero_add
def Nu:=@PySem.W.kia_one
def Nw:=@PySem.Heap.get?_update_self
def Nx:=@Bool.eq_iff_iff
def Ny:=@Array.getElem?_eq_some_iff
def Nz:=@PySem.wpAny_setState_of
def NA:=@of_decide_eq_true
def NC:=@if_true
def ND:=@Nat.le_trans
def NF:=@List.getElem_mem
def NG:=@PySem.F.called_set
def NH:=@List.map_congr_left
def NI:=@PySem.wpAny_newObj_type
def NJ:=@PySem.boot_len
def NK:=@List.length_set
def NL:=@Nat.lt_or_ge
def NM:=@List.map_append
def NN:=@List.length_take
def NO:=@PySem.Heap.get?_update_other
def NP:=@List.getElem?_range
def NQ:=@List.pairwise_map
def NR:=@PySem.wpAny_holding
def NS:=@List.getElem?_eq_none
def NT:=@PyProof.Rows.callWith_type1
def NU:=@List.mem_append_left
def NV:=@decide_eq_decide
def NW:=@PySem.SeqAt.canLay_of_shaped
def NX:=@Bool.not_eq_true'
def NY:=@List.toList_toArray
def NZ:=@List.Pairwise.imp_of_mem
def N0:=@PySem.wpAny_mono
def N1:=@PySem.Heap.size_push
def N2:=@Nat.mul_le_mul
def N3:=@List.getElem?_replicate
def N4:=@decide_eq_false_iff_not
def N5:=@PySem.wpAny_truthy_bool
def N6:=@List.flatten_cons
def N7:=@List.idxOf_append
def N8:=@List.take_of_length_le
def N9:=@PySem.wpAny_call_entry
def Oa:=@List.mem_filterMap
def Ob:=@Array.getElem?_toList
def Oc:=@List.append_nil
def Od:=@List.mem_of_mem_take
def Oe:=@List.map_map
def Of:=@or_false
def Og:=@List.set_eq_of_length_le
def Oh:=@Int.zero_add
def Oi:=@Nat.eq_of_testBit_eq
def Oj:=@PySem.Value.isInt_shape
def Ol:=@List.take_add_one
def Om:=@List.length_range
def Oo:=@List.any_cons
def Oq:=@PySem.W.mg_of
def Ot:=@List.filterMap_cons
def Ou:=@PySem.mem_of_lookup
def Ov:=@PySem.wpAny_setField
def Ow:=@PyProof.Rows.F.plain_set_update_loop
def Ox:=@PySem.wpAny_passesOwn
def Oy:=@List.length_replicate
def Oz:=@List.length_singleton
def OA:=@List.getElem?_toArray
def OB:=@PySem.codeAny_builtin
def OC:=@List.length_filter_le
def OD:=@Bool.and_self
def OE:=@List.nodup_iff_pairwise_ne
def OF:=@List.ext_getElem?
def OG:=@List.flatMap_cons
def OH:=@Array.mem_toList_iff
def OI:=@List.pairwise_iff_getElem
def OJ:=@PySem.Around.under_plainId
def OK:=@List.drop_eq_getElem_cons
def OL:=@PySem.wpAny_field
def ON:=@List.nodup_nil
def OO:=@PySem.codeAny_mono
def OP:=@List.nodup_range
def OQ:=@List.ext_getElem
def OR:=@Array.length_toList
def OS:=@List.filter_sublist
def OT:=@PyProof.Rows.slot_tuple_getitem
def OU:=@PySem.wpAny_callSpecial?_slot
def OV:=@PySem.F.plainAttrs_list
def OW:=@Bool.not_true
def OX:=@List.nil_append
def OY:=@List.pairwise_cons
def OZ:=@PySem.wpAny_pyIter_tuple
def O0:=@Bool.or_eq_true
def O1:=@Array.getElem?_eq_none
def O2:=@PySem.wpAny_pyIter_list
def O3:=@List.take_append_drop
def O4:=@List.all_map
def O5:=@PySem.Calls.evalArgs_plain
def O6:=@Nat.mod_lt
def O7:=@PySem.wpAny_askSetting
def O8:=@List.getElem?_mapIdx
def O9:=@List.foldl_cons
def Pa:=@List.length_erase_of_mem
def Pb:=@List.getElem_range
def Pc:=@PySem.Obj.data_mapFields
def Pd:=@List.eq_of_mem_replicate
def Pe:=@PySem.AutoSeq1.wpAny_loadPart'
def Pf:=@PySem.isSubtype_type
def Pg:=@List.reverse_cons
def Pj:=@Nat.lt_trichotomy
def Pk:=@Array.getElem_mem
def Pl:=@PySem.Heap.get?_push_ne
def Pn:=@PySem.wpAny_pyIter_enum
def Po:=@List.nodup_append
open List (lookup_cons all_cons set_set)
open PySem.W (Frag)
open PySem.PyData (int)
section
set_option Elab.async false
namespace L2
open PySem PySem.Spec PyProof.Rows
abbrev Key:=Sum Int Str
def Gm:Key->Value->Bool
 | .inl k,v=>Value.isInt k v
 | .inr x,v=>Value.isStrOf x v
def LC (w:World):Key->Int
 | .inl k=>hashInt k
 | .inr x=>hashStr w x
theorem cc:∀{k:Key} {v:Value},Gm k v=true->(∃i t,k=Sum.inl i/\v=Value.int i t)\/(∃x t,k=Sum.inr x/\v=Value.str x t)
 | .inl i,v,h=>by
  obtain⟨t,e⟩:=Oj (k:=i) (v:=v) h
  exact .inl ⟨i,t,rfl,e⟩
 | .inr x,v,h=>by
  obtain⟨t,e⟩:=Value.isStrOf_shape (x:=x) (v:=v) h
  exact .inr ⟨x,t,rfl,e⟩
def Ie (a b:Int):decide ((Sum.inl a:Key)=Sum.inl b)=(a == b):=by
 by_cases e:a=b
 ·subst e;simp
 ·have h:¬(Sum.inl a:Key)=Sum.inl b:=λq=>e (Sum.inl.inj q)
  rw[MK h]
  exact (beq_eq_false_iff_ne.mpr e).symm
def GN (a b:Str):decide ((Sum.inr a:Key)=Sum.inr b)=decide (a=b):=by
 by_cases e:a=b
 ·subst e;simp
 ·have h:¬(Sum.inr a:Key)=Sum.inr b:=λq=>e (Sum.inr.inj q)
  rw[MK h,MK e]
def Iz (a:Int)(b:Str):decide ((Sum.inl a:Key)=Sum.inr b)=false:=MK (λq=>nomatch q)
def Hy (a:Str)(b:Int):decide ((Sum.inr a:Key)=Sum.inl b)=false:=MK (λq=>nomatch q)
def sW (prog:Program)(w:World):PySem.KeyKind prog w Key where
 is:=Gm
 hash:=LC w
 inj:=λv a b ha hb=>by
  rcases cc ha with⟨i,t,rfl,rfl⟩ | ⟨x,t,rfl,rfl⟩
  ·rcases cc hb with⟨j,u,rfl,e⟩ | ⟨y,u,rfl,e⟩
   ·injection e with e1 _;rw[e1]
   ·exact nomatch e
  ·rcases cc hb with⟨j,u,rfl,e⟩ | ⟨y,u,rfl,e⟩
   ·exact nomatch e
   ·injection e with e1 _;rw[e1]
 byValue:=λk v h=>by
  rcases cc h with⟨i,t,rfl,rfl⟩ | ⟨x,t,rfl,rfl⟩ <;> rfl
 pyHash:=λhv h=>by
  rcases cc hv with⟨i,t,rfl,rfl⟩ | ⟨x,t,rfl,rfl⟩
  ·exact wpAny_pyHash_int h
  ·exact wpAny_pyHash_str h
 eqBool:=λhu hv h=>by
  rcases cc hu with⟨i,t,rfl,rfl⟩ | ⟨x,t,rfl,rfl⟩
  ·rcases cc hv with⟨j,u,rfl,rfl⟩ | ⟨y,u,rfl,rfl⟩
   ·rw[Ie] at h;exact wpAny_eqBool_int h
   ·rw[Iz] at h;exact SeqAt.EqAt.int_str i t y u _ _ _ _ h
  ·rcases cc hv with⟨j,u,rfl,rfl⟩ | ⟨y,u,rfl,rfl⟩
   ·rw[Hy] at h;exact SeqAt.EqAt.str_int x t j u _ _ _ _ h
   ·rw[GN] at h;exact wpAny_eqBool_str h
 «strs»:=λk x t v h=>by
  rcases cc h with⟨i,u,rfl,e⟩ | ⟨y,u,rfl,e⟩
  ·exact nomatch e
  ·injection e with e1 _
   subst e1
   cases v <;> rfl
inductive V where
 |non |bl (b:Bool) |int (i:Int) |str (x:Str) |byt (b:Array UInt8) |flt (b:UInt64) |ref (a:Addr) |ty (n:String)
 deriving DecidableEq
def RelV:V->Value->Prop
 | .non,u=>u=Value.none
 | .bl b,u=>u=Value.bool b
 | .int i,u=>∃t,u=Value.int i t
 | .str x,u=>∃t,u=Value.str x t
 | .byt b,u=>∃t,u=Value.bytes b t
 | .flt b,u=>∃t,u=Value.float b t
 | .ref a,u=>u=Value.ref a
 | .ty n,u=>u=Value.type n
abbrev Vals:List V->List Value->Prop:=Paired RelV
def Vals.length {xs:List V}{us:List Value}(r:Vals xs us):xs.length=us.length:=Paired.length r
theorem Vals.get:∀{xs:List V} {us:List Value} {i:Nat} {x:V},Vals xs us->xs[i]? =some x->∃u,us[i]? =some u/\RelV x u
 |_,_,_,_,.nil,e=>by simp at e
 |_,_,0,_,.cons r _,e=>by simp at e;subst e;exact⟨_,rfl,r⟩
 |_,_,i + 1,x,.cons _ t,e=>by
  obtain⟨u,h1,h2⟩:=Vals.get (i:=i) (x:=x) t (by simpa using e)
  exact⟨u,by simpa using h1,h2⟩
theorem Vals.set {x:V}{u:Value}(r:RelV x u):∀{xs:List V} {us:List Value} (i:Nat),Vals xs us->Vals (xs.set i x) (us.set i u)
 |_,_,_,.nil=>.nil
 |_,_,0,.cons _ t=>.cons r t
 |_,_,i + 1,.cons q t=>.cons q (Vals.set r i t)
theorem Vals.append:∀{xs ys:List V} {us ws:List Value},Vals xs us->Vals ys ws->Vals (xs ++ ys) (us ++ ws)
 |_,_,_,_,.nil,s=>s
 |_,_,_,_,.cons r t,s=>.cons r (Vals.append t s)
theorem Vals.take:∀{xs:List V} {us:List Value} (n:Nat),Vals xs us->Vals (xs.take n) (us.take n)
 |_,_,0,_=>.nil
 |_,_,_ + 1,.nil=>.nil
 |_,_,n + 1,.cons r t=>.cons r (Vals.take n t)
theorem Vals.drop:∀{xs:List V} {us:List Value} (n:Nat),Vals xs us->Vals (xs.drop n) (us.drop n)
 |_,_,0,r=>r
 |_,_,_ + 1,.nil=>.nil
 |_,_,n + 1,.cons _ t=>Vals.drop n t
def Hz:Option V->Option Value->Prop
 |some v,some u=>RelV v u
 |none,none=>True
 |_,_=>False
def KV {κ:Type}:List (κ×V)->List (κ×Value)->Prop:=Paired λ(p:κ×V) (q:κ×Value)=>p.1=q.1/\RelV p.2 q.2
def kV:Key->V
 | .inl i=>.int i
 | .inr x=>.str x
inductive HO where
 |lst (xs:List V)
 |tup (xs:List V)
 |dK (kvs:List (Key×V)) |dT (kvs:List (List Key×V))
 |set (S:Int->Bool) (n:Nat)
 |ins (C dx:Addr) (fs:List (Str×V))
 |own (x:Addr)
 |xd (fs:List (Str×V))
 |met (f x:Addr)
 |eS (lo hi:Int)
 |bq (o:Obj) (u:HO)
 |tbl (ps:Array Value)
 |ext (φ:Heap->Prop)
abbrev Hp:=Addr->Option HO
def upd (H:Hp)(a:Addr)(o:HO):Hp:=λb=>if b=a then some o else H b
def aC {H:Hp}{a:Addr}{o:HO}:upd H a o a=some o:=by unfold upd;rw[MA rfl]
def aF {H:Hp}{a b:Addr}{o:HO}(h:b≠a):upd H a o b=H b:=by unfold upd;rw[MF h]
def Gp {H:Hp}{a b:Addr}{o u:HO}(h:H a=some o)(h':H b=some u)(d:o≠u):a≠b:=by
 intro e;subst e;rw[h] at h';exact d (Option.some.inj h')
def aL {H:Hp}{a b:Addr}{o:HO}(h:H a=some o)(h':H b=none):a≠b:=by
 intro e;subst e;rw[h] at h';cases h'
section
variable (P:Program)(w:World)
def qK (h:Heap)(a:Addr)(items:Array Value):Prop:=∃o,h.get? a=some o/\o.cls=.type "tuple"/\∃n,o.data=.seq items n/\o.dict=none
def qK.isTup {h:Heap}{a:Addr}{items:Array Value}(x:qK h a items):IsTup h a items:=let ⟨o,e,c,n,d,_⟩:=x;⟨o,e,c,n,d⟩
def qK.new (h:Heap)(items:Array Value):qK (h.push {cls:=.type "tuple",data:=.seq items}) h.objs.size items:=⟨_,MN _ rfl,rfl,_,rfl,rfl⟩
def cH (H:Hp)(h:Heap)(a:Addr):HO->Prop
 | .lst xs=>xs.length<=sizeLine/\∃(its:List Value) (n:Nat),Vals xs its/\h.get? a=some {cls:=.type "list",data:=.seq its.toArray n}
 | .tup xs=>xs.length<=sizeLine/\∃its:List Value,Vals xs its/\qK h a its.toArray
 | .dK kvs=>kvs.length<=sizeLine/\(a == sysModules)=false/\∃vs,KV kvs vs/\h.DictOf (sW P w) a vs
 | .dT kvs=>kvs.length<=sizeLine/\(a == sysModules)=false/\∃xs:List (List Key×Addr×Value),
   Paired (λ(p:List Key×V) (q:List Key×Addr×Value)=>p.1=q.1/\(H q.2.1=some (.tup (p.1.map kV))\/∃o,H q.2.1=some (.bq o (.tup (p.1.map kV))))/\RelV p.2 q.2.2) kvs xs/\
   ∃o es ep,h.get? a=some o/\o.ExactDict/\o.data=.dict es ep/\es.toList=xs.map (entryOfKey (tupleKind (sW P w)))/\(xs.map (·.1)).Nodup
 | .set S n=>h.SetOf (intKind P w) a S n
 | .ins C dx fs=>H dx=some (.own a)/\fs.length<=1000/\dx≠a/\h.get? a=some (PySem.W.instObj C dx)/\
   ∃mA,h.Ns1 dx mA/\(∀f,Hz (fs.lookup f) (mA f))/\PySem.Within mA (fs.map (·.1))
 | .own _=>∃o,h.get? a=some o
 | .xd fs=>∃mA,h.Ns1 a mA/\∀f,Hz (fs.lookup f) (mA f)
 | .eS lo hi=>∃t u v,h.get? a=some {cls:=.type "range",data:=.fields #[.int lo t,.int hi u,.int 1 v]}
 | .bq o u=>h.get? a=some o/\cH H h a u
 | .tbl ps=>h.get? a=some {cls:=.none,data:=.fields ps}
 | .met f x=>h.get? a=some (PySem.W.methodObj (.ref f) (.ref x))
 | .ext φ=>φ h/\(∃o,h.get? a=some o)/\∀h1 h2:Heap,φ h1->(∀o,h1.get? a=some o->h2.get? a=some o)->φ h2
def lu (H:Hp)(h:Heap):Prop:=∀a o,H a=some o->cH P w H h a o
end
section
variable {P:Program}{w:World}{H H':Hp}{h h':Heap}{a:Addr}{o:HO}
theorem cH.lt (x:cH P w H h a o):a < h.objs.size:=by
 cases o with
 |lst xs=>obtain⟨_,_,_,_,e⟩:=x;exact MH e
 |tup xs=>obtain⟨_,_,_,p⟩:=x;exact p.isTup.lt
 |dK kvs=>obtain⟨_,_,_,_,o,_,_,e,_⟩:=x;exact MH e
 |dT kvs=>obtain⟨_,_,_,_,o,_,_,e,_⟩:=x;exact MH e
 |set S n=>obtain⟨o,_,_,_,e,_⟩:=x;exact MH e
 |ins C dx fs=>obtain⟨_,_,_,e,_⟩:=x;exact MH e
 |own y=>obtain⟨_,e⟩:=x;exact MH e
 |xd fs=>obtain⟨_,⟨_,_,_,e,_⟩,_⟩:=x;exact MH e
 |eS lo hi=>obtain⟨_,_,_,e⟩:=x;exact MH e
 |bq ob u=>obtain⟨e,_⟩:=x;exact MH e
 |tbl ps=>exact MH (show h.get? a=some _ from x)
 |met f y=>exact MH (show h.get? a=some _ from x)
 |ext φ=>obtain⟨_,⟨_,e⟩,_⟩:=x;exact MH e
theorem Paired.mapP {α β:Type}{F G:α->β->Prop}:∀{l₁:List α} {l₂:List β},Paired F l₁ l₂->(∀a b,F a b->G a b)->Paired G l₁ l₂
 |_,_,.nil,_=>.nil
 |_,_,.cons r t,f=>.cons (f _ _ r) (Paired.mapP t f)
theorem cH.stay (x:cH P w H h a o)(k:∀b u,(b=a\/H b=some (.own a))->h.get? b=some u->h'.get? b=some u)
  (ho:∀b,H b=some (.own a)->H' b=some (.own a)) (ht:∀b xs,(H b=some (.tup xs)\/∃o,H b=some (.bq o (.tup xs)))->(H' b=some (.tup xs)\/∃o,H' b=some (.bq o (.tup xs)))):cH P w H' h' a o:=by
 induction o with
 |lst xs=>obtain⟨z,its,n,r,e⟩:=x;exact⟨z,its,n,r,k _ _ (.inl rfl) e⟩
 |tup xs=>obtain⟨z,its,r,ob,e,c⟩:=x;exact⟨z,its,r,ob,k _ _ (.inl rfl) e,c⟩
 |dK kvs=>obtain⟨z,y,vs,r,ob,es,ep,e,c⟩:=x;exact⟨z,y,vs,r,ob,es,ep,k _ _ (.inl rfl) e,c⟩
 |dT kvs=>
  obtain⟨z,y,xs,r,ob,es,ep,e,c⟩:=x
  exact⟨z,y,xs,Paired.mapP r λp q z=>⟨z.1,ht _ _ z.2.1,z.2.2⟩,ob,es,ep,k _ _ (.inl rfl) e,c⟩
 |set S n=>obtain⟨ob,es,ep,t,e,c⟩:=x;exact⟨ob,es,ep,t,k _ _ (.inl rfl) e,c⟩
 |ins C dx fs=>
  obtain⟨d,z,ne,e,mA,⟨od,es,ep,e2,c⟩,r⟩:=x
  exact⟨ho _ d,z,ne,k _ _ (.inl rfl) e,mA,⟨od,es,ep,k _ _ (.inr d) e2,c⟩,r⟩
 |own y=>obtain⟨ob,e⟩:=x;exact⟨ob,k _ _ (.inl rfl) e⟩
 |xd fs=>obtain⟨mA,⟨od,es,ep,e,c⟩,r⟩:=x;exact⟨mA,⟨od,es,ep,k _ _ (.inl rfl) e,c⟩,r⟩
 |eS lo hi=>obtain⟨t,u,v,e⟩:=x;exact⟨t,u,v,k _ _ (.inl rfl) e⟩
 |bq ob u ih=>obtain⟨e,q⟩:=x;exact⟨k _ _ (.inl rfl) e,ih q⟩
 |tbl ps=>
  have e:h.get? a=some {cls:=.none,data:=.fields ps}:=x
  show h'.get? a=some {cls:=.none,data:=.fields ps}
  exact k a _ (.inl rfl) e
 |met f y=>
  have e:h.get? a=some (PySem.W.methodObj (.ref f) (.ref y)):=x
  show h'.get? a=some (PySem.W.methodObj (.ref f) (.ref y))
  exact k a _ (.inl rfl) e
 |ext φ=>obtain⟨p,⟨o,e⟩,st⟩:=x;exact⟨st _ _ p λo q=>k _ _ (.inl rfl) q,⟨o,k _ _ (.inl rfl) e⟩,st⟩
def lu.lt (x:lu P w H h)(e:H a=some o):a < h.objs.size:=(x a o e).lt
theorem lu.fresh (x:lu P w H h)(e:h.objs.size<=a):H a=none:=by
 cases q:H a with
 |none=>rfl
 |some u=>exact absurd (M4 (x.lt q) e) (Nh _)
def lu.kept (x:lu P w H h)(k:∀b u,h.get? b=some u->h'.get? b=some u):lu P w H h':=λa o e=>
 (x a o e).stay (λb u _ q=>k b u q) (λ_ q=>q) λ_ _ q=>q
def lu.laid (x:lu P w H h)(k:∀b u,h.get? b=some u->h'.get? b=some u)(hp:h.objs.size<=a)(new:cH P w (upd H a o) h' a o):lu P w (upd H a o) h':=λb u e=>by
 have hn:=x.fresh hp
 by_cases hb:b=a
 ·subst hb;rw[aC] at e;cases e;exact new
 ·rw[aF hb] at e
  exact (x b u e).stay (λc v _ q=>k c v q) (λc q=>by rw[aF (aL q hn)];exact q) λc xs q=>q.imp (λq=>by rw[aF (aL q hn)];exact q) λ⟨o,q⟩=>⟨o,by rw[aF (aL q hn)];exact q⟩
end
def Rd (H:Hp)(a:Addr)(u:HO):Prop:=H a=some u\/∃o,H a=some (.bq o u)
def Rd.ok {P:Program}{w:World}{H:Hp}{h:Heap}{a:Addr}{u:HO}(r:Rd H a u)(x:lu P w H h):cH P w H h a u:=by
 rcases r with r | ⟨o,r⟩
 ·exact x a u r
 ·obtain⟨_,q⟩:=x a _ r
  exact q
def Kz:Option HO->Prop
 |some (.lst _)=>True
 |some (.dK _)=>True
 |some (.dT _)=>True
 |some (.set _ _)=>True
 |some (.ins _ _ _)=>True
 |some (.ext _)=>True
 |_=>False
section
variable {P:Program}{w:World}{H:Hp}{h h':Heap}{x e:Addr}{o':HO}
def lu.write (ok:lu P w H h)(mu:Kz (H x))(he:e=x\/H e=some (.own x))(k:∀b u,b≠e->h.get? b=some u->h'.get? b=some u)(heo:∃u,h'.get? e=some u)
  (new:cH P w (upd H x o') h' x o'):lu P w (upd H x o') h':=λb u q=>by
 have nown:∀c y,H c=some (.own y)->c≠x:=λc y r z=>by subst z;rw[r] at mu;exact mu
 have ntup:∀c xs,H c=some (.tup xs)->c≠x:=λc xs r z=>by subst z;rw[r] at mu;exact mu
 by_cases hb:b=x
 ·subst hb;rw[aC] at q;cases q;exact new
 ·rw[aF hb] at q
  by_cases hbe:b=e
  ·have q':H b=some (.own x):=by
    rcases he with z |z
    ·exact absurd (hbe.trans z) hb
    ·rw[hbe];exact z
   rw[q] at q';cases q'
   obtain⟨v,hv⟩:=heo
   exact⟨v,by rw[hbe];exact hv⟩
  ·refine (ok b u q).stay (λc v hc r=>k c v ?_ r) (λc r=>by rw[aF (nown c b r)];exact r) λc xs r=>r.imp (λr=>by rw[aF (ntup c xs r)];exact r) λ⟨o,r⟩=>⟨o,by rw[aF (λz=>by subst z;rw[r] at mu;exact mu)];exact r⟩
   rcases hc with rfl |hc
   ·exact hbe
   ·rintro rfl
    rcases he with z |z
    ·exact nown c b hc z
    ·rw[hc] at z;cases z;exact hb rfl
end
structure Un (fs ex:List Addr)(H H':Hp)(h h':Heap):Prop where
 keep:∀b o,h.get? b=some o->H b=none->b∉fs->b∉ex->h'.get? b=some o
 slot:∀b o,h.get? b=some o->H b=none->b∈fs->b∉ex->∃sl,h'.get? b=some {o with slots:=sl}
 free:∀b o,h.get? b=some o->H b=none->b∉ex->H' b=none
 there:∀b o,h.get? b=some o->b∉ex->∃o',h'.get? b=some o'
 tups:∀b xs,H b=some (.tup xs)->H' b=some (.tup xs)
 frzs:∀b o u,H b=some (.bq o u)->H' b=some (.bq o u)
 tbls:∀b ps,H b=some (.tbl ps)->∃more,H' b=some (.tbl (ps ++ more))
section
variable {fs fs' ex ex':List Addr}{H H1 H2:Hp}{h h1 h2 h':Heap}{a x e:Addr}{o:HO}
def Un.any (u:Un fs ex H H1 h h1){b:Addr}{ob:Obj}(q:h.get? b=some ob)(n:H b=none)(hx:b∉ex):∃sl,h1.get? b=some {ob with slots:=sl}:=by
 by_cases hb:b∈fs
 ·exact u.slot b ob q n hb hx
 ·exact⟨ob.slots,u.keep b ob q n hb hx⟩
def Un.kept (k:∀b u,h.get? b=some u->h'.get? b=some u):Un fs ex H H h h':=
 ⟨λb ob q _ _ _=>k b ob q,λb ob q _ _ _=>⟨ob.slots,k b ob q⟩,λ_ _ _ n _=>n,λb ob q _=>⟨ob,k b ob q⟩,λ_ _ q=>q,λ_ _ _ q=>q,λ_ ps q=>⟨#[],by rw[q];simp⟩⟩
def Un.refl:Un fs ex H H h h:=Un.kept λ_ _ q=>q
def Un.laid (k:∀b u,h.get? b=some u->h'.get? b=some u)(hp:h.objs.size<=a)(hn:H a=none):Un fs ex H (upd H a o) h h' where
 keep:=λb u q _ _ _=>k b u q
 slot:=λb u q _ _ _=>⟨u.slots,k b u q⟩
 free:=λb u q n _=>by rw[aF (M7 (M4 (MH q) hp))];exact n
 there:=λb u q _=>⟨u,k b u q⟩
 tups:=λb xs q=>by rw[aF (aL q hn)];exact q
 frzs:=λb u xs q=>by rw[aF (aL q hn)];exact q
 tbls:=λb ps q=>⟨#[],by rw[aF (aL q hn),q];simp⟩
def Un.write (mu:Kz (H x))(he:e=x\/H e=some (.own x))(k:∀b u,b≠e->h.get? b=some u->h'.get? b=some u)(heo:∃u,h'.get? e=some u):Un fs ex H (upd H x o) h h':=by
 have hx:∀b,H b=none->b≠x:=λb n z=>by subst z;rw[n] at mu;exact mu
 have hb:∀b,H b=none->b≠e:=λb n z=>by
  subst z
  rcases he with r |r
  ·exact hx b n r
  ·rw[n] at r;cases r
 have hm:∀b u,H b=some u->¬Kz (some u)->b≠x:=λb u q nm z=>by subst z;rw[q] at mu;exact nm mu
 refine⟨λb u q n _ _=>k b u (hb b n) q,λb u q n _ _=>⟨u.slots,k b u (hb b n) q⟩,λb u q n _=>by rw[aF (hx b n)];exact n,λb u q _=>?_,
  λb xs q=>by rw[aF (hm b _ q λz=>z)];exact q,λb u xs q=>by rw[aF (hm b _ q λz=>z)];exact q,λb ps q=>⟨#[],by rw[aF (hm b _ q λz=>z),q];simp⟩⟩
 by_cases hbe:b=e
 ·subst hbe;exact heo
 ·exact⟨u,k b u hbe q⟩
end
def Kw (h:Heap)(H:Hp):List Addr:=(List.range h.objs.size).filter λa=>(H a).isSome
def sI (h:Heap)(H:Hp):Heap:=PySem.W.hideAll h (Kw h H)
def AO (h:Heap)(H:Hp):(sI h H).objs.size=h.objs.size:=PySem.W.hideAll_size _ _
def Df {h:Heap}{H:Hp}{b:Addr}{o:Obj}(e:h.get? b=some o)(n:H b=none):(sI h H).get? b=some o:=
 PySem.W.hideAll_get _ e λhm=>by
  have q:(H b).isSome=true:=(ML.mp hm).2
  rw[n] at q;simp at q
theorem Fj {h:Heap}{H:Hp}{b:Addr}{o:Obj}(e:(sI h H).get? b=some o):h.get? b=some o/\H b=none:=by
 have e':h.get? b=some o:=PySem.W.of_hideAll (Kw h H) e
 refine⟨e',?_⟩
 cases q:H b with
 |none=>rfl
 |some x=>
  have hm:b∈Kw h H:=ML.mpr ⟨MX.mpr (MH e'),by simp[q]⟩
  have z:(sI h H).get? b=none:=PySem.W.hideAll_none (Kw h H) hm
  rw[z] at e;cases e
def EV (g h:Heap)(L:Addr):List (Addr×Obj):=(List.range h.objs.size).filterMap λa=>if a=L\/(g.get? a).isSome=true then none else (h.get? a).map λo=>(a,o)
def rest (g h:Heap)(L d:Addr):List (Addr×Obj):=(EV g h L).filter λp=>decide (p.1≠d)
structure Mod (K:Frag)(mg:Str->Option Value)(base:Heap):Prop where
 kin:K.In base
 glob:base.Ns mainGlobals mg
 blt:∃mb,base.Ns builtinsNs mb/\∀x:Str,x≠"__name__"->mb x=bootBuiltins x
 nolimit:base.NoLimit
 sys:∃mm,base.Ns sysModules mm
structure Cx where
 prog:Program
 w:World
 K:Frag
 mg:Str->Option Value
 base:Heap
 A:Around
 N:List Str
 s₀:Shared
 H₀:Hp
 env:Env
 outer:List Env
 stack:List Env
 ex:List Addr
 fn:Str->Bool
 calm:Bool
 pn:List (Addr×Obj)
 xe:Value->Shared->Prop
def iY (l:List Env):List Addr:=l.filterMap (·.frame)
abbrev Cx.fs (X:Cx):List Addr:=iY X.outer
def AW (sc:Scope)(x:Str):Prop:=sc.names.lookup x=some .local\/sc.names.lookup x=some .cell\/sc.names.lookup x=some .free
def Loc (sc:Scope)(x:Str):Prop:=sc.names.lookup x=some .local\/sc.names.lookup x=some .cell
def Look (env:Env)(h:Heap)(m:Str->Option Value)(x:Str)(u:Value):Prop:=
 (env.kindOf x=some .local/\m x=some u)\/((env.kindOf x=some .cell\/env.kindOf x=some .free)/\∃c,env.cells.lookup x=some c/\h.IsCell c (some u))
structure Cx.Ok (X:Cx):Prop where
 mod:Mod X.K X.mg X.base
 kind:X.env.scope.kind=.function
 glob:X.env.globals=mainGlobals
 blt:X.env.builtins=builtinsNs
 above:X.s₀.heap.objs.size<=X.env.locals
 inj:∀x y c,X.env.cells.lookup x=some c->X.env.cells.lookup y=some c->x=y
 has:∀x,(X.env.kindOf x=some .cell\/X.env.kindOf x=some .free)->∃c,X.env.cells.lookup x=some c
 cab:∀x c,X.fn x=true->X.env.cells.lookup x=some c->X.s₀.heap.objs.size<=c
 hd:X.calm=true->X.A.handled=none
 frames:X.A.frames=some X.stack
 stk:X.stack=X.outer\/(X.stack=X.env :: X.outer/\X.env.frame=some X.env.locals)
 exf:∀b∈X.ex,b≠X.env.locals/\∀x c,X.env.cells.lookup x=some c->c≠b
 bs:∀b o,X.base.get? b=some o->X.s₀.heap.get? b=some o/\X.H₀ b=none
 bsz:X.base.objs.size<=X.s₀.heap.objs.size
 noex:∀b o,X.base.get? b=some o->b∉X.ex
 exfs:∀b∈X.ex,b∉X.fs
 funs:X.s₀.heap.FunFrames X.base X.outer
 frf:∀b∈X.fs,X.H₀ b=none
structure Inv (X:Cx)(pins:List (Addr×Obj))(σ:List (Option V))(H:Hp)(s:Shared):Prop where
 ok:X.Ok
 os:s.os=X.s₀.os
 bare:AllBare s.gens
 base:Un X.fs X.ex X.H₀ H X.s₀.heap s.heap
 loc:∃m,s.heap.Ns X.env.locals m/\∀(i:Nat) (x:Str) (v:V),X.N[i]? =some x->σ[i]? =some (some v)->AW X.env.scope x->∃u,RelV v u/\Look X.env s.heap m x u
 cell:∀x c,X.env.cells.lookup x=some c->∃v,s.heap.IsCell c v
 free:H X.env.locals=none
 freeC:∀x c,X.env.cells.lookup x=some c->H c=none
 pin:∀p∈X.pn ++ pins,s.heap.get? p.1=some p.2/\H p.1=none/\p.1≠X.env.locals/\p.1∉X.fs/\∀v,p.2.data≠.cell v
 hok:lu X.prog X.w H s.heap
 len:σ.length=X.N.length
section
variable {X:Cx}{pins:List (Addr×Obj)}{σ:List (Option V)}{H H':Hp}{s:Shared}{h':Heap}
def Cx.Ok.nofr (ok:X.Ok){b:Addr}{o:Obj}(e:X.base.get? b=some o):b∉X.fs:=λhb=>by
 have:=(ok.funs.mem hb).1
 rw[e] at this;cases this
def Inv.bs (I:Inv X pins σ H s):∀b o,X.base.get? b=some o->s.heap.get? b=some o/\H b=none:=λb o e=>
 ⟨I.base.keep b o (I.ok.bs b o e).1 (I.ok.bs b o e).2 (I.ok.nofr e) (I.ok.noex b o e),I.base.free b o (I.ok.bs b o e).1 (I.ok.bs b o e).2 (I.ok.noex b o e)⟩
def Inv.bk (I:Inv X pins σ H s):∀b o,X.base.get? b=some o->s.heap.get? b=some o:=λb o e=>(I.bs b o e).1
def Inv.mod (I:Inv X pins σ H s):Mod X.K X.mg X.base:=I.ok.mod
def Inv.kIn (I:Inv X pins σ H s):X.K.In s.heap:=I.ok.mod.kin.keeps I.bk
def Inv.lt (I:Inv X pins σ H s):X.env.locals < s.heap.objs.size:=let ⟨_,hn,_⟩:=I.loc;hn.lt
def Inv.sz (I:Inv X pins σ H s):X.s₀.heap.objs.size<=s.heap.objs.size:=ND I.ok.above (Nat.le_of_lt I.lt)
def Inv.nofs (I:Inv X pins σ H s){a:Addr}(h:s.heap.objs.size<=a):a∉X.fs:=λhb=>by
 obtain⟨_,o,ho,_⟩:=I.ok.funs.mem hb
 exact absurd (M4 (MH ho) (ND I.sz h)) (Nh _)
def Inv.cne (I:Inv X pins σ H s):∀x c,X.env.cells.lookup x=some c->c≠X.env.locals:=λx c e z=>by
 obtain⟨v,o,ho,hd⟩:=I.cell x c e
 obtain⟨m,⟨o',es,ep,ho',hd',_⟩,_⟩:=I.loc
 rw[z,ho'] at ho;cases ho;rw[hd'] at hd;cases hd
def Inv.funs (I:Inv X pins σ H s):s.heap.FunFrames X.base X.outer:=by
 have all:∀(l:List Env),(∀b∈iY l,b∈X.fs)->X.s₀.heap.FunFrames X.base l->s.heap.FunFrames X.base l:=by
  intro l
  induction l with
  |nil=>intro _ _;trivial
  |cons env r ih=>
   intro hs hl
   obtain⟨hk,⟨L,o,hf,hn,ho,hd⟩,hr⟩:=hl
   have hL:L∈X.fs:=hs L (by unfold iY;rw[Ot,hf];exact MC)
   obtain⟨sl,e⟩:=I.base.slot L o ho (I.ok.frf L hL) hL λz=>I.ok.exfs L z hL
   exact⟨hk,⟨L,_,hf,hn,e,hd⟩,ih (λb hb=>hs b (by unfold iY;rw[Ot,hf];exact MD _ hb)) hr⟩
 exact all X.outer (λ_ hb=>hb) I.ok.funs
def Inv.stack (I:Inv X pins σ H s):s.heap.FunFrames X.base X.stack:=by
 rcases I.ok.stk with e | ⟨e,hf⟩
 ·rw[e];exact I.funs
 ·rw[e]
  obtain⟨m,hn,_⟩:=I.loc
  refine .cons (by rw[I.ok.kind];decide) hf hn ?_ I.funs
  exact Heap.get?_none_of_le (ND I.ok.bsz I.ok.above)
def Inv.stkSub (I:Inv X pins σ H s):∀b∈iY X.stack,b∈X.env.locals :: X.fs:=λb hb=>by
 rcases I.ok.stk with e | ⟨e,hf⟩
 ·rw[e] at hb;exact MD _ hb
 ·rw[e] at hb
  unfold iY at hb
  rw[Ot,hf] at hb
  exact hb
def Inv.stkFree (I:Inv X pins σ H s):∀b∈iY X.stack,H b=none:=λb hb=>by
 rcases MB.mp (I.stkSub b hb) with e |hb
 ·rw[e];exact I.free
 ·obtain⟨_,o,ho,_⟩:=I.ok.funs.mem hb
  exact I.base.free b o ho (I.ok.frf b hb) λz=>I.ok.exfs b z hb
def Inv.step {g':Array GenState}{t':Nat}{d':Drawn}{ch:List Addr}(I:Inv X pins σ H s)
  (hch:∀b∈ch,(b∈X.ex\/X.s₀.heap.objs.size<=b)/\b≠X.env.locals/\(∀x c,X.env.cells.lookup x=some c->c≠b)/\∀p∈X.pn ++ pins,p.1≠b)
  (keep:∀b o,b≠X.env.locals->b∉X.fs->b∉ch->s.heap.get? b=some o->H b=none->h'.get? b=some o)
  (slot:∀b o,b≠X.env.locals->b∈X.fs->b∉ch->s.heap.get? b=some o->H b=none->∃sl,h'.get? b=some {o with slots:=sl}) (free:∀b o,b∉ch->s.heap.get? b=some o->H b=none->H' b=none)
  (there:∀b o,b∉ch->s.heap.get? b=some o->∃o',h'.get? b=some o')
  (tups:∀b xs,H b=some (.tup xs)->H' b=some (.tup xs)) (frzs:∀b o u,H b=some (.bq o u)->H' b=some (.bq o u)) (tbls:∀b ps,H b=some (.tbl ps)->∃more,H' b=some (.tbl (ps ++ more)))
  (ns:∀m,s.heap.Ns X.env.locals m->h'.Ns X.env.locals m) (hok:lu X.prog X.w H' h') (hg:AllBare g') :
  Inv X pins σ H' {s with heap:=h',gens:=g',drawn:=d',toks:=t'}:=by
 have neL:∀b o,X.s₀.heap.get? b=some o->b≠X.env.locals:=λb o e=>M7 (M4 (MH e) I.ok.above)
 have neC:∀b o,X.s₀.heap.get? b=some o->b∉X.ex->b∉ch:=λb o e hx hb=>by
  rcases (hch b hb).1 with z |z
  ·exact hx z
  ·exact absurd (M4 (MH e) z) (Nh _)
 have cellK:∀x c,X.env.cells.lookup x=some c->∀v,s.heap.IsCell c v->h'.IsCell c v:=λx c e v ⟨o,ho,hd⟩=>by
  have nch:c∉ch:=λz=>(hch c z).2.2.1 x c e rfl
  by_cases hc:c∈X.fs
  ·obtain⟨sl,q⟩:=slot c o (I.cne x c e) hc nch ho (I.freeC x c e)
   exact⟨_,q,hd⟩
  ·exact⟨o,keep c o (I.cne x c e) hc nch ho (I.freeC x c e),hd⟩
 refine⟨I.ok,I.os,hg,⟨λb o e n hb hx=>?_,λb o e n hb hx=>?_,λb o e n hx=>?_,λb o e hx=>?_,λb xs e=>tups b xs (I.base.tups b xs e),λb o xs e=>frzs b o xs (I.base.frzs b o xs e),λb ps e=>?_⟩,?_,λx c e=>?_,?_,λx c e=>?_,λp hp=>?_,hok,I.len⟩
 ·exact keep b o (neL b o e) hb (neC b o e hx) (I.base.keep b o e n hb hx) (I.base.free b o e n hx)
 ·obtain⟨sl,e1⟩:=I.base.slot b o e n hb hx
  obtain⟨sl',e2⟩:=slot b _ (neL b o e) hb (neC b o e hx) e1 (I.base.free b o e n hx)
  exact⟨sl',e2⟩
 ·obtain⟨o',e1⟩:=I.base.there b o e hx
  exact free b o' (neC b o e hx) e1 (I.base.free b o e n hx)
 ·obtain⟨o',e1⟩:=I.base.there b o e hx
  exact there b o' (neC b o e hx) e1
 ·obtain⟨m1,e1⟩:=I.base.tbls b ps e
  obtain⟨m2,e2⟩:=tbls b _ e1
  exact⟨m1 ++ m2,by rw[e2,Array.append_assoc]⟩
 ·obtain⟨m,hn,hl⟩:=I.loc
  refine⟨m,ns m hn,λi x v e1 e2 e3=>?_⟩
  obtain⟨u,r,l⟩:=hl i x v e1 e2 e3
  refine⟨u,r,?_⟩
  rcases l with l | ⟨k,c,e,z⟩
  ·exact .inl l
  ·exact .inr ⟨k,c,e,cellK x c e _ z⟩
 ·obtain⟨v,z⟩:=I.cell x c e
  exact⟨v,cellK x c e v z⟩
 ·obtain⟨m,⟨o,_,_,ho,_⟩,_⟩:=I.loc
  exact free _ o (λz=>(hch _ z).2.1 rfl) ho I.free
 ·obtain⟨v,o,ho,hd⟩:=I.cell x c e
  exact free c o (λz=>(hch c z).2.2.1 x c e rfl) ho (I.freeC x c e)
 ·obtain⟨e,n,ne,nf,d⟩:=I.pin p hp
  have nch:p.1∉ch:=λz=>(hch p.1 z).2.2.2 p hp rfl
  exact⟨keep p.1 p.2 ne nf nch e n,free p.1 p.2 nch e n,ne,nf,d⟩
def Inv.un {t':Nat}(I:Inv X pins σ H s)(u:Un X.fs [] H H' s.heap h')(hok:lu X.prog X.w H' h'):Inv X pins σ H' {s with heap:=h',toks:=t'}:=by
 obtain⟨m,⟨o,es,ep,ho,r⟩,_⟩:=id I.loc
 obtain⟨sl,hL⟩:=u.any ho I.free (by simp)
 exact I.step (g':=s.gens) (d':=s.drawn) (ch:=[]) (λ_ z=>nomatch z) (λb o _ hb _ e n=>u.keep b o e n hb (by simp)) (λb o _ hb _ e n=>u.slot b o e n hb (by simp)) (λb o _ e n=>u.free b o e n (by simp)) (λb o _ e=>u.there b o e (by simp)) u.tups u.frzs u.tbls (λm' hm=>by
  obtain⟨o',es',ep',ho',r'⟩:=hm
  rw[ho] at ho';cases ho'
  exact⟨_,es',ep',hL,r'⟩) hok I.bare
def Inv.call {g':Array GenState}{t':Nat}{d':Drawn}{ch:List Addr}(I:Inv X pins σ H s)(u:Un (iY X.stack) ch H H' s.heap h')(hok:lu X.prog X.w H' h')(hg:AllBare g')
  (hch:∀b∈ch,(b∈X.ex\/X.s₀.heap.objs.size<=b)/\b≠X.env.locals/\(∀x c,X.env.cells.lookup x=some c->c≠b)/\∀p∈X.pn ++ pins,p.1≠b) :
  Inv X pins σ H' {s with heap:=h',gens:=g',drawn:=d',toks:=t'}:=by
 obtain⟨m,⟨o,es,ep,ho,r⟩,_⟩:=id I.loc
 obtain⟨sl,hL⟩:=u.any ho I.free λz=>(hch _ z).2.1 rfl
 exact I.step (ch:=ch) hch (λb o hL hb hc e n=>u.keep b o e n (λz=>(MB.mp (I.stkSub b z)).elim hL hb) hc) (λb o _ _ hc e n=>u.any e n hc) (λb o hc e n=>u.free b o e n hc) (λb o hc e=>u.there b o e hc) u.tups u.frzs u.tbls (λm' hm=>by
  obtain⟨o',es',ep',ho',r'⟩:=hm
  rw[ho] at ho';cases ho'
  exact⟨_,es',ep',hL,r'⟩) hok hg
def Inv.turned {t':Nat}{it:Addr}(I:Inv X pins σ H s)(k:∀b o,b≠it->s.heap.get? b=some o->h'.get? b=some o)(hn:H it=none)(hL:it≠X.env.locals)
  (h1:it∈X.ex\/X.s₀.heap.objs.size<=it) (h2:∀x c,X.env.cells.lookup x=some c->c≠it) (h3:∀p∈X.pn ++ pins,p.1≠it):Inv X pins σ H {s with heap:=h',toks:=t'}:=by
 have nit:∀b u,H b=some u->b≠it:=λb u e z=>by rw[z,hn] at e;cases e
 refine I.step (g':=s.gens) (d':=s.drawn) (ch:=[it]) (λb hb=>?_) (λb o _ _ hc e _=>k b o (λz=>hc (by simp[z])) e) (λb o _ _ hc e _=>⟨o.slots,k b o (λz=>hc (by simp[z])) e⟩) (λ_ _ _ _ n=>n)
  (λb o hc e=>⟨o,k b o (λz=>hc (by simp[z])) e⟩) (λ_ _ e=>e) (λ_ _ _ e=>e) (λb ps e=>⟨#[],by rw[e];simp⟩) (λm hm=>?_) (λb u e=>?_) I.bare
 ·have e:b=it:=by simpa using hb
  subst e
  exact⟨h1,hL,h2,h3⟩
 ·obtain⟨o,es,ep,ho,r⟩:=hm
  exact⟨o,es,ep,k _ o (Ne.symm hL) ho,r⟩
 ·refine (I.hok b u e).stay (λc v hc q=>k c v ?_ q) (λ_ q=>q) λ_ _ q=>q
  rcases hc with z |z
  ·rw[z];exact nit b u e
  ·exact nit c _ z
def Inv.tok (I:Inv X pins σ H s)(t:Nat):Inv X pins σ H {s with toks:=t}:=I.un (h':=s.heap) (t':=t) Un.refl I.hok
def Inv.kept {t':Nat}(I:Inv X pins σ H s)(k:∀b u,s.heap.get? b=some u->h'.get? b=some u):Inv X pins σ H {s with heap:=h',toks:=t'}:=I.un (Un.kept k) (I.hok.kept k)
def Inv.laid {a:Addr}{o:HO}{t':Nat}(I:Inv X pins σ H s)(k:∀b u,s.heap.get? b=some u->h'.get? b=some u)(hp:s.heap.objs.size<=a)(new:cH X.prog X.w (upd H a o) h' a o) :
  Inv X pins σ (upd H a o) {s with heap:=h',toks:=t'}:=I.un (Un.laid k hp (I.hok.fresh hp)) (I.hok.laid k hp new)
def Inv.write {x e:Addr}{o:HO}{t':Nat}(I:Inv X pins σ H s)(mu:Kz (H x))(he:e=x\/H e=some (.own x))(k:∀b u,b≠e->s.heap.get? b=some u->h'.get? b=some u)(heo:∃u,h'.get? e=some u)
  (new:cH X.prog X.w (upd H x o) h' x o):Inv X pins σ (upd H x o) {s with heap:=h',toks:=t'}:=I.un (Un.write mu he k heo) (I.hok.write mu he k heo new)
def Inv.pins_of {pins':List (Addr×Obj)}(I:Inv X pins σ H s)(h:∀p∈pins',s.heap.get? p.1=some p.2/\H p.1=none/\p.1≠X.env.locals/\p.1∉X.fs/\∀v,p.2.data≠.cell v):Inv X pins' σ H s:=
 ⟨I.ok,I.os,I.bare,I.base,I.loc,I.cell,I.free,I.freeC,λp hp=>(M1.mp hp).elim (λz=>I.pin p (NU _ z)) (h p),I.hok,I.len⟩
def uD {N:List Str}(hN:N.Nodup){i j:Nat}{x:Str}(a:N[i]? =some x)(b:N[j]? =some x):i=j:=by
 obtain⟨h1,e1⟩:=MJ.mp a
 obtain⟨h2,e2⟩:=MJ.mp b
 exact (List.getElem_inj hN).mp (e1.trans e2.symm)
def rG {M:Model}{A:Around}{E:Value->Shared->Prop}{i:Nat}{x:Str}{v:V}{u:Value}{Q:Unit->Shared->Prop}(I:Inv X pins σ H s)(hN:X.N.Nodup)(hi:X.N[i]? =some x)(hx:Loc X.env.scope x)(r:RelV v u)
  (h:∀s',Inv X pins (σ.set i (some v)) H s'->(∃a,Heap.SameBut a s.heap s'.heap/\(a=X.env.locals\/X.env.cells.lookup x=some a))->Q () s') (hf:X.fn x=true\/X.env.scope.names.lookup x=some .local:=by first |exact .inl rfl |exact .inr rfl |assumption):wpAny M A (storeName X.env x u) Q E s:=by
 obtain⟨m,hn,hl⟩:=id I.loc
 have hcls:(X.env.scope.kind == .class || (X.env.scope.kind == .module && X.env.locals != X.env.globals))=false:=by rw[I.ok.kind];rfl
 have hiσ:i < σ.length:=by rw[I.len];exact (MJ.mp hi).1
 have cne:=I.cne
 have tracked:∀{a:Addr} {h':Heap},(∃o,s.heap.get? a=some o/\H a=none)->Heap.SameBut a s.heap h'->lu X.prog X.w H h':=λ{a h'} ha hs b ob e=>by
  obtain⟨_,_,hfree⟩:=ha
  refine (I.hok b ob e).stay (λc w' hc q=>(hs.2 c ?_).trans q) (λ_ q=>q) λ_ _ q=>q
  rintro rfl
  rcases hc with rfl |hc
  ·rw[hfree] at e;cases e
  ·rw[hfree] at hc;cases hc
 rcases hx with hk |hk
 ·refine wpAny_storeName_local hk hn (λh' hn' hs=>?_) hcls
  obtain⟨oL,_,_,hoL,_⟩:=id hn
  refine h _ ⟨I.ok,I.os,I.bare,⟨λb o e n hb hx=>?_,λb o e n hb hx=>?_,I.base.free,λb o e hx=>?_,I.base.tups,I.base.frzs,I.base.tbls⟩,⟨_,hn',λj y v' e1 e2 e3=>?_⟩,λy c e=>?_,I.free,I.freeC,λp hp=>?_,tracked ⟨oL,hoL,I.free⟩ hs,by simpa using I.len⟩ ⟨_,hs,.inl rfl⟩
  ·exact (hs.2 b (M7 (M4 (MH e) I.ok.above))).trans (I.base.keep b o e n hb hx)
  ·obtain⟨sl,e1⟩:=I.base.slot b o e n hb hx
   exact⟨sl,(hs.2 b (M7 (M4 (MH e) I.ok.above))).trans e1⟩
  ·obtain⟨o',e1⟩:=I.base.there b o e hx
   exact⟨o',(hs.2 b (M7 (M4 (MH e) I.ok.above))).trans e1⟩
  ·by_cases hj:j=i
   ·subst hj
    rw[hi] at e1;cases e1
    rw[MV hiσ] at e2
    cases e2
    exact⟨u,r,.inl ⟨hk,by simp⟩⟩
   ·rw[MR (Ne.symm hj)] at e2
    obtain⟨u',r',q⟩:=hl j y v' e1 e2 e3
    refine⟨u',r',?_⟩
    rcases q with⟨k,e⟩ | ⟨k,c,e,z⟩
    ·refine .inl ⟨k,?_⟩
     have:y≠x:=λe=>hj (uD hN e1 (e▸hi))
     simp[this,e]
    ·exact .inr ⟨k,c,e,z.sameBut hs (cne y c e)⟩
  ·obtain⟨w',z⟩:=I.cell y c e
   exact⟨w',z.sameBut hs (cne y c e)⟩
  ·obtain⟨e,n,ne,nf,d⟩:=I.pin p hp
   exact⟨(hs.2 p.1 ne).trans e,n,ne,nf,d⟩
 ·have hfn:X.fn x=true:=by
   rcases hf with z |z
   ·exact z
   ·rw[z] at hk;cases hk
  obtain⟨c,hc⟩:=I.ok.has x (.inl hk)
  obtain⟨w',z⟩:=I.cell x c hc
  refine wpAny_storeName_cell I.ok.kind hk hc z (λh' hc' hs=>?_)
  obtain⟨oc,hoc,hocd⟩:=id z
  refine h {s with heap:=h'} ⟨I.ok,I.os,I.bare,⟨λb o e n hb hx=>?_,λb o e n hb hx=>?_,I.base.free,λb o e hx=>?_,I.base.tups,I.base.frzs,I.base.tbls⟩,⟨m,hn.sameBut hs (Ne.symm (cne x c hc)),λj y v' e1 e2 e3=>?_⟩,λy c' e=>?_,I.free,I.freeC,λp hp=>?_,tracked ⟨oc,hoc,I.freeC x c hc⟩ hs,by simpa using I.len⟩ ⟨c,hs,.inr hc⟩
  ·exact (hs.2 b (M7 (M4 (MH e) (I.ok.cab x c hfn hc)))).trans (I.base.keep b o e n hb hx)
  ·obtain⟨sl,e1⟩:=I.base.slot b o e n hb hx
   exact⟨sl,(hs.2 b (M7 (M4 (MH e) (I.ok.cab x c hfn hc)))).trans e1⟩
  ·obtain⟨o',e1⟩:=I.base.there b o e hx
   exact⟨o',(hs.2 b (M7 (M4 (MH e) (I.ok.cab x c hfn hc)))).trans e1⟩
  ·by_cases hj:j=i
   ·subst hj
    rw[hi] at e1;cases e1
    rw[MV hiσ] at e2
    cases e2
    exact⟨u,r,.inr ⟨.inl hk,c,hc,hc'⟩⟩
   ·rw[MR (Ne.symm hj)] at e2
    obtain⟨u',r',q⟩:=hl j y v' e1 e2 e3
    refine⟨u',r',?_⟩
    rcases q with q | ⟨k,c',e,z'⟩
    ·exact .inl q
    ·refine .inr ⟨k,c',e,z'.sameBut hs ?_⟩
     rintro rfl
     exact hj (uD hN e1 (I.ok.inj _ _ _ e hc▸hi))
  ·by_cases hcc:c'=c
   ·subst hcc;exact⟨_,hc'⟩
   ·obtain⟨w2,z2⟩:=I.cell y c' e
    exact⟨w2,z2.sameBut hs hcc⟩
  ·obtain⟨e,n,ne,nf,d⟩:=I.pin p hp
   refine⟨(hs.2 p.1 ?_).trans e,n,ne,nf,d⟩
   intro q
   rw[q,hoc] at e
   have q':oc=p.2:=Option.some.inj e
   exact d w' (by rw[<-q'];exact hocd)
def uW {M:Model}{A:Around}{E:Value->Shared->Prop}{i:Nat}{x:Str}{v:V}{u:Value}{Q:Unit->Shared->Prop}(I:Inv X pins σ H s)(hN:X.N.Nodup)(hi:X.N[i]? =some x)(hx:Loc X.env.scope x)(r:RelV v u)
  (h:∀s',Inv X pins (σ.set i (some v)) H s'->Q () s') (hf:X.fn x=true\/X.env.scope.names.lookup x=some .local:=by first |exact .inl rfl |exact .inr rfl |assumption):wpAny M A (storeName X.env x u) Q E s:=
 rG I hN hi hx r (λs' I' _=>h s' I') hf
def Inv.call' {s':Shared}{ch:List Addr}(I:Inv X pins σ H s)(ho:s'.os=s.os)(u:Un (iY X.stack) ch H H' s.heap s'.heap)(hok:lu X.prog X.w H' s'.heap)(hg:AllBare s'.gens)
  (hch:∀b∈ch,(b∈X.ex\/X.s₀.heap.objs.size<=b)/\b≠X.env.locals/\(∀x c,X.env.cells.lookup x=some c->c≠b)/\∀p∈X.pn ++ pins,p.1≠b):Inv X pins σ H' s':=by
 obtain⟨h',g',d',t',o'⟩:=s'
 have e:o'=s.os:=ho
 subst e
 exact I.call (g':=g') (t':=t') (d':=d') u hok hg hch
end
abbrev XK:=Value->Option Addr->Hp->Prop
abbrev St:=List (Option V)
abbrev VK:=V->Hp->Prop
abbrev TE:=St->Hp->VK->Prop
abbrev TT:=St->Hp->(Bool->Hp->Prop)->Prop
abbrev TA:=St->Hp->(List V->Hp->Prop)->Prop
structure Ends where
 nx:St->Hp->Prop
 rt:VK
 bk:St->Hp->Prop:=λ_ _=>False
 ct:St->Hp->Prop:=λ_ _=>False
abbrev TS:=Ends->St->Hp->Prop
def EP (X:Cx)(pins:List (Addr×Obj))(σ:St)(Q:VK)(u:Value)(s':Shared):Prop:=∃v H',Inv X pins σ H' s'/\RelV v u/\Q v H'
def TP (X:Cx)(pins:List (Addr×Obj))(σ:St)(Q:Bool->Hp->Prop)(b:Bool)(s':Shared):Prop:=∃H',Inv X pins σ H' s'/\Q b H'
def AP (X:Cx)(pins:List (Addr×Obj))(σ:St)(Q:List V->Hp->Prop)(us:List Value)(s':Shared):Prop:=∃vs H',Inv X pins σ H' s'/\Vals vs us/\Q vs H'
def SP (X:Cx)(pins:List (Addr×Obj))(D:Ends)(f:Flow)(s':Shared):Prop:=
 match f with
 | .next=>∃σ' H',Inv X pins σ' H' s'/\D.nx σ' H'
 | .brk=>∃σ' H',Inv X pins σ' H' s'/\D.bk σ' H'
 | .cont=>∃σ' H',Inv X pins σ' H' s'/\D.ct σ' H'
 | .ret u=>∃v σ' H',Inv X pins σ' H' s'/\RelV v u/\D.rt v H'
def PE (X:Cx)(e:Expr)(t:TE):Prop:=
 ∀(pins:List (Addr×Obj)) (s:Shared) (σ:St) (H:Hp) (Q:VK),Inv X pins σ H s->t σ H Q->wpAny (model X.prog X.w) X.A (eval e X.env) (EP X pins σ Q) X.xe s
def PT (X:Cx)(e:Expr)(t:TT):Prop:=
 ∀(pins:List (Addr×Obj)) (s:Shared) (σ:St) (H:Hp) (Q:Bool->Hp->Prop),Inv X pins σ H s->t σ H Q->wpAny (model X.prog X.w) X.A (isTrue e X.env (eval e X.env)) (TP X pins σ Q) X.xe s
def PW (X:Cx)(e:Expr)(t:TT):Prop:=
 ∀(whole:Sem Value) (pins:List (Addr×Obj)) (s:Shared) (σ:St) (H:Hp) (Q:Bool->Hp->Prop),Inv X pins σ H s->t σ H Q->wpAny (model X.prog X.w) X.A (isTrue e X.env whole) (TP X pins σ Q) X.xe s
def PW.pt {X:Cx}{e:Expr}{t:TT}(h:PW X e t):PT X e t:=h _
def PA (X:Cx)(es:List Expr)(t:TA):Prop:=
 ∀(pos:Pos) (pins:List (Addr×Obj)) (s:Shared) (σ:St) (H:Hp) (Q:List V->Hp->Prop),Inv X pins σ H s->t σ H Q->wpAny (model X.prog X.w) X.A (spliced (backTo pos (starEach es X.env))) (AP X pins σ Q) X.xe s
def PS (X:Cx)(st:Stmt)(t:TS):Prop:=
 ∀(pins:List (Addr×Obj)) (s:Shared) (σ:St) (H:Hp) (D:Ends),Inv X pins σ H s->t D σ H->wpAny (model X.prog X.w) X.A (exec st X.env) (SP X pins D) X.xe s
def qN (X:Cx)(st:List Stmt)(t:TS):Prop:=
 ∀(pins:List (Addr×Obj)) (s:Shared) (σ:St) (H:Hp) (D:Ends),Inv X pins σ H s->t D σ H->wpAny (model X.prog X.w) X.A (execs st X.env) (SP X pins D) X.xe s
def cv {α:Type}{t:Sem α}{Q Q':α->Shared->Prop}{M:Model}{A:Around}{E:Value->Shared->Prop}{s:Shared}(h:wpAny M A t Q E s)(hQ:∀a s,Q a s->Q' a s):wpAny M A t Q' E s:=N0 h hQ λ_ _ x=>x
section
variable {X:Cx}
def bin {a b:Expr}{ta tb:TE}(ha:PE X a ta)(hb:PE X b tb){pins:List (Addr×Obj)}{s:Shared}{σ:St}{H:Hp}{R:V->V->Hp->Prop}(I:Inv X pins σ H s)(h:ta σ H λx H1=>tb σ H1 λy H2=>R x y H2)
  {α:Type} {Q:α->Shared->Prop} {f:Value->Value->Sem α}
  (hf:∀v u s2 x y H2,Inv X pins σ H2 s2->RelV x v->RelV y u->R x y H2->wpAny (model X.prog X.w) X.A (f v u) Q X.xe s2) :
  wpAny (model X.prog X.w) X.A (eval a X.env) (λv s₁=>wpAny (model X.prog X.w) X.A (eval b X.env) (λu s₂=>wpAny (model X.prog X.w) X.A (f v u) Q X.xe s₂) X.xe s₁) X.xe s:=by
 refine cv (ha pins s σ H _ I h) λv s1 ⟨x,H1,I1,r1,q1⟩=>?_
 refine cv (hb pins s1 σ H1 _ I1 q1) λu s2 ⟨y,H2,I2,r2,q2⟩=>?_
 exact hf v u s2 x y H2 I2 r1 r2 q2
def Ej (i:Nat):TE:=λσ H Q=>∃v,σ[i]? =some (some v)/\Q v H
def tC (v:V):TE:=λ_ H Q=>Q v H
def jO {i:Nat}{x:Str}{pos:Pos}(hN:X.N[i]? =some x)(hv:AW X.env.scope x)(hd:(x == ("__debug__":Str))=false:=by decide)(hcd:(x == ("__classdict__":Str))=false:=by decide):PE X (.Name x pos) (Ej i):=by
 intro pins s σ H Q I h
 obtain⟨v,e,h⟩:=h
 obtain⟨m,hn,hl⟩:=I.loc
 obtain⟨u,r,l⟩:=hl i x v hN e hv
 have fin:EP X pins σ Q u s:=⟨v,H,I,r,h⟩
 rcases l with⟨hk,hm⟩ | ⟨hk,c,hc,hcell⟩
 ·exact wpAny_Name (wpAny_loadName_local I.ok.kind hk hn hm fin) hd
 ·rcases hk with hk |hk
  ·exact wpAny_Name (wpAny_loadName_cell I.ok.kind hk hc hcell fin) hd
  ·exact wpAny_Name (wpAny_loadName_free I.ok.kind hk hc hcell fin hcd) hd
def rZ {i j pos}:PE X (.Constant (.int i) j pos) (tC (.int i)):=λ_ _ _ H _ I h=>wpAny_Constant_int ⟨.int i,H,I.tok _,⟨_,rfl⟩,h⟩
def yg {b j pos}:PE X (.Constant (.bool b) j pos) (tC (.bl b)):=λ_ _ _ H _ I h=>Constant_bool ⟨.bl b,H,I,rfl,h⟩
def Hk {j pos}:PE X (.Constant .none j pos) (tC .non):=λ_ _ _ H _ I h=>Constant_none ⟨.non,H,I,rfl,h⟩
def HC {x j pos}:PE X (.Constant (.str x) j pos) (tC (.str x)):=λ_ _ _ H _ I h=>Calls.Constant_str ⟨.str x,H,I.tok _,⟨_,rfl⟩,h⟩
def Gl (X:Cx)(x:Str):Prop:=X.env.kindOf x=some .globalImplicit
def sf {E:Value->Shared->Prop}{pins:List (Addr×Obj)}{s:Shared}{σ:St}{H:Hp}{x:Str}{u:Value}{pos:Pos}{Q:Value->Shared->Prop}(I:Inv X pins σ H s)(hg:Gl X x)(hm:X.mg x=some u)(h:Q u s)
  (hd:(x == ("__debug__":Str))=false:=by decide):wpAny (model X.prog X.w) X.A (eval (.Name x pos) X.env) Q E s:=
 Calls.Name_function_global I.ok.kind hg (Calls.loadGlobal_global (by rw[I.ok.glob];exact I.mod.glob.keeps I.bk) hm h) hd
def kj {E:Value->Shared->Prop}{pins:List (Addr×Obj)}{s:Shared}{σ:St}{H:Hp}{x:Str}{u:Value}{pos:Pos}{Q:Value->Shared->Prop}(I:Inv X pins σ H s)(hg:Gl X x)(hm:X.mg x=none)(hv:bootBuiltins x=some u)(h:Q u s)
  (hn:x≠"__name__":=by decide) (hd:(x == ("__debug__":Str))=false:=by decide):wpAny (model X.prog X.w) X.A (eval (.Name x pos) X.env) Q E s:=by
 obtain⟨mb,h1,h2⟩:=I.mod.blt
 exact Calls.Name_function_global I.ok.kind hg (Calls.loadGlobal_builtin (by rw[I.ok.glob];exact I.mod.glob.keeps I.bk) hm (by rw[I.ok.blt];exact h1.keeps I.bk) ((h2 x hn).trans hv) h) hd
def FL {x:Str}{v:V}{u:Value}{pos:Pos}(hg:Gl X x)(hm:X.mg x=some u)(r:RelV v u)(hd:(x == ("__debug__":Str))=false:=by decide):PE X (.Name x pos) (tC v):=
 λ_ _ _ H _ I h=>sf I hg hm ⟨v,H,I,r,h⟩ hd
def ER {x:Str}{v:V}{u:Value}{pos:Pos}(hg:Gl X x)(hm:X.mg x=none)(hv:bootBuiltins x=some u)(r:RelV v u)(hn:x≠"__name__":=by decide)(hd:(x == ("__debug__":Str))=false:=by decide):PE X (.Name x pos) (tC v):=
 λ_ _ _ H _ I h=>kj I hg hm hv ⟨v,H,I,r,h⟩ hn hd
variable {a b:Expr}{ta tb:TE}{pos:Pos}
def PC (X:Cx)(op:CmpOp)(a b:Expr)(t:TE):Prop:=
 ∀(pins:List (Addr×Obj)) (s:Shared) (σ:St) (H:Hp) (Q:VK),Inv X pins σ H s->t σ H Q->
  wpAny (model X.prog X.w) X.A (eval a X.env) (λv s₁=>wpAny (model X.prog X.w) X.A (eval b X.env) (λu s₂=>wpAny (model X.prog X.w) X.A (compareOp op v u) (EP X pins σ Q) X.xe s₂) X.xe s₁) X.xe s
def vN (b:Expr){op:CmpOp}(h:op≠.In)(h2:op≠.NotIn):behindInMarks op b=false:=by
 have e1:(op == CmpOp.In)=false:=by cases op <;> first |rfl |exact absurd rfl h
 have e2:(op == CmpOp.NotIn)=false:=by cases op <;> first |rfl |exact absurd rfl h2
 cases b <;> simp[behindInMarks,e1,e2]
def Lj (ta:TE):TE:=λσ H Q=>ta σ H λx H1=>Q (.bl (decide (x=.non))) H1
def JP (ta:TE):TE:=λσ H Q=>ta σ H λx H1=>Q (.bl (!decide (x=.non))) H1
theorem RelV.none_iff {x:V}{v:Value}(r:RelV x v):(v == Value.none)=decide (x=.non):=by
 cases x with
 |non=>cases r;rfl
 |bl _=>cases r;rfl
 |int _=>obtain⟨t,rfl⟩:=r;rfl
 |str _=>obtain⟨t,rfl⟩:=r;rfl
 |byt _=>obtain⟨t,rfl⟩:=r;rfl
 |flt _=>obtain⟨t,rfl⟩:=r;rfl
 |ref _=>cases r;rfl
 |ty _=>cases r;rfl
def DQ {j pos'}(ha:PE X a ta):PC X .Is a (.Constant .none j pos') (Lj ta):=by
 intro pins s σ H Q I h
 refine cv (ha pins s σ H _ I h) λv s1 ⟨x,H1,I1,r1,q1⟩=>?_
 exact Constant_none (is_none_gen ⟨.bl _,H1,I1,by rw[r1.none_iff];rfl,q1⟩)
def FI {j pos'}(ha:PE X a ta):PC X .IsNot a (.Constant .none j pos') (JP ta):=by
 intro pins s σ H Q I h
 refine cv (ha pins s σ H _ I h) λv s1 ⟨x,H1,I1,r1,q1⟩=>?_
 exact Constant_none (isnot_none_gen ⟨.bl _,H1,I1,by rw[r1.none_iff];rfl,q1⟩)
def tB (t:TE):TT:=λσ H Q=>t σ H λx H1=>∃c,x=.bl c/\Q c H1
def Hn {op:CmpOp}{t:TE}(h:PC X op a b t)(h1:behindInMarks op b=false:=by first |exact vN _ (by decide) (by decide) |rfl):PE X (.Compare a [op] [b] pos) t:=λpins s σ H Q I hw=>wpAny_Compare1 (h pins s σ H Q I hw) h1
def Cw {op:CmpOp}{t:TE}(h:PC X op a b t)(h1:behindInMarks op b=false:=by first |exact vN _ (by decide) (by decide) |rfl):PT X (.Compare a [op] [b] pos) (tB t):=by
 intro pins s σ H Q I hw
 refine wpAny_isTrue_Compare1 (cv (h pins s σ H _ I hw) λv s1 h1=>cv h1 λu s2 h2=>cv h2 λc s3 ⟨x,H1,I1,r1,q1⟩=>?_) h1
 obtain⟨d,rfl,q⟩:=q1
 cases r1
 exact N5 ⟨H1,I1,q⟩
def wK {e:Expr}{t:TE}(h:PE X e t)(he:∀whole,isTrue e X.env whole=(do let v <-whole;standAt e.pos;holding [v] (truthy v)):=by intro _;rfl):PT X e (tB t):=by
 intro pins s σ H Q I hw
 refine isTrue_plain (cv (h pins s σ H _ I hw) λv s1 ⟨x,H1,I1,r1,q1⟩=>?_) (he _)
 obtain⟨d,rfl,q⟩:=q1
 cases r1
 exact N5 ⟨H1,I1,q⟩
variable {tA tB':TT}{rest:List Expr}
def Lf (t u:TT):TT:=λσ H Q=>t σ H λc H1=>if c=true then u σ H1 Q else Q false H1
def Mi (t u:TT):TT:=λσ H Q=>t σ H λc H1=>if c=true then Q true H1 else u σ H1 Q
def LJ (t:TT):TT:=λσ H Q=>t σ H λc H1=>Q (!c) H1
theorem yn (ha:PT X a tA):PW X (.BoolOp .And [a] pos) tA:=by
 intro wh pins s σ H Q I h
 refine isTrue_and (cv (ha pins s σ H Q I h) λc s1 e=>?_)
 cases c with
 |true=>exact isTrue_and_nil e
 |false=>exact e
theorem Hx (ha:PT X a tA):PW X (.BoolOp .Or [a] pos) tA:=by
 intro wh pins s σ H Q I h
 refine isTrue_or (cv (ha pins s σ H Q I h) λc s1 e=>?_)
 cases c with
 |false=>exact isTrue_or_nil e
 |true=>exact e
theorem BK (ha:PT X a tA)(hb:PW X (.BoolOp .And (b :: rest) pos) tB'):PW X (.BoolOp .And (a :: b :: rest) pos) (Lf tA tB'):=by
 intro wh pins s σ H Q I h
 refine isTrue_and (cv (ha pins s σ H _ I h) λc s1 ⟨H1,I1,q1⟩=>?_)
 cases c with
 |true=>exact hb wh pins s1 σ H1 Q I1 q1
 |false=>exact⟨H1,I1,q1⟩
theorem JJ (ha:PT X a tA)(hb:PW X (.BoolOp .Or (b :: rest) pos) tB'):PW X (.BoolOp .Or (a :: b :: rest) pos) (Mi tA tB'):=by
 intro wh pins s σ H Q I h
 refine isTrue_or (cv (ha pins s σ H _ I h) λc s1 ⟨H1,I1,q1⟩=>?_)
 cases c with
 |true=>exact⟨H1,I1,q1⟩
 |false=>exact hb wh pins s1 σ H1 Q I1 q1
def IG (ha:PT X a tA):PT X (.UnaryOp .Not a pos) (LJ tA):=by
 intro pins s σ H Q I h
 exact isTrue_not (ha pins s σ H (λc H1=>Q (!c) H1) I h)
def JW (ta tb:TE):TE:=λσ H Q=>ta σ H λx H1=>∃c,x=.bl c/\if c=true then tb σ H1 Q else Q (.bl false) H1
def Ja (ta:TE):TE:=λσ H Q=>ta σ H λx H1=>∃c,x=.bl c/\Q (.bl (!c)) H1
def ID {op}{t:TE}(h:PE X a t):PE X (.BoolOp op [a] pos) t:=λpins s σ H Q I hw=>BoolOp_one (h pins s σ H Q I hw)
theorem Hh (ha:PE X a ta)(hb:PE X (.BoolOp .And (b :: rest) pos) tb):PE X (.BoolOp .And (a :: b :: rest) pos) (JW ta tb):=by
 intro pins s σ H Q I h
 refine BoolOp_and (cv (ha pins s σ H _ I h) λv s1 ⟨x,H1,I1,r1,q1⟩=>?_)
 obtain⟨c,rfl,q1⟩:=q1
 cases r1
 refine N5 ?_
 cases c with
 |true=>exact hb pins s1 σ H1 Q I1 q1
 |false=>exact⟨.bl false,H1,I1,rfl,q1⟩
def Hq (ha:PE X a ta):PE X (.UnaryOp .Not a pos) (Ja ta):=by
 intro pins s σ H Q I h
 refine UnaryOp_ (cv (ha pins s σ H _ I h) λv s1 ⟨x,H1,I1,r1,q1⟩=>?_)
 obtain⟨c,rfl,q1⟩:=q1
 cases r1
 exact not_of (N5 ⟨.bl (!c),H1,I1,rfl,q1⟩)
end
def eY (K:Frag)(H:Hp)(a:Addr)(xs:List V):Prop:=
 Rd H a (.lst xs)\/
  ∃(o:Obj) (its:Array Value) (n:Nat),K.lookup a=some o/\o.cls=.type "list"/\o.dict=none/\o.data=.seq its n/\its.size<=sizeLine/\Vals xs its.toList
def eV (K:Frag)(H:Hp)(a:Addr)(xs:List V):Prop:=
 Rd H a (.tup xs)\/
  ∃(o:Obj) (its:Array Value) (n:Nat),K.lookup a=some o/\o.cls=.type "tuple"/\o.data=.seq its n/\its.size<=sizeLine/\Vals xs its.toList/\o.dict=none
def LN:Value->Option V
 | .none=>some .non
 | .bool b=>some (.bl b)
 | .int i _=>some (.int i)
 | .str x _=>some (.str x)
 | .bytes b _=>some (.byt b)
 | .float b _=>some (.flt b)
 | .ref a=>some (.ref a)
 | .type n=>some (.ty n)
 |_=>none
theorem RelV.abs {x:V}{u:Value}(r:RelV x u):LN u=some x:=by
 cases x with
 |non=>cases r;rfl
 |bl _=>cases r;rfl
 |int _=>obtain⟨t,rfl⟩:=r;rfl
 |str _=>obtain⟨t,rfl⟩:=r;rfl
 |byt _=>obtain⟨t,rfl⟩:=r;rfl
 |flt _=>obtain⟨t,rfl⟩:=r;rfl
 |ref _=>cases r;rfl
 |ty _=>cases r;rfl
def RelV.inj {x y:V}{u:Value}(r:RelV x u)(q:RelV y u):x=y:=Option.some.inj (r.abs.symm.trans q.abs)
theorem Vals.inj:∀{xs ys:List V} {us:List Value},Vals xs us->Vals ys us->xs=ys
 |_,_,_,.nil,.nil=>rfl
 |_,_,_,.cons r t,.cons r' t'=>by rw[r.inj r',Vals.inj t t']
section
variable {X:Cx}{pins:List (Addr×Obj)}{σ:St}{H:Hp}{s:Shared}{a:Addr}{xs ys:List V}
def Inv.list (I:Inv X pins σ H s)(h:eY X.K H a xs):∃its:List Value,Vals xs its/\PlainL s.heap a its.toArray/\xs.length<=sizeLine:=by
 rcases h with h | ⟨o,its,n,hk,hc,hd,hs,hz,r⟩
 ·obtain⟨z,its,n,r,e⟩:=h.ok I.hok
  exact⟨its,r,⟨_,n,e,rfl,rfl,rfl⟩,z⟩
 ·refine⟨its.toList,r,⟨o,n,I.kIn a o hk,hc,hd,by simpa using hs⟩,?_⟩
  have e:=r.length
  simp only[OR] at e
  omega
def Inv.tuple (I:Inv X pins σ H s)(h:eV X.K H a xs):∃its:List Value,Vals xs its/\IsTup s.heap a its.toArray/\xs.length<=sizeLine:=by
 rcases h with h | ⟨o,its,n,hk,hc,hs,hz,r,_⟩
 ·obtain⟨z,its,r,p⟩:=h.ok I.hok
  exact⟨its,r,p.isTup,z⟩
 ·refine⟨its.toList,r,⟨o,I.kIn a o hk,hc,n,by simpa using hs⟩,?_⟩
  have e:=r.length
  simp only[OR] at e
  omega
def Inv.list_inj (I:Inv X pins σ H s)(h:eY X.K H a xs)(h':eY X.K H a ys):xs=ys:=by
 obtain⟨its,r,⟨o,n,e,_,_,d⟩,_⟩:=I.list h
 obtain⟨its',r',⟨o',n',e',_,_,d'⟩,_⟩:=I.list h'
 rw[e] at e';cases e'
 rw[d] at d'
 injection d' with d1 _
 have:its=its':=by simpa using congrArg Array.toList d1
 subst this
 exact r.inj r'
def Inv.tuple_inj (I:Inv X pins σ H s)(h:eV X.K H a xs)(h':eV X.K H a ys):xs=ys:=by
 obtain⟨its,r,⟨o,e,_,n,d⟩,_⟩:=I.tuple h
 obtain⟨its',r',⟨o',e',_,n',d'⟩,_⟩:=I.tuple h'
 rw[e] at e';cases e'
 rw[d] at d'
 injection d' with d1 _
 have:its=its':=by simpa using congrArg Array.toList d1
 subst this
 exact r.inj r'
end
abbrev Cx.wish (X:Cx)(E:Value->Shared->Prop):Cx:={X with xe:=E}
abbrev Cx.nox (X:Cx):Cx:=X.wish λ_ _=>False
def Cx.Ok.wish {X:Cx}(ok:X.Ok)(E:Value->Shared->Prop):(X.wish E).Ok:=
 ⟨ok.mod,ok.kind,ok.glob,ok.blt,ok.above,ok.inj,ok.has,ok.cab,ok.hd,ok.frames,ok.stk,ok.exf,ok.bs,ok.bsz,ok.noex,ok.exfs,ok.funs,ok.frf⟩
def Cx.Ok.unwish {X:Cx}{E:Value->Shared->Prop}(ok:(X.wish E).Ok):X.Ok:=
 ⟨ok.mod,ok.kind,ok.glob,ok.blt,ok.above,ok.inj,ok.has,ok.cab,ok.hd,ok.frames,ok.stk,ok.exf,ok.bs,ok.bsz,ok.noex,ok.exfs,ok.funs,ok.frf⟩
section
variable {X:Cx}{pins:List (Addr×Obj)}{σ:St}{H:Hp}{s:Shared}{E:Value->Shared->Prop}
def Inv.wish (I:Inv X pins σ H s)(E:Value->Shared->Prop):Inv (X.wish E) pins σ H s:=⟨I.ok.wish E,I.os,I.bare,I.base,I.loc,I.cell,I.free,I.freeC,I.pin,I.hok,I.len⟩
def Inv.unwish (I:Inv (X.wish E) pins σ H s):Inv X pins σ H s:=⟨I.ok.unwish,I.os,I.bare,I.base,I.loc,I.cell,I.free,I.freeC,I.pin,I.hok,I.len⟩
theorem SP.unwish {D:Ends}{f:Flow}{s':Shared}(h:SP (X.wish E) pins D f s'):SP X pins D f s':=by
 cases f with
 |next=>obtain⟨σ',H',I,q⟩:=h;exact⟨σ',H',I.unwish,q⟩
 |brk=>obtain⟨σ',H',I,q⟩:=h;exact⟨σ',H',I.unwish,q⟩
 |cont=>obtain⟨σ',H',I,q⟩:=h;exact⟨σ',H',I.unwish,q⟩
 |ret u=>obtain⟨v,σ',H',I,r,q⟩:=h;exact⟨v,σ',H',I.unwish,r,q⟩
def qN.nox {st:List Stmt}{t:TS}(h:qN X.nox st t):qN X st t:=λpins s σ H D I hw=>
 N0 (h pins s σ H D (I.wish _) hw) (λ_ _ q=>q.unwish) λ_ _ z=>False.elim z
end
section
variable {X:Cx}{st:Stmt}{rest:List Stmt}{t u:TS}{e:Expr}{te:TE}{pos:Pos}
def JT:TS:=λD σ H=>D.nx σ H
def K3 (t u:TS):TS:=λD σ H=>t {D with nx:=u D} σ H
def yC:qN X [] JT:=λ_ _ σ H _ I h=>wpAny_execs_nil ⟨σ,H,I,h⟩
theorem hZ (h1:PS X st t)(h2:qN X rest u):qN X (st :: rest) (K3 t u):=by
 intro pins s σ H D I h
 refine wpAny_execs_cons (cv (h1 pins s σ H {D with nx:=u D} I h) λf s1 q=>?_)
 cases f with
 |next=>
  obtain⟨σ',H',I',q⟩:=q
  exact h2 pins s1 σ' H' D I' q
 |ret v=>exact q
 |brk=>exact q
 |cont=>exact q
theorem iI (h1:PS X st t):qN X [st] t:=by
 intro pins s σ H D I h
 refine wpAny_execs_cons (cv (h1 pins s σ H D I h) λf s1 q=>?_)
 cases f with
 |next=>exact wpAny_execs_nil q
 |ret v=>exact q
 |brk=>exact q
 |cont=>exact q
def Inv.quiet {pins:List (Addr×Obj)}{σ:St}{H:Hp}{s:Shared}(I:Inv X pins σ H s):interactive X.env=false:=by simp[interactive,I.ok.kind]
def JZ (te:TE):TS:=λD σ H=>te σ H λ_ H1=>D.nx σ H1
def sd (he:PE X e te)(hs:swapsWith e none pos.line X.env=pure false:=by rfl):PS X (.Expr e pos) (JZ te):=by
 intro pins s σ H D I h
 exact wpAny_Expr_any (cv (he pins s σ H _ I h) λv s1 ⟨x,H1,I1,r1,q1⟩=>⟨σ,H1,I1,q1⟩) I.quiet hs
def K6 (te:TE):TS:=λD σ H=>te σ H D.rt
def mQ (he:PE X e te):PS X (.Return (some e) pos) (K6 te):=by
 intro pins s σ H D I h
 exact wpAny_Return_some (cv (he pins s σ H _ I h) λv s1 ⟨x,H1,I1,r1,q1⟩=>⟨x,σ,H1,I1,r1,q1⟩)
def Lp (c:TT)(t u:TS):TS:=λD σ H=>c σ H λb H1=>if b=true then t D σ H1 else u D σ H1
theorem GH {c:Expr}{a b:List Stmt}{tc:TT}(hc:PT X c tc)(ha:qN X a t)(hb:qN X b u):PS X (.If c a b pos) (Lp tc t u):=by
 intro pins s σ H D I h
 refine wpAny_If (cv (hc pins s σ H _ I h) λd s1 ⟨H1,I1,q1⟩=>?_)
 cases d with
 |true=>exact ha pins s1 σ H1 D I1 q1
 |false=>exact hb pins s1 σ H1 D I1 q1
end
abbrev TG:=V->St->Hp->(St->Hp->Prop)->Prop
abbrev HQ:=List V->St->Hp->(St->Hp->Prop)->Prop
def PG (X:Cx)(target:Expr)(t:TG):Prop:=
 ∀(pins:List (Addr×Obj)) (s:Shared) (σ:St) (H:Hp) (v:V) (u:Value) (Q:St->Hp->Prop),Inv X pins σ H s->RelV v u->t v σ H Q->
  wpAny (model X.prog X.w) X.A (assign target X.env u) (λ_ s'=>∃σ' H',Inv X pins σ' H' s'/\Q σ' H') X.xe s
def KO (X:Cx)(ts:List Expr)(t:HQ):Prop:=
 ∀(pins:List (Addr×Obj)) (s:Shared) (σ:St) (H:Hp) (vs:List V) (us:List Value) (Q:St->Hp->Prop),Inv X pins σ H s->Vals vs us->t vs σ H Q->
  wpAny (model X.prog X.w) X.A (assignInOrder ((assignEach ts X.env).map (·.2)) us) (λ_ s'=>∃σ' H',Inv X pins σ' H' s'/\Q σ' H') X.xe s
abbrev Hs:=V->V->V->Hp->(Hp->Prop)->Prop
def so (X:Cx)(t:Hs):Prop:=
 ∀(pins:List (Addr×Obj)) (s:Shared) (σ:St) (H:Hp) (o i v:V) (ov iv u:Value) (Q:Hp->Prop),Inv X pins σ H s->RelV o ov->RelV i iv->RelV v u->t o i v H Q->
  wpAny (model X.prog X.w) X.A (setItem ov iv u) (λ_ s'=>∃H',Inv X pins σ H' s'/\Q H') X.xe s
section
variable {X:Cx}{pos:Pos}
def k6 (i:Nat):TG:=λv σ H Q=>Q (σ.set i (some v)) H
def cV {i:Nat}{x:Str}(hN:X.N.Nodup)(hi:X.N[i]? =some x)(hx:Loc X.env.scope x)(hf:X.fn x=true\/X.env.scope.names.lookup x=some .local:=by first |exact .inl rfl |exact .inr rfl |assumption):PG X (.Name x pos) (k6 i):=by
 intro pins s σ H v u Q I r h
 exact wpAny_assign_Name (uW I hN hi hx r (λs' I'=>⟨_,H,I',h⟩) hf)
def Fb:HQ:=λvs σ H Q=>vs= []/\Q σ H
def o4 (t:TG)(u:HQ):HQ:=λvs σ H Q=>∃v r,vs=v :: r/\t v σ H λσ' H'=>u r σ' H' Q
def my:KO X [] Fb:=by
 intro pins s σ H vs us Q I r h
 obtain⟨e,h⟩:=h
 subst e
 cases r
 exact assignInOrder_nil ⟨σ,H,I,h⟩
theorem dF {e:Expr}{es:List Expr}{t:TG}{u:HQ}(h1:PG X e t)(h2:KO X es u)
  (hs:(assignEach (e :: es) X.env).map (·.2)=assign e X.env :: (assignEach es X.env).map (·.2):=by rfl):KO X (e :: es) (o4 t u):=by
 intro pins s σ H vs us Q I r h
 obtain⟨v,vr,e1,h⟩:=h
 subst e1
 cases r with
 |cons r rr=>
  rw[hs]
  refine assignInOrder_cons (cv (h1 pins s σ H _ _ _ I r h) λ_ s1 ⟨σ1,H1,I1,q1⟩=>?_)
  exact h2 pins s1 σ1 H1 _ _ Q I1 rr q1
def Fe (K:Frag)(n:Nat)(t:HQ):TG:=λv σ H Q=>∃a xs,v=.ref a/\eV K H a xs/\xs.length=n/\t xs σ H Q
def o7 {es:List Expr}{k:Nat}{t:HQ}{n:Nat}(hc:X.calm=true)(h:KO X es t)
  (hn:(assignEach es X.env).length=n:=by rfl) (hst:(assignEach es X.env).findIdx? (·.1)=none:=by rfl):PG X (.Tuple es k pos) (Fe X.K n t):=by
 intro pins s σ H v u Q I r hw
 obtain⟨a,xs,e1,hq,hl,hw⟩:=hw
 subst e1
 cases r
 obtain⟨its,rv,ht,hz⟩:=I.tuple hq
 refine assign_Tuple_tuple (I.ok.hd hc) ht (by simp[hn,<-hl,rv.length]) hst λh' hx=>?_
 have I1:Inv X pins σ H {s with heap:=h'}:=I.kept (t':=s.toks) λb o e=>hx b o (M7 (MH e)) e
 exact h pins _ σ H xs _ Q I1 (by simpa using rv) hw
def LM (to ti:TE)(t:Hs):TG:=λv σ H Q=>to σ H λo H1=>ti σ H1 λi H2=>t o i v H2 λH3=>Q σ H3
def sk {o i:Expr}{to ti:TE}{t:Hs}(ho:PE X o to)(hi:PE X i ti)(hs:so X t)
  (ha:∀v,assign (.Subscript o i pos) X.env v=(do
   let ov <-holding [v] (eval o X.env)
   let iv <-holding [v,ov] (eval i X.env)
   standAt pos
   holding [v,ov,iv] (setItem ov iv v)
   release [v,ov,iv] []):=by intro _;rfl):PG X (.Subscript o i pos) (LM to ti t):=by
 intro pins s σ H v u Q I r h
 rw[ha]
 refine Mv (NR (cv (ho pins s σ H _ I h) λov s1 ⟨x,H1,I1,r1,q1⟩=>?_))
 refine Mv (NR (cv (hi pins s1 σ H1 _ I1 q1) λiv s2 ⟨y,H2,I2,r2,q2⟩=>?_))
 refine Mv (wpAny_standAt (Mv (NR (cv (hs pins s2 σ H2 x y v ov iv u _ I2 r1 r2 r q2) λ_ s3 ⟨H3,I3,q3⟩=>?_))))
 exact wpAny_release ⟨σ,H3,I3,q3⟩
def Ki (te:TE)(g:TG):TS:=λD σ H=>te σ H λx H1=>g x σ H1 D.nx
def mR {tg e:Expr}{te:TE}{g:TG}(he:PE X e te)(hg:PG X tg g)(hs:swapsWithSole [tg] e pos.line X.env=pure false:=by rfl)(hw:swappedStores [tg] e X.env=pure none:=by rfl)
  (h1:(assignEach [tg] X.env).map (·.2)= [assign tg X.env]:=by rfl):PS X (.Assign [tg] e pos) (Ki te g):=by
 intro pins s σ H D I h
 refine wpAny_Assign_stores (cv (he pins s σ H _ I h) λv s1 ⟨x,H1,I1,r1,q1⟩=>?_) hs hw
 rw[h1]
 exact cv (hg pins s1 σ H1 x v _ I1 r1 q1) λ_ s2 q=>q
def pC {i:Nat}{x:Str}{e:Expr}{te:TE}{pos':Pos}(hN:X.N.Nodup)(hi:X.N[i]? =some x)(hx:Loc X.env.scope x)(he:PE X e te)(hs:swapsWith e (some (.Name x pos')) pos.line X.env=pure false:=by rfl)(hf:X.fn x=true\/X.env.scope.names.lookup x=some .local:=by first |exact .inl rfl |exact .inr rfl |assumption) :
  PS X (.Assign [.Name x pos'] e pos) (Ki te (k6 i)):=by
 intro pins s σ H D I h
 refine wpAny_Assign_Name (cv (he pins s σ H _ I h) λv s1 ⟨y,H1,I1,r1,q1⟩=>?_) hs
 exact uW I1 hN hi hx r1 (λs2 I2=>⟨_,H1,I2,q1⟩) hf
end
section
variable {X:Cx}{pos:Pos}
def GK (c:TT)(tb:TS):TS:=λD σ H=>∃W:Nat->St->Hp->Prop,(∃m,W m σ H)/\∀m σ H,W m σ H->
 c σ H λb H1=>if b=true then ∃N:St->Hp->Prop,(∀σ' H',N σ' H'->∃m',m' < m/\W m' σ' H')/\tb {D with nx:=N,ct:=N,bk:=D.nx} σ H1 else D.nx σ H1
theorem Dh {c:Expr}{body:List Stmt}{tc:TT}{tb:TS}(hp:PassesOwn (model X.prog X.w) X.A X.env X.xe)(hc:PT X c tc)(hb:qN X body tb):PS X (.While c body [] pos) (GK tc tb):=by
 intro pins s σ H D I h
 obtain⟨W,⟨m0,w0⟩,turn⟩:=h
 refine wpAny_While (codeAny_whileLoop (λn s'=>∃σ' H',Inv X pins σ' H' s'/\W n σ' H') ?_ m0 ⟨σ,H,I,w0⟩)
 rintro n s1 ⟨σ1,H1,I1,w1⟩
 refine Ox hp (cv (hc pins s1 σ1 H1 _ I1 (turn n σ1 H1 w1)) λb s2 ⟨H2,I2,q2⟩=>?_)
 cases b with
 |true=>
  obtain⟨N,hN,q2⟩:=q2
  rw[MA rfl]
  refine Ox hp (cv (hb pins s2 σ1 H2 _ I2 q2) λf s3 q3=>?_)
  cases f with
  |next=>
   obtain⟨σ3,H3,I3,n3⟩:=q3
   obtain⟨m',hm,w3⟩:=hN σ3 H3 n3
   exact⟨m',hm,σ3,H3,I3,w3⟩
  |cont=>
   obtain⟨σ3,H3,I3,n3⟩:=q3
   obtain⟨m',hm,w3⟩:=hN σ3 H3 n3
   exact⟨m',hm,σ3,H3,I3,w3⟩
  |brk=>exact q3
  |ret v=>exact q3
 |false=>
  rw[MF M9]
  exact wpAny_execs_nil ⟨σ1,H2,I2,q2⟩
end
structure It where
 go:Nat->Hp->Prop
 yld:Nat->Hp->V->Hp->Prop
 stop:Nat->Hp->Prop
def mT (X:Cx)(pins:List (Addr×Obj))(H:Hp)(b:Addr):Prop:=
 H b=none/\b≠X.env.locals/\b∉X.fs/\(b∈X.ex\/X.s₀.heap.objs.size<=b)/\(∀x c,X.env.cells.lookup x=some c->c≠b)/\∀p∈X.pn ++ pins,p.1≠b
def Inv.fpOk {X:Cx}{pins:List (Addr×Obj)}{σ:St}{H H':Hp}{s:Shared}{b:Addr}(I:Inv X pins σ H s)(hb:s.heap.objs.size<=b)(hn:H' b=none):mT X pins H' b:=by
 refine⟨hn,Nat.ne_of_gt (M4 I.lt hb),I.nofs hb,.inr (ND I.sz hb),λx c e z=>?_,λp hp z=>?_⟩
 ·obtain⟨v,q⟩:=I.cell x c e
  exact absurd (M4 q.lt (by rw[z];exact hb)) (Nh _)
 ·exact absurd (M4 (MH (I.pin p hp).1) (by rw[z];exact hb)) (Nh _)
structure Turn (P:Program)(w:World)(K:Frag)(tg:Expr)(J:It)(fp:List Addr)(it:Addr)(tn:Nat->Heap->Prop):Prop where
 mem:it∈fp
 obj:∀i h,tn i h->∀b∈fp,∃o,h.get? b=some o/\∀v,o.data≠.cell v
 keep:∀i h h',tn i h->(∀b∈fp,∀o,h.get? b=some o->h'.get? b=some o)->tn i h'
 item:∀(X:Cx),X.prog=P->X.w=w->X.K=K->X.calm=true->∀(i:Nat) (pins:List (Addr×Obj)) (s:Shared) (σ:St) (H:Hp) (E:Value->Shared->Prop),Inv X pins σ H s->(∀b∈fp,mT X pins H b)->tn i s.heap->J.go i H->
  wpAny (model P w) X.A (pyNext (.ref it)) (λr s1=>∃u,r=some u/\
   wpAny (model P w) X.A (letOwnedTupleGo tg (.ref it) u) (λ_ s2=>∃x H',Inv X pins σ H' s2/\RelV x u/\J.yld i H x H'/\tn (i + 1) s2.heap/\∀b∈fp,H' b=none) E s1) E s
 done:∀(X:Cx),X.prog=P->X.w=w->X.K=K->X.calm=true->∀(i:Nat) (pins:List (Addr×Obj)) (s:Shared) (σ:St) (H:Hp) (E:Value->Shared->Prop),Inv X pins σ H s->(∀b∈fp,mT X pins H b)->tn i s.heap->J.stop i H->
  wpAny (model P w) X.A (pyNext (.ref it)) (λr s1=>r=none/\Inv X pins σ H s1) E s
 self:∀(A:Around) (i:Nat) (s:Shared) (Q:Value->Shared->Prop) (E:Value->Shared->Prop),tn i s.heap->Q (.ref it) s->wpAny (model P w) A (pyIter (.ref it)) Q E s
abbrev TI:=St->Hp->(It->Hp->Prop)->Prop
def K7 (X:Cx)(pins:List (Addr×Obj))(σ:St)(tg:Expr)(R:It->Hp->Prop)(itv:Value)(s2:Shared):Prop:=
 ∃(it:Addr) (fp:List Addr) (tn:Nat->Heap->Prop) (J:It) (H':Hp),itv=.ref it/\Inv X pins σ H' s2/\Turn X.prog X.w X.K tg J fp it tn/\tn 0 s2.heap/\(∀b∈fp,mT X pins H' b)/\R J H'
def PI (X:Cx)(tg iter:Expr)(wi:TI):Prop:=
 ∀(pins:List (Addr×Obj)) (s:Shared) (σ:St) (H:Hp) (R:It->Hp->Prop),Inv X pins σ H s->wi σ H R->
  wpAny (model X.prog X.w) X.A (eval iter X.env) (λv s1=>wpAny (model X.prog X.w) X.A (pyIter v) (K7 X pins σ tg R) X.xe s1) X.xe s
def yM {M:Model}{A:Around}{E:Value->Shared->Prop}{s:Shared}{tg:Expr}{it:Addr}{u:Value}{o:Obj}{n:String}{vs:Array Value}{Q:Unit->Shared->Prop}(ho:s.heap.get? it=some o)(hc:o.cls=.type n)(hd:o.data=.fields vs)
  (hn: ["enumerate","zip","dict_itemiterator","dict_reverseitemiterator","odict_iterator","itertools.zip_longest","itertools.pairwise"].contains n=false) (hQ:Q () s):wpAny M A (letOwnedTupleGo tg (.ref it) u) Q E s:=by
 unfold letOwnedTupleGo
 cases tg <;> first
  |exact Mz hQ
  | (cases u <;> first
    |exact Mz hQ
    | (refine Mv (wpAny_load ho ?_)
       rw[hc,hd]
       show wpAny M A (if (["enumerate","zip","dict_itemiterator","dict_reverseitemiterator","odict_iterator","itertools.zip_longest","itertools.pairwise"].contains n && vs[0]? == some (rawInt _))=true then _ else _) Q E s
       rw[MF (by intro h;rw[hn,Bool.false_and] at h;cases h)]
       exact Mz hQ))
def zx (K:Frag)(a:Addr):It:=
 ⟨λi H=>∃xs x,eY K H a xs/\xs[i]? =some x,λi H x H'=>H'=H/\∀xs,eY K H a xs->xs[i]? =some x,λi H=>∃xs,eY K H a xs/\xs.length<=i⟩
def Gq (K:Frag)(a:Addr):It:=
 ⟨λi H=>∃xs x,eV K H a xs/\xs[i]? =some x,λi H x H'=>H'=H/\∀xs,eV K H a xs->xs[i]? =some x,λi H=>∃xs,eV K H a xs/\xs.length<=i⟩
def zR (lo:Int)(n:Nat):It:=⟨λi _=>i < n,λi H x H'=>H'=H/\x=.int (lo + i),λi _=>n<=i⟩
def mP {P:Program}{w:World}{K:Frag}{tg:Expr}(a it:Addr):Turn P w K tg (zx K a) [it] it (λi h=>h.IsListIter it a i) where
 mem:=by simp
 obj:=λi h st b hb=>by
  have e:b=it:=by simpa using hb
  subst e
  obtain⟨o,e,c,d⟩:=st
  exact⟨o,e,λv z=>by rw[d] at z;cases z⟩
 keep:=λi h h' st k=>st.at λo e=>k it (by simp) o e
 item:=by
  intro X hP hw hK hc i pins s σ H E I hf st hg
  subst hP hw hK
  obtain⟨xs,x,hq,hx⟩:=hg
  obtain⟨its,rv,p,hz⟩:=I.list hq
  obtain⟨u,hu,ru⟩:=rv.get hx
  obtain⟨f0,f1,f2,f3,f4,f5⟩:=hf it (by simp)
  refine wpAny_pyNext_list_item st p.isList (x:=u) (by simpa using hu) λh' st' sb=>?_
  have I1:Inv X pins σ H {s with heap:=h'}:=I.turned (t':=s.toks) (λb o hb e=>(sb.2 b hb).trans e) f0 f1 f3 f4 f5
  obtain⟨o,e,c,d⟩:=id st'
  exact⟨u,rfl,yM (s:={s with heap:=h'}) e c d (by decide) ⟨x,H,I1,ru,⟨rfl,λys hy=>by rw[I.list_inj hy hq];exact hx⟩,st',λb hb=>(hf b hb).1⟩⟩
 done:=by
  intro X hP hw hK hc i pins s σ H E I hf st hg
  subst hP hw hK
  obtain⟨xs,hq,hx⟩:=hg
  obtain⟨its,rv,p,hz⟩:=I.list hq
  obtain⟨f0,f1,f2,f3,f4,f5⟩:=hf it (by simp)
  have hl:=rv.length
  exact wpAny_pyNext_list_end (I.ok.hd hc) st p.isList (by simp;omega) λh' eb=>⟨rfl,I.turned (t':=s.toks) (λb o hb e=>eb b o hb e) f0 f1 f3 f4 f5⟩
 self:=λ_ _ _ _ _ st h=>wpAny_pyIter_listiter st h
def pV {P:Program}{w:World}{K:Frag}{tg:Expr}(a it:Addr):Turn P w K tg (Gq K a) [it] it (λi h=>h.IsTupleIter it a i) where
 mem:=by simp
 obj:=λi h st b hb=>by
  have e:b=it:=by simpa using hb
  subst e
  obtain⟨o,e,c,d⟩:=st
  exact⟨o,e,λv z=>by rw[d] at z;cases z⟩
 keep:=λi h h' st k=>st.at λo e=>k it (by simp) o e
 item:=by
  intro X hP hw hK hc i pins s σ H E I hf st hg
  subst hP hw hK
  obtain⟨xs,x,hq,hx⟩:=hg
  obtain⟨its,rv,p,hz⟩:=I.tuple hq
  obtain⟨u,hu,ru⟩:=rv.get hx
  obtain⟨f0,f1,f2,f3,f4,f5⟩:=hf it (by simp)
  refine wpAny_pyNext_tuple_item st (show s.heap.IsTuple a its.toArray from p) (x:=u) (by simpa using hu) λh' st' sb=>?_
  have I1:Inv X pins σ H {s with heap:=h'}:=I.turned (t':=s.toks) (λb o hb e=>(sb.2 b hb).trans e) f0 f1 f3 f4 f5
  obtain⟨o,e,c,d⟩:=id st'
  exact⟨u,rfl,yM (s:={s with heap:=h'}) e c d (by decide) ⟨x,H,I1,ru,⟨rfl,λys hy=>by rw[I.tuple_inj hy hq];exact hx⟩,st',λb hb=>(hf b hb).1⟩⟩
 done:=by
  intro X hP hw hK hc i pins s σ H E I hf st hg
  subst hP hw hK
  obtain⟨xs,hq,hx⟩:=hg
  obtain⟨its,rv,p,hz⟩:=I.tuple hq
  obtain⟨f0,f1,f2,f3,f4,f5⟩:=hf it (by simp)
  have hl:=rv.length
  exact wpAny_pyNext_tuple_end (I.ok.hd hc) st (show s.heap.IsTuple a its.toArray from p) (by simp;omega) λh' eb=>⟨rfl,I.turned (t':=s.toks) (λb o hb e=>eb b o hb e) f0 f1 f3 f4 f5⟩
 self:=λ_ _ _ _ _ st h=>wpAny_pyIter_tupleiter st h
def wU {P:Program}{w:World}{K:Frag}{tg:Expr}(it:Addr)(lo:Int)(n:Nat):Turn P w K tg (zR lo n) [it] it (λi h=>IsRangeIter h it (lo + (i:Nat) * 1) ((n:Int) - (i:Nat)) 1) where
 mem:=by simp
 obj:=λi h st b hb=>by
  have e:b=it:=by simpa using hb
  subst e
  exact⟨_,st,λv z=>by
   have z':Data.fields _=Data.cell v:=z
   cases z'⟩
 keep:=λi h h' st k=>k it (by simp) _ st
 item:=by
  intro X hP hw hK hc i pins s σ H E I hf st hg
  subst hP hw hK
  obtain⟨f0,f1,f2,f3,f4,f5⟩:=hf it (by simp)
  have W:=Walks.range (prog:=X.prog) (w:=X.w) (I.ok.hd hc) it lo 1 n
  refine W.item i s _ _ hg st λv h' tk hv st' kk=>?_
  obtain⟨t,rfl⟩:=hv
  have I1:Inv X pins σ H {s with heap:=h',toks:=tk}:=I.turned (λb o hb e=>kk b o (by simpa using hb) e) f0 f1 f3 f4 f5
  refine⟨_,rfl,yM (s:={s with heap:=h',toks:=tk}) (n:="range_iterator") st' rfl rfl (by decide) ⟨.int (lo + i),H,I1,⟨t,?_⟩,⟨rfl,rfl⟩,st',λb hb=>(hf b hb).1⟩⟩
  rw[Int.mul_one]
 done:=by
  intro X hP hw hK hc i pins s σ H E I hf st hg
  subst hP hw hK
  obtain⟨f0,f1,f2,f3,f4,f5⟩:=hf it (by simp)
  exact wpAny_pyNext_range_end (I.ok.hd hc) st (by have:n<=i:=hg;omega) λh' eb=>⟨rfl,I.turned (t':=s.toks) (λb o hb e=>eb b o hb e) f0 f1 f3 f4 f5⟩
 self:=λ_ _ _ _ _ st h=>wpAny_pyIter_rangeiter st h
section
variable {X:Cx}{tg:Expr}
def JM (K:Frag)(tl:TE):TI:=λσ H R=>tl σ H λx H1=>∃a,x=.ref a/\(∃xs,eY K H1 a xs)/\R (zx K a) H1
def za {l:Expr}{tl:TE}(hl:PE X l tl):PI X tg l (JM X.K tl):=by
 intro pins s σ H R I h
 refine cv (hl pins s σ H _ I h) λv s1 ⟨x,H1,I1,r1,q1⟩=>?_
 obtain⟨a,e,⟨xs,hq⟩,q⟩:=q1
 subst e
 cases r1
 obtain⟨its,rv,p,hz⟩:=I1.list hq
 refine O2 p.isList ?_
 refine⟨s1.heap.objs.size,[s1.heap.objs.size],_,_,H1,rfl,I1.kept (t':=s1.toks) λb o e=>Mw _ e,mP a _,⟨_,MN _ rfl,rfl,rfl⟩,λb hb=>?_,q⟩
 have e:b=s1.heap.objs.size:=by simpa using hb
 subst e
 exact I1.fpOk (My _) (I1.hok.fresh (My _))
def vB {pins:List (Addr×Obj)}{σ:St}{H:Hp}{s:Shared}{R:It->Hp->Prop}{E:Value->Shared->Prop}{lo hi:Int}{t u v:Tok}{tk:Nat}(I:Inv X pins σ H s)(h1: -(2 ^ 62)<=lo)(h2:lo < 2 ^ 62)(h3: -(2 ^ 62)<=hi)(h4:hi < 2 ^ 62)
  (q:R (zR lo (hi - lo).toNat) H):wpAny (model X.prog X.w) X.A (pyIter (.ref s.heap.objs.size)) (K7 X pins σ tg R) E {s with heap:=s.heap.push {cls:=.type "range",data:=.fields #[.int lo t,.int hi u,.int 1 v]},toks:=tk}:=by
 refine wpAny_pyIter_range (IsRange.new ..) (small_one h1 h2 h3 h4) ?_
 have I1:Inv X pins σ H {s with heap:=s.heap.push {cls:=.type "range",data:=.fields #[.int lo t,.int hi u,.int 1 v]},toks:=tk}:=I.kept λb o e=>Mw _ e
 refine⟨(s.heap.push {cls:=.type "range",data:=.fields #[.int lo t,.int hi u,.int 1 v]}).objs.size,[(s.heap.push {cls:=.type "range",data:=.fields #[.int lo t,.int hi u,.int 1 v]}).objs.size],_,_,H,rfl,
  I1.kept (t':=tk) λb o e=>Mw _ e,wU _ lo (hi - lo).toNat,?_,λb hb=>?_,q⟩
 ·have e1:lo + ((0:Nat):Int) * 1=lo:=by simp
  have e2:(((hi - lo).toNat:Nat):Int) - ((0:Nat):Int)=Builtin.Range.rangeSize lo hi 1:=by rw[rangeSize_one];split <;> omega
  show IsRangeIter _ _ (lo + ((0:Nat):Int) * 1) ((((hi - lo).toNat:Nat):Int) - ((0:Nat):Int)) 1
  rw[e1,e2]
  exact MN _ rfl
 ·have e:b=(s.heap.push {cls:=.type "range",data:=.fields #[.int lo t,.int hi u,.int 1 v]}).objs.size:=by simpa using hb
  subst e
  exact I1.fpOk (My _) (I1.hok.fresh (My _))
def Km (ta:TA):TI:=λσ H R=>ta σ H λvs H1=>∃j:Int,vs= [.int j]/\ -(2 ^ 62)<=j/\j < 2 ^ 62/\R (zR 0 j.toNat) H1
def J0 (ta:TA):TI:=λσ H R=>ta σ H λvs H1=>∃i j:Int,vs= [.int i,.int j]/\(-(2 ^ 62)<=i/\i < 2 ^ 62/\ -(2 ^ 62)<=j/\j < 2 ^ 62)/\R (zR i (j - i).toNat) H1
theorem kI {a:Expr}{ta:TA}{p pos:Pos}(hg:Gl X "range")(hm:X.mg "range"=none)(ha:PA X [a] ta)(hs:starEach [a] X.env= [(false,eval a X.env)]:=by rfl):PI X tg (.Call (.Name "range" p) [a] [] pos) (Km ta):=by
 intro pins s σ H R I h
 refine Call_ (kj I hg hm boot_range (NT (cv (ha pos pins s σ H _ I h) λus s1 ⟨vs,H1,I1,r1,q1⟩=>?_) hs rfl))
 obtain⟨j,e,q1,q2,q⟩:=q1
 subst e
 cases r1 with
 |cons r rr=>
  cases rr
  obtain⟨t,rfl⟩:=r
  exact call_range_1 (vB I1 (by omega) (by omega) q1 q2 (by simpa using q))
theorem Au {a b:Expr}{ta:TA}{p pos:Pos}(hg:Gl X "range")(hm:X.mg "range"=none)(ha:PA X [a,b] ta)(hs:starEach [a,b] X.env= [(false,eval a X.env),(false,eval b X.env)]:=by rfl)(hs2:starEach [b] X.env= [(false,eval b X.env)]:=by rfl) :
  PI X tg (.Call (.Name "range" p) [a,b] [] pos) (J0 ta):=by
 intro pins s σ H R I h
 refine Call_ (kj I hg hm boot_range (NT (cv (ha pos pins s σ H _ I h) λus s1 ⟨vs,H1,I1,r1,q1⟩=>?_) (by rw[hs,hs2]) (by rw[hs2];rfl)))
 obtain⟨i,j,e,⟨q1,q2,q3,q4⟩,q⟩:=q1
 subst e
 cases r1 with
 |cons r rr=>
  cases rr with
  |cons r' rr=>
   cases rr
   obtain⟨t,rfl⟩:=r
   obtain⟨t',rfl⟩:=r'
   exact call_range_2 (vB I1 q1 q2 q3 q4 q)
def LV (wi:TI)(g:TG)(tb:TS):TS:=λD σ H=>wi σ H λJ H1=>∃W:Nat->Nat->St->Hp->Prop,(∃m,W 0 m σ H1)/\∀i m σ H,W i m σ H->
 (J.stop i H/\D.nx σ H)\/(J.go i H/\∃N:St->Hp->Prop,(∀σ' H',N σ' H'->∃m',m' < m/\W (i + 1) m' σ' H')/\∀x H',J.yld i H x H'->g x σ H' λσ2 H2=>tb {D with nx:=N,ct:=N,bk:=D.nx} σ2 H2)
def oQ (fp:List Addr)(h:Heap):List (Addr×Obj):=fp.filterMap λb=>(h.get? b).map λo=>(b,o)
def jy {fp:List Addr}{h:Heap}{b:Addr}{o:Obj}(hb:b∈fp)(e:h.get? b=some o):(b,o)∈oQ fp h:=Oa.mpr ⟨b,hb,by rw[e];rfl⟩
theorem zJ {fp:List Addr}{h:Heap}{p:Addr×Obj}(hp:p∈oQ fp h):p.1∈fp/\h.get? p.1=some p.2:=by
 obtain⟨b,hb,e⟩:=Oa.mp hp
 cases q:h.get? b with
 |none=>rw[q] at e;cases e
 |some o=>
  rw[q] at e
  have e':(b,o)=p:=Option.some.inj e
  subst e'
  exact⟨hb,q⟩
def Inv.pinned {pins:List (Addr×Obj)}{σ:St}{H:Hp}{s:Shared}{fp:List Addr}(I:Inv X pins σ H s)(hf:∀b∈fp,mT X pins H b)(ho:∀b∈fp,∃o,s.heap.get? b=some o/\∀v,o.data≠.cell v):Inv X (pins ++ oQ fp s.heap) σ H s:=
 I.pins_of λp hp=>(M1.mp hp).elim (λz=>I.pin p (Ni _ z)) λz=>by
  obtain⟨hb,e⟩:=zJ z
  obtain⟨f0,f1,f2,_⟩:=hf p.1 hb
  obtain⟨o,e',d⟩:=ho p.1 hb
  rw[e] at e';cases e'
  exact⟨e,f0,f1,f2,d⟩
def Inv.unpinned {pins pl:List (Addr×Obj)}{σ:St}{H:Hp}{s:Shared}(I:Inv X (pins ++ pl) σ H s):Inv X pins σ H s:=I.pins_of λp hp=>I.pin p (Ni _ (NU _ hp))
def tO {iter:Expr}{body:List Stmt}{wi:TI}{g:TG}{tb:TS}{pos:Pos}(hp:PassesOwn (model X.prog X.w) X.A X.env X.xe)(hc:X.calm=true)(hi:PI X tg iter wi)(hg:PG X tg g)(hb:qN X body tb)
  (hs:∀x,foldedSetIterable iter X.env x=pure x:=by intro _;rfl):PS X (.For tg iter body [] pos) (LV wi g tb):=by
 intro pins s σ H D I h
 refine wpAny_For (cv (hi pins s σ H _ I h) λv s1 h1=>cv h1 λitv s2 h2=>?_) hs
 obtain⟨it,fp,tn,J,H2,e,I2,T,st2,f2,W,⟨m0,w0⟩,turn⟩:=h2
 subst e
 have stat:∀{H':Hp},(∀b∈fp,H' b=none)->∀b∈fp,mT X pins H' b:=λhn b hb=>⟨hn b hb,(f2 b hb).2⟩
 refine codeAny_forLoop_any (λn s'=>∃i σ' H',Inv X pins σ' H' s'/\tn i s'.heap/\(∀b∈fp,H' b=none)/\W i n σ' H') ?_ m0 ⟨0,σ,H2,I2,st2,λb hb=>(f2 b hb).1,w0⟩
 rintro n s3 ⟨i,σ3,H3,I3,st3,fr3,w3⟩
 rcases turn i n σ3 H3 w3 with⟨stop,qn⟩ | ⟨go,N,hN,step⟩
 ·refine Ox hp (cv (T.done X rfl rfl rfl hc i pins s3 σ3 H3 X.xe I3 (stat fr3) st3 stop) λr s4 ⟨hr,I4⟩=>?_)
  subst hr
  exact wpAny_execs_nil ⟨σ3,H3,I4,qn⟩
 ·refine Ox hp (cv (T.item X rfl rfl rfl hc i pins s3 σ3 H3 X.xe I3 (stat fr3) st3 go) λr s4 ⟨u,hr,h4⟩=>?_)
  subst hr
  refine Ox hp (cv h4 λ_ s5 ⟨x,H5,I5,r5,y5,st5,fr5⟩=>?_)
  have I5':=I5.pinned (stat fr5) (T.obj _ _ st5)
  refine Ox hp (cv (hg _ s5 σ3 H5 x u _ I5' r5 (step x H5 y5)) λ_ s6 ⟨σ6,H6,I6,q6⟩=>?_)
  refine Ox hp (cv (hb _ s6 σ6 H6 _ I6 q6) λf s7 q7=>?_)
  have again:∀{σ7:St} {H7:Hp},Inv X (pins ++ oQ fp s5.heap) σ7 H7 s7->N σ7 H7->∃m,m < n/\∃i σ' H',Inv X pins σ' H' s7/\tn i s7.heap/\(∀b∈fp,H' b=none)/\W i m σ' H':=λ{σ7 H7} I7 n7=>by
   obtain⟨m',hm,w7⟩:=hN σ7 H7 n7
   refine⟨m',hm,i + 1,σ7,H7,I7.unpinned,T.keep _ _ _ st5 λb hb o e=>(I7.pin (b,o) (Ni _ (Ni _ (jy hb e)))).1,λb hb=>?_,w7⟩
   obtain⟨o,e,d⟩:=T.obj _ _ st5 b hb
   exact (I7.pin (b,o) (Ni _ (Ni _ (jy hb e)))).2.1
  cases f with
  |next=>obtain⟨σ7,H7,I7,n7⟩:=q7;exact again I7 n7
  |cont=>obtain⟨σ7,H7,I7,n7⟩:=q7;exact again I7 n7
  |brk=>obtain⟨σ7,H7,I7,q7⟩:=q7;exact⟨σ7,H7,I7.unpinned,q7⟩
  |ret v=>obtain⟨x7,σ7,H7,I7,r7,q7⟩:=q7;exact⟨x7,σ7,H7,I7.unpinned,r7,q7⟩
end
def vS {K:Frag}{a:Addr}{xs:List V}{g:TG}{tb:TS}{D:Ends}{σ:St}{H:Hp}(Pv:Nat->St->Hp->Prop)(h0:Pv 0 σ H)(hl:∀i σ H,i<=xs.length->Pv i σ H->eY K H a xs)
  (hs:∀i x σ H,xs[i]? =some x->Pv i σ H->g x σ H λσ2 H2=>tb {D with nx:=Pv (i + 1),ct:=Pv (i + 1),bk:=D.nx} σ2 H2) (hd:∀σ H,Pv xs.length σ H->D.nx σ H) :
  ∃W:Nat->Nat->St->Hp->Prop,(∃m,W 0 m σ H)/\∀i m σ H,W i m σ H->
   ((zx K a).stop i H/\D.nx σ H)\/((zx K a).go i H/\∃N:St->Hp->Prop,(∀σ' H',N σ' H'->∃m',m' < m/\W (i + 1) m' σ' H')/\∀x H',(zx K a).yld i H x H'->g x σ H' λσ2 H2=>tb {D with nx:=N,ct:=N,bk:=D.nx} σ2 H2):=by
 refine⟨λi m σ H=>m=xs.length - i/\i<=xs.length/\Pv i σ H,⟨xs.length,by simp,Nd _,h0⟩,?_⟩
 rintro i m σ H ⟨rfl,hi,p⟩
 have q:=hl i σ H hi p
 by_cases hlt:i < xs.length
 ·refine .inr ⟨⟨xs,xs[i],q,by simp[hlt]⟩,Pv (i + 1),λσ' H' p'=>⟨xs.length - (i + 1),by omega,rfl,hlt,p'⟩,λx H' y=>?_⟩
  obtain⟨e,y⟩:=y
  subst e
  exact hs i x σ _ (y xs q) p
 ·have e:i=xs.length:=by omega
  subst e
  exact .inl ⟨⟨xs,q,My _⟩,hd σ H p⟩
def Fq {K:Frag}{a:Addr}{xs:List V}{g:TG}{tb:TS}{D:Ends}{σ:St}{H:Hp}(Pv:Nat->St->Hp->Prop)(h0:Pv 0 σ H)(hl:∀i σ H,i<=xs.length->Pv i σ H->eV K H a xs)
  (hs:∀i x σ H,xs[i]? =some x->Pv i σ H->g x σ H λσ2 H2=>tb {D with nx:=Pv (i + 1),ct:=Pv (i + 1),bk:=D.nx} σ2 H2) (hd:∀σ H,Pv xs.length σ H->D.nx σ H) :
  ∃W:Nat->Nat->St->Hp->Prop,(∃m,W 0 m σ H)/\∀i m σ H,W i m σ H->
   ((Gq K a).stop i H/\D.nx σ H)\/((Gq K a).go i H/\∃N:St->Hp->Prop,(∀σ' H',N σ' H'->∃m',m' < m/\W (i + 1) m' σ' H')/\∀x H',(Gq K a).yld i H x H'->g x σ H' λσ2 H2=>tb {D with nx:=N,ct:=N,bk:=D.nx} σ2 H2):=by
 refine⟨λi m σ H=>m=xs.length - i/\i<=xs.length/\Pv i σ H,⟨xs.length,by simp,Nd _,h0⟩,?_⟩
 rintro i m σ H ⟨rfl,hi,p⟩
 have q:=hl i σ H hi p
 by_cases hlt:i < xs.length
 ·refine .inr ⟨⟨xs,xs[i],q,by simp[hlt]⟩,Pv (i + 1),λσ' H' p'=>⟨xs.length - (i + 1),by omega,rfl,hlt,p'⟩,λx H' y=>?_⟩
  obtain⟨e,y⟩:=y
  subst e
  exact hs i x σ _ (y xs q) p
 ·have e:i=xs.length:=by omega
  subst e
  exact .inl ⟨⟨xs,q,My _⟩,hd σ H p⟩
def AR {lo:Int}{n:Nat}{g:TG}{tb:TS}{D:Ends}{σ:St}{H:Hp}(Pv:Nat->St->Hp->Prop)(h0:Pv 0 σ H)
  (hs:∀i σ H,i < n->Pv i σ H->g (.int (lo + i)) σ H λσ2 H2=>tb {D with nx:=Pv (i + 1),ct:=Pv (i + 1),bk:=D.nx} σ2 H2) (hd:∀σ H,Pv n σ H->D.nx σ H) :
  ∃W:Nat->Nat->St->Hp->Prop,(∃m,W 0 m σ H)/\∀i m σ H,W i m σ H->
   ((zR lo n).stop i H/\D.nx σ H)\/((zR lo n).go i H/\∃N:St->Hp->Prop,(∀σ' H',N σ' H'->∃m',m' < m/\W (i + 1) m' σ' H')/\∀x H',(zR lo n).yld i H x H'->g x σ H' λσ2 H2=>tb {D with nx:=N,ct:=N,bk:=D.nx} σ2 H2):=by
 refine⟨λi m σ H=>m=n - i/\i<=n/\Pv i σ H,⟨n,by simp,Nd _,h0⟩,?_⟩
 rintro i m σ H ⟨rfl,hi,p⟩
 by_cases hlt:i < n
 ·refine .inr ⟨hlt,Pv (i + 1),λσ' H' p'=>⟨n - (i + 1),by omega,rfl,hlt,p'⟩,λx H' y=>?_⟩
  obtain⟨e,y⟩:=y
  subst e y
  exact hs i σ _ hlt p
 ·have e:i=n:=by omega
  subst e
  exact .inl ⟨My _,hd σ H p⟩
abbrev R2:=V->V->Hp->VK->Prop
def lO (X:Cx)(f:Value->Value->Sem Value)(r:R2):Prop:=
 ∀(pins:List (Addr×Obj)) (s:Shared) (σ:St) (H:Hp) (x y:V) (v u:Value) (Q:VK),Inv X pins σ H s->RelV x v->RelV y u->r x y H Q->
  wpAny (model X.prog X.w) X.A (f v u) (EP X pins σ Q) X.xe s
def KL (X:Cx)(f:Value->Sem Value)(r:V->Hp->VK->Prop):Prop:=
 ∀(pins:List (Addr×Obj)) (s:Shared) (σ:St) (H:Hp) (x:V) (v:Value) (Q:VK),Inv X pins σ H s->RelV x v->r x H Q->
  wpAny (model X.prog X.w) X.A (f v) (EP X pins σ Q) X.xe s
def cL (X:Cx)(f:Value)(r:List V->Hp->VK->Prop):Prop:=
 ∀(pins:List (Addr×Obj)) (s:Shared) (σ:St) (H:Hp) (xs:List V) (us:List Value) (Q:VK),Inv X pins σ H s->Vals xs us->r xs H Q->
  wpAny (model X.prog X.w) X.A (call f us) (EP X pins σ Q) X.xe s
def LO (X:Cx)(r:V->Hp->(Bool->Hp->Prop)->Prop):Prop:=
 ∀(pins:List (Addr×Obj)) (s:Shared) (σ:St) (H:Hp) (x:V) (v:Value) (Q:Bool->Hp->Prop),Inv X pins σ H s->RelV x v->r x H Q->
  wpAny (model X.prog X.w) X.A (truthy v) (TP X pins σ Q) X.xe s
def KN (r:R2)(ta tb:TE):TE:=λσ H Q=>ta σ H λx H1=>tb σ H1 λy H2=>r x y H2 Q
def Mj (r:V->Hp->VK->Prop)(ta:TE):TE:=λσ H Q=>ta σ H λx H1=>r x H1 Q
def rI (C:Int->Int->Prop)(g:Int->Int->V):R2:=λx y H Q=>∃i j,x=.int i/\y=.int j/\C i j/\Q (g i j) H
def vc (g:Int->Int->V):R2:=λx y H Q=>∃i j,x=.int i/\y=.int j/\Q (g i j) H
def rU (g:Int->V):V->Hp->VK->Prop:=λx H Q=>∃i,x=.int i/\Q (g i) H
section
variable {X:Cx}{a b c:Expr}{ta tb tc:TE}{pos:Pos}
def G7 (ha:PE X a ta)(hb:PE X b tb){pins:List (Addr×Obj)}{s:Shared}{σ:St}{H:Hp}{R:V->V->Hp->Prop}(I:Inv X pins σ H s)
  (h:ta σ H λx H1=>tb σ H1 λy H2=>R x y H2) {Q:Value->Shared->Prop} {f:Value->Value->Sem Value}
  (hf:∀v u s2 x y H2,Inv X pins σ H2 s2->RelV x v->RelV y u->R x y H2->wpAny (model X.prog X.w) X.A (f v u) Q X.xe s2) :
  wpAny (model X.prog X.w) X.A (eval a X.env) (λv s₁=>wpAny (model X.prog X.w) X.A (eval b X.env) (λu s₂=>wpAny (model X.prog X.w) X.A (f v u) Q X.xe s₂) X.xe s₁) X.xe s:=by
 refine cv (ha pins s σ H _ I h) λv s1 ⟨x,H1,I1,r1,q1⟩=>?_
 refine cv (hb pins s1 σ H1 _ I1 q1) λu s2 ⟨y,H2,I2,r2,q2⟩=>?_
 exact hf v u s2 x y H2 I2 r1 r2 q2
def qQ {op:Operator}{r:R2}(ho:lO X (binaryOp op) r)(ha:PE X a ta)(hb:PE X b tb):PE X (.BinOp a op b pos) (KN r ta tb):=by
 intro pins s σ H Q I h
 exact wpAny_BinOp (G7 ha hb I h λv u s2 x y H2 I2 rx ry q=>ho pins s2 σ H2 x y v u Q I2 rx ry q)
def Gg {op:UnaryOp}{r:V->Hp->VK->Prop}(ho:KL X (unaryOp op) r)(ha:PE X a ta):PE X (.UnaryOp op a pos) (Mj r ta):=by
 intro pins s σ H Q I h
 exact UnaryOp_ (cv (ha pins s σ H _ I h) λv s1 ⟨x,H1,I1,r1,q1⟩=>ho pins s1 σ H1 x v Q I1 r1 q1)
def KC {f:Value->Value->Sem Value}{C:Int->Int->Prop}{g:Int->Int->Int}
  (rule:∀(i j:Int) (t u:Tok) (s:Shared) (Q:Value->Shared->Prop) (E:Value->Shared->Prop),C i j->Q (.int (g i j) s.toks) {s with toks:=s.toks + 1}->wpAny (model X.prog X.w) X.A (f (.int i t) (.int j u)) Q E s) :
  lO X f (rI C λi j=>.int (g i j)):=by
 intro pins s σ H x y v u Q I rx ry h
 obtain⟨i,j,rfl,rfl,hc,q⟩:=h
 obtain⟨t,rfl⟩:=rx
 obtain⟨t',rfl⟩:=ry
 exact rule i j t t' s _ _ hc ⟨.int (g i j),H,I.tok _,⟨_,rfl⟩,q⟩
def El {f:Value->Value->Sem Value}{g:Int->Int->Int}
  (rule:∀(i j:Int) (t u:Tok) (s:Shared) (Q:Value->Shared->Prop) (E:Value->Shared->Prop),Q (.int (g i j) s.toks) {s with toks:=s.toks + 1}->wpAny (model X.prog X.w) X.A (f (.int i t) (.int j u)) Q E s) :
  lO X f (vc λi j=>.int (g i j)):=by
 intro pins s σ H x y v u Q I rx ry h
 obtain⟨i,j,rfl,rfl,q⟩:=h
 obtain⟨t,rfl⟩:=rx
 obtain⟨t',rfl⟩:=ry
 exact rule i j t t' s _ _ ⟨.int (g i j),H,I.tok _,⟨_,rfl⟩,q⟩
def Ia {f:Value->Value->Sem Value}{g:Int->Int->Bool}
  (rule:∀(i j:Int) (t u:Tok) (s:Shared) (Q:Value->Shared->Prop) (E:Value->Shared->Prop),Q (.bool (g i j)) s->wpAny (model X.prog X.w) X.A (f (.int i t) (.int j u)) Q E s) :
  lO X f (vc λi j=>.bl (g i j)):=by
 intro pins s σ H x y v u Q I rx ry h
 obtain⟨i,j,rfl,rfl,q⟩:=h
 obtain⟨t,rfl⟩:=rx
 obtain⟨t',rfl⟩:=ry
 exact rule i j t t' s _ _ ⟨.bl (g i j),H,I,rfl,q⟩
def E7 (i j:Int):Prop:=0 < j/\j < 1073741824
def II (i j:Int):Prop:=0<=j/\j<=1000000/\i.natAbs < 2 ^ 64
def Dc (i j:Int):Prop:=(-(2 ^ 64) < i/\i < 2 ^ 64)\/(-(2 ^ 64) < j/\j < 2 ^ 64)
def Dc.ok {i j:Int}(h:Dc i j):IntMulOk i j:=by
 rcases h with⟨h1,h2⟩ | ⟨h1,h2⟩
 ·exact .of_left (intBits_le_64 h1 h2)
 ·exact .of_right (intBits_le_64 h1 h2)
def iX:lO X (binaryOp .Add) (vc λi j=>.int (i + j)):=El λ_ _ _ _ _ _ _ q=>add_int q
def xw:lO X (binaryOp .Sub) (vc λi j=>.int (i - j)):=El λ_ _ _ _ _ _ _ q=>sub_int q
def kq:lO X (binaryOp .Mult) (rI Dc λi j=>.int (i * j)):=KC λ_ _ _ _ _ _ _ hc q=>mul_int q hc.ok
def lZ:lO X (binaryOp .FloorDiv) (rI E7 λi j=>.int (i / j)):=KC λi j _ _ _ _ _ hc q=>by
 have h1:(0:Int) < j:=hc.1
 have h2:j < 1073741824:=hc.2
 exact floordiv_int (by omega) (by rw[Int.fdiv_eq_ediv_of_nonneg i (by omega)];exact q) (.inl (PyProof.noPylong_small (by omega)))
def lI:lO X (binaryOp .Mod) (rI (λ_ j=>0 < j) λi j=>.int (i % j)):=KC λi j _ _ _ _ _ hc q=>by
 have h1:(0:Int) < j:=hc
 exact mod_int' (by omega) (by rw[Int.fmod_eq_emod_of_nonneg i (by omega)];exact q)
def By:lO X (binaryOp .LShift) (rI II λi j=>.int (i * 2 ^ j.toNat)):=KC λ_ _ _ _ _ _ _ hc q=>lshift_int_small hc.1 hc.2.1 hc.2.2 q
def Ir:lO X (binaryOp .BitAnd) (vc λi j=>.int (Builtin.bitAnd i j)):=El λ_ _ _ _ _ _ _ q=>and_int q
def Ko:lO X (binaryOp .BitOr) (vc λi j=>.int (Builtin.bitOr i j)):=El λ_ _ _ _ _ _ _ q=>or_int q
def Mk {f:Value->Sem Value}{g:Int->Int}
  (rule:∀(i:Int) (t:Tok) (s:Shared) (Q:Value->Shared->Prop) (E:Value->Shared->Prop),Q (.int (g i) s.toks) {s with toks:=s.toks + 1}->wpAny (model X.prog X.w) X.A (f (.int i t)) Q E s) :
  KL X f (rU λi=>.int (g i)):=by
 intro pins s σ H x v Q I rx h
 obtain⟨i,rfl,q⟩:=h
 obtain⟨t,rfl⟩:=rx
 exact rule i t s _ _ ⟨.int (g i),H,I.tok _,⟨_,rfl⟩,q⟩
def tR:KL X (unaryOp .USub) (rU λi=>.int (-i)):=Mk λ_ _ _ _ _ q=>neg_int q
end
section
variable {X:Cx}{a b c:Expr}{ta tb tc:TE}{pos:Pos}
def Hf {pins:List (Addr×Obj)}{σ:St}{H:Hp}{s:Shared}{Q:VK}{k k':Bool}(I:Inv X pins σ H s)(q:Q (.bl k) H)(e:k=k'):EP X pins σ Q (.bool k') s:=by
 subst e
 exact⟨.bl k,H,I,rfl,q⟩
def qR:lO X (compareOp .Lt) (vc λi j=>.bl (decide (i < j))):=Ia λ_ _ _ _ _ _ _ q=>lt_int q
def BR:lO X (compareOp .LtE) (vc λi j=>.bl (decide (i<=j))):=Ia λ_ _ _ _ _ _ _ q=>le_int q
def J9:lO X (compareOp .GtE) (vc λi j=>.bl (decide (j<=i))):=Ia λ_ _ _ _ _ _ _ q=>ge_int q
def bw (b:Expr){op:CmpOp}(h:op≠.In:=by decide)(h2:op≠.NotIn:=by decide):behindInMarks op b=false:=by
 have e1:(op == CmpOp.In)=false:=by cases op <;> first |rfl |exact absurd rfl h
 have e2:(op == CmpOp.NotIn)=false:=by cases op <;> first |rfl |exact absurd rfl h2
 cases b <;> simp[behindInMarks,e1,e2]
def FN {op:CmpOp}{r:R2}(ho:lO X (compareOp op) r)(ha:PE X a ta)(hb:PE X b tb)(hm:behindInMarks op b=false):PE X (.Compare a [op] [b] pos) (KN r ta tb):=by
 intro pins s σ H Q I h
 exact wpAny_Compare1 (G7 ha hb I h λv u s2 x y H2 I2 rx ry q=>ho pins s2 σ H2 x y v u Q I2 rx ry q) hm
def JS (t:TE):TT:=λσ H Q=>t σ H λx H'=>∃k,x=.bl k/\Q k H'
def Eh {op:CmpOp}{r:R2}(ho:lO X (compareOp op) r)(ha:PE X a ta)(hb:PE X b tb)(hm:behindInMarks op b=false):PT X (.Compare a [op] [b] pos) (JS (KN r ta tb)):=by
 intro pins s σ H Q I h
 refine wpAny_isTrue_Compare1 (cv (ha pins s σ H _ I h) λv s1 ⟨x,H1,I1,r1,q1⟩=>cv (hb pins s1 σ H1 _ I1 q1) λu s2 ⟨y,H2,I2,r2,q2⟩=>
  cv (ho pins s2 σ H2 x y v u _ I2 r1 r2 q2) λc s3 ⟨z,H3,I3,r3,k,e,q3⟩=>?_) hm
 subst e
 cases r3
 exact N5 ⟨H3,I3,q3⟩
def Ht (r r':R2)(ta tb tc:TE):TE:=λσ H Q=>ta σ H λx H1=>tb σ H1 λy H2=>r x y H2 λz H3=>∃k,z=.bl k/\
 (if k=true then tc σ H3 λw' H4=>r' y w' H4 Q else Q (.bl false) H3)
theorem BE {op op':CmpOp}{r r':R2}(ho:lO X (compareOp op) r)(ho':lO X (compareOp op') r')(ha:PE X a ta)(hb:PE X b tb)(hc:PE X c tc)
  (hm:lastMarks [op,op'] [b,c]=false:=by with_unfolding_all rfl):PE X (.Compare a [op,op'] [b,c] pos) (Ht r r' ta tb tc):=by
 intro pins s σ H Q I h
 refine Compare_chain (cv (ha pins s σ H _ I h) λv s1 ⟨x,H1,I1,r1,q1⟩=>chain_link (cv (hb pins s1 σ H1 _ I1 q1) λu s2 ⟨y,H2,I2,r2,q2⟩=>
  cv (ho pins s2 σ H2 x y v u _ I2 r1 r2 q2) λd s3 ⟨z,H3,I3,r3,k,e,q3⟩=>?_)) hm
 subst e
 cases r3
 refine N5 ?_
 cases k with
 |false=>exact ite_ff ⟨.bl false,H3,I3,rfl,q3⟩
 |true=>exact ite_tt (chain_last (cv (hc pins s3 σ H3 _ I3 q3) λw' s4 ⟨z',H4,I4,r4,q4⟩=>ho' pins s4 σ H4 y z' u w' Q I4 r2 r4 q4))
def JR (K:Frag)(x:V)(H:Hp)(k:Bool):Prop:=
 match x with
 | .non=>k=false
 | .bl b=>k=b
 | .int i=>k=(i != 0)
 | .str y=>y.length<=sizeLine/\k=((y.length:Int) != 0)
 | .byt y=>y.size<=sizeLine/\k=((y.size:Int) != 0)
 | .ref p=>(∃xs,eY K H p xs/\k= !xs.isEmpty)\/(∃xs,eV K H p xs/\k= !xs.isEmpty)\/∃kvs,H p=some (.dK kvs)/\k= !kvs.isEmpty
 |_=>False
def xy {κ:Type}{kvs:List (κ×V)}{vs:List (κ×Value)}(r:KV kvs vs):(!vs.isEmpty)= !kvs.isEmpty:=by
 cases r <;> rfl
def oZ {xs:List V}{its:List Value}(r:Vals xs its):(!its.toArray.isEmpty)= !xs.isEmpty:=by
 cases r <;> simp
def ni:(sizeLine:Nat) < 2 ^ 63:=by rw[Na];decide
theorem IH:LO X (λx H Q=>∃k,JR X.K x H k/\Q k H):=by
 intro pins s σ H x v Q I rx h
 obtain⟨k,e,q⟩:=h
 have hl:=ni
 have hs:sizeLine=16777216:=Na
 cases x with
 |non=>
  cases rx
  have e':k=false:=e
  subst e'
  exact truthy_none ⟨H,I,q⟩
 |bl b=>
  cases rx
  have e':k=b:=e
  subst e'
  exact N5 ⟨H,I,q⟩
 |int i=>
  obtain⟨t,rfl⟩:=rx
  have e':k=(i != 0):=e
  subst e'
  exact PySem.P.truthy_int ⟨H,I,q⟩
 |str y=>
  obtain⟨t,rfl⟩:=rx
  obtain⟨hy,e'⟩:y.length<=sizeLine/\k=((y.length:Int) != 0):=e
  subst e'
  exact PySem.P.truthy_str (by omega) ⟨H,I.tok _,q⟩
 |byt y=>
  obtain⟨t,rfl⟩:=rx
  obtain⟨hy,e'⟩:y.size<=sizeLine/\k=((y.size:Int) != 0):=e
  subst e'
  exact PySem.W.truthy_bytes (by omega) ⟨H,I.tok _,q⟩
 |ref p=>
  cases rx
  have e':(∃xs,eY X.K H p xs/\k= !xs.isEmpty)\/(∃xs,eV X.K H p xs/\k= !xs.isEmpty)\/∃kvs,H p=some (.dK kvs)/\k= !kvs.isEmpty:=e
  rcases e' with⟨xs,hx,e'⟩ | ⟨xs,hx,e'⟩ | ⟨kvs,hx,e'⟩
  ·subst e'
   obtain⟨its,r,pl,hz⟩:=I.list hx
   have hlen:=r.length
   exact wpAny_truthy_list pl.isList (by simp only[MW];omega) ⟨H,I.tok _,by rw[oZ r];exact q⟩
  ·subst e'
   obtain⟨its,r,pl,hz⟩:=I.tuple hx
   have hlen:=r.length
   exact truthy_tuple pl (by simp only[MW];omega) ⟨H,I.tok _,by rw[oZ r];exact q⟩
  ·subst e'
   obtain⟨hz,hS,vs,r,m⟩:kvs.length<=sizeLine/\(p == sysModules)=false/\∃vs,KV kvs vs/\s.heap.DictOf (sW X.prog X.w) p vs:=I.hok p _ hx
   have hlen:kvs.length=vs.length:=Paired.length r
   exact wpAny_truthy_dict hS m (by omega) ⟨H,I.tok _,by rw[xy r];exact q⟩
 |_=>exact (show False from e).elim
def B9 (ha:PE X a ta)(he:∀whole,isTrue a X.env whole=(do let v <-whole;standAt a.pos;holding [v] (truthy v))) :
  PT X a (λσ H Q=>ta σ H λx H'=>∃k,JR X.K x H' k/\Q k H'):=by
 intro pins s σ H Q I h
 exact isTrue_plain (cv (ha pins s σ H _ I h) λv s1 ⟨x,H1,I1,r1,q1⟩=>IH pins s1 σ H1 x v Q I1 r1 q1) (he _)
theorem vals1 {x:V}{us:List Value}(r:Vals [x] us):∃u,us= [u]/\RelV x u:=by
 cases r with
 |cons r1 r2=>cases r2;exact⟨_,rfl,r1⟩
theorem vals2 {x y:V}{us:List Value}(r:Vals [x,y] us):∃u w',us= [u,w']/\RelV x u/\RelV y w':=by
 cases r with
 |cons r1 r2=>
  cases r2 with
  |cons r3 r4=>cases r4;exact⟨_,_,rfl,r1,r3⟩
def Bg:cL X (.builtin "abs") (λxs H Q=>∃i,xs= [.int i]/\Q (.int (if i < 0 then -i else i)) H):=by
 intro pins s σ H xs us Q I r h
 obtain⟨i,rfl,q⟩:=h
 obtain⟨u,rfl,t,rfl⟩:=vals1 r
 exact call_abs_int λu tk=>⟨.int (if i < 0 then -i else i),H,I.tok _,⟨_,rfl⟩,q⟩
def zT (hc:X.calm=true):cL X (.builtin "max") (λxs H Q=>∃i j,xs= [.int i,.int j]/\Q (.int (if j > i then j else i)) H):=by
 intro pins s σ H xs us Q I r h
 obtain⟨i,j,rfl,q⟩:=h
 obtain⟨u,w',rfl,⟨t,rfl⟩,⟨t',rfl⟩⟩:=vals2 r
 refine max_two_ints (I.ok.hd hc) λh' tk k=>⟨_,H,I.kept k,?_,q⟩
 by_cases hj:j > i
 ·rw[MA hj,MA hj];exact⟨_,rfl⟩
 ·rw[MF hj,MF hj];exact⟨_,rfl⟩
def Ah (hc:X.calm=true):cL X (.builtin "min") (λxs H Q=>∃i j,xs= [.int i,.int j]/\Q (.int (if j < i then j else i)) H):=by
 intro pins s σ H xs us Q I r h
 obtain⟨i,j,rfl,q⟩:=h
 obtain⟨u,w',rfl,⟨t,rfl⟩,⟨t',rfl⟩⟩:=vals2 r
 refine min_two_ints (I.ok.hd hc) λh' tk k=>⟨_,H,I.kept k,?_,q⟩
 by_cases hj:j < i
 ·rw[MA hj,MA hj];exact⟨_,rfl⟩
 ·rw[MF hj,MF hj];exact⟨_,rfl⟩
def JA (K:Frag)(x:V)(H:Hp)(n:Nat):Prop:=
 match x with
 | .str y=>y.length<=sizeLine/\n=y.length
 | .byt y=>y.size<=sizeLine/\n=y.size
 | .ref p=>(∃xs,eY K H p xs/\n=xs.length)\/∃xs,eV K H p xs/\n=xs.length
 |_=>False
theorem cF:cL X (.builtin "len") (λxs H Q=>∃x n,xs= [x]/\JA X.K x H n/\Q (.int n) H):=by
 intro pins s σ H xs us Q I r h
 obtain⟨x,n,rfl,e,q⟩:=h
 obtain⟨u,rfl,rx⟩:=vals1 r
 have hl:=ni
 have hs:sizeLine=16777216:=Na
 cases x with
 |str y=>
  obtain⟨t,rfl⟩:=rx
  obtain⟨hy,e'⟩:y.length<=sizeLine/\n=y.length:=e
  subst e'
  exact len_str (by omega) ⟨.int _,H,I.tok _,⟨_,rfl⟩,q⟩
 |byt y=>
  obtain⟨t,rfl⟩:=rx
  obtain⟨hy,e'⟩:y.size<=sizeLine/\n=y.size:=e
  subst e'
  exact PySem.W.len_bytes (by omega) ⟨.int _,H,I.tok _,⟨_,rfl⟩,q⟩
 |ref p=>
  cases rx
  have e':(∃xs,eY X.K H p xs/\n=xs.length)\/∃xs,eV X.K H p xs/\n=xs.length:=e
  rcases e' with⟨xs,hx,e'⟩ | ⟨xs,hx,e'⟩
  ·subst e'
   obtain⟨its,r',pl,hz⟩:=I.list hx
   have hlen:=r'.length
   exact Calls.call_len_list pl.isList (by simp only[MW];omega) ⟨.int xs.length,H,I.tok _,⟨_,by simp only[MW];rw[hlen]⟩,q⟩
  ·subst e'
   obtain⟨its,r',pl,hz⟩:=I.tuple hx
   have hlen:=r'.length
   exact len_tuple pl (by simp only[MW];omega) ⟨.int xs.length,H,I.tok _,⟨_,by simp only[MW];rw[hlen]⟩,q⟩
 |_=>exact (show False from e).elim
def vV:cL X (.builtin "divmod") (λxs H Q=>∃i j,xs= [.int i,.int j]/\E7 i j/\∀p,H p=none->Q (.ref p) (upd H p (.tup [.int (i / j),.int (i % j)]))):=by
 intro pins s σ H xs us Q I r h
 obtain⟨i,j,rfl,⟨h1,h2⟩,q⟩:=h
 obtain⟨u,w',rfl,⟨t,rfl⟩,⟨t',rfl⟩⟩:=vals2 r
 refine divmod_int (by omega) ?_ (.inl (PyProof.noPylong_small (by omega)))
 rw[Int.fdiv_eq_ediv_of_nonneg i (by omega),Int.fmod_eq_emod_of_nonneg i (by omega)]
 have hn:H s.heap.objs.size=none:=I.hok.fresh (My _)
 refine⟨.ref s.heap.objs.size,_,?_,rfl,q _ hn⟩
 refine I.laid (λb o e=>Mw _ e) (My _) ⟨by simp only[MU,List.length_nil];rw[Na];decide,[.int (i / j) s.toks,.int (i % j) (s.toks + 1)],.cons ⟨_,rfl⟩ (.cons ⟨_,rfl⟩ .nil),?_⟩
 exact⟨_,MN s.heap rfl,rfl,0,rfl,rfl⟩
end
structure GW (h:Heap)(x dx C:Addr)(mA:Str->Option Value):Prop where
 obj:h.get? x=some (PySem.W.instObj C dx)
 ns:h.Ns1 dx mA
 ne:dx≠x
def Av {h:Heap}{dx:Addr}{mA:Str->Option Value}(n:h.Ns1 dx mA):∃od,h.get? dx=some od/\∀name,PySem.W.lookIn name od=some (mA name):=by
 obtain⟨o,es,ep,ho,hd,hk,_,hm⟩:=n
 refine⟨o,ho,λname=>?_⟩
 have e:=hm name
 unfold nsFind findBy at e
 rw[<-Array.find?_toList] at e
 unfold PySem.W.lookIn
 rw[hd]
 dsimp only
 split
 ·rename_i y q
  rw[q] at e
  exact congrArg some e
 ·rename_i q
  rw[q] at e
  have a:es.toList.any (·.refKey)=false:=by
   rw[List.any_eq_false]
   intro y hy
   obtain⟨z,t,hkey⟩:=hk y (OH.mp hy)
   simp[DictEntry.refKey,hkey]
  have a':¬es.toList.any (·.refKey)=true:=by rw[a];exact M9
  rw[MF a']
  exact congrArg some e
def GW.look {h:Heap}{x dx C:Addr}{mA:Str->Option Value}(I:GW h x dx C mA):∃od,PySem.W.InstAt h x (PySem.W.instObj C dx) C (some od)/\∀name,PySem.W.lookIn name od=some (mA name):=
 let ⟨od,ho,hl⟩:=Av I.ns
 ⟨od,⟨I.obj,rfl,rfl,ho⟩,hl⟩
section
variable {P:Program}{w:World}{H H':Hp}{h h':Heap}{a C dx:Addr}{fs fs':List (Str×V)}
def EE (hok:lu P w H h)(e:H a=some (.ins C dx fs)):∃mA,GW h a dx C mA/\(∀f,Hz (fs.lookup f) (mA f))/\PySem.Within mA (fs.map (·.1))/\fs.length<=1000/\H dx=some (.own a):=by
 obtain⟨d,z,ne,ob,mA,n,r,q⟩:=(show cH P w H h a (.ins C dx fs) from hok a _ e)
 exact⟨mA,⟨ob,n,ne⟩,r,q,z,d⟩
end
structure LD (K:Frag)(C:Addr):Prop where
 pg:PySem.W.plainGet K C Str.empty=true
 hd:PySem.W.hasDictIn K C=true
 po:PySem.W.plainOver K C=true
 sa:PySem.W.findIn K (.ref C) "__setattr__"=some (some (.builtin "object.__setattr__"))
def LD.get {K:Frag}{C:Addr}(c:LD K C)(f:Str):PySem.W.plainGet K C f=true:=c.pg
section
variable {X:Cx}{pins:List (Addr×Obj)}{σ:St}{H:Hp}{s:Shared}{A:Around}{E:Value->Shared->Prop}{Q:Value->Shared->Prop}{c:Value}{b:Bool}
inductive nZ (K:Frag)(H:Hp):V->Value->Prop where
 |non:nZ K H .non (.type "NoneType")
 |bl (x:Bool):nZ K H (.bl x) (.type "bool")
 |int (i:Int):nZ K H (.int i) (.type "int")
 |str (x:Str):nZ K H (.str x) (.type "str")
 |flt (x:UInt64):nZ K H (.flt x) (.type "float")
 |lst {a:Addr} {xs:List V} (e:H a=some (.lst xs)):nZ K H (.ref a) (.type "list")
 |bq {a:Addr} {o:Obj} {xs:List V} (e:H a=some (.bq o (.lst xs))):nZ K H (.ref a) (.type "list")
 |tup {a:Addr} {xs:List V} (e:H a=some (.tup xs)):nZ K H (.ref a) (.type "tuple")
 |dK {a:Addr} {kvs:List (Key×V)} (e:H a=some (.dK kvs)):nZ K H (.ref a) (.type "dict")
 |dT {a:Addr} {kvs:List (List Key×V)} (e:H a=some (.dT kvs)):nZ K H (.ref a) (.type "dict")
 |ins {a C dx:Addr} {fs:List (Str×V)} (e:H a=some (.ins C dx fs)) (cl:LD K C) (ha:PySem.W.findIn K (.ref C) "__class__"=some (some (.builtin "object.__class__")))
   (hn:PySem.W.specialIn K (.builtin "object.__class__") "__get__"=some (some (.builtin "getset_descriptor.__get__"))) (htk:PySem.W.takesIn K (.builtin "object.__class__")=some true)
   (hm:PySem.W.mroIn K C (.type "object")=some true):nZ K H (.ref a) (.ref C)
theorem i0 {x:V}{u t:Value}(I:Inv X pins σ H s)(rx:RelV x u)(ty:nZ X.K H x t)(e:PySem.W.kitOne X.K t c=some b)(h:∀tk,Q (.bool b) {s with toks:=tk}) :
  wpAny (model X.prog X.w) A (call (.builtin "isinstance") [u,c]) Q E s:=by
 cases ty with
 |non=>cases (show u=Value.none from rx);exact Nu PySem.W.kitx_none I.kIn True.intro e (λz=>nomatch z) h
 |bl y=>cases (show u=Value.bool y from rx);exact Nu PySem.W.kitx_bool I.kIn True.intro e (λz=>nomatch z) h
 |int i=>obtain⟨t,q⟩:=(show ∃t,u=Value.int i t from rx);cases q;exact Nu PySem.W.kitx_int I.kIn True.intro e (λz=>nomatch z) h
 |str y=>obtain⟨t,q⟩:=(show ∃t,u=Value.str y t from rx);cases q;exact Nu PySem.W.kitx_str I.kIn True.intro e (λz=>nomatch z) h
 |flt y=>obtain⟨t,q⟩:=(show ∃t,u=Value.float y t from rx);cases q;exact Nu PySem.W.kitx_float I.kIn True.intro e (λz=>nomatch z) h
 | @lst a xs ea=>
  cases (show u=Value.ref a from rx)
  obtain⟨_,_,n,_,h1⟩:=(show cH X.prog X.w H s.heap a (.lst xs) from I.hok a _ ea)
  exact Nu PySem.W.kitx_list I.kIn ⟨_,h1,rfl⟩ e (λz=>nomatch z) h
 | @bq a ob xs ea=>
  cases (show u=Value.ref a from rx)
  obtain⟨_,_,_,n,_,h1⟩:=(show cH X.prog X.w H s.heap a (.bq ob (.lst xs)) from I.hok a _ ea)
  exact Nu PySem.W.kitx_list I.kIn ⟨_,h1,rfl⟩ e (λz=>nomatch z) h
 | @tup a xs ea=>
  cases (show u=Value.ref a from rx)
  obtain⟨_,_,_,p⟩:=(show cH X.prog X.w H s.heap a (.tup xs) from I.hok a _ ea)
  obtain⟨o,h1,h2,_⟩:=p
  exact Nu PySem.W.kitx_tuple I.kIn ⟨o,h1,h2⟩ e (λz=>nomatch z) h
 | @dK a kvs ea=>
  cases (show u=Value.ref a from rx)
  obtain⟨_,_,vs,_,p⟩:=(show cH X.prog X.w H s.heap a (.dK kvs) from I.hok a _ ea)
  obtain⟨o,es,ep,h1,h2,_⟩:=p
  exact Nu PySem.W.kitx_dict I.kIn ⟨o,h1,h2.1⟩ e (λz=>nomatch z) h
 | @dT a kvs ea=>
  cases (show u=Value.ref a from rx)
  obtain⟨_,_,xs,_,o,es,ep,h1,h2,_⟩:=(show cH X.prog X.w H s.heap a (.dT kvs) from I.hok a _ ea)
  exact Nu PySem.W.kitx_dict I.kIn ⟨o,h1,h2.1⟩ e (λz=>nomatch z) h
 | @ins a C dx fs ea cl ha hn htk hm=>
  cases (show u=Value.ref a from rx)
  obtain⟨mA,O,_⟩:=EE I.hok ea
  obtain⟨od,J,_⟩:=O.look
  exact Nu (PySem.W.kitx_own (cl.get _) cl.hd ha hn htk hm) I.kIn J e (λz=>nomatch z) h
end
structure fI (k:Nat)(A:Around):Prop where
 hd:A.handled=none
 dp:A.depth + 3 * k + 5 < recursionLimit
 un:A.units + 16 * k + 200 < cLine
 gd:A.guards=some []
def fI.mono {j k:Nat}{A:Around}(r:fI k A)(h:j<=k):fI j A:=⟨r.hd,by have:=r.dp;omega,by have:=r.un;omega,r.gd⟩
def fI.deeper {k:Nat}{A:Around}(r:fI (k + 1) A)(env:Env):fI k (A.deeper env):=
 ⟨r.hd,by have:=r.dp;show A.depth + 1 + 3 * k + 5 < _;omega,by have:=r.un;show A.units + 3 + 16 * k + 200 < _;omega,r.gd⟩
def fI.depth {k:Nat}{A:Around}(r:fI k A):A.depth < recursionLimit:=by have:=r.dp;omega
def fI.units {k:Nat}{A:Around}(r:fI k A):A.units + 64 < cLine:=by have:=r.un;omega
def Lm:TA:=λ_ H Q=>Q [] H
def Jx (ta:TE)(tr:TA):TA:=λσ H Q=>ta σ H λx H1=>tr σ H1 λxs H2=>Q (x :: xs) H2
section
variable {X:Cx}{e:Expr}{es:List Expr}{te:TE}{t:TA}{pos:Pos}
def bA:PA X [] Lm:=λ_ _ _ _ H Q I h=>Calls.spliced_nil ⟨[],H,I,.nil,h⟩
def aO (ha:PE X e te)(hr:PA X es t)(hs:starEach (e :: es) X.env=(false,eval e X.env) :: starEach es X.env:=by rfl):PA X (e :: es) (Jx te t):=by
 intro pos pins s σ H Q I h
 rw[hs]
 show wpAny _ _ (spliced ((false,eval e X.env) :: backTo pos (starEach es X.env))) _ _ s
 refine Calls.spliced_cons (cv (ha pins s σ H _ I h) λu s1 ⟨x,H1,I1,r1,q1⟩=>?_)
 exact cv (hr pos pins s1 σ H1 _ I1 q1) λus s2 ⟨xs,H2,I2,r2,q2⟩=>⟨x :: xs,H2,I2,.cons r1 r2,q2⟩
def LZ (t:TA):TE:=λσ H Q=>t σ H λxs H1=>xs.length<=sizeLine/\∀p,H1 p=none->Q (.ref p) (upd H1 p (.tup xs))
def LX (t:TA):TE:=λσ H Q=>t σ H λxs H1=>xs.length<=sizeLine/\∀p,H1 p=none->Q (.ref p) (upd H1 p (.lst xs))
def wX {x1}(h:PA X es t):PE X (.Tuple es x1 pos) (LZ t):=by
 intro pins s σ H Q I hq
 refine wpAny_Tuple_spliced (cv (h pos pins s σ H _ I hq) λus s1 ⟨xs,H1,I1,r,z,q⟩=>⟨by rw[<-r.length];exact z,?_⟩)
 have hf:H1 s1.heap.objs.size=none:=I1.hok.fresh (My _)
 refine⟨.ref s1.heap.objs.size,upd H1 s1.heap.objs.size (.tup xs),I1.laid (t':=s1.toks) (λb u e=>Mw _ e) (My _) ?_,rfl,q _ hf⟩
 exact⟨z,us,r,qK.new _ _⟩
def BP (h:PA X es t):PE X (.List es pos) (LX t):=by
 intro pins s σ H Q I hq
 refine wpAny_List_spliced (cv (h pos pins s σ H _ I hq) λus s1 ⟨xs,H1,I1,r,z,q⟩=>⟨by rw[<-r.length];exact z,?_⟩)
 have hf:H1 s1.heap.objs.size=none:=I1.hok.fresh (My _)
 refine⟨.ref s1.heap.objs.size,upd H1 s1.heap.objs.size (.lst xs),I1.laid (t':=s1.toks) (λb u e=>Mw _ e) (My _) ?_,rfl,q _ hf⟩
 exact⟨z,us,0,r,MN _ rfl⟩
end
abbrev Sp:=List V->Hp->VK->XK->Prop
abbrev z6:=List Env->Hp->Shared->XK->Value->Shared->Prop
structure FH (P:Program)(w:World)(K:Frag)(mg:Str->Option Value)(base:Heap)(A:Around)(outer:List Env)(s:Shared)(H:Hp):Prop where
 frames:A.frames=some outer
 mod:Mod K mg base
 bs:∀b o,base.get? b=some o->s.heap.get? b=some o/\H b=none
 bsz:base.objs.size<=s.heap.objs.size
 funs:s.heap.FunFrames base outer
 frf:∀b∈iY outer,H b=none
 hok:lu P w H s.heap
 bare:AllBare s.gens
def CE (outer:List Env)(P:Program)(w:World)(H:Hp)(s:Shared)(Q:VK)(u:Value)(s':Shared):Prop:=
 ∃v H',s'.os=s.os/\AllBare s'.gens/\Un (iY outer) [] H H' s.heap s'.heap/\lu P w H' s'.heap/\RelV v u/\Q v H'
def CR (CX:z6)(outer:List Env)(P:Program)(w:World)(H:Hp)(s:Shared)(Q:VK)(E:XK)(r:Result)(s':Shared):Prop:=
 match r with
 | .ok (.ret u)=>CE outer P w H s Q u s'
 | .ok _=>False
 | .error e=>CX outer H s E e s'
structure fW (P:Program)(w:World)(K:Frag)(mg:Str->Option Value)(base:Heap)(CX:z6)(k:Nat)(f:Addr)(fd:FuncData)(ps:List Str)(sp:Sp):Prop where
 len:∀vs H Q E,sp vs H Q E->vs.length=ps.length
 run:∀(A:Around) (outer:List Env) (s:Shared) (H:Hp) (args:Args) (us:List Value) (vs:List V) (Q:VK) (E:XK),fI k A->FH P w K mg base A outer s H->BindsTo s fd args (ps.zip us)->Vals vs us->sp vs H Q E->
  codeAny (model P w) A (.call (.ref f) args) (CR CX outer P w H s Q E) s
def fW.mono {P:Program}{w:World}{K:Frag}{mg:Str->Option Value}{base:Heap}{CX:z6}{j k:Nat}{f:Addr}{fd:FuncData}{ps:List Str}{sp:Sp}(F:fW P w K mg base CX j f fd ps sp)(h:j<=k) :
  fW P w K mg base CX k f fd ps sp:=⟨F.len,λA outer s H args us vs Q E hr=>F.run A outer s H args us vs Q E (hr.mono h)⟩
def fW.imp {P:Program}{w:World}{K:Frag}{mg:Str->Option Value}{base:Heap}{CX:z6}{k:Nat}{f:Addr}{fd:FuncData}{ps:List Str}{sp sp':Sp}(F:fW P w K mg base CX k f fd ps sp)
  (h:∀vs H Q E,sp' vs H Q E->sp vs H Q E):fW P w K mg base CX k f fd ps sp':=
 ⟨λvs H Q E q=>F.len vs H Q E (h _ _ _ _ q),λA outer s H args us vs Q E hr he hb hv hs=>F.run A outer s H args us vs Q E hr he hb hv (h _ _ _ _ hs)⟩
section
variable {X:Cx}{pins:List (Addr×Obj)}{σ:St}{H:Hp}{s s':Shared}
def Inv.env0 (I:Inv X pins σ H s):FH X.prog X.w X.K X.mg X.base X.A X.stack s H:=
 ⟨I.ok.frames,I.ok.mod,I.bs,ND I.ok.bsz I.sz,I.stack,I.stkFree,I.hok,I.bare⟩
def Inv.after {Q:VK}{u:Value}(I:Inv X pins σ H s)(h:CE X.stack X.prog X.w H s Q u s'):EP X pins σ Q u s':=by
 obtain⟨v,H',os,bare,un,hok,r,q⟩:=h
 obtain⟨hh,g,d,t,os'⟩:=s'
 obtain rfl:os'=s.os:=os
 exact⟨v,H',I.call (h':=hh) (g':=g) (d':=d) (t':=t) (ch:=[]) un hok bare (λb z=>absurd z (by simp)),r,q⟩
end
def JC (sp:Sp)(dvs:List V)(E:XK)(t:TA):TE:=λσ H Q=>t σ H λvs H1=>sp (vs ++ dvs) H1 Q E
def Binds (K:Frag)(fd:FuncData)(ps:List Str)(ds:List Value):Prop:=
 ∀(s:Shared) (us:List Value),K.In s.heap->(us ++ ds).length=ps.length->BindsTo s fd ⟨us,[]⟩ (ps.zip (us ++ ds))
def Binds.all {K:Frag}{fd:FuncData}{ps:List Str}(h:∀us:List Value,us.length=ps.length->bindArgs fd ⟨us,[]⟩=pure (ps.zip us)):Binds K fd ps []:=λs us _ hl=>by
 rw[Oc] at hl ⊢
 exact .of_eq (h us hl)
def Passes (CX:z6)(X:Cx)(E:XK):Prop:=∀(pins:List (Addr×Obj)) (σ:St) (H:Hp) (s:Shared) (e:Value) (s':Shared),Inv X pins σ H s->CX X.stack H s E e s'->X.xe e s'
section
variable {X:Cx}{CX:z6}{k:Nat}{f C:Addr}{fd:FuncData}{ps:List Str}{sp:Sp}{dvs:List V}{ds:List Value}{E:XK}{x m:Str}{p pos apos:Pos}{e o:Expr}{es:List Expr}{ta:TE}{t:TA}
theorem Ho {pins:List (Addr×Obj)}{σ:St}{H:Hp}{s:Shared}{Q:VK}{us:List Value}{vs:List V}(F:fW X.prog X.w X.K X.mg X.base CX k f fd ps sp)(hr:fI k X.A)(hb:Binds X.K fd ps ds)(hd:Vals dvs ds)(hx:Passes CX X E)
  (I:Inv X pins σ H s) (r:Vals vs us) (h:sp (vs ++ dvs) H Q E):wpAny (model X.prog X.w) X.A (call (.ref f) us) (EP X pins σ Q) X.xe s:=by
 have r2:Vals (vs ++ dvs) (us ++ ds):=r.append hd
 have hl:(us ++ ds).length=ps.length:=by rw[<-r2.length];exact F.len _ _ _ _ h
 refine wpAny_call (OO (F.run X.A X.stack s H ⟨us,[]⟩ (us ++ ds) (vs ++ dvs) Q E hr I.env0 (hb s us I.kIn hl) r2 h) λr s' hq=>?_)
 cases r with
 |error e=>exact hx pins σ H s e s' I hq
 |ok fl=>
  cases fl with
  |ret u=>exact I.after hq
  |next=>exact False.elim hq
  |brk=>exact False.elim hq
  |cont=>exact False.elim hq
def oy (F:fW X.prog X.w X.K X.mg X.base CX k f fd ps sp)(hr:fI k X.A)(hg:Gl X x)(hm:X.mg x=some (.ref f))(hk:PySem.W.keepIn X.K (.ref f)=true)(hb:Binds X.K fd ps ds)(hd:Vals dvs ds)(hx:Passes CX X E)
  (ha:PA X (e :: es) t) (hdb:(x == ("__debug__":Str))=false:=by decide) (he:starEach (e :: es) X.env=(false,eval e X.env) :: starEach es X.env:=by rfl) (hpl:(backTo pos (starEach es X.env)).any (·.1)=false:=by rfl) :
  PE X (.Call (.Name x p) (e :: es) [] pos) (JC sp dvs E t):=by
 intro pins s σ H Q I h
 refine wpAny_Call_Name_kw (sf I hg hm ?_ hdb)
 refine PySem.W.callWith_K (h₀:=X.base) I.ok.mod.kin hk (cv (ha pos pins s σ H _ I h) λus s1 ⟨vs,H1,I1,r,q⟩=>⟨I1.kIn,?_⟩) he hpl
 exact Ho F hr hb hd hx I1 r q
end
structure aJ (N P:List Str)(sc:Scope):Prop where
 kind:sc.kind=.function
 co:sc.isCoroutine=false
 gen:sc.isGenerator=false
 nd:N.Nodup
 pre:N.take P.length=P
 par:∀x∈P,sc.names.lookup x=some .local\/sc.names.lookup x=some .cell
 nofree:∀y∈sc.names,y.2≠.free
theorem rm {kindOf:Str->Option NameKind}{x:Str}:∀{binds:List (Str×Value)} {m:Str->Option Value},(∀v,(x,v)∉binds)->bindL kindOf binds m x=m x
 | [],_,_=>rfl
 | (n,v) :: r,m,h=>by
  unfold bindL
  rw[rm λw hw=>h w (MD _ hw)]
  split
  ·have:x≠n:=by rintro rfl;exact h v MC
   simp[this]
  ·rfl
theorem rB {kindOf:Str->Option NameKind}{x:Str}:∀{binds:List (Str×Value)} {m:Str->Option Value},(∀v,(x,v)∉binds)->bindC kindOf binds m x=m x
 | [],_,_=>rfl
 | (n,v) :: r,m,h=>by
  unfold bindC
  rw[rB λw hw=>h w (MD _ hw)]
  split
  ·rfl
  ·have:x≠n:=by rintro rfl;exact h v MC
   simp[this]
theorem rR {kindOf:Str->Option NameKind}{x:Str}{v:Value}:∀{P:List Str} {vs:List Value} {i:Nat} {m:Str->Option Value},P.Nodup->P[i]? =some x->vs[i]? =some v->kindOf x=some .local->
  bindL kindOf (P.zip vs) m x=some v
 | [],_,_,_,_,h,_,_=>by simp at h
 |_ :: _,[],_,_,_,_,h,_=>by simp at h
 |p :: P,w :: vs,0,m,nd,h1,h2,hk=>by
  simp at h1 h2;subst h1;subst h2
  show bindL kindOf ((p,w) :: P.zip vs) m p=_
  unfold bindL
  rw[rm λv hv=>(Nc.mp nd).1 (List.of_mem_zip hv).1,MA hk]
  simp
 |p :: P,w :: vs,i + 1,m,nd,h1,h2,hk=>by
  show bindL kindOf ((p,w) :: P.zip vs) m x=_
  unfold bindL
  exact rR (i:=i) (Nc.mp nd).2 (by simpa using h1) (by simpa using h2) hk
theorem rK {kindOf:Str->Option NameKind}{x:Str}{v:Value}:∀{P:List Str} {vs:List Value} {i:Nat} {m:Str->Option Value},P.Nodup->P[i]? =some x->vs[i]? =some v->kindOf x≠some .local->
  bindC kindOf (P.zip vs) m x=some v
 | [],_,_,_,_,h,_,_=>by simp at h
 |_ :: _,[],_,_,_,_,h,_=>by simp at h
 |p :: P,w :: vs,0,m,nd,h1,h2,hk=>by
  simp at h1 h2;subst h1;subst h2
  show bindC kindOf ((p,w) :: P.zip vs) m p=_
  unfold bindC
  rw[rB λv hv=>(Nc.mp nd).1 (List.of_mem_zip hv).1,MF hk]
  simp
 |p :: P,w :: vs,i + 1,m,nd,h1,h2,hk=>by
  show bindC kindOf ((p,w) :: P.zip vs) m x=_
  unfold bindC
  exact rK (i:=i) (Nc.mp nd).2 (by simpa using h1) (by simpa using h2) hk
def start (N:List Str)(vs:List V):St:=vs.map some ++ List.replicate (N.length - vs.length) none
def kU (CX:z6)(P:Program)(w:World)(K:Frag)(mg:Str->Option Value)(base:Heap)(N:List Str)(qual:Str)(scope:Scope)(f:Addr)(cd:Value)(A:Around)(outer:List Env)(s:Shared)(H:Hp)(E:XK):Cx where
 prog:=P
 w:=w
 K:=K
 mg:=mg
 base:=base
 A:=A.deeper (envOfC qual scope s.heap.objs.size f cd)
 N:=N
 s₀:=s
 H₀:=H
 env:=envOfC qual scope s.heap.objs.size f cd
 outer:=outer
 stack:=envOfC qual scope s.heap.objs.size f cd :: outer
 ex:=[]
 calm:=true
 fn:=λ_=>true
 pn:=[]
 xe:=λe s'=>wpAny (model P w) (A.deeper (envOfC qual scope s.heap.objs.size f cd)) (leaving (envOfC qual scope s.heap.objs.size f cd) e) (λ_ s''=>CX outer H s E e s'') (λe' s''=>CX outer H s E e' s'') s'
def uy {sc:Scope}{n:Nat}{x:Str}(h:sc.names.lookup x=some .cell):∃c,(cellsFrom n sc.names []).lookup x=some c:=by
 have q:=PySem.W.cellsFrom_some sc.names n [] (.inl h)
 exact Option.isSome_iff_exists.mp q
def zO {CX:z6}{P:Program}{w:World}{K:Frag}{mg:Str->Option Value}{base:Heap}{N ps:List Str}{qual:Str}{scope:Scope}{f:Addr}{cd:Value}{A:Around}{outer:List Env}{s s1:Shared}{H:Hp}{E:XK}{us:List Value}{vs:List V}
  (S:aJ N ps scope) (hd:A.handled=none) (e0:FH P w K mg base A outer s H) (hl:vs.length=ps.length) (r:Vals vs us)
  (x:InCallC s s.heap.objs.size (bindL (envOfC qual scope s.heap.objs.size f cd).kindOf (ps.zip us) λ_=>none) (cellsFrom (s.heap.objs.size + 1) scope.names []) (bindC (envOfC qual scope s.heap.objs.size f cd).kindOf (ps.zip us) λ_=>none) s1) :
  Inv (kU CX P w K mg base N qual scope f cd A outer s H E) [] (start N vs) H s1:=by
 have hpl:ps.length<=N.length:=by have:=congrArg List.length S.pre;rw[NN] at this;omega
 obtain⟨h1,tk,rfl,hk⟩:=x.done
 have noA:∀b:Addr,b∉(kU CX P w K mg base N qual scope f cd A outer s H E).ex:=λb z=>absurd (show b∈([]:List Addr) from z) (by simp)
 refine⟨⟨e0.mod,S.kind,rfl,rfl,My _,λy z c h1 h2=>?_,λy hy=>?_,λy c _ h=>?_,λ_=>hd,Around.frames_deeper e0.frames,.inr ⟨rfl,rfl⟩,λb z=>absurd z (noA b),e0.bs,e0.bsz,λb _ _=>noA b,λb z=>absurd z (noA b),e0.funs,e0.frf⟩,
  rfl,e0.bare,Un.kept hk,⟨_,x.toInCall.ns,λi y v h1 h2 h3=>?_⟩,λy c h=>⟨_,x.cell y c h⟩,e0.hok.fresh (My _),λy c h=>?_,λp hp=>absurd (show p∈([]:List (Addr×Obj)) from hp) (by simp),e0.hok.kept hk,?_⟩
 ·exact name_of_addr x.apart (Ou h1) (Ou h2)
 ·have hy:scope.names.lookup y=some .cell\/scope.names.lookup y=some .free:=hy
  rcases hy with hy |hy
  ·exact uy hy
  ·exact absurd rfl (S.nofree _ (Ou hy))
 ·exact Nat.le_of_lt (x.above y c (Ou h))
 ·have hi:i < vs.length:=by
   unfold start at h2
   by_cases hi:i < vs.length
   ·exact hi
   ·rw[Nb (by simpa using hi)] at h2
    rw[N3] at h2
    split at h2 <;> cases h2
  have ha:vs[i]? =some v:=by
   unfold start at h2
   rw[Ng (by simpa using hi),MG] at h2
   cases e:vs[i]? with
   |none=>rw[e] at h2;cases h2
   |some a=>rw[e] at h2;cases h2;rfl
  obtain⟨u,hu,rv⟩:=r.get ha
  have hp:ps[i]? =some y:=by
   rw[<-S.pre,List.getElem?_take_of_lt (by omega)];exact h1
  have ndP:ps.Nodup:=by rw[<-S.pre];exact S.nd.sublist (List.take_sublist _ _)
  refine⟨u,rv,?_⟩
  rcases S.par y (MO hp) with k |k
  ·exact .inl ⟨k,rR ndP hp hu k⟩
  ·obtain⟨c,e⟩:=uy (n:=s.heap.objs.size + 1) k
   refine .inr ⟨.inl k,c,e,?_⟩
   have q:=x.cell y c e
   rw[rK ndP hp hu (by show scope.names.lookup y≠_;rw[k];decide)] at q
   exact q
 ·exact e0.hok.fresh (Nat.le_of_lt (x.above y c (Ou h)))
 ·unfold start
  show _=N.length
  rw[M5,MI,Oy]
  omega
theorem GD {CX:z6}{P:Program}{w:World}{K:Frag}{mg:Str->Option Value}{base:Heap}{k:Nat}{f:Addr}{name qual:Str}{params:Arguments}{body:List Stmt}{scope:Scope}{dV kV doc pm cdv ct oc:Value}{an od:Option Addr}
  {osl:Array (Option Value)} {N ps:List Str} {sp:Sp} (lk:K.lookup f=some ⟨oc,od,.func (PySem.W.fnOf name qual params body scope dV kV doc pm an cdv ct),osl⟩) (hcd:PySem.W.codeIn K cdv qual=true) (S:aJ N ps scope)
  (len:∀vs H Q E,sp vs H Q E->vs.length=ps.length)
  (hbody:∀(A:Around) (outer:List Env) (s:Shared) (H:Hp) (vs:List V) (Q:VK) (E:XK),fI k (A.deeper (envOfC qual scope s.heap.objs.size f cdv))->sp vs H Q E->
   ∃t,qN (kU CX P w K mg base N qual scope f cdv A outer s H E) body t/\t {nx:=λ_ H'=>Q .non H',rt:=Q} (start N vs) H) :
  fW P w K mg base CX (k + 1) f (PySem.W.fnOf name qual params body scope dV kV doc pm an cdv ct) ps sp:=by
 refine⟨len,λA outer s H args us vs Q E hr e0 hb r hsp=>?_⟩
 have hl:=len _ _ _ _ hsp
 have KX:K.In s.heap:=e0.mod.kin.keeps λb o e=>(e0.bs b o e).1
 have lim:s.heap.NoLimit:=e0.mod.nolimit.keeps λb o e=>(e0.bs b o e).1
 have hkind:∀y∈ps.zip us,scope.names.lookup y.1=some .local\/(scope.names.lookup y.1=some .cell/\((cellsFrom (s.heap.objs.size + 1) scope.names []).lookup y.1).isSome=true):=λ⟨n,v⟩ hy=>by
  rcases S.par n (List.of_mem_zip hy).1 with q |q
  ·exact .inl q
  ·exact .inr ⟨q,PySem.W.cellsFrom_some _ _ _ (.inl q)⟩
 refine codeAny_call_function hr.depth (KX _ _ lk) rfl S.co S.gen rfl (PySem.W.codeRec_of KX hcd) (hb _ _ _ _ ?_)
 refine wpAny_newFunctionEnv_cells S.kind hkind λenv he s1 x=>?_
 subst he
 refine⟨lim.keeps x.toInCall.keep,codeAny_func ?_⟩
 obtain⟨t,ht,hq⟩:=hbody A outer s H vs Q E (hr.deeper _) hsp
 have I:Inv (kU CX P w K mg base N qual scope f cdv A outer s H E) [] (start N vs) H s1:=zO S hr.hd e0 hl r x
 refine N0 (ht [] s1 (start N vs) H _ I hq) (λfl s' hs=>?_) λe s' hs=>hs
 have fin:∀{σ':St} {H':Hp} {v:V} {u:Value},Inv (kU CX P w K mg base N qual scope f cdv A outer s H E) [] σ' H' s'->RelV v u->Q v H'->CE outer P w H s Q u s':=
  λ{σ' H' v u} J rv q=>⟨v,H',J.os,J.bare,J.base,J.hok,rv,q⟩
 cases fl with
 |ret u=>
  obtain⟨v,σ',H',J,rv,q⟩:=hs
  exact fin J rv q
 |next=>
  obtain⟨σ',H',J,q⟩:=hs
  exact fin (v:=V.non) (u:=Value.none) J rfl q
 |brk=>
  obtain⟨_,_,_,q⟩:=hs
  exact False.elim q
 |cont=>
  obtain⟨_,_,_,q⟩:=hs
  exact False.elim q
section
variable {X:Cx}{x:Str}{p pos:Pos}{e:Expr}{es:List Expr}{t:TA}{id T:String}{r:List V->Hp->VK->Prop}
def L9 (r:List V->Hp->VK->Prop)(t:TA):TE:=λσ H Q=>t σ H λvs H1=>r vs H1 Q
def jd (hc:cL X (.builtin id) r)(hg:Gl X x)(hm:X.mg x=none)(hv:bootBuiltins x=some (.builtin id))(ha:PA X (e :: es) t)(hn:x≠"__name__":=by decide)(hdb:(x == ("__debug__":Str))=false:=by decide)
  (he:starEach (e :: es) X.env=(false,eval e X.env) :: starEach es X.env:=by rfl) (hpl:(backTo pos (starEach es X.env)).any (·.1)=false:=by rfl):PE X (.Call (.Name x p) (e :: es) [] pos) (L9 r t):=by
 intro pins s σ H Q I h
 refine wpAny_Call_Name_kw (kj I hg hm hv ?_ hn hdb)
 exact PyProof.Rows.callWith_builtin1 (cv (ha pos pins s σ H _ I h) λus s1 ⟨vs,H1,I1,r1,q1⟩=>hc pins s1 σ H1 vs us Q I1 r1 q1) he hpl
def gK (hc:cL X (.type T) r)(hg:Gl X x)(hm:X.mg x=none)(hv:bootBuiltins x=some (.type T))(ha:PA X (e :: es) t)(hn:x≠"__name__":=by decide)(hdb:(x == ("__debug__":Str))=false:=by decide)
  (he:starEach (e :: es) X.env=(false,eval e X.env) :: starEach es X.env:=by rfl) (hpl:(backTo pos (starEach es X.env)).any (·.1)=false:=by rfl):PE X (.Call (.Name x p) (e :: es) [] pos) (L9 r t):=by
 intro pins s σ H Q I h
 refine wpAny_Call_Name_kw (kj I hg hm hv ?_ hn hdb)
 exact NT (cv (ha pos pins s σ H _ I h) λus s1 ⟨vs,H1,I1,r1,q1⟩=>hc pins s1 σ H1 vs us Q I1 r1 q1) he hpl
end
end L2
namespace HT
open PySem PyProof.Rows
section
open PySem.SeqAt
open PySem.AutoSeq1 (wpAny_loadPart')
open PySem.MeetsSeq PySem.MeetsSeq2 PySem.MeetsSeq3
end
section
variable {prog:Program}{w:World}{A:Around}{E:Value->Shared->Prop}{s:Shared}
def rJ (n d:Nat):Option Int->Nat
 |none=>d
 |some v=>if v < 0 then (v + (n:Int)).toNat else min v.toNat n
def Dy (n d:Nat):rJ n d none=d:=rfl
def Ew (n d k:Nat):rJ n d (some (k:Int))=min k n:=by
 show (if (k:Int) < 0 then ((k:Int) + (n:Int)).toNat else min (k:Int).toNat n)=min k n
 rw[MF (by omega),M6]
theorem wG {v:Value}{o:Option Int}{Q:Option Int->Shared->Prop}(p:IsPart v o)(h:Q o s):wpAny (model prog w) A (Builtin.Slice.slicePartIndex v) Q E s:=by
 cases p with
 |none=>exact slicePart_none h
 |int i t=>exact slicePart_int h
end
end HT
namespace L2
open PySem PySem.Spec PyProof.Rows
abbrev TO:=St->Hp->(Option Int->Hp->Prop)->Prop
def PO (X:Cx)(e:Option Expr)(t:TO):Prop:=
 ∀(pins:List (Addr×Obj)) (s:Shared) (σ:St) (H:Hp) (Q:Option Int->Hp->Prop),Inv X pins σ H s->t σ H Q->
  wpAny (model X.prog X.w) X.A (evalPart e X.env) (λu s'=>∃o H',Inv X pins σ H' s'/\IsPart u o/\Q o H') X.xe s
def Fl:TO:=λ_ H Q=>Q none H
def Jm (t:TE):TO:=λσ H Q=>t σ H λx H1=>∃i,x=.int i/\Q (some i) H1
theorem intsAre_of {ns:List Int}:∀{us:List Value},Vals (ns.map V.int) us->IntsAre us ns:=by
 induction ns with
 |nil=>intro us r;rw[List.map_nil] at r;cases r;exact .nil
 |cons n ns ih=>
  intro us r
  rw[Nj] at r
  cases r with
  |cons r1 r2=>
   obtain⟨t,e⟩:=r1
   subst e
   exact .cons n t (ih r2)
section
variable {X:Cx}{e:Expr}{te:TE}{lo hi:Option Expr}{tl th:TO}{pos p2:Pos}
def Fy:PO X none Fl:=by
 intro pins s σ H Q I h
 rw[evalPart_none]
 exact Mz ⟨none,H,I,.none,h⟩
def xZ (h:PE X e te):PO X (some e) (Jm te):=by
 intro pins s σ H Q I hw
 rw[evalPart_some]
 refine cv (h pins s σ H _ I hw) λu s1 ⟨x,H1,I1,r1,q1⟩=>?_
 obtain⟨i,rfl,q⟩:=q1
 obtain⟨t,rfl⟩:=r1
 exact⟨some i,H1,I1,.int i t,q⟩
def Me (X:Cx)(r:V->Option Int->Option Int->Hp->VK->Prop):Prop:=
 ∀(pins:List (Addr×Obj)) (s:Shared) (σ:St) (H:Hp) (x:V) (v vl vu:Value) (lo hi:Option Int) (sl:Addr) (Q:VK),Inv X pins σ H s->RelV x v->s.heap.IsSliceOf sl vl vu .none->IsPart vl lo->IsPart vu hi->r x lo hi H Q->
  ∃T id,typeLookup (.type T) "__getitem__"=pure (some (.builtin id))/\s.TypeIs v T/\wpAny (model X.prog X.w) X.A (getItem v (.ref sl)) (EP X pins σ Q) X.xe s
def Mh (r:V->Option Int->Option Int->Hp->VK->Prop)(te:TE)(tl th:TO):TE:=λσ H Q=>te σ H λx H1=>tl σ H1 λl H2=>th σ H2 λu H3=>r x l u H3 Q
def Cm {r:V->Option Int->Option Int->Hp->VK->Prop}(hr:Me X r)(he:PE X e te)(hl:PO X lo tl)(hu:PO X hi th):PE X (.Subscript e (.Slice lo hi none p2) pos) (Mh r te tl th):=by
 intro pins s σ H Q I h
 refine Subscript_ (cv (he pins s σ H _ I h) λv s1 ⟨x,H1,I1,r1,q1⟩=>?_)
 refine wpAny_Slice (cv (hl pins s1 σ H1 _ I1 q1) λvl s2 ⟨l,H2,I2,pl,q2⟩=>cv (hu pins s2 σ H2 _ I2 q2) λvu s3 ⟨u,H3,I3,pu,q3⟩=>?_)
 rw[evalPart_none]
 refine Mz ?_
 have I4:Inv X pins σ H3 {s3 with heap:=s3.heap.push {cls:=.type "slice",data:=.fields #[vl,vu,.none]}}:=I3.kept (t':=s3.toks) λb ob q=>Mw _ q
 obtain⟨T,id,hT,ht,hg⟩:=hr pins {s3 with heap:=s3.heap.push {cls:=.type "slice",data:=.fields #[vl,vu,.none]}} σ H3 x v vl vu l u s3.heap.objs.size Q I4 r1 (Heap.IsSliceOf.new ..) pl pu q3
 show wpAny (model X.prog X.w) X.A (subscriptTail e (.Slice lo hi none p2) v (.ref s3.heap.objs.size)) (EP X pins σ Q) X.xe {s3 with heap:=s3.heap.push {cls:=.type "slice",data:=.fields #[vl,vu,.none]}}
 exact tail_any (ops:=[.ref s3.heap.objs.size,v]) ht hT hg (by with_unfolding_all rfl)
def xB (xs:List V)(lo hi:Option Int):List V:=(xs.drop (HT.rJ xs.length 0 lo)).take (HT.rJ xs.length xs.length hi - HT.rJ xs.length 0 lo)
def vD (xs:List V)(lo hi:Option Int):(xB xs lo hi).length<=xs.length:=by
 unfold xB
 rw[NN,List.length_drop]
 omega
end
def ub (n:Nat)(i:Int):Option Nat:=if 0<=i then (if i < n then some i.toNat else none) else if -(n:Int)<=i then some (i + n).toNat else none
def jk {α:Type}(xs:List α)(i:Int):Option α:=(ub xs.length i).bind λj=>xs[j]?
def x8 {n:Nat}{i:Int}{j:Nat}(h:ub n i=some j):seqIndex? i n=some j/\j < n/\ -(n:Int)<=i/\i < n:=by
 unfold ub at h
 by_cases h0:0<=i
 ·rw[MA h0] at h
  by_cases h1:i < n
  ·rw[MA h1] at h
   have e:i.toNat=j:=Option.some.inj h
   exact⟨by rw[seqIndex_of h0 h1,e],by omega,by omega,h1⟩
  ·rw[MF h1] at h;cases h
 ·rw[MF h0] at h
  by_cases h1: -(n:Int)<=i
  ·rw[MA h1] at h
   have e:(i + n).toNat=j:=Option.some.inj h
   exact⟨by rw[seqIndex_neg (by omega) h1,e],by omega,h1,by omega⟩
  ·rw[MF h1] at h;cases h
theorem tw {α:Type}{xs:List α}{i:Int}{v:α}(h:jk xs i=some v):∃j,seqIndex? i xs.length=some j/\xs[j]? =some v/\j < xs.length/\ -(xs.length:Int)<=i/\i < xs.length:=by
 unfold jk at h
 cases e:ub xs.length i with
 |none=>rw[e] at h;cases h
 |some j=>
  rw[e] at h
  obtain⟨h1,h2,h3,h4⟩:=x8 e
  exact⟨j,h1,h,h2,h3,h4⟩
def fR {α:Type}{xs:List α}{j:Nat}{v:α}(h:xs[j]? =some v):jk xs (j:Int)=some v:=by
 have hj:j < xs.length:=(MJ.mp h).1
 have e:ub xs.length (j:Int)=some j:=by
  unfold ub
  rw[MA (by omega),MA (by omega)];simp
 unfold jk;rw[e];exact h
def yS (b:Expr):Prop:=∀o i,subscripted b false o i=operate [o,i] (getItem o i)
def Bq (X:Cx)(r:R2):Prop:=
 ∀(value slice:Expr) (pins:List (Addr×Obj)) (s:Shared) (σ:St) (H:Hp) (x y:V) (v u:Value) (Q:VK),Inv X pins σ H s->RelV x v->RelV y u->r x y H Q->
  subscripted slice false v u=operate [v,u] (getItem v u)->wpAny (model X.prog X.w) X.A (subscriptTail value slice v u) (EP X pins σ Q) X.xe s
def Mm (X:Cx)(id:String)(r:V->List V->Hp->VK->Prop):Prop:=
 ∀(pins:List (Addr×Obj)) (s:Shared) (σ:St) (H:Hp) (x:V) (xs:List V) (v:Value) (us:List Value) (Q:VK),Inv X pins σ H s->RelV x v->Vals xs us->r x xs H Q->
  wpAny (model X.prog X.w) X.A (call (.builtin id) (v :: us)) (EP X pins σ Q) X.xe s
section
variable {X:Cx}{a b:Expr}{ta tb:TE}{pos:Pos}
def Bq.or {r r':R2}(h:Bq X r)(h':Bq X r'):Bq X (λx y H Q=>r x y H Q\/r' x y H Q):=by
 intro value slice pins s σ H x y v u Q I rx ry q hs
 rcases q with q |q
 ·exact h value slice pins s σ H x y v u Q I rx ry q hs
 ·exact h' value slice pins s σ H x y v u Q I rx ry q hs
def k7 {r:R2}(hr:Bq X r)(ha:PE X a ta)(hb:PE X b tb)(hs:yS b):PE X (.Subscript a b pos) (KN r ta tb):=by
 intro pins s σ H Q I h
 exact Subscript_ (G7 ha hb I h λv u s2 x y H2 I2 rx ry q=>hr a b pins s2 σ H2 x y v u Q I2 rx ry q (hs _ _))
def Hr (K:Frag):R2:=λx y H Q=>∃p xs i v,x=.ref p/\y=.int i/\eY K H p xs/\jk xs i=some v/\Q v H
def Jy (K:Frag):R2:=λx y H Q=>∃p xs i v,x=.ref p/\y=.int i/\eV K H p xs/\jk xs i=some v/\Q v H
def Jq:R2:=λx y H Q=>∃z i c,x=.str z/\y=.int i/\z.length<=sizeLine/\jk z.cps.toList i=some c/\Q (.str ⟨#[c]⟩) H
def gu:Bq X (Hr X.K):=by
 intro value slice pins s σ H x y v u Q I rx ry h hs
 obtain⟨p,xs,i,z,rfl,rfl,hq,he,q⟩:=h
 cases rx
 obtain⟨t,rfl⟩:=ry
 obtain⟨its,r,pl,hz⟩:=I.list hq
 obtain⟨j,h1,h2,h3,h4,h5⟩:=tw he
 obtain⟨w,ew,rw'⟩:=r.get h2
 have hl:=r.length
 have hn:=ni
 have fin:EP X pins σ Q w s:=⟨z,H,I,rw',q⟩
 by_cases h0:0<=i
 ·have hj:i.toNat=j:=by
   rw[seqIndex_of h0 h5] at h1
   exact Option.some.inj h1
  exact item_listR pl.isList h0 (by omega) (by rw[hj];simpa using ew) fin hs
 ·have hj:(i + (its.toArray.size:Int)).toNat=j:=by
   rw[seqIndex_neg (by omega) h4] at h1
   rw[MW,<-hl]
   exact Option.some.inj h1
  exact subscriptTail_builtinR (x:=w) pl.isList.typeIs slot_list_getitem.lookup
   (wpAny_getItem_list_neg (Q:=λr s'=>r=w/\EP X pins σ Q r s') pl.isList (by omega) (by rw[MW] <;> omega) (by omega) (by rw[hj];simpa using ew) ⟨rfl,fin⟩) hs
def HE:Bq X (Jy X.K):=by
 intro value slice pins s σ H x y v u Q I rx ry h hs
 obtain⟨p,xs,i,z,rfl,rfl,hq,he,q⟩:=h
 cases rx
 obtain⟨t,rfl⟩:=ry
 obtain⟨its,r,pl,hz⟩:=I.tuple hq
 obtain⟨j,h1,h2,h3,h4,h5⟩:=tw he
 obtain⟨w,ew,rw'⟩:=r.get h2
 have hl:=r.length
 have hn:=ni
 have fin:EP X pins σ Q w s:=⟨z,H,I,rw',q⟩
 exact subscriptTail_builtinR (x:=w) pl.typeIs slot_tuple_getitem.lookup
  (getItem_tuple (j:=j) (Q:=λr s'=>r=w/\EP X pins σ Q r s') pl (by omega) (by omega) (by rw[MW,<-hl];exact h1) (by simpa using ew) ⟨rfl,fin⟩) hs
def IP:Bq X Jq:=by
 intro value slice pins s σ H x y v u Q I rx ry h hs
 obtain⟨z,i,c,rfl,rfl,hz,he,q⟩:=h
 obtain⟨t,rfl⟩:=rx
 obtain⟨t',rfl⟩:=ry
 obtain⟨j,h1,h2,h3,h4,h5⟩:=tw he
 have hl:z.cps.toList.length=z.length:=by simp[Str.length]
 rw[hl] at h1 h4 h5
 have hn:=ni
 exact tail_any (typeIs_str s z t) slot_str_getitem.lookup (getItem_str (c:=c) (by
  have e1:decide (i < -(2 ^ 63:Int))=false:=MK (by omega)
  have e2:decide (i>=2 ^ 63)=false:=MK (by omega)
  rw[e1,e2,Bool.or_false]) (by rw[h1];simpa using h2) ⟨.str ⟨#[c]⟩,H,I.tok _,⟨_,rfl⟩,q⟩) hs
def L5 (K:Frag):R2:=λx y H Q=>Hr K x y H Q\/Jy K x y H Q\/Jq x y H Q
def aZ:Bq X (L5 X.K):=gu.or (HE.or IP)
def xU (its:List Value)(n j:Nat)(u:Value):Obj.mapSeq (·.setIfInBounds j u) {cls:=.type "list",data:=.seq its.toArray n}={cls:=.type "list",data:=.seq (its.set j u).toArray n}:=by
 simp[Obj.mapSeq]
def Inv.lst {pins:List (Addr×Obj)}{σ:St}{H:Hp}{s:Shared}{p:Addr}{xs:List V}(I:Inv X pins σ H s)(h:H p=some (.lst xs)) :
  ∃(its:List Value) (n:Nat),Vals xs its/\s.heap.get? p=some {cls:=.type "list",data:=.seq its.toArray n}/\xs.length<=sizeLine:=by
 obtain⟨z,its,n,r,e⟩:=I.hok p _ h
 exact⟨its,n,r,e,z⟩
def Inv.lstUpd {pins:List (Addr×Obj)}{σ:St}{H:Hp}{s:Shared}{p:Addr}{xs ys:List V}{its its':List Value}{n n':Nat}{f:Obj->Obj}(I:Inv X pins σ H s)(h:H p=some (.lst xs))
  (ho:s.heap.get? p=some {cls:=.type "list",data:=.seq its.toArray n}) (hf:f {cls:=.type "list",data:=.seq its.toArray n}={cls:=.type "list",data:=.seq its'.toArray n'}) (r:Vals ys its') (hz:ys.length<=sizeLine) (t:Nat) :
  Inv X pins σ (upd H p (.lst ys)) {s with heap:=s.heap.update p f,toks:=t}:=by
 have e:(s.heap.update p f).get? p=some {cls:=.type "list",data:=.seq its'.toArray n'}:=by
  rw[Nw f ho (by rw[hf] <;> rfl),hf]
 refine I.write (x:=p) (e:=p) (by rw[h];trivial) (.inl rfl) (λb u hb q=>(NO _ _ (Ne.symm hb)).trans q) ⟨_,e⟩ ?_
 exact⟨hz,its',n',r,e⟩
def JH:V->V->V->Hp->(Hp->Prop)->Prop:=λo i v H Q=>∃p xs k j,o=.ref p/\i=.int k/\H p=some (.lst xs)/\ub xs.length k=some j/\Q (upd H p (.lst (xs.set j v)))
def set_list:so X JH:=by
 intro pins s σ H o i v ov iv u Q I ro ri rv h
 obtain⟨p,xs,k,j,rfl,rfl,hp,hj,q⟩:=h
 cases ro
 obtain⟨t,rfl⟩:=ri
 obtain⟨its,n,r,ho,hz⟩:=I.lst hp
 obtain⟨h1,h2,h3,h4⟩:=x8 hj
 have hl:=r.length
 have hn:=ni
 have I':Inv X pins σ (upd H p (.lst (xs.set j v))) {s with heap:=s.heap.update p (Obj.mapSeq (·.setIfInBounds j u))}:=
  I.lstUpd hp ho (xU its n j u) (r.set rv j) (by rw[NK];exact hz) s.toks
 by_cases h0:0<=k
 ·have hk:k.toNat=j:=by
   rw[seqIndex_of h0 h4] at h1
   exact Option.some.inj h1
  exact PySem.W.ki_setAt ho h0 (by omega) (by rw[MW,<-hl];exact h4) (by rw[hk];exact⟨_,I',q⟩)
 ·have hk:(k + (its.toArray.size:Int)).toNat=j:=by
   rw[seqIndex_neg (by omega) h3] at h1
   rw[MW,<-hl]
   exact Option.some.inj h1
  exact PySem.W.ki_setBack ho (by omega) (by rw[MW,<-hl];exact h3) (by omega) (by rw[hk];exact⟨_,I',q⟩)
def tm (lo hi:Option Int)(n:Nat):(sliceBounds lo hi none n).1=((HT.rJ n 0 lo:Nat):Int)/\(sliceBounds lo hi none n).2.1=((HT.rJ n n hi:Nat):Int)/\(sliceBounds lo hi none n).2.2=1:=by
 refine⟨?_,?_,rfl⟩
 ·cases lo with
  |none=>simp[sliceBounds,HT.rJ]
  |some i=>
   simp only[sliceBounds,HT.rJ,Option.getD_none,show (1:Int) > 0 by decide,NC]
   by_cases h:i < 0
   ·simp only[h,NC] <;> omega
   ·simp only[h,Nk] <;> omega
 ·cases hi with
  |none=>simp[sliceBounds,HT.rJ]
  |some i=>
   simp only[sliceBounds,HT.rJ,Option.getD_none,show (1:Int) > 0 by decide,NC]
   by_cases h:i < 0
   ·simp only[h,NC] <;> omega
   ·simp only[h,Nk] <;> omega
def qx (its:List Value)(lo hi:Option Int):slicePick its.toArray lo hi none=((its.drop (HT.rJ its.length 0 lo)).take (HT.rJ its.length its.length hi - HT.rJ its.length 0 lo)).toArray:=by
 obtain⟨h1,h2,h3⟩:=tm lo hi its.toArray.size
 unfold slicePick
 rw[h1,h2,h3]
 simp only[sliceRange_one,pick_run,MW] <;> rfl
def Lx (K:Frag):V->Option Int->Option Int->Hp->VK->Prop:=λx lo hi H Q=>∃a xs,x=.ref a/\eY K H a xs/\∀p,H p=none->Q (.ref p) (upd H p (.lst (xB xs lo hi)))
def EB:Me X (Lx X.K):=by
 intro pins s σ H x v vl vu lo hi sl Q I rx hs pl pu h
 obtain⟨a,xs,rfl,hx,q⟩:=h
 cases rx
 obtain⟨its,r,ht,hz⟩:=I.list hx
 have hlen:=r.length
 refine⟨"list",_,slot_list_getitem.lookup,ht.isList.typeIs,?_⟩
 refine wpAny_getItem_list_slice ht.isList hs pl pu .none (by simp) ?_ (by rw[MW] <;> omega)
 rw[qx,<-hlen]
 refine⟨.ref s.heap.objs.size,_,I.laid (t':=s.toks) (o:=.lst (xB xs lo hi)) (λb ob q=>Mw _ q) (My _) ?_,rfl,q _ (I.hok.fresh (My _))⟩
 exact⟨ND (vD xs lo hi) hz,_,0,(r.drop (HT.rJ xs.length 0 lo)).take (HT.rJ xs.length xs.length hi - HT.rJ xs.length 0 lo),MN _ rfl⟩
def sQ:cL X (.type "list") (λxs H Q=>∃p ys,xs= [.ref p]/\(eY X.K H p ys\/eV X.K H p ys)/\∀l,H l=none->Q (.ref l) (upd H l (.lst ys))):=by
 intro pins s σ H xs us Q I r h
 obtain⟨p,ys,rfl,hq,q⟩:=h
 obtain⟨u,rfl,rx⟩:=vals1 r
 cases rx
 have fin:∀(its:List Value),Vals ys its->ys.length<=sizeLine->∀(h':Heap) (c':Nat),(∀b o',s.heap.get? b=some o'->h'.get? b=some o')->
   h'.get? s.heap.objs.size=some {cls:=.type "list",dict:=none,data:=.seq its.toArray c',slots:=#[]}->EP X pins σ Q (.ref s.heap.objs.size) {s with heap:=h'}:=λits r' hz h' c' kp e=>
  ⟨.ref s.heap.objs.size,_,I.laid (t':=s.toks) kp (My _) (show cH X.prog X.w _ h' _ (.lst ys) from⟨hz,its,c',r',e⟩),rfl,q _ (I.hok.fresh (My _))⟩
 rcases hq with hq |hq
 ·obtain⟨its,r',pl,hz⟩:=I.list hq
  have hlen:=r'.length
  obtain⟨o,ho,hc,n,hd⟩:=pl.isList
  exact call_list_seq p (.inl rfl) ho hc hd (λh' c' kp e=>fin its r' hz h' c' kp e) (by simp only[MW] <;> omega)
 ·obtain⟨its,r',pl,hz⟩:=I.tuple hq
  have hlen:=r'.length
  obtain⟨o,ho,hc,n,hd⟩:=pl
  exact call_list_seq p (.inr rfl) ho hc hd (λh' c' kp e=>fin its r' hz h' c' kp e) (by simp only[MW] <;> omega)
def dH:cL X (.type "tuple") (λxs H Q=>∃p ys,xs= [.ref p]/\((eY X.K H p ys/\∀l,H l=none->Q (.ref l) (upd H l (.tup ys)))\/(eV X.K H p ys/\Q (.ref p) H))):=by
 intro pins s σ H xs us Q I r h
 obtain⟨p,ys,rfl,h⟩:=h
 obtain⟨u,rfl,rx⟩:=vals1 r
 cases rx
 rcases h with⟨hq,q⟩ | ⟨hq,q⟩
 ·obtain⟨its,r',pl,hz⟩:=I.list hq
  have hlen:=r'.length
  refine call_tuple_list pl.isList (λh' kp=>?_) (by simp only[MW] <;> omega)
  have I1:Inv X pins σ H {s with heap:=h'}:=I.kept (t':=s.toks) kp
  have I2:Inv X pins σ (upd H h'.objs.size (.tup ys)) {s with heap:=h'.push {cls:=.type "tuple",data:=.seq its.toArray}}:=
   I1.laid (t':=s.toks) (λb o e=>Mw _ e) (My _) (show cH X.prog X.w _ _ _ (.tup ys) from⟨hz,its,r',qK.new _ _⟩)
  exact⟨.ref h'.objs.size,_,I2,rfl,q _ (I1.hok.fresh (My _))⟩
 ·obtain⟨its,r',pl,hz⟩:=I.tuple hq
  exact call_tuple_same pl ⟨.ref p,H,I,rfl,q⟩
def L8 (K:Frag)(T:String)(x:V)(H:Hp):Prop:=match x with
 | .str _=>T="str"
 | .int _=>T="int"
 | .ref p=>(T="list"/\∃xs,eY K H p xs)\/(T="tuple"/\∃o,K.lookup p=some o/\o.cls=.type "tuple"/\o.dict=none)\/
   (T="dict"/\((∃kvs,H p=some (.dK kvs))\/∃kvs,H p=some (.dT kvs)))\/(T="set"/\∃S n,H p=some (.set S n))
 |_=>False
theorem IF {pins:List (Addr×Obj)}{σ:St}{H:Hp}{s:Shared}{T:String}{x:V}{v:Value}(I:Inv X pins σ H s)(r:RelV x v)(ty:L8 X.K T x H) :
  s.TypeIs v T/\∀a,v=.ref a->∃ob,s.heap.get? a=some ob/\ob.dict=none:=by
 cases x with
 |str z=>
  obtain⟨t,rfl⟩:=r
  cases (show T="str" from ty)
  exact⟨typeIs_str s z t,λ_ e=>nomatch e⟩
 |int i=>
  obtain⟨t,rfl⟩:=r
  cases (show T="int" from ty)
  exact⟨typeIs_int s i t,λ_ e=>nomatch e⟩
 |ref p=>
  cases r
  rcases ty with⟨rfl,xs,hq⟩ | ⟨rfl,o,hk,hc,hd⟩ | ⟨rfl,hk⟩ | ⟨rfl,S,n,hk⟩
  ·obtain⟨its,_,pl,_⟩:=I.list hq
   refine⟨pl.isList.typeIs,λa e=>?_⟩
   cases e
   obtain⟨o,n,e,c,hd,_⟩:=pl
   exact⟨o,e,hd⟩
  ·refine⟨⟨o,I.kIn p o hk,hc⟩,λa e=>?_⟩
   cases e
   exact⟨o,I.kIn _ o hk,hd⟩
  ·have z:∃o,s.heap.get? p=some o/\o.ExactDict:=by
    rcases hk with⟨kvs,hk⟩ | ⟨kvs,hk⟩
    ·obtain⟨_,_,_,_,o,_,_,e,ex,_⟩:=I.hok p _ hk
     exact⟨o,e,ex⟩
    ·obtain⟨_,_,_,_,o,_,_,e,ex,_⟩:=I.hok p _ hk
     exact⟨o,e,ex⟩
   obtain⟨o,e,ex⟩:=z
   refine⟨⟨o,e,ex.1⟩,λa e2=>?_⟩
   cases e2
   exact⟨o,e,ex.2.1⟩
  ·obtain⟨o,_,_,_,e,ex,_⟩:=I.hok p _ hk
   refine⟨⟨o,e,ex.1⟩,λa e2=>?_⟩
   cases e2
   exact⟨o,e,ex.2.1⟩
 |_=>exact False.elim ty
def Mo (K:Frag)(T:String)(r:V->List V->Hp->VK->Prop)(to:TE)(t:TA):TE:=λσ H Q=>to σ H λx H1=>L8 K T x H1/\t σ H1 λxs H2=>r x xs H2 Q
variable {o e:Expr}{es:List Expr}{to:TE}{t:TA}{name:Str}{apos cpos:Pos}{T id:String}{r:V->List V->Hp->VK->Prop}
def Cc (pa:PlainAttrs T)(slot:Slot T name id)(hty:typeOf (.builtin id)=pure (.type "method_descriptor"))(hm:Mm X id r)(ho:PE X o to)(ha:PA X (e :: es) t)
  (hbase:attributeBase o name X.env (eval o X.env)=eval o X.env:=by rfl)
  (hfew:((backTo cpos (starEach (e :: es) X.env)).all (λx=> !x.1) && (backToKw cpos (keywordEach [] X.env)).all (λx=>x.1.isSome)
   && decide ((e :: es).length + ([]:List Keyword).length + (if ([]:List Keyword).isEmpty then 0 else 1) < 30))=true:=by rfl)
  (hline:(apos.endLine == cpos.line)=true:=by rfl) (hs:starEach (e :: es) X.env=(false,eval e X.env) :: starEach es X.env:=by rfl) (hplain:(backTo cpos (starEach es X.env)).any (·.1)=false:=by rfl) :
  PE X (.Call (.Attribute o name apos) (e :: es) [] cpos) (Mo X.K T r to t):=by
 intro pins s σ H Q I h
 refine wpAny_Call_method_late hbase hfew hline rfl (cv (ho pins s σ H _ I h) λv s1 ⟨x,H1,I1,r1,ty,q1⟩=>?_)
 obtain⟨h1,h2⟩:=IF I1 r1 ty
 refine⟨T,id,pa,slot,hty,h1,h2,?_⟩
 have hA:=ha cpos pins s1 σ H1 _ I1 q1
 rw[hs] at hA ⊢
 refine Calls.callWith_builtin (by show (false || (backTo cpos (starEach es X.env)).any (·.1))=false;rw[hplain] <;> rfl) (O5 ?_)
 exact cv hA λus s2 ⟨vs,H2,I2,r2,q2⟩=>hm pins s2 σ H2 x vs v us Q I2 r1 r2 q2
end
def IY (X:Cx)(id:String)(r:V->List V->Hp->VK->Prop):Prop:=
 ∀(pins:List (Addr×Obj)) (s:Shared) (σ:St) (H:Hp) (x:V) (xs:List V) (v:Value) (us:List Value) (Q:VK),Inv X pins σ H s->RelV x v->Vals xs us->r x xs H Q->
  wpAny (model X.prog X.w) X.A (call (.builtin id) (v :: us)) (EP X pins σ Q) X.xe s
theorem Vals.one:∀{x:V} {us:List Value},Vals [x] us->∃u,us= [u]/\RelV x u
 |_,_,.cons r .nil=>⟨_,rfl,r⟩
theorem Vals.eraseIdx:∀{xs:List V} {us:List Value} (i:Nat),Vals xs us->Vals (xs.eraseIdx i) (us.eraseIdx i)
 |_,_,_,.nil=>.nil
 |_,_,0,.cons _ t=>t
 |_,_,i + 1,.cons r t=>.cons r (Vals.eraseIdx i t)
theorem Vals.reverse {xs:List V}{us:List Value}(h:Vals xs us):Vals xs.reverse us.reverse:=by
 induction h with
 |nil=>exact .nil
 |cons r t ih=>rw[Pg,Pg];exact Vals.append ih (.cons r .nil)
theorem Vals.rep {xs:List V}{us:List Value}(h:Vals xs us):∀k:Nat,Vals (List.replicate k xs).flatten (List.replicate k us).flatten
 | 0=>.nil
 |k + 1=>by
  rw[Nr,Nr,N6,N6]
  exact Vals.append h (Vals.rep h k)
theorem rC {α:Type}:∀(l:List α) (i:Nat),(l.eraseIdx i).length<=l.length
 | [],_=>My _
 |_ :: _,0=>Nat.le_succ _
 |_ :: r,i + 1=>Nat.succ_le_succ (rC r i)
theorem foldl_rep (its:List Value):∀(k:Nat) (acc:List Value),
  List.foldl (λx1 x2=>x1 ++ x2) acc.toArray (List.replicate k its.toArray)=(acc ++ (List.replicate k its).flatten).toArray
 | 0,acc=>by simp
 |k + 1,acc=>by
  have e:acc.toArray ++ its.toArray=(acc ++ its).toArray:=by simp
  have e2:(acc ++ its) ++ (List.replicate k its).flatten=acc ++ (List.replicate (k + 1) its).flatten:=by
   rw[Nr,N6,Nm]
  rw[<-e2,<-foldl_rep its k (acc ++ its),<-e,Nr,O9]
section
variable {X:Cx}{pins:List (Addr×Obj)}{σ:St}{H:Hp}{s:Shared}{l b:Addr}{xs ys zs:List V}
def Inv.lset {its its':List Value}{n:Nat}{f:Array Value->Array Value}{t':Nat}(I:Inv X pins σ H s)(hH:H l=some (.lst xs))
  (e:s.heap.get? l=some {cls:=.type "list",data:=.seq its.toArray n}) (hf:f its.toArray=its'.toArray) (hv:Vals ys its') (hz:ys.length<=sizeLine) :
  Inv X pins σ (upd H l (.lst ys)) {s with heap:=s.heap.update l (Obj.mapSeq f),toks:=t'}:=by
 have q:=PySem.IsL.update e f
 rw[hf] at q
 refine I.write (x:=l) (e:=l) (by rw[hH];exact trivial) (.inl rfl) (λb' u hb hu=>(NO s.heap (Obj.mapSeq f) (Ne.symm hb)).trans hu) ⟨_,q⟩ ?_
 exact⟨hz,its',_,hv,q⟩
def Inv.lnew {its:List Value}{t':Nat}(I:Inv X pins σ H s)(hv:Vals ys its)(hz:ys.length<=sizeLine) :
  Inv X pins σ (upd H s.heap.objs.size (.lst ys)) {s with heap:=s.heap.push {cls:=.type "list",data:=.seq its.toArray},toks:=t'}:=
 I.laid (λ_ _ q=>Mw _ q) (My _) ⟨hz,its,0,hv,MN _ rfl⟩
def Inv.fresh (I:Inv X pins σ H s):H s.heap.objs.size=none:=I.hok.fresh (My _)
def Inv.lstM (I:Inv X pins σ H s)(hH:H l=some (.lst xs)):xs.length<=sizeLine/\∃(its:List Value) (n:Nat),Vals xs its/\xs.length=its.length/\s.heap.get? l=some {cls:=.type "list",data:=.seq its.toArray n}:=by
 obtain⟨z,its,n,r,e⟩:=I.hok l _ hH
 exact⟨z,its,n,r,r.length,e⟩
def Dg {n:Nat}(h:n<=sizeLine):Builtin.List.listTooLong n=false:=by
 unfold Builtin.List.listTooLong
 exact MK (by omega)
end
section
variable {X:Cx}
def EO:V->List V->Hp->VK->Prop:=λx vs H Q=>∃l xs y,x=.ref l/\vs= [y]/\H l=some (.lst xs)/\xs.length < sizeLine/\Q .non (upd H l (.lst (xs ++ [y])))
def mS:IY X "list.append" EO:=by
 intro pins s σ H x vs v us Q I rx rv h
 obtain⟨l,xs,y,rfl,rfl,hH,hz,q⟩:=h
 cases rx
 obtain⟨u,rfl,ru⟩:=rv.one
 obtain⟨z,its,n,r,hl,e⟩:=I.lstM hH
 refine call_meets F.slot_list_append ⟨_,e,rfl⟩ F.entry_list_append (F.args_list_append_2 _ _) (PySem.list_append l its.toArray n u (by rw[MW];omega)) ⟨e,?_⟩
 refine⟨.non,_,I.lset (its':=its ++ [u]) hH e (by simp) (r.append (.cons ru .nil)) ?_,rfl,q⟩
 rw[M5,Oz]
 omega
def GU:V->List V->Hp->VK->Prop:=λx vs H Q=>∃l xs i k y,x=.ref l/\vs= [.int i]/\H l=some (.lst xs)/\ -(2 ^ 63)<=i/\i < 2 ^ 63/\seqIndex? i xs.length=some k/\xs[k]? =some y/\Q y (upd H l (.lst (xs.eraseIdx k)))
def CT:IY X "list.pop" GU:=by
 intro pins s σ H x vs v us Q I rx rv h
 obtain⟨l,xs,i,k,y,rfl,rfl,hH,h1,h2,hk,hy,q⟩:=h
 cases rx
 obtain⟨u,rfl,ru⟩:=rv.one
 obtain⟨t,rfl⟩:=ru
 obtain⟨z,its,n,r,hl,e⟩:=I.lstM hH
 obtain⟨w,hw,rw'⟩:=r.get hy
 refine call_meets F.slot_list_pop ⟨_,e,rfl⟩ F.entry_list_pop (F.args_list_pop_2 _ _)
  (MeetsSeq.list_pop_at l its.toArray n i t k w (fitsIndex_both h1 h2) (by rw[MW,<-hl];exact hk) (by rw[<-Ob];exact hw) (by rw[MW];omega)) ⟨e,?_⟩
 refine⟨y,_,I.lset (its':=its.eraseIdx k) hH e ?_ (r.eraseIdx k) ?_,rw',q⟩
 ·show its.toArray.eraseIdxIfInBounds k=(its.eraseIdx k).toArray
  rw[List.eraseIdxIfInBounds_toArray]
 ·have:=rC xs k
  omega
def LW:R2:=λx y H Q=>∃l k xs,x=.ref l/\y=.int k/\H l=some (.lst xs)/\ -(2 ^ 63)<=k/\k < 2 ^ 63/\xs.length * k.toNat<=sizeLine/\
 ∀p,H p=none->Q (.ref p) (upd H p (.lst (List.replicate k.toNat xs).flatten))
theorem len_rep {α:Type}(xs:List α)(k:Nat):(List.replicate k xs).flatten.length=k * xs.length:=by
 induction k with
 |zero=>simp
 |succ k ih=>rw[Nr,N6,M5,ih,Nat.succ_mul,Nat.add_comm]
def BB:lO X (binaryOp .Mult) LW:=by
 intro pins s σ H x y v u Q I rx ry h
 obtain⟨l,k,xs,rfl,rfl,hH,h1,h2,hz,q⟩:=h
 cases rx
 obtain⟨t,rfl⟩:=ry
 obtain⟨z,its,n,r,hl,e⟩:=I.lstM hH
 have hlen:its.toArray.size * k.toNat<=sizeLine:=by rw[MW,<-hl];exact hz
 have hcap:¬its.toArray.size * k.toNat > (2 ^ 63 - 1) / 8:=by
  have:(sizeLine:Nat)<=(2 ^ 63 - 1) / 8:=by decide
  omega
 have hfit:¬(!Builtin.List.listFitsIndex k)=true:=by
  rw[fitsIndex_both h1 h2]
  exact M9
 have hlong:¬Builtin.List.listTooLong (its.toArray.size * k.toNat)=true:=by
  rw[Dg hlen]
  exact M9
 have hnew:List.foldl (λx1 x2=>x1 ++ x2) #[] (List.replicate (if its.toArray.isEmpty=true then 0 else k.toNat) its.toArray)=(List.replicate k.toNat its).flatten.toArray:=by
  have f0:∀m:Nat,List.foldl (λx1 x2=>x1 ++ x2) #[] (List.replicate m its.toArray)=(List.replicate m its).flatten.toArray:=λm=>by
   have:=foldl_rep its m []
   rw[OX] at this
   exact this
  rw[f0]
  cases its with
  |nil=>simp
  |cons a r'=>rw[MF (by simp)]
 refine wpAny_binaryOp_repeat_ref (T:="list") (U:="int") (by decide) ⟨_,e,rfl⟩ (λs'=>typeIs_int s' k t) noFill_list_mul F.fills_int_mul F.slot_int_rmul repeat_list F.slot_int_index.lookup
  (call_meets F.slot_int_rmul (typeIs_int s k t) F.entry_int_rmul (F.args_int_rmul_2 _ _) (int___rmul___int_list k t l its.toArray n)
   ⟨e,rfl,⟨_,e,rfl⟩,call_meets F.slot_list_mul ⟨_,e,rfl⟩ F.entry_list_mul (F.args_list_mul_2 _ _) (AutoListH.list___mul___list_int_3 l its.toArray n k t hfit hcap hlong) ⟨e,?_⟩⟩)
 rw[hnew]
 exact⟨.ref _,_,I.lnew (t':=s.toks) (r.rep k.toNat) (by rw[len_rep,Nat.mul_comm];exact hz),rfl,q _ I.fresh⟩
end
end L2
namespace Att
open PySem PySem.W PySem.Calls PyProof.Rows
theorem nY {P:Params}{h:Heap}:∀(ns:List Int) (vs:List Value),WellAll P h vs (ns.map WData.int)->IntsAre vs ns:=by
 intro ns
 induction ns with
 |nil=>
  intro vs w
  rw[List.map_nil] at w
  cases w
  exact .nil
 |cons n ns ih=>
  intro vs w
  rw[Nj] at w
  cases w with
  |cons a b=>
   cases a
   exact .cons _ _ (ih _ b)
theorem zE {l:OpenLaw}{n:Nat}(hn:l.most=some n){P:Params}{h:Heap}{args:List WData}{vals:List Value}
  (hpre:l.row.toRowW.claim.pre args=true) (hwl:WellAll P h vals args) :
  ∃a vs ns,vals= [Value.ref a]/\args= [WData.list (ns.map WData.int)]/\h.get? a=some {cls:=.type "list",data:=.seq vs.toArray}/\IntsAre vs ns/\ns.length<=n:=by
 have hsh:WShape.hasAll [] args [.list .int]=true:=(pre_splitW hpre).1
 have hc:l.pre.holds [] {args:=args}=true:=(pre_splitW hpre).2
 obtain⟨d,r,rfl,h1,h2⟩:=hasAllW_cons hsh
 obtain rfl:=hasAllW_nil h2
 obtain⟨xs,rfl,h3⟩:=hasW_list h1
 obtain⟨ns,rfl⟩:=items_int h3
 have hlen:ns.length<=n:=by
  unfold OpenLaw.pre at hc
  have h4:(WTm.not (.lt (.lit (.int (n:Int))) (.len (.arg 0)))).holds [] {args:=[.list (ns.map .int)]}=true:=by
   have h4:=(holds_andW hc).1
   rw[hn] at h4
   exact h4
  have h5:=condW_of h4 (w_not (w_lt w_lit (w_len_list (w_arg rfl))))
  rw[MI] at h5
  refine Nat.le_of_not_lt λq=>?_
  have q':(n:Int) < ((ns.length:Nat):Int):=by omega
  first
   | (rw[ME q'] at h5;exact absurd h5 (by decide))
   | (simp at h5;omega)
 cases hwl with
 |cons w1 w2=>
  cases w2
  cases w1 with
  |list ho hall=>exact⟨_,_,ns,rfl,rfl,ho,nY ns _ hall,hlen⟩
def AE (l:OpenLaw)(args:List WData):l.row.toRowW.claim.post args (.bool true) args=true:=
 postW_of (r:=l.row.toRowW) (X:=(true == true))
  (show WShape.has [] (.bool true) .bool=true by first |rfl |decide |simp[WShape.has,WShape.arms,WShape.armsAll])
  (show (WTm.eq .res (.lit (.bool true))).value [] {args:=args,res:=some (.bool true),after:=args}=some (.bool (true == true)) from w_eq_bool (w_res rfl) w_lit) rfl
def v5 {l:OpenLaw}{n:Nat}{q:Program}{loose:List Str}{XP:(Str->Option Value)->Heap->Prop}{YP:World->Heap->Prop}{d:DefRec}
  (hn:l.most=some n) (hdf:d.params.defaults= [])
  (call:∀(w:World) (s₀ s₁:Shared) (mg mb:Str->Option Value) (fa:Addr) (o:Obj) (pm cd doc:Value) (a:Addr) (vs:List Value) (ns:List Int),
   Ground q loose [] XP w s₀ mg mb s₁.heap->YP w s₁.heap->
   s₁.heap.get? fa=some o->o.data=.func (docDef d.name d.params d.body d.scope pm cd doc)->s₁.heap.CodeRec cd d.name->mg d.name=some (.ref fa)->
   s₁.heap.get? a=some {cls:=.type "list",data:=.seq vs.toArray}->IntsAre vs ns->ns.length<=n->s₁.gens=#[]->
   codeAny (model l.prog w) callerA (.call (.ref fa) ⟨[.ref a],[]⟩) (λr s'=>r=.ok (.ret (.bool true))/\OldK s₁.heap s'.heap/\s'.os=s₁.os/\AllBare s'.gens) s₁) :
  WalkO q loose XP YP l.row.toRowW d [] (λf vs=>PySem.call f vs):=by
 intro w s₀ s₁ mg mb G Y fa o pm cd doc dV kV ho hd hcd hD hmg hg args vals as hpre hlay hrd hwl hlo
 obtain rfl:dV=.none:=Dflts.none hD hdf
 obtain rfl:kV=.none:=Dflts.noKw hD
 obtain⟨a,vs,ns,rfl,rfl,hobj,hints,hlen⟩:=zE hn hpre hwl
 refine enter_call (OO (call w s₀ s₁ mg mb fa o pm cd doc a vs ns G Y ho (fd_plain hd) hcd hmg hobj hints hlen hg) λr s' hq=>?_)
 obtain⟨rfl,h2,h3,h4⟩:=hq
 exact⟨.inl ⟨.bool true,.bool true,[],rfl,λ_=>rfl,.bool true,AE l _,λ_=>⟨List.Pairwise.nil,λ_ hm=>(nomatch hm)⟩⟩,h2,h3,h4⟩
end Att
namespace L2
open PySem PySem.Spec PyProof.Rows
theorem qY:∀{vs:List Value} {ns:List Int},IntsAre vs ns->Vals (ns.map V.int) vs
 |_,_,.nil=>.nil
 |_,_,.cons n t h=>.cons ⟨t,rfl⟩ (qY h)
def Hw (H:Hp):Prop:=∀b,H b=none\/∃o xs,H b=some (.bq o (.lst xs))
theorem DA {P:Program}{w:World}{K:Frag}{mg mb:Str->Option Value}{CX:z6}{k:Nat}{fa a:Addr}{fd:FuncData}{x:Str}{sp:Sp}{s₁:Shared}{vs:List Value}{ns:List Int}
  (KX:K.In s₁.heap) (hns:s₁.heap.Ns mainGlobals mg) (hb:s₁.heap.Ns builtinsNs mb) (hbb:∀x:Str,x≠"__name__"->mb x=bootBuiltins x) (hlim:s₁.heap.NoLimit) (hsys:∃mm,s₁.heap.Ns sysModules mm) (hg:s₁.gens=#[])
  (ha:s₁.heap.get? a=some {cls:=.type "list",data:=.seq vs.toArray}) (hi:IntsAre vs ns) (hl:ns.length<=sizeLine) (hr:fI k callerA)
  (F:∀base:Heap,K.In base->base.Ns mainGlobals mg->fW P w K mg base CX k fa fd [x] sp) (hbind:∀(s:Shared) (u:Value),BindsTo s fd ⟨[u],[]⟩ [(x,u)])
  (hsp:∀H:Hp,Hw H->eY K H a (ns.map V.int)->sp [.ref a] H (λv _=>v=.bl true) λ_ _ _=>False)
  (hCX:∀H e s',CX [] H s₁ (λ_ _ _=>False) e s'->False) :
  codeAny (model P w) callerA (.call (.ref fa) ⟨[.ref a],[]⟩) (λr s'=>r=.ok (.ret (.bool true))/\OldK s₁.heap s'.heap/\s'.os=s₁.os/\AllBare s'.gens) s₁:=by
 have rv:=qY hi
 have lenV:=hi.length
 have core:∀H:Hp,Hw H->eY K H a (ns.map V.int)->lu P w H s₁.heap->(∀b,H b≠none->b=a)->(H a≠none->K.lookup a=none)->
   codeAny (model P w) callerA (.call (.ref fa) ⟨[.ref a],[]⟩) (λr s'=>r=.ok (.ret (.bool true))/\OldK s₁.heap s'.heap/\s'.os=s₁.os/\AllBare s'.gens) s₁:=by
  intro H hO hS hok hA hK
  have base_of:∀{b:Addr} {o:Obj},s₁.heap.get? b=some o->H b=none->(sI s₁.heap H).get? b=some o:=λe n=>Df e n
  have noA:∀{b:Addr} {o:Obj} {es:Array DictEntry} {ep:Nat},s₁.heap.get? b=some o->o.data=.dict es ep->H b=none:=λ{b o es ep} e d=>by
   cases q:H b with
   |none=>rfl
   |some u=>
    have e':b=a:=hA b (by rw[q];simp)
    subst e'
    rw[ha] at e;cases e
    have d':Data.seq vs.toArray _=Data.dict es ep:=d
    cases d'
  have nsK:∀{b:Addr} {m:Str->Option Value},s₁.heap.Ns b m->(sI s₁.heap H).Ns b m:=λ{b m} ⟨o,es,ep,e,d,r⟩=>⟨o,es,ep,base_of e (noA e d),d,r⟩
  have hKb:K.In (sI s₁.heap H):=λb o e=>base_of (KX b o e) (by
   cases q:H b with
   |none=>rfl
   |some u=>
    have e':b=a:=hA b (by rw[q];simp)
    subst e'
    rw[hK (by rw[q];simp)] at e;cases e)
  have hM:Mod K mg (sI s₁.heap H):=⟨hKb,nsK hns,⟨mb,nsK hb,hbb⟩,let ⟨mc,h1,h2⟩:=hlim;⟨mc,nsK h1,h2⟩,let ⟨mm,h1⟩:=hsys;⟨mm,nsK h1⟩⟩
  have e0:FH P w K mg (sI s₁.heap H) callerA [] s₁ H:=⟨rfl,hM,λb o e=>Fj e,Nat.le_of_eq (AO _ _),trivial,λb hb=>absurd (show b∈([]:List Addr) from hb) (by simp),hok,.of_eq hg⟩
  refine OO ((F _ hKb (nsK hns)).run callerA [] s₁ H ⟨[.ref a],[]⟩ [.ref a] [.ref a] _ _ hr e0 (hbind s₁ (.ref a)) (.cons rfl .nil) (hsp H hO hS)) λr s' h=>?_
  cases r with
  |error e=>exact (hCX H e s' h).elim
  |ok fl=>
   cases fl with
   |next=>exact False.elim h
   |brk=>exact False.elim h
   |cont=>exact False.elim h
   |ret u=>
    obtain⟨v,H',os,bare,un,hok',r',q⟩:=h
    have q':v=.bl true:=q
    subst q'
    obtain rfl:u=Value.bool true:=r'
    refine⟨rfl,OldK.of_keep λb o e=>?_,os,bare⟩
    cases q:H b with
    |none=>exact un.keep b o e q (by intro z;exact absurd (show b∈([]:List Addr) from z) (by simp)) (by simp)
    |some u=>
     rcases hO b with z | ⟨ob,xs,z⟩
     ·rw[q] at z;cases z
     ·have z2:=un.frzs b ob _ z
      obtain⟨e1,_⟩:=hok b _ z
      obtain⟨e2,_⟩:=hok' b _ z2
      rw[e] at e1;cases e1
      exact e2
 cases hk:K.lookup a with
 |some o=>
  have e:=KX a o hk
  rw[ha] at e
  cases e
  refine core (λ_=>none) (λ_=>.inl rfl) (.inr ⟨_,vs.toArray,_,hk,rfl,rfl,rfl,by rw[MW,lenV];exact hl,by simpa using rv⟩) (λb u z=>by have z':(none:Option HO)=some u:=z;cases z') (λb z=>absurd rfl z) λz=>absurd rfl z
 |none=>
  refine core (λb=>if b=a then some (.bq {cls:=.type "list",data:=.seq vs.toArray} (.lst (ns.map V.int))) else none) (λb=>?_) (.inl (.inr ⟨{cls:=.type "list",data:=.seq vs.toArray},MA rfl⟩)) (λb u z=>?_) (λb z=>?_) λ_=>hk
  ·by_cases hb:b=a
   ·exact .inr ⟨_,_,MA hb⟩
   ·exact .inl (MF hb)
  ·by_cases hb:b=a
   ·have z':=(MA hb).symm.trans z
    cases z'
    subst hb
    exact⟨ha,by rw[MI];exact hl,vs,_,rv,ha⟩
   ·have z':=(MF hb).symm.trans z
    cases z'
  ·by_cases hb:b=a
   ·exact hb
   ·exact absurd (MF hb) z
def Eo {l:PySem.W.OpenLaw}{n k:Nat}{q:Program}{loose:List Str}{XP:(Str->Option Value)->Heap->Prop}{YP:World->Heap->Prop}{d:DefRec}{K:Params->Frag}{CX:World->z6}{sp:World->Sp}{x:Str}
  (hn:l.most=some n) (hn2:n<=sizeLine) (hdf:d.params.defaults= []) (hi:PyProof.Rows.importsNone q=true) (hr:fI k callerA)
  (hY:∀(w:World) (h:Heap),YP w h->(K w.params).In h)
  (F:∀(w:World) (mg:Str->Option Value) (fa:Addr) (h:Heap),(K w.params).In h->h.Ns mainGlobals mg->mg d.name=some (.ref fa)->
   ∃fd:FuncData,(∀(s:Shared) (u:Value),BindsTo s fd ⟨[u],[]⟩ [(x,u)])/\
    ∀base:Heap,(K w.params).In base->base.Ns mainGlobals mg->fW l.prog w (K w.params) mg base (CX w) k fa fd [x] (sp w))
  (hsp:∀(w:World) (H:Hp) (a:Addr) (ns:List Int),ns.length<=n->Hw H->eY (K w.params) H a (ns.map V.int)->sp w [.ref a] H (λv _=>v=.bl true) λ_ _ _=>False)
  (hCX:∀(w:World) (H:Hp) (s:Shared) (e:Value) (s':Shared),CX w [] H s (λ_ _ _=>False) e s'->False) :
  PySem.W.WalkO q loose XP YP l.row.toRowW d [] (λf vs=>PySem.call f vs):=by
 refine Att.v5 hn hdf λw s₀ s₁ mg mb fa o pm cd doc a vs ns G Y ho hd hcd hmg hobj hints hlen hg=>?_
 have KX:=hY w _ Y
 obtain⟨fd,hb,hF⟩:=F w mg fa _ KX G.T.g hmg
 exact DA KX G.T.g G.T.b G.T.builtins G.T.nolimit (let ⟨mm,h1,_⟩:=(G.T.seer hi).mods;⟨mm,h1⟩) hg hobj hints (ND hlen hn2) hr hF hb (λH hO hS=>hsp w H a ns hlen hO hS) λH e s'=>hCX w H s₁ e s'
def iF (s:Stmt):Arguments:=match s with
 | .FunctionDef _ a _ _ _ _ _ _ _ _=>a
 |_=>{posonlyargs:=[],args:=[],vararg:=none,kwonlyargs:=[],kw_defaults:=[],kwarg:=none,defaults:=[]}
def cY (s:Stmt):List Stmt:=match s with
 | .FunctionDef _ _ b _ _ _ _ _ _ _=>b
 |_=>[]
def ay (s:Stmt):Scope:=match s with
 | .FunctionDef _ _ _ _ _ _ sc _ _ _=>sc
 |_=>{kind:=.function,names:=[],isGenerator:=false,isCoroutine:=false}
abbrev Hj:z6:=λ_ _ _ _ _ _=>False
abbrev E0:XK:=λ_ _ _=>False
def Jh {X:Cx}:Passes Hj X E0:=λ_ _ _ _ _ _ _ h=>h.elim
structure DV (K:Frag)(x qual:Str)(st:Stmt)(f:Addr)(fd:FuncData):Prop where
 ex:∃(oc:Value) (od:Option Addr) (kV doc pm:Value) (an:Option Addr) (cdv ct:Value) (osl:Array (Option Value)),
  fd=PySem.W.fnOf x qual (iF st) (cY st) (ay st) .none kV doc pm an cdv ct/\K.lookup f=some ⟨oc,od,.func fd,osl⟩/\PySem.W.codeIn K cdv qual=true
 kp:PySem.W.keepIn K (.ref f)=true
section
variable {P:Program}{w:World}{K:Frag}{mg:Str->Option Value}{base:Heap}
def DV.ok {x qual:Str}{st:Stmt}{f:Addr}{fd:FuncData}{N ps:List Str}{k:Nat}{sp:Sp}(F:DV K x qual st f fd)(S:aJ N ps (ay st))(len:∀vs H Q E,sp vs H Q E->vs.length=ps.length)
  (hbody:∀(cdv:Value) (A:Around) (outer:List Env) (s:Shared) (H:Hp) (vs:List V) (Q:VK) (E:XK),fI k (A.deeper (envOfC qual (ay st) s.heap.objs.size f cdv))->sp vs H Q E->
   ∃t,qN (kU Hj P w K mg base N qual (ay st) f cdv A outer s H E).nox (cY st) t/\t {nx:=λ_ H'=>Q .non H',rt:=Q} (start N vs) H):fW P w K mg base Hj (k + 1) f fd ps sp:=by
 obtain⟨oc,od,kV,doc,pm,an,cdv,ct,osl,rfl,lk,hcd⟩:=F.ex
 refine GD lk hcd S len λA outer s H vs Q E hr hsp=>?_
 obtain⟨t,h,q⟩:=hbody cdv A outer s H vs Q E hr hsp
 exact⟨t,h.nox,q⟩
def DV.binds {x qual:Str}{st:Stmt}{f:Addr}{fd:FuncData}{ps:List Str}(F:DV K x qual st f fd)
  (h:∀(kV doc pm:Value) (an:Option Addr) (cdv ct:Value) (us:List Value),us.length=ps.length->bindArgs (PySem.W.fnOf x qual (iF st) (cY st) (ay st) .none kV doc pm an cdv ct) ⟨us,[]⟩=pure (ps.zip us)):Binds K fd ps []:=by
 obtain⟨oc,od,kV,doc,pm,an,cdv,ct,osl,rfl,lk,hcd⟩:=F.ex
 exact .all (h kV doc pm an cdv ct)
def xV {x qual:Str}{st:Stmt}{f:Addr}{oc:Value}{od an:Option Addr}{osl:Array (Option Value)}{kV doc pm cdv ct:Value}(l:K.lookup f=some ⟨oc,od,.func (PySem.W.fnOf x qual (iF st) (cY st) (ay st) .none kV doc pm an cdv ct),osl⟩)
  (c:PySem.W.codeIn K cdv qual=true) (k:PySem.W.keepIn K (.ref f)=true):DV K x qual st f (PySem.W.fnOf x qual (iF st) (cY st) (ay st) .none kV doc pm an cdv ct):=⟨⟨oc,od,kV,doc,pm,an,cdv,ct,osl,rfl,l,c⟩,k⟩
end
section
variable {X:Cx}
def pv (i:Nat){x:Str}{pos:Pos}(hN:X.N[i]? =some x:=by rfl)(hv:AW X.env.scope x:=by first |exact Or.inl rfl |exact Or.inr (Or.inl rfl) |exact Or.inr (Or.inr rfl))(hd:(x == ("__debug__":Str))=false:=by decide)
  (hcd:(x == ("__classdict__":Str))=false:=by decide):PE X (.Name x pos) (Ej i):=jO hN hv hd hcd
end
def uV {A B:Prop}(h:B):if false=true then A else B:=by
 rw[MF M9]
 exact h
def vC {A B:Prop}(h:A):if true=true then A else B:=by
 rw[MA rfl]
 exact h
def au (H H':Hp):Prop:=∀b o,H b=some o->H' b=some o
def au.refl (H:Hp):au H H:=λ_ _ h=>h
def au.trans {H H1 H2:Hp}(a:au H H1)(b:au H1 H2):au H H2:=λc o h=>b c o (a c o h)
theorem au.free {H H':Hp}(e:au H H'){l:Addr}(h:H' l=Option.none):H l=Option.none:=by
 cases q:H l with
 |none=>rfl
 |some o=>
  rw[e l o q] at h
  cases h
def au.seq {K:Frag}{H H':Hp}{a:Addr}{xs:List V}(e:au H H')(h:eY K H a xs):eY K H' a xs:=by
 rcases h with (h | ⟨o,h⟩) |h
 ·exact .inl (.inl (e _ _ h))
 ·exact .inl (.inr ⟨o,e _ _ h⟩)
 ·exact .inr h
end L2
end
namespace L2.ST
open PySem PySem.SetTable
abbrev jo (xs:Array Nat):Prop:=xs.toList.Pairwise (· < ·)
def iD {xs:Array Nat}(h:jo xs){i k d:Nat}(hik:i < k)(hk:k < xs.size):xs.getD i d < xs.getD k d:=by
 have hi:i < xs.size:=Nat.lt_trans hik hk
 have:=OI.mp h i k (by simpa using hi) (by simpa using hk) hik
 simpa[Array.getD,hi,hk] using this
theorem BH {xs:Array Nat}{j:Nat}(h:jo xs):∀(fuel lo hi:Nat),lo<=hi->hi<=xs.size->hi - lo<=fuel->
  (∀i,i < lo->xs.getD i j < j)->(∀i,hi<=i->i < xs.size->j<=xs.getD i j)->
  below.go xs j fuel lo hi<=xs.size/\(∀i,i < below.go xs j fuel lo hi->xs.getD i j < j)/\(∀i,below.go xs j fuel lo hi<=i->i < xs.size->j<=xs.getD i j):=by
 intro fuel
 induction fuel with
 |zero=>
  intro lo hi h1 h2 h3 h4 h5
  have:lo=hi:=by omega
  subst this
  exact⟨h2,h4,h5⟩
 |succ fuel ih=>
  intro lo hi h1 h2 h3 h4 h5
  unfold below.go
  by_cases hlt:lo < hi
  ·rw[MA hlt]
   dsimp only
   by_cases hm:xs.getD ((lo + hi) / 2) j < j
   ·rw[MA hm]
    refine ih _ _ (by omega) h2 (by omega) (λi hi'=>?_) h5
    by_cases e:i=(lo + hi) / 2
    ·rw[e];exact hm
    ·exact Nat.lt_trans (iD h (show i < (lo + hi) / 2 by omega) (by omega)) hm
   ·rw[MF hm]
    refine ih _ _ (by omega) (by omega) (by omega) h4 (λi hi' hs=>?_)
    by_cases e:i=(lo + hi) / 2
    ·rw[e];omega
    ·have:=iD (d:=j) h (show (lo + hi) / 2 < i by omega) hs
     omega
  ·rw[MF hlt]
   have:lo=hi:=by omega
   subst this
   exact⟨h2,h4,h5⟩
def dN {xs:Array Nat}(h:jo xs)(j:Nat) :
  below xs j<=xs.size/\(∀i,i < below xs j->xs.getD i j < j)/\(∀i,below xs j<=i->i < xs.size->j<=xs.getD i j):=
 BH h xs.size 0 xs.size (Nd _) (My _) (by omega) (λi hi=>by omega) (λi h1 h2=>by omega)
def Aw {xs:Array Nat}(h:jo xs){i j:Nat}(hi:xs[i]? =some j):below xs j=i:=by
 obtain⟨b1,b2,b3⟩:=dN h j
 have hs:i < xs.size:=(Ny.mp hi).1
 have hv:xs.getD i j=j:=by rw[Nl,hi];rfl
 rcases Pj i (below xs j) with c |c |c
 ·have:=b2 i c;omega
 ·exact c.symm
 ·have hb:below xs j < xs.size:=by omega
  have q:=b3 (below xs j) (My _) hb
  have:=iD (d:=j) h c hs
  omega
def yH (j:Nat):has #[] j=false:=by
 unfold has
 simp
def rq {t:SetTable}(h:jo t.place){i j:Nat}(hi:t.place[i]? =some j):t.slot j=.live i:=by
 unfold slot
 dsimp only
 rw[Aw h hi,MA (by simp[hi])]
def xD {t:SetTable}(hd:t.dummies=#[]){j:Nat}(hj:j∉t.place):t.slot j=.empty:=by
 unfold slot
 dsimp only
 have:¬(t.place[below t.place j]? == some j)=true:=by
  intro e
  have e':t.place[below t.place j]? =some j:=by simpa using e
  obtain⟨h1,h2⟩:=Ny.mp e'
  exact hj (Array.mem_iff_getElem.mpr ⟨_,h1,h2⟩)
 rw[MF this,hd,yH]
 rfl
def v8 (mask:Nat)(p:Probe):Probe:=
 if p.more > 0 then {p with j:=p.j + 1,more:=p.more - 1} else
 {p with j:=(leap mask p.i p.perturb).1,more:=runEnd mask (leap mask p.i p.perturb).1 - (leap mask p.i p.perturb).1,i:=(leap mask p.i p.perturb).1,perturb:=(leap mask p.i p.perturb).2}
def AJ (mask i perturb:Nat):Probe:={j:=i,more:=runEnd mask i - i,i,perturb,dummy:=none}
def st (mask:Nat)(h:Int):Probe:=AJ mask (bits h % (mask + 1)) (bits h)
def BS (t:SetTable)(p:Probe):t.advance p=v8 t.mask p:=rfl
def GC (t:SetTable)(h:Int):t.probeStart h=st t.mask h:=rfl
def fA (mask:Nat):Nat->Probe->Probe
 | 0,p=>p
 |n + 1,p=>fA mask n (v8 mask p)
theorem j9 (mask:Nat):∀(n m:Nat) (p:Probe),fA mask (n + m) p=fA mask m (fA mask n p)
 | 0,m,p=>by rw[Nt];rfl
 |n + 1,m,p=>by rw[Nat.add_right_comm];exact j9 mask n m (v8 mask p)
def A9 {mask:Nat}{p:Probe}(h:p.dummy=none):(v8 mask p).dummy=none:=by
 unfold v8;split <;> exact h
def jf {mask i:Nat}(h:i<=mask):i<=runEnd mask i/\runEnd mask i<=mask/\runEnd mask i - i<=9:=by
 unfold runEnd;split <;> omega
def In (mask:Nat)(p:Probe):Prop:=p.j + p.more<=mask/\p.more<=9
def Hv {mask i q:Nat}(h:i<=mask):In mask (AJ mask i q):=by
 have:=jf h
 unfold In AJ;dsimp only;omega
def mh (mask i q:Nat):(leap mask i q).1<=mask:=by
 unfold leap;exact Nat.lt_succ_iff.mp (O6 _ (Nat.succ_pos _))
def IQ {mask:Nat}{p:Probe}(h:In mask p):In mask (v8 mask p):=by
 unfold v8
 by_cases hm:p.more > 0
 ·rw[MA hm];unfold In at *;dsimp only;omega
 ·rw[MF hm]
  have:=jf (mh mask p.i p.perturb)
  unfold In;dsimp only;omega
theorem yT {mask:Nat}:∀(n:Nat) {p:Probe},In mask p->In mask (fA mask n p)
 | 0,_,h=>h
 |n + 1,_,h=>yT n (IQ h)
def J4 (mask:Nat)(h:Int):In mask (st mask h):=Hv (Nat.lt_succ_iff.mp (O6 _ (Nat.succ_pos _)))
theorem v3 (mask:Nat):∀(k:Nat) (p:Probe),p.more=k->fA mask (k + 1) p={p with j:=(leap mask p.i p.perturb).1,more:=runEnd mask (leap mask p.i p.perturb).1 - (leap mask p.i p.perturb).1,i:=(leap mask p.i p.perturb).1,perturb:=(leap mask p.i p.perturb).2}
 | 0,p,h=>by
  show v8 mask p=_
  unfold v8
  rw[MF (by omega)]
 |k + 1,p,h=>by
  have e:v8 mask p={p with j:=p.j + 1,more:=p.more - 1}:=by unfold v8;rw[MA (by omega)]
  show fA mask (k + 1) (v8 mask p)=_
  rw[e,v3 mask k _ (by dsimp only;omega)]
def ng (mask i q:Nat):fA mask (runEnd mask i - i + 1) (AJ mask i q)=AJ mask (leap mask i q).1 (leap mask i q).2:=by
 exact v3 mask _ (AJ mask i q) rfl
theorem ju (mask i q:Nat):∀(k:Nat),k<=runEnd mask i - i->(fA mask k (AJ mask i q))={AJ mask i q with j:=i + k,more:=runEnd mask i - i - k}
 | 0,_=>rfl
 |k + 1,h=>by
  rw[j9 mask k 1,ju mask i q k (by omega)]
  show v8 mask _=_
  unfold v8
  rw[MA (by dsimp only;omega)]
  simp only[Probe.mk.injEq]
  refine⟨by omega,by omega,?_⟩
  trivial
def fY (mask:Nat):Nat->Nat×Nat->Nat×Nat
 | 0,x=>x
 |k + 1,x=>fY mask k (leap mask x.1 x.2)
theorem nz (mask:Nat):∀(k i q:Nat),i<=mask->∃n,n<=10 * k/\fA mask n (AJ mask i q)=AJ mask (fY mask k (i,q)).1 (fY mask k (i,q)).2
 | 0,i,q,_=>⟨0,My _,rfl⟩
 |k + 1,i,q,h=>by
  obtain⟨n,hn,e⟩:=nz mask k (leap mask i q).1 (leap mask i q).2 (mh _ _ _)
  have:=jf h
  refine⟨(runEnd mask i - i + 1) + n,by omega,?_⟩
  rw[j9,ng,e]
  rfl
theorem qP (mask:Nat):∀(a b:Nat) (x:Nat×Nat),fY mask (a + b) x=fY mask b (fY mask a x)
 | 0,b,x=>by rw[Nt];rfl
 |a + 1,b,x=>by rw[Nat.add_right_comm];exact qP mask a b (leap mask x.1 x.2)
theorem uQ (mask:Nat):∀(k:Nat) (x:Nat×Nat),x.1<=mask->(fY mask k x).1<=mask
 | 0,_,h=>h
 |k + 1,x,_=>uQ mask k _ (mh mask x.1 x.2)
theorem k9 (mask:Nat):∀(k:Nat) (x:Nat×Nat),(fY mask k x).2=x.2 / 32 ^ k
 | 0,x=>by simp[fY]
 |k + 1,x=>by
  show (fY mask k (leap mask x.1 x.2)).2=_
  rw[k9 mask k,Nat.pow_succ,Nat.mul_comm,<-Nat.div_div_eq_div_mul]
  rfl
def nx (mask i:Nat):Nat:=(i * 5 + 1) % (mask + 1)
def AU (mask:Nat):Nat->Nat->Nat
 | 0,i=>i
 |k + 1,i=>AU mask k (nx mask i)
theorem oi (mask:Nat):∀(a b i:Nat),AU mask (a + b) i=AU mask b (AU mask a i)
 | 0,b,i=>by rw[Nt];rfl
 |a + 1,b,i=>by rw[Nat.add_right_comm];exact oi mask a b (nx mask i)
theorem o5 (mask:Nat):∀(k i:Nat),fY mask k (i,0)=(AU mask k i,0)
 | 0,_=>rfl
 |k + 1,i=>by
  show fY mask k (leap mask i 0)=_
  have:leap mask i 0=(nx mask i,0):=by simp[leap,nx]
  rw[this,o5 mask k]
  rfl
def Dw (mask:Nat):Prop:=mask=7\/mask=31\/mask=127
def Kt (mask:Nat)(hm:Dw mask):AU mask (mask + 1) 0=0/\∀j,j<=mask->∃k,k<=mask/\AU mask k 0=j:=by
 have h7:∀j:Nat,j < 8->∃k,k < 8/\AU 7 k 0=j:=by decide +kernel
 have h31:∀j:Nat,j < 32->∃k,k < 32/\AU 31 k 0=j:=by decide +kernel
 have h127:∀j:Nat,j < 128->∃k,k < 128/\AU 127 k 0=j:=by decide +kernel
 rcases hm with rfl |rfl |rfl
 ·exact⟨by decide +kernel,λj hj=>let ⟨k,a,b⟩:=h7 j (by omega);⟨k,by omega,b⟩⟩
 ·exact⟨by decide +kernel,λj hj=>let ⟨k,a,b⟩:=h31 j (by omega);⟨k,by omega,b⟩⟩
 ·exact⟨by decide +kernel,λj hj=>let ⟨k,a,b⟩:=h127 j (by omega);⟨k,by omega,b⟩⟩
def Ju {mask:Nat}(hm:Dw mask){i j:Nat}(hi:i<=mask)(hj:j<=mask):∃k,k<=mask/\AU mask k i=j:=by
 obtain⟨z,o⟩:=Kt mask hm
 obtain⟨a,ha,ea⟩:=o i hi
 obtain⟨b,hb,eb⟩:=o j hj
 have back:AU mask (mask + 1 - a) i=0:=by
  rw[<-ea,<-oi,show a + (mask + 1 - a)=mask + 1 by omega];exact z
 by_cases hab:a<=b
 ·refine⟨b - a,by omega,?_⟩
  rw[<-ea,<-oi,show a + (b - a)=b by omega];exact eb
 ·refine⟨mask + 1 - a + b,by omega,?_⟩
  rw[oi,back];exact eb
def oS {mask:Nat}(hm:Dw mask){i q j:Nat}(hi:i<=mask)(hq:q < 2 ^ 64)(hj:j<=mask):∃k,k<=mask + 13/\(fY mask k (i,q)).1=j:=by
 have hz:(fY mask 13 (i,q)).2=0:=by
  rw[k9]
  exact Nat.div_eq_of_lt (M4 hq (by decide))
 obtain⟨k,hk,e⟩:=Ju hm (uQ mask 13 (i,q) hi) hj
 refine⟨13 + k,by omega,?_⟩
 rw[qP]
 have:fY mask 13 (i,q)=((fY mask 13 (i,q)).1,0):=Prod.ext rfl hz
 rw[this,o5]
 exact e
def yy (h:Int):bits h < 2 ^ 64:=by
 unfold bits
 have:=Int.emod_lt_of_pos h (show (0:Int) < 2 ^ 64 by decide)
 have:=Int.emod_nonneg h (show (2 ^ 64:Int)≠0 by decide)
 omega
def CB {mask:Nat}(hm:Dw mask)(h:Int){j:Nat}(hj:j<=mask):∃n,n < 10 * turns mask/\(fA mask n (st mask h)).j=j:=by
 have hi:bits h % (mask + 1)<=mask:=Nat.lt_succ_iff.mp (O6 _ (Nat.succ_pos _))
 obtain⟨k,hk,e⟩:=oS hm hi (yy h) hj
 obtain⟨n,hn,q⟩:=nz mask k (bits h % (mask + 1)) (bits h) hi
 refine⟨n,by unfold turns;omega,?_⟩
 show (fA mask n (AJ mask _ _)).j=j
 rw[q];exact e
theorem Be {t:SetTable}{hashAt:Nat->Int}{h:Int}:∀(n fuel:Nat) (p:Probe),n < fuel->p.dummy=none->
  (∀m,m < n->∃i,t.slot (fA t.mask m p).j=.live i/\hashAt i≠h)->t.slot (fA t.mask n p).j=.empty->
  probe.go t hashAt h fuel p=some (.empty (fA t.mask n p).j none):=by
 intro n
 induction n with
 |zero=>
  intro fuel p hf hd _ he
  obtain⟨f,rfl⟩:∃f,fuel=f + 1:=⟨fuel - 1,by omega⟩
  unfold probe.go
  have he':t.slot p.j=.empty:=he
  rw[he',hd]
  rfl
 |succ n ih=>
  intro fuel p hf hd hl he
  obtain⟨f,rfl⟩:∃f,fuel=f + 1:=⟨fuel - 1,by omega⟩
  unfold probe.go
  obtain⟨i,e,ne⟩:=hl 0 (by omega)
  have e':t.slot p.j=.live i:=e
  rw[e']
  dsimp only
  rw[MF (by simpa using ne),BS]
  exact ih f (v8 t.mask p) (by omega) (A9 hd) (λm hm=>hl (m + 1) (by omega)) he
theorem Co {t:SetTable}{hashAt:Nat->Int}{h:Int}:∀(n fuel:Nat) (p:Probe),n < fuel->
  (∀m,m<=n->∃i,t.slot (fA t.mask m p).j=.live i)->(∃i,t.slot (fA t.mask n p).j=.live i/\hashAt i=h)->
  ∃j i next,probe.go t hashAt h fuel p=some (.candidate j i next)/\t.slot j=.live i/\hashAt i=h:=by
 intro n
 induction n with
 |zero=>
  intro fuel p hf _ he
  obtain⟨f,rfl⟩:∃f,fuel=f + 1:=⟨fuel - 1,by omega⟩
  obtain⟨i,e,eh⟩:=he
  have e':t.slot p.j=.live i:=e
  unfold probe.go
  rw[e']
  dsimp only
  rw[MA (by simpa using eh)]
  exact⟨p.j,i,_,rfl,e',eh⟩
 |succ n ih=>
  intro fuel p hf hl he
  obtain⟨f,rfl⟩:∃f,fuel=f + 1:=⟨fuel - 1,by omega⟩
  obtain⟨i,e⟩:=hl 0 (by omega)
  have e':t.slot p.j=.live i:=e
  unfold probe.go
  rw[e']
  dsimp only
  by_cases hh:hashAt i=h
  ·rw[MA (by simpa using hh)]
   exact⟨p.j,i,_,rfl,e',hh⟩
  ·rw[MF (by simpa using hh),BS]
   exact ih f (v8 t.mask p) (by omega) (λm hm=>hl (m + 1) (by omega)) he
def Reach (mask:Nat)(L:Nat->Prop)(h:Int)(j:Nat):Prop:=∃n,n < 10 * turns mask/\(fA mask n (st mask h)).j=j/\∀m,m < n->L (fA mask m (st mask h)).j
def Reach.mono {mask:Nat}{L L':Nat->Prop}{h:Int}{j:Nat}(r:Reach mask L h j)(k:∀x,L x->L' x):Reach mask L' h j:=
 let ⟨n,a,b,c⟩:=r;⟨n,a,b,λm hm=>k _ (c m hm)⟩
structure Tab (t:SetTable)(hs:List Int):Prop where
 mask:Dw t.mask
 dum:t.dummies=#[]
 rise:jo t.place
 le:∀j,j∈t.place->j<=t.mask
 size:t.place.size=hs.length
 load:t.place.size * 5 < t.mask * 3
 reach:∀(i j:Nat) (h:Int),t.place[i]? =some j->hs[i]? =some h->Reach t.mask (· ∈t.place) h j
 plain:t.plain=true
theorem bE {α:Type}[DecidableEq α]:∀{l m:List α},l.Nodup->(∀x,x∈l->x∈m)->l.length<=m.length
 | [],_,_,_=>Nd _
 |a :: l,m,hn,hs=>by
  have ha:=hs a (MC ..)
  have hl:=Nc.mp hn
  have:=bE (l:=l) (m:=m.erase a) hl.2 λx hx=>by
   refine (List.mem_erase_of_ne ?_).mpr (hs x (MD _ hx))
   rintro rfl;exact hl.1 hx
  rw[Pa ha] at this
  have:0 < m.length:=List.length_pos_of_mem ha
  simp only[MU];omega
def xQ {mask:Nat}{xs:Array Nat}(hl:xs.size<=mask):∃j,j<=mask/\j∉xs:=by
 refine Classical.byContradiction λhc=>?_
 have all:∀j,j∈List.range (mask + 1)->j∈xs.toList:=λj hj=>by
  have:=MX.mp hj
  refine Classical.byContradiction λhn=>hc ⟨j,by omega,λz=>hn (by simpa using z)⟩
 have:=bE OP all
 simp at this
 omega
theorem sg {P:Nat->Prop}(h:∃n,P n):∃n,P n/\∀m,m < n->¬P m:=by
 obtain⟨n,hn⟩:=h
 induction n using Nat.strongRecOn with
 |_ n ih=>
  by_cases hc:∃m,m < n/\P m
  ·obtain⟨m,hm,hp⟩:=hc
   exact ih m hm hp
  ·exact⟨n,hn,λm hm hp=>hc ⟨m,hm,hp⟩⟩
section
variable {t:SetTable}{hs:List Int}
def Tab.load' (T:Tab t hs):t.place.size<=t.mask:=by have:=T.load;omega
def Tab.slotL (T:Tab t hs){j:Nat}(hj:j∈t.place):∃i,t.slot j=.live i/\t.place[i]? =some j:=by
 obtain⟨i,hi,e⟩:=Array.mem_iff_getElem.mp hj
 have q:t.place[i]? =some j:=by rw[M8 hi,e]
 exact⟨i,rq T.rise q,q⟩
def Tab.slotE (T:Tab t hs){j:Nat}(hj:j∉t.place):t.slot j=.empty:=xD T.dum hj
def Tab.first (T:Tab t hs)(h:Int):∃n,n < 10 * turns t.mask/\(fA t.mask n (st t.mask h)).j∉t.place/\∀m,m < n->(fA t.mask m (st t.mask h)).j∈t.place:=by
 obtain⟨j,hj,hn⟩:=xQ T.load'
 obtain⟨n,h1,h2⟩:=CB T.mask h hj
 obtain⟨k,hk,hlt⟩:=sg (P:=λn=>(fA t.mask n (st t.mask h)).j∉t.place) ⟨n,by rw[h2];exact hn⟩
 refine⟨k,?_,hk,λm hm=>Classical.byContradiction λz=>hlt m hm z⟩
 rcases NL n k with c |c
 ·exact absurd (show (fA t.mask n (st t.mask h)).j∉t.place by rw[h2];exact hn) (hlt n c)
 ·omega
def Tab.absent (T:Tab t hs){hashAt:Nat->Int}(ha:∀i,i < hs.length->some (hashAt i)=hs[i]?){h:Int}(hn:h∉hs) :
  ∃j,t.probe hashAt h (t.probeStart h)=some (.empty j none)/\j∉t.place/\j<=t.mask/\Reach t.mask (· ∈t.place) h j:=by
 obtain⟨n,h1,h2,h3⟩:=T.first h
 refine⟨(fA t.mask n (st t.mask h)).j,?_,h2,?_,⟨n,h1,rfl,h3⟩⟩
 ·unfold probe
  rw[GC]
  refine Be n _ _ h1 rfl (λm hm=>?_) (T.slotE h2)
  obtain⟨i,e,q⟩:=T.slotL (h3 m hm)
  refine⟨i,e,λz=>hn ?_⟩
  have hi:i < hs.length:=by rw[<-T.size];exact (Ny.mp q).1
  have:=ha i hi
  rw[z] at this
  exact MO this.symm
 ·have:=yT n (J4 t.mask h)
  unfold In at this;omega
def Tab.present (T:Tab t hs){hashAt:Nat->Int}(ha:∀i,i < hs.length->some (hashAt i)=hs[i]?){h:Int}(hm:h∈hs) :
  ∃j i next,t.probe hashAt h (t.probeStart h)=some (.candidate j i next)/\t.slot j=.live i/\i < hs.length/\hs[i]? =some h:=by
 obtain⟨i,hi,e⟩:=Nf.mp hm
 have hi':hs[i]? =some h:=by rw[Mu hi,e]
 have hp:i < t.place.size:=by rw[T.size];exact hi
 obtain⟨n,h1,h2,h3⟩:=T.reach i t.place[i] h (M8 hp) hi'
 have hj:(fA t.mask n (st t.mask h)).j∈t.place:=by rw[h2];exact Pk hp
 obtain⟨j',i',nx,g1,g2,g3⟩:=Co (t:=t) (hashAt:=hashAt) (h:=h) n (10 * turns t.mask) (st t.mask h) h1 (λm hm=>by
   rcases NL m n with c |c
   ·obtain⟨i,e,_⟩:=T.slotL (h3 m c);exact⟨i,e⟩
   ·have:m=n:=by omega
    subst this
    obtain⟨i,e,_⟩:=T.slotL hj;exact⟨i,e⟩)
  ⟨i,by rw[h2];exact rq T.rise (M8 hp),by
   have:=ha i hi
   rw[hi'] at this
   exact Option.some.inj this⟩
 have hi2:i' < t.place.size:=by
  unfold slot at g2
  dsimp only at g2
  split at g2
  ·rename_i c
   have c':t.place[below t.place j']? =some j':=by simpa using c
   cases g2
   exact (Ny.mp c').1
  ·split at g2 <;> cases g2
 refine⟨j',i',nx,by unfold probe;rw[GC];exact g1,g2,by rw[<-T.size];exact hi2,?_⟩
 have:=ha i' (by rw[<-T.size];exact hi2)
 rw[g3] at this
 exact this.symm
end
def b7 {α:Type}(xs:Array α)(p:Nat)(x:α)(_:p<=xs.size):(insertAt xs p x).toList=xs.toList.take p ++ x :: xs.toList.drop p:=by
 unfold insertAt
 simp[Array.toList_extract,List.extract_eq_take_drop]
 rw[N8 (by simp)]
def rM (t:SetTable)(j:Nat)(hd:t.dummies=#[]):(t.put j).1={t with place:=insertAt t.place (below t.place j) j}/\(t.put j).2=below t.place j:=by
 unfold put
 dsimp only
 rw[hd,yH]
 exact⟨by simp,rfl⟩
section
variable {t:SetTable}{hs:List Int}
def lT {α:Type}{xs:Array α}{p:Nat}{x y:α}(hp:p<=xs.size):y∈insertAt xs p x↔y∈xs\/y=x:=by
 rw[<-OH,b7 xs p x hp,M1,MB,<-OH]
 have:y∈xs.toList↔y∈xs.toList.take p\/y∈xs.toList.drop p:=by
  conv=>lhs;rw[<-O3 p xs.toList]
  exact M1
 rw[this]
 constructor
 ·rintro (a |a |a)
  ·exact .inl (.inl a)
  ·exact .inr a
  ·exact .inl (.inr a)
 ·rintro ((a |a) |a)
  ·exact .inl a
  ·exact .inr (.inr a)
  ·exact .inr (.inl a)
def qh {xs:Array Nat}(h:jo xs){j:Nat}(hj:j∉xs):jo (insertAt xs (below xs j) j):=by
 obtain⟨b1,b2,b3⟩:=dN h j
 unfold jo
 rw[b7 _ _ _ b1]
 have hl:∀y,y∈xs.toList.take (below xs j)->y < j:=λy hy=>by
  obtain⟨i,hi,e⟩:=Nf.mp hy
  have hi1:i < below xs j:=by simp at hi;omega
  have hi2:i < xs.size:=by omega
  have:=b2 i hi1
  rw[Nl,M8 hi2] at this
  simp at e this
  omega
 have hr:∀y,y∈xs.toList.drop (below xs j)->j < y:=λy hy=>by
  obtain⟨i,hi,e⟩:=Nf.mp hy
  have hi2:below xs j + i < xs.size:=by simp at hi;omega
  have:=b3 (below xs j + i) (by omega) hi2
  rw[Nl,M8 hi2] at this
  simp at e this
  rcases NL j y with c |c
  ·exact c
  ·have:j=y:=by omega
   exact absurd (by rw[this,<-e];exact Pk _) hj
 refine List.pairwise_append.mpr ⟨List.Pairwise.sublist (List.take_sublist ..) h,OY.mpr ⟨λy hy=>hr y hy,List.Pairwise.sublist (List.drop_sublist ..) h⟩,λa ha b hb=>?_⟩
 rcases MB.mp hb with rfl |hb
 ·exact hl a ha
 ·exact Nat.lt_trans (hl a ha) (hr b hb)
def vp {α:Type}(l:List α)(p:Nat)(x:α)(hp:p<=l.length)(i:Nat):(l.take p ++ x :: l.drop p)[i]? =if i < p then l[i]? else if i=p then some x else l[i - 1]?:=by
 rcases Pj i p with c |c |c
 ·rw[MA c,Ng (by simp;omega),List.getElem?_take_of_lt c]
 ·subst c
  rw[MF (Nh _),MA rfl,Nb (by simp;omega),NN,Nat.min_eq_left hp,Nat.sub_self]
  rfl
 ·rw[MF (by omega),MF (by omega),Nb (by simp;omega),NN,Nat.min_eq_left hp]
  obtain⟨k,rfl⟩:∃k,i=p + 1 + k:=⟨i - (p + 1),by omega⟩
  rw[show p + 1 + k - p=k + 1 by omega,List.getElem?_cons_succ,List.getElem?_drop]
  congr 1
  omega
def Tab.put (T:Tab t hs){j:Nat}{h:Int}(hj:j∉t.place)(hm:j<=t.mask)(r:Reach t.mask (· ∈t.place) h j)(hf:(t.place.size + 1) * 5 < t.mask * 3) :
  Tab (t.put j).1 (hs.take (t.put j).2 ++ h :: hs.drop (t.put j).2)/\(t.put j).2<=hs.length:=by
 obtain⟨e1,e2⟩:=rM t j T.dum
 obtain⟨b1,b2,b3⟩:=dN T.rise j
 have hsz:(insertAt t.place (below t.place j) j).size=t.place.size + 1:=by
  rw[<-OR,b7 _ _ _ b1]
  simp;omega
 have hl:below t.place j<=hs.length:=by rw[<-T.size];exact b1
 rw[e1,e2]
 refine⟨⟨T.mask,T.dum,qh T.rise hj,λy hy=>?_,?_,?_,λi y g hy hg=>?_,T.plain⟩,hl⟩
 ·rcases (lT b1).mp hy with z |z
  ·exact T.le y z
  ·rw[z];exact hm
 ·show (insertAt t.place _ j).size=_
  rw[hsz,T.size];simp;omega
 ·show (insertAt t.place _ j).size * 5 < t.mask * 3
  rw[hsz];exact hf
 ·show Reach t.mask (· ∈insertAt t.place (below t.place j) j) g y
  have hy':(t.place.toList.take (below t.place j) ++ j :: t.place.toList.drop (below t.place j))[i]? =some y:=by
   rw[<-b7 _ _ _ b1,Ob];exact hy
  rw[vp _ _ _ (by simpa using b1)] at hy'
  rw[vp _ _ _ hl] at hg
  have old:∀{g y},Reach t.mask (· ∈t.place) g y->Reach t.mask (· ∈insertAt t.place (below t.place j) j) g y:=λr=>r.mono λx hx=>(lT b1).mpr (.inl hx)
  split at hy'
  ·rename_i c
   rw[MA c] at hg
   exact old (T.reach i y g (by simpa using hy') hg)
  ·rename_i c
   rw[MF c] at hg
   split at hy'
   ·rename_i c2
    rw[MA c2] at hg
    cases hg;cases hy'
    exact old r
   ·rename_i c2
    rw[MF c2] at hg
    exact old (T.reach (i - 1) y g (by simpa using hy') hg)
end
abbrev own (o:Array (Option Nat))(j:Nat):Option Nat:=o.getD j none
theorem Aj {mask:Nat}{o:Array (Option Nat)}(hsz:o.size=mask + 1):∀(fuel i q:Nat) (j:Nat),i<=mask->layClean.free mask o fuel i q=some j->
  ∃n,n < 10 * fuel/\(fA mask n (AJ mask i q)).j=j/\(∀m,m < n->(own o (fA mask m (AJ mask i q)).j).isSome=true)/\own o j=none/\j<=mask:=by
 intro fuel
 induction fuel with
 |zero=>intro i q j _ h;unfold layClean.free at h;cases h
 |succ fuel ih=>
  intro i q j hi h
  unfold layClean.free at h
  have hr:=jf hi
  have ind:∀k,k<=runEnd mask i - i->o.getD (i + k) (some 0)=own o (i + k):=λk hk=>by
   have:i + k < o.size:=by omega
   simp[own,Array.getD,this]
  cases hf:(List.range (runEnd mask i + 1 - i)).find? λk=>(o.getD (i + k) (some 0)).isNone with
  |some k=>
   rw[hf] at h
   dsimp only at h
   have hk:=List.find?_eq_some_iff_getElem.mp hf
   obtain⟨hn,ix,hix,eix,hbef⟩:=hk
   have ek:ix=k:=by simpa using eix
   subst ek
   have hix':ix < runEnd mask i + 1 - i:=by simpa using hix
   cases h
   refine⟨ix,by omega,?_,λm hm=>?_,?_,by omega⟩
   ·rw[ju mask i q ix (by omega)]
   ·rw[ju mask i q m (by omega)]
    have:=hbef m hm
    simp only[Pb] at this
    rw[ind m (by omega)] at this
    dsimp only
    cases e:own o (i + m) with
    |none=>rw[e] at this;simp at this
    |some _=>rfl
   ·rw[ind ix (by omega)] at hn
    cases e:own o (i + ix) with
    |none=>rfl
    |some _=>rw[e] at hn;simp at hn
  |none=>
   rw[hf] at h
   dsimp only at h
   obtain⟨n,h1,h2,h3,h4,h5⟩:=ih _ _ j (mh mask i q) h
   have hnone:=List.find?_eq_none.mp hf
   refine⟨(runEnd mask i - i + 1) + n,by omega,?_,λm hm=>?_,h4,h5⟩
   ·rw[j9,ng];exact h2
   ·rcases NL m (runEnd mask i - i + 1) with c |c
    ·rw[ju mask i q m (by omega)]
     have:=hnone m (MX.mpr (by omega))
     rw[ind m (by omega)] at this
     dsimp only
     cases e:own o (i + m) with
     |none=>rw[e] at this;simp at this
     |some _=>rfl
    ·obtain⟨k,rfl⟩:∃k,m=(runEnd mask i - i + 1) + k:=⟨m - (runEnd mask i - i + 1),by omega⟩
     rw[j9,ng]
     exact h3 k (by omega)
theorem zY {mask:Nat}{o:Array (Option Nat)}(hsz:o.size=mask + 1):∀(fuel i q k:Nat),i<=mask->k < fuel->own o (fY mask k (i,q)).1=none->∃j,layClean.free mask o fuel i q=some j:=by
 intro fuel
 induction fuel with
 |zero=>intro i q k _ hk;omega
 |succ fuel ih=>
  intro i q k hi hk hn
  unfold layClean.free
  cases hf:(List.range (runEnd mask i + 1 - i)).find? λk=>(o.getD (i + k) (some 0)).isNone with
  |some k=>exact⟨_,rfl⟩
  |none=>
   dsimp only
   cases k with
   |zero=>
    have hr:=jf hi
    have:=List.find?_eq_none.mp hf 0 (MX.mpr (by omega))
    have e:own o i=none:=hn
    have hi2:i < o.size:=by omega
    simp[own,Array.getD,hi2] at e this
    rw[e] at this;simp at this
   |succ k=>exact ih _ _ k (mh mask i q) (by omega) hn
structure Lay (mask:Nat)(o:Array (Option Nat))(hs:List Int):Prop where
 size:o.size=mask + 1
 all:∀k h,hs[k]? =some h->∃j,own o j=some k/\Reach mask (λx=>(own o x).isSome=true) h j
 one:∀j j' k,own o j=some k->own o j'=some k->j=j'
 le:∀j k,own o j=some k->j<=mask/\k < hs.length
def l9 {o:Array (Option Nat)}{j x k:Nat}(hj:j < o.size):own (o.setIfInBounds j (some k)) x=if x=j then some k else own o x:=by
 unfold own
 rw[Nl,Nl,Array.getElem?_setIfInBounds]
 by_cases e:x=j
 ·subst e;simp[hj]
 ·rw[MF e,MF (λz=>e z.symm)]
def DD {mask:Nat}(hm:Dw mask){o:Array (Option Nat)}{hs:List Int}(L:Lay mask o hs)(h:Int)(hl:hs.length<=mask) :
  ∃j,layClean.free mask o (turns mask) (bits h % (mask + 1)) (bits h)=some j/\Lay mask (o.setIfInBounds j (some hs.length)) (hs ++ [h]):=by
 have hi:bits h % (mask + 1)<=mask:=Nat.lt_succ_iff.mp (O6 _ (Nat.succ_pos _))
 have hfree:∃j,j<=mask/\own o j=none:=by
  refine Classical.byContradiction λhc=>?_
  have hall:∀j,j<=mask->∃k,own o j=some k:=λj hj=>by
   cases e:own o j with
   |none=>exact absurd ⟨j,hj,e⟩ hc
   |some k=>exact⟨k,rfl⟩
  have nd:((List.range (mask + 1)).map λj=>(own o j).getD 0).Nodup:=by
   refine NQ.mpr ?_
   refine NZ ?_ OP
   intro a b ha hb hab e
   obtain⟨ka,ea⟩:=hall a (by have:=MX.mp ha;omega)
   obtain⟨kb,eb⟩:=hall b (by have:=MX.mp hb;omega)
   rw[ea,eb] at e
   simp at e
   subst e
   exact hab (L.one a b ka ea eb)
  have:=bE (m:=List.range hs.length) nd λx hx=>by
   obtain⟨j,hj,rfl⟩:=MM.mp hx
   obtain⟨k,e⟩:=hall j (by have:=MX.mp hj;omega)
   rw[e]
   exact MX.mpr (L.le j k e).2
  simp at this
  omega
 obtain⟨j0,hj0,hn0⟩:=hfree
 obtain⟨k,hk,ek⟩:=oS hm hi (yy h) hj0
 obtain⟨j,hj⟩:=zY L.size (turns mask) _ (bits h) k hi (by unfold turns;omega) (by rw[ek];exact hn0)
 refine⟨j,hj,?_⟩
 obtain⟨n,h1,h2,h3,h4,h5⟩:=Aj L.size _ _ _ _ hi hj
 have hjs:j < o.size:=by rw[L.size];omega
 have grow:∀x,(own o x).isSome=true->(own (o.setIfInBounds j (some hs.length)) x).isSome=true:=λx hx=>by
  rw[l9 hjs];split
  ·rfl
  ·exact hx
 refine⟨by rw[Array.size_setIfInBounds];exact L.size,λk g hg=>?_,λa b c ea eb=>?_,λa c ea=>?_⟩
 ·rcases NL k hs.length with c |c
  ·rw[Ng c] at hg
   obtain⟨x,ex,rx⟩:=L.all k g hg
   refine⟨x,?_,rx.mono grow⟩
   rw[l9 hjs,MF (λz=>?_)]
   ·exact ex
   ·subst z;rw[ex] at h4;cases h4
  ·rw[Nb c] at hg
   have:k=hs.length:=by
    have:=(MJ.mp hg).1
    simp at this;omega
   subst this
   simp at hg
   subst hg
   exact⟨j,by rw[l9 hjs,MA rfl],n,h1,h2,λm hm=>grow _ (h3 m hm)⟩
 ·rw[l9 hjs] at ea eb
  split at ea
  ·cases ea
   split at eb
   ·omega
   ·have:=(L.le _ _ eb).2;omega
  ·split at eb
   ·cases eb
    have:=(L.le _ _ ea).2;omega
   ·exact L.one _ _ _ ea eb
 ·rw[l9 hjs] at ea
  rw[M5]
  split at ea
  ·cases ea;simp;omega
  ·have:=L.le _ _ ea;simp;omega
theorem y9 {mask:Nat}(hm:Dw mask):∀(rest hs:List Int) (o:Array (Option Nat)),Lay mask o hs->hs.length + rest.length<=mask->
  ∃o',rest.foldl (init:=some (o,hs.length)) (λacc h=>do
   let (owner,k) <-acc
   let j <-layClean.free mask owner (turns mask) (bits h % (mask + 1)) (bits h)
   pure (owner.setIfInBounds j (some k),k + 1))=some (o',hs.length + rest.length)/\Lay mask o' (hs ++ rest)
 | [],hs,o,L,_=>⟨o,rfl,by rw[Oc];exact L⟩
 |h :: rest,hs,o,L,hl=>by
  simp only[MU] at hl
  obtain⟨j,e,L'⟩:=DD hm L h (by omega)
  obtain⟨o',e',L2⟩:=y9 hm rest (hs ++ [h]) _ L' (by simp;omega)
  refine⟨o',?_,by rw[Nm] at L2;exact L2⟩
  rw[O9]
  simp only[Option.bind_eq_bind,Option.bind_some,e,Option.pure_def]
  have el:(hs ++ [h]).length=hs.length + 1:=by simp
  rw[el] at e'
  simp only[Option.bind_eq_bind,Option.pure_def] at e'
  rw[e']
  simp;omega
def yh (n j:Nat):own (Array.replicate n none) j=none:=by
 unfold own
 rw[Nl,Array.getElem?_replicate]
 split <;> rfl
def Fg (mask:Nat):Lay mask (Array.replicate (mask + 1) none) []:=
 ⟨by simp,λk h e=>by simp at e,λj j' k e _=>by (rw[yh] at e;cases e),λj k e=>by (rw[yh] at e;cases e)⟩
def zq {mask:Nat}(hm:Dw mask)(hs:Array Int)(hl:hs.size * 5 < mask * 3)(finger moves:Nat)(led:Bool) :
  ∃t order,laid mask finger moves led true hs=some (t,order)/\t.led=led/\t.mask=mask/\order.toList.Nodup/\(∀k,k∈order.toList↔k < hs.size)/\
   Tab t (order.toList.map λk=>hs.toList.getD k 0):=by
 obtain⟨o,e,L⟩:=y9 hm hs.toList [] _ (Fg mask) (by simp;omega)
 simp only[OX] at L
 have ec:layClean mask hs=some o:=by
  unfold layClean
  rw[<-Array.foldl_toList]
  simp only[List.length_nil] at e
  rw[e];rfl
 have hlive:∀j k,(j,k)∈((List.range (mask + 1)).filterMap λj=>(o.getD j none).map (j, ·))↔own o j=some k:=λj k=>by
  rw[Oa]
  constructor
  ·rintro⟨x,_,q⟩
   cases ex:o.getD x none with
   |none=>rw[ex] at q;cases q
   |some y=>rw[ex] at q;simp at q;rw[<-q.1,<-q.2];exact ex
  ·intro q
   refine⟨j,MX.mpr (by have:=(L.le j k q).1;omega),?_⟩
   have:o.getD j none=some k:=q
   rw[this];rfl
 have hpw:((List.range (mask + 1)).filterMap λj=>(o.getD j none).map (j, ·)).Pairwise (λa b=>a.1 < b.1):=by
  refine List.pairwise_filterMap.mpr ?_
  refine List.Pairwise.imp ?_ List.pairwise_lt_range
  intro a b hab x hx y hy
  cases ea:o.getD a none with
  |none=>rw[ea] at hx;cases hx
  |some u=>
   cases eb:o.getD b none with
   |none=>rw[eb] at hy;cases hy
   |some v=>
    rw[ea] at hx;rw[eb] at hy
    simp at hx hy
    rw[<-hx,<-hy];exact hab
 generalize hlv:((List.range (mask + 1)).filterMap λj=>(o.getD j none).map (j, ·))=live at hlive hpw
 refine⟨{mask,place:=(live.map (·.1)).toArray,dummies:=#[],finger,led,moves,plain:=true},(live.map (·.2)).toArray,?_,rfl,rfl,?_,λk=>?_,?_⟩
 ·unfold laid
  rw[ec]
  simp only[Option.bind_eq_bind,Option.bind_some,Option.pure_def,hlv]
 ·have:(live.map (·.2)).Nodup:=by
   refine NQ.mpr (NZ ?_ hpw)
   intro a b ha hb hab ee
   have h1:=(hlive a.1 a.2).mp ha
   have h2:=(hlive b.1 b.2).mp hb
   rw[ee] at h1
   have:=L.one _ _ _ h1 h2
   omega
  simpa using this
 ·rw[MM]
  constructor
  ·rintro⟨x,hx,rfl⟩
   have:=(L.le x.1 x.2 ((hlive x.1 x.2).mp hx)).2
   simpa using this
  ·intro hk
   have hk':k < hs.toList.length:=by simpa using hk
   obtain⟨j,ej,_⟩:=L.all k _ (Mu hk')
   exact⟨(j,k),(hlive j k).mpr ej,rfl⟩
 ·have hord:live.length=hs.size:=by
   have a1:(live.map (·.2)).Nodup:=by
    refine NQ.mpr (NZ ?_ hpw)
    intro a b ha hb hab ee
    have h1:=(hlive a.1 a.2).mp ha
    have h2:=(hlive b.1 b.2).mp hb
    rw[ee] at h1
    have:=L.one _ _ _ h1 h2
    omega
   have b1:=bE (m:=List.range hs.size) a1 λx hx=>by
    obtain⟨y,hy,rfl⟩:=MM.mp hx
    have:=(L.le y.1 y.2 ((hlive y.1 y.2).mp hy)).2
    exact MX.mpr (by simpa using this)
   have b2:=bE (l:=List.range hs.size) (m:=live.map (·.2)) OP λx hx=>by
    have hk':x < hs.toList.length:=by simpa using MX.mp hx
    obtain⟨j,ej,_⟩:=L.all x _ (Mu hk')
    exact MM.mpr ⟨(j,x),(hlive j x).mpr ej,rfl⟩
   simp at b1 b2
   omega
  refine⟨hm,rfl,?_,λj hj=>?_,?_,?_,λi j h hi hh=>?_,rfl⟩
  ·show (live.map (·.1)).toArray.toList.Pairwise _
   rw[NY]
   exact NQ.mpr hpw
  ·have:j∈live.map (·.1):=by simpa using hj
   obtain⟨x,hx,rfl⟩:=MM.mp this
   exact (L.le x.1 x.2 ((hlive x.1 x.2).mp hx)).1
  ·simp
  ·show (live.map (·.1)).toArray.size * 5 < mask * 3
   simp[hord];exact hl
  ·have hi':(live.map (·.1))[i]? =some j:=by simpa using hi
   have hh':((live.map (·.2)).map λk=>hs.toList.getD k 0)[i]? =some h:=by simpa using hh
   rw[MG] at hi'
   rw[MG,MG] at hh'
   cases ex:live[i]? with
   |none=>rw[ex] at hi';cases hi'
   |some x=>
    rw[ex] at hi' hh'
    simp at hi' hh'
    have hxl:=(hlive x.1 x.2).mp (MO ex)
    have hk:=(L.le _ _ hxl).2
    have hk2:x.2 < hs.size:=by simpa using hk
    obtain⟨j2,ej2,r⟩:=L.all x.2 h (by
     rw[Mu hk]
     simp[hk2] at hh'
     simpa using hh')
    have:j2=j:=by rw[<-hi'];exact L.one _ _ _ ej2 hxl
    subst this
    refine r.mono λy hy=>?_
    show y∈(live.map (·.1)).toArray
    cases ey:own o y with
    |none=>rw[ey] at hy;cases hy
    |some k=>
     have:y∈live.map (·.1):=MM.mpr ⟨(y,k),(hlive y k).mpr ey,rfl⟩
     simpa using this
abbrev Pr:=Int×Int
def hp (p:Pr):Int:=reduceHash (Builtin.Tuple.tupleHashOf [hashInt p.1,hashInt p.2])
def Sm (p:Pr):Prop:=(0<=p.1/\p.1 < 8)/\(0<=p.2/\p.2 < 8)
def oN:List Pr:=(List.range 64).map λk=>(((k / 8:Nat):Int),((k % 8:Nat):Int))
def lD {p:Pr}(h:Sm p):p∈oN:=by
 unfold oN
 obtain⟨⟨a,b⟩,c,d⟩:=h
 refine MM.mpr ⟨p.1.toNat * 8 + p.2.toNat,MX.mpr (by omega),?_⟩
 refine Prod.ext ?_ ?_ <;> dsimp only <;> omega
def CS:(oN.map hp).Nodup:=by decide +kernel
theorem lY {α β:Type}{f:α->β}:∀{l:List α},(l.map f).Nodup->∀a b,a∈l->b∈l->f a=f b->a=b
 | [],_,_,_,h,_,_=>by cases h
 |x :: l,hn,a,b,ha,hb,e=>by
  have hn':=Nc.mp hn
  rcases MB.mp ha with ea |ha
  ·rcases MB.mp hb with eb |hb
   ·rw[ea,eb]
   ·exact absurd (MM.mpr ⟨b,hb,by rw[<-e,ea]⟩) hn'.1
  ·rcases MB.mp hb with eb |hb
   ·exact absurd (MM.mpr ⟨a,ha,by rw[e,eb]⟩) hn'.1
   ·exact lY hn'.2 a b ha hb e
def Ih {p q:Pr}(hp1:Sm p)(hq:Sm q)(e:hp p=hp q):p=q:=lY CS p q (lD hp1) (lD hq) e
def wZ {l:List Pr}(hn:l.Nodup)(h:∀p,p∈l->Sm p):l.length<=64:=by
 have:=bE (m:=oN) hn λx hx=>lD (h x hx)
 simpa[oN] using this
section
variable {prog:Program}{w:World}{A:Around}{E:Value->Shared->Prop}{s:Shared}
abbrev bW (prog:Program)(w:World)(h:Heap)(p:Pr)(a:Addr):Prop:=IsTupleKey (intKind prog w) h [p.1,p.2] a
def bW.inj {h:Heap}{p q:Pr}{a:Addr}(x:bW prog w h p a)(y:bW prog w h q a):p=q:=by
 have:=IsTupleKey.inj x y
 simp at this
 exact Prod.ext this.1 this.2
structure so (f:Pr->Int)(prog:Program)(w:World)(led:Bool)(h:Heap)(S:Addr)(ps:List (Addr×Pr)):Prop where
 ex:∃o ep t,h.get? S=some o/\o.ExactSet/\o.data=.set (ps.map λq=>(f q.2,Value.ref q.1)).toArray ep t/\Tab t (ps.map λq=>f q.2)/\t.led=led
 at':∀q,q∈ps->bW prog w h q.2 q.1/\Sm q.2
 nd:(ps.map (·.2)).Nodup
def pQ {t:SetTable}{hs:List Int}(T:Tab t hs){n:Nat}(e:n=hs.length):t.fits n=true:=by
 unfold SetTable.fits SetTable.fill
 have:=T.load'
 simp[T.size,T.dum,e]
 rw[T.size] at this;exact this
def A4 (a:Addr)(wanted:Nat):setRelay a wanted=(do
  let (es,_,t) <-setState a
  if SetTable.sizeAbove wanted > sizeLine then unsupported "set:memory"
  let (es,t) <-(do
   let some (t,order):=t.relaid (es.map (·.1)) wanted |unsupported "internal:set-table-without-room"
   let es':=order.filterMap (es[·]?)
   if es'.size != es.size then unsupported "internal:set-table-lost-an-element"
   pure (es',t))
  storeSet a es t):=rfl
def zt (a:Addr)(x:Value)(h:Int)(fuel:Nat):setSearchFrom a x h true (fuel + 1) none=(do
  let (es,_,t) <-setState a
  if t.gaveWay then unsupported "set:on-a-table-that-gave-way"
  let some met:=t.probe (λi=>(es[i]?.map (·.1)).getD 0) h (t.probeStart h) |unsupported "internal:set-table-without-an-empty-slot"
  match met with
  | .empty j dummy=>
   match dummy with
   |none=>return .free j false
   |some d=>
    if true && t.slot d != .dummy then rule "set.search.the-dummy-was-taken";return <-setSearchFrom a x h true fuel none
    return .free d true
  | .candidate j i next=>
   if !t.led then
    if <-searchCouldBeSeen x ((es.filter (·.1 == h)).toList.map (·.2)) then unsupported "set:the-search-would-show-the-table"
   let some (_,y):=es[i]? |unsupported "internal:set-entry"
   let equal <-holding [y] (eqBool y x)
   let (es',_,t') <-setState a
   if true && equal then return .there none
   let some same:=t'.sameMemory t.moves t.mask |unsupported "set.changed-during-lookup:is-the-new-block-at-the-old-address"
   let still <-match (if same then t'.slot j else .empty) with
    | .live i'=>match es'[i']? with
     |some (_,y')=>do pure (if <-isSame y' y then some i' else none)
     |none=>pure none
    |_=>pure none
   match still with
   |none=>rule "set.search.anew";setSearchFrom a x h true fuel none
   |some i'=>if equal then return .there (some i') else setSearchFrom a x h true fuel (some next)):=rfl
theorem vR (n:Nat){v:Value}(h:carriedByValue v=true):ofAClassStatement n v=pure false:=by
 cases v with
 |ref a=>simp[carriedByValue] at h
 |_=>first |rfl | (unfold ofAClassStatement;rfl)
def xo (n:Nat){v:Value}{k:Int}(h:(intKind prog w).is k v=true):hashByValue n v=pure true:=by
 obtain⟨t,rfl⟩:=Oj h
 cases n <;> rfl
def mj {p:Pr}{a:Addr}{Q:Bool->Shared->Prop}(hk:bW prog w s.heap p a)(h:Q false s):wpAny (model prog w) A (ofAClassStatement 8 (.ref a)) Q E s:=by
 have hT:=hk.typeIs
 obtain⟨o,items,n,ho,hc,hd,hi⟩:=hk
 unfold ofAClassStatement
 refine Mv (wpAny_typeOf hT ?_)
 dsimp only
 rw[MA (by decide)]
 refine Mv (Mz ?_)
 simp only[OW,MQ,Nk]
 refine Mv (wpAny_seqItems ho hd ?_)
 dsimp only
 refine Mv ?_
 rw[<-Array.forIn_toList]
 refine wpAny_forIn_list _ (λrest r s'=>r.1=none/\s'=s/\∀v∈rest,carriedByValue v=true) _ ?_ ?_ _ _ ⟨rfl,rfl,hi.byValue⟩
 ·rintro v rest r s' ⟨hr,rfl,hall⟩
  rw[vR _ (hall v MC)]
  refine Mv (Mz ?_)
  simp only[MQ,Nk]
  exact Mz ⟨rfl,rfl,λu hu'=>hall u (MD _ hu')⟩
 ·rintro⟨r1,r2⟩ s' ⟨hr,rfl,_⟩
  simp only at hr
  subst hr
  exact Mz h
def vM {p:Pr}{a:Addr}{Q:Bool->Shared->Prop}(hk:bW prog w s.heap p a)(h:Q true s):wpAny (model prog w) A (hashByValue 8 (.ref a)) Q E s:=by
 have hT:=hk.typeIs
 obtain⟨o,items,n,ho,hc,hd,hi⟩:=hk
 unfold hashByValue
 refine Mv (wpAny_specialOf hT F.slot_tuple_hash.lookup ?_)
 dsimp only
 refine Mv (wpAny_seqItems ho hd ?_)
 simp only[Option.getD_some]
 refine Mv ?_
 rw[<-Array.forIn_toList]
 refine wpAny_forIn_list _ (λrest r s'=>r.1=none/\s'=s/\∀v∈rest,∃k,(intKind prog w).is k v=true) _ ?_ ?_ _ _ ⟨rfl,rfl,λv hv=>?_⟩
 ·rintro v rest r s' ⟨hr,rfl,hall⟩
  obtain⟨k,hk⟩:=hall v MC
  rw[xo _ hk]
  refine Mv (Mz ?_)
  simp only[OW,MQ,Nk]
  exact Mz ⟨rfl,rfl,λu hu'=>hall u (MD _ hu')⟩
 ·rintro⟨r1,r2⟩ s' ⟨hr,rfl,_⟩
  simp only at hr
  subst hr
  exact Mz h
 ·generalize items.toList=l at *
  cases hi with
  |cons h1 hi=>
   cases hi with
   |cons h2 hi=>
    cases hi
    rcases MB.mp hv with rfl |hv
    ·exact⟨_,h1⟩
    ·rcases MB.mp hv with rfl |hv
     ·exact⟨_,h2⟩
     ·cases hv
def xJ {p:Pr}{a:Addr}(hk:bW prog w s.heap p a):∀(l:List Value) {Q:Bool->Shared->Prop},(∀v∈l,∃q b,v=.ref b/\bW prog w s.heap q b)->Q false s->wpAny (model prog w) A (searchCouldBeSeen (.ref a) l) Q E s:=by
 intro l Q hl h
 unfold searchCouldBeSeen
 refine Mv ?_
 refine wpAny_forIn_list _ (λrest r s'=>r.1=none/\s'=s/\∀v∈rest,∃q b,v=.ref b/\bW prog w s.heap q b) _ ?_ ?_ _ _ ⟨rfl,rfl,hl⟩
 ·rintro v rest r s' ⟨hr,rfl,hall⟩
  obtain⟨q,b,rfl,hb⟩:=hall v MC
  have hrest:=λu hu'=>hall u (MD _ hu')
  dsimp only
  split
  ·exact Mz ⟨rfl,rfl,hrest⟩
  ·refine Mv (wpAny_eqIsQuiet_tuple hk ?_)
   simp only[OW,MQ,Nk]
   refine Mv (wpAny_eqIsQuiet_tuple hb ?_)
   simp only[OW,MQ,Nk]
   refine Mv (mj hk ?_)
   simp only[MQ,Nk]
   refine Mv (mj hb ?_)
   simp only[MQ,Nk]
   exact Mz ⟨rfl,rfl,hrest⟩
 ·rintro⟨r1,r2⟩ s' ⟨hr,rfl,_⟩
  simp only at hr
  subst hr
  exact Mz h
end
section
variable {prog:Program}{w:World}{A:Around}{E:Value->Shared->Prop}{s:Shared}
def vt (t:SetTable)(hs:Array Int)(wanted:Nat)(hp:t.plain=true):t.relaid hs wanted=laid (sizeAbove wanted - 1) t.finger (t.movedTo (sizeAbove wanted - 1)) t.led true hs:=by
 unfold relaid;rw[hp]
def Gs:sizeAbove (grown 5)=32/\sizeAbove (grown 19)=128:=by decide +kernel
theorem filterMap_get {α:Type}(es:Array α):∀(order:List Nat),(∀k,k∈order->k < es.size)->∃l:List α,order.filterMap (λi=>es[i]?)=l/\l.length=order.length/\(∀(i k:Nat),order[i]? =some k->l[i]? =es[k]?)/\∀x,x∈l->∃k,k∈order/\es[k]? =some x
 | [],_=>⟨[],rfl,rfl,λi k h=>by simp at h,λx hx=>by cases hx⟩
 |k :: r,h=>by
  obtain⟨l,e1,e2,e3,e4⟩:=filterMap_get es r λx hx=>h x (MD _ hx)
  have hk:=h k (MC ..)
  refine⟨es[k] :: l,by rw[Ot,M8 hk,e1],by simp[e2],λi x hi=>?_,λx hx=>?_⟩
  ·cases i with
   |zero=>simp at hi;subst hi;simp[hk]
   |succ i=>simp at hi;simpa using e3 i x hi
  ·rcases MB.mp hx with rfl |hx
   ·exact⟨k,MC ..,by simp[hk]⟩
   ·obtain⟨y,hy,q⟩:=e4 x hx
    exact⟨y,MD _ hy,q⟩
abbrev dU (f:Pr->Int)(q:Addr×Pr):Int×Value:=(f q.2,Value.ref q.1)
def tj (f:Pr->Int){mask:Nat}(hm:Dw mask){ps:List (Addr×Pr)}(hl:ps.length * 5 < mask * 3)(finger moves:Nat)(led:Bool) :
  ∃(t:SetTable) (order:Array Nat) (ps':List (Addr×Pr)),laid mask finger moves led true ((ps.map (dU f)).toArray.map (·.1))=some (t,order)/\order.filterMap (λi=>(ps.map (dU f)).toArray[i]?)=(ps'.map (dU f)).toArray/\ps'.length=ps.length/\
   (∀q,q∈ps'↔q∈ps)/\Tab t (ps'.map λq=>f q.2)/\t.led=led:=by
 obtain⟨t,order,e,el,em,nd,mem,T⟩:=zq hm ((ps.map (dU f)).toArray.map (·.1)) (by simpa using hl) finger moves led
 have hsz:((ps.map (dU f)).toArray.map (·.1)).size=ps.length:=by simp
 obtain⟨ps',f1,f2,f3,f4⟩:=filterMap_get ps.toArray order.toList λk hk=>by
  have:=(mem k).mp hk;rw[hsz] at this;simpa using this
 have hlen:order.toList.length=ps.length:=by
  have a1:=bE (m:=List.range ps.length) nd λx hx=>MX.mpr (by have:=(mem x).mp hx;rwa [hsz] at this)
  have a2:=bE (l:=List.range ps.length) (m:=order.toList) OP λx hx=>(mem x).mpr (by rw[hsz];exact MX.mp hx)
  simp at a1 a2 ⊢;omega
 refine⟨t,order,ps',e,?_,by omega,λq=>⟨λhq=>?_,λhq=>?_⟩,?_,el⟩
 ·apply Array.toList_inj.mp
  rw[Array.toList_filterMap,<-f1]
  simp only[NY]
  rw[List.map_filterMap]
  congr 1
  funext i
  simp
 ·obtain⟨k,_,q2⟩:=f4 q hq
  rw[OA] at q2
  exact MO q2
 ·obtain⟨k,hk,q2⟩:=Nf.mp hq
  have hko:k∈order.toList:=(mem k).mpr (by rw[hsz];exact hk)
  obtain⟨i,hi,e2⟩:=Nf.mp hko
  have:=f3 i k (by rw[Mu hi,e2])
  rw[OA,Mu hk,q2] at this
  exact MO this
 ·have:(order.toList.map λk=>((ps.map (dU f)).toArray.map (·.1)).toList.getD k 0)=ps'.map λq=>f q.2:=by
   apply OF
   intro i
   rw[MG,MG]
   cases hi:order.toList[i]? with
   |none=>
    have:ps'[i]? =none:=List.getElem?_eq_none_iff.mpr (by rw[f2];exact List.getElem?_eq_none_iff.mp hi)
    rw[this];rfl
   |some k=>
    have hk:k < ps.length:=by have:=(mem k).mp (MO hi);rwa [hsz] at this
    have:=f3 i k hi
    rw[OA,Mu hk] at this
    rw[this]
    simp[hk]
  rw[<-this];exact T
theorem nM:∀{l m:List Int},m.Nodup->(∀x,x∈m->x∈l)->l.length<=m.length->l.Nodup
 | [],_,_,_,_=>ON
 |a :: l,m,hn,hs,hl=>by
  by_cases ha:a∈m
  ·have hnot:a∉l:=λz=>by
    have:=bE (m:=l) hn λx hx=>by
     rcases MB.mp (hs x hx) with e |e
     ·rw[e];exact z
     ·exact e
    simp only[MU] at hl;omega
   refine Nc.mpr ⟨hnot,nM (m:=m.erase a) (hn.erase a) (λx hx=>?_) ?_⟩
   ·have:=(hn.mem_erase_iff).mp hx
    rcases MB.mp (hs x this.2) with e |e
    ·exact absurd e this.1
    ·exact e
   ·rw[Pa ha];simp only[MU] at hl;omega
  ·have:=bE (m:=l) hn λx hx=>by
    rcases MB.mp (hs x hx) with e |e
    ·exact absurd (e▸hx) ha
    ·exact e
   simp only[MU] at hl;omega
def ua (a:Addr)(es:Array (Int×Value)):byScan (.ref a) es=false:=by unfold byScan Value.scannable;simp
def xt {t:SetTable}(h:Dw t.mask):t.gaveWay=false:=by
 unfold SetTable.gaveWay
 rcases h with e |e |e <;> rw[e] <;> decide
def so.add {f:Pr->Int}(hinj:∀p q,Sm p->Sm q->f p=f q->p=q){led:Bool}{S a:Addr}{ps:List (Addr×Pr)}{p:Pr}{Q:Bool->Shared->Prop}(P:so f prog w led s.heap S ps)(hk:bW prog w s.heap p a)(hs:Sm p)(hu:A.units < cLine)
  (h:∀(b:Bool) (h':Heap) (ps':List (Addr×Pr)),Heap.SameBut S s.heap h'->so f prog w led h' S ps'->(∀q,q∈ps'->q∈ps\/q=(a,p))->(∀q,q∈ps->q∈ps')->(∃q,q∈ps'/\q.2=p)->Q b {s with heap:=h'}) :
  wpAny (model prog w) A (setAddHashed S (.ref a) (f p)) Q E s:=by
 obtain⟨o,ep,t,ho,hex,hd,T,hled⟩:=P.ex
 have hfit:t.fits (ps.map (dU f)).toArray.size=true:=pQ T (by simp)
 have ha:∀i,i < (ps.map λq=>f q.2).length->some ((((ps.map (dU f)).toArray)[i]?.map (·.1)).getD 0)=(ps.map λq=>f q.2)[i]?:=λi hi=>by
  have hi':i < ps.length:=by simpa using hi
  simp[hi']
 unfold setAddHashed
 refine NR ?_
 unfold setAddHashedIn
 refine Mv (Nz ho hd hfit ?_)
 dsimp only
 rw[ua]
 simp only[MQ,Nk]
 unfold setSearch
 rw[zt]
 refine Mv (Mv (Nz ho hd hfit ?_))
 dsimp only
 rw[xt T.mask]
 simp only[MQ,Nk]
 by_cases hm:f p∈ps.map λq=>f q.2
 ·
  obtain⟨j,i,nx,e1,e2,e3,e4⟩:=T.present ha hm
  rw[e1]
  dsimp only
  have hi:i < ps.length:=by simpa using e3
  have e5:f (ps[i].2)=f p:=by
   rw[MG,Mu hi] at e4
   simpa using e4
  have hq:=P.at' ps[i] (NF hi)
  have e6:ps[i].2=p:=hinj _ _ hq.2 hs e5
  have hget:((ps.map (dU f)).toArray)[i]? =some (f ps[i].2,.ref ps[i].1):=by simp[hi]
  have rest:wpAny (model prog w) A (do
    let some (_,y):=((ps.map (dU f)).toArray)[i]? |unsupported "internal:set-entry"
    let equal <-holding [y] (eqBool y (.ref a))
    let (es',_,t') <-setState S
    if true && equal then return SetFound.there none
    let some same:=t'.sameMemory t.moves t.mask |unsupported "set.changed-during-lookup:is-the-new-block-at-the-old-address"
    let still <-match (if same then t'.slot j else .empty) with
     | .live i'=>match es'[i']? with
      |some (_,y')=>do pure (if <-isSame y' y then some i' else none)
      |none=>pure none
     |_=>pure none
    match still with
    |none=>rule "set.search.anew";setSearchFrom S (.ref a) (f p) true 99999 none
    |some i'=>if equal then return .there (some i') else setSearchFrom S (.ref a) (f p) true 99999 (some nx))
    (λr s'=>s'=s/\r=.there none) E s:=by
   rw[hget]
   dsimp only
   refine Mv (NR (wpAny_eqBool_tuple hu hq.1 hk ?_))
   rw[ME (by rw[e6])]
   refine Mv (Nz ho hd hfit ?_)
   dsimp only
   simp only[OD,NC]
   exact Mz ⟨rfl,rfl⟩
  have fin:∀r s',s'=s/\r=SetFound.there none->wpAny (model prog w) A (match r with
    | .free slot wasDummy=>(do
     let (es,_,t) <-setState S
     let (t,p'):=t.put slot
     let byValue <-if t.plain then hashByValue 8 (.ref a) else pure true
     let t:=if byValue then t else {t with plain:=false}
     storeSet S (SetTable.insertAt es p' (f p,.ref a)) t
     if !wasDummy && t.tooFull then setRelay S (SetTable.grown (es.size + 1))
     return true)
    |_=>pure false) Q E s':=by
   rintro r s' ⟨rfl,rfl⟩
   exact Mz (h false s'.heap ps (Heap.SameBut.refl ..) P (λq hq=>.inl hq) (λq hq=>hq) ⟨ps[i],NF hi,e6⟩)
  cases hl:led with
  |true=>
   rw[hled,hl]
   simp only[OW,MQ,Nk]
   exact N0 rest (λr s' hr=>fin r s' hr) λ_ _ x=>x
  |false=>
   rw[hled,hl]
   simp only[Bool.not_false,NC]
   refine Mv (xJ hk _ (λv hv=>?_) ?_)
   ·obtain⟨x,hx,rfl⟩:=MM.mp hv
    have hx':x∈(ps.map (dU f)).toArray:=(Array.mem_filter.mp (OH.mp hx)).1
    have hx2:x∈ps.map (dU f):=by simpa using hx'
    obtain⟨q,hq,rfl⟩:=MM.mp hx2
    exact⟨q.2,q.1,rfl,(P.at' q hq).1⟩
   ·simp only[MQ,Nk]
    exact N0 rest (λr s' hr=>fin r s' hr) λ_ _ x=>x
 ·
  obtain⟨j,e1,e2,e3,e4⟩:=T.absent ha hm
  rw[e1]
  dsimp only
  refine Mz ?_
  dsimp only
  refine Mv (Nz ho hd hfit ?_)
  dsimp only
  obtain⟨q1,q2⟩:=rM t j T.dum
  have hpl:(t.put j).1.plain=true:=by rw[q1];exact T.plain
  rw[hpl]
  simp only[NC]
  refine Mv (vM hk ?_)
  simp only[NC]
  have hb:(t.put j).2<=ps.length:=by
   rw[q2]
   have:=(dN T.rise j).1
   rw[T.size] at this;simpa using this
  have hins:insertAt (ps.map (dU f)).toArray (t.put j).2 (f p,Value.ref a)=((ps.take (t.put j).2 ++ (a,p) :: ps.drop (t.put j).2).map (dU f)).toArray:=by
   apply Array.toList_inj.mp
   rw[b7 _ _ _ (by simpa using hb)]
   simp[List.map_take,List.map_drop]
  rw[hins]
  generalize hps':ps.take (t.put j).2 ++ (a,p) :: ps.drop (t.put j).2=ps1
  have mem1:∀q,q∈ps1↔q∈ps\/q=(a,p):=λq=>by
   rw[<-hps',M1,MB]
   conv=>rhs;rw[<-O3 (t.put j).2 ps,M1]
   constructor
   ·rintro (z |z |z)
    ·exact .inl (.inl z)
    ·exact .inr z
    ·exact .inl (.inr z)
   ·rintro ((z |z) |z)
    ·exact .inl z
    ·exact .inr (.inr z)
    ·exact .inr (.inl z)
  have len1:ps1.length=ps.length + 1:=by rw[<-hps'];simp;omega
  have nd1:(ps1.map (·.2)).Nodup:=by
   have hnot:p∉ps.map (·.2):=λz=>by
    obtain⟨q,hq,e⟩:=MM.mp z
    exact hm (MM.mpr ⟨q,hq,by rw[e]⟩)
   have perm:(ps1.map (·.2)).Perm (p :: ps.map (·.2)):=by
    rw[<-hps']
    have:(ps.take (t.put j).2 ++ (a,p) :: ps.drop (t.put j).2).Perm ((a,p) :: ps):=by
     refine List.perm_middle.trans ?_
     rw[O3]
    exact this.map (·.2)
   exact perm.nodup_iff.mpr (Nc.mpr ⟨hnot,P.nd⟩)
  have ne:∀b q,bW prog w s.heap q b->b≠S:=λb q ⟨o',_,_,ho',_,hd',_⟩ e=>by
   subst e
   rw[ho] at ho';cases ho'
   rw[hd] at hd';cases hd'
  have at1:∀{h':Heap},Heap.SameBut S s.heap h'->∀q,q∈ps1->bW prog w h' q.2 q.1/\Sm q.2:=λ{h'} hsb q hq=>by
   have key:∀{b:Addr} {q:Pr},bW prog w s.heap q b->bW prog w h' q b:=λ{b q} hb=>by
    have hne:=ne b q hb
    obtain⟨o',i',n',ho',r'⟩:=hb
    exact⟨o',i',n',(hsb.2 b hne).trans ho',r'⟩
   rcases (mem1 q).mp hq with z |z
   ·exact⟨key (P.at' q z).1,(P.at' q z).2⟩
   ·subst z;exact⟨key hk,hs⟩
  have hlen64:ps1.length<=64:=by
   have:=wZ nd1 λx hx=>by
    obtain⟨q,hq,rfl⟩:=MM.mp hx
    exact (at1 (Heap.SameBut.refl ..) q hq).2
   simpa using this
  have hsize:((ps1.map (dU f)).toArray).size<=sizeLine:=by rw[Na];simp;omega
  refine Mv (wpAny_storeSet_of ho hd ?_ hsize)
  have ho1:(s.heap.update S (Obj.putSet (ps1.map (dU f)).toArray (t.put j).1)).get? S=some {o with data:=.set (ps1.map (dU f)).toArray (ep + 1) (t.put j).1}:=by
   have:=Nw (Obj.putSet (ps1.map (dU f)).toArray (t.put j).1) ho (by rw[putSet_of _ _ hd];rfl)
   rw[putSet_of _ _ hd] at this;exact this
  have sb1:=Heap.SameBut.update s.heap S (Obj.putSet (ps1.map (dU f)).toArray (t.put j).1)
  have hex1:({o with data:=.set (ps1.map (dU f)).toArray (ep + 1) (t.put j).1}:Obj).ExactSet:=hex
  have psz:(t.put j).1.place.size=ps.length + 1:=by
   rw[q1]
   show (insertAt t.place (below t.place j) j).size=_
   rw[<-OR,b7 _ _ _ (dN T.rise j).1]
   have:=T.size
   simp at this ⊢
   have:=(dN T.rise j).1
   omega
  have dum1:(t.put j).1.dummies=#[]:=by rw[q1];exact T.dum
  have mask1:(t.put j).1.mask=t.mask:=by rw[q1]
  have tsz:t.place.size=ps.length:=by simpa using T.size
  simp only[Bool.not_false,Bool.true_and]
  cases htf:(t.put j).1.tooFull with
  |false=>
   simp only[MQ,Nk]
   have hload:(t.place.size + 1) * 5 < t.mask * 3:=by
    unfold SetTable.tooFull SetTable.fill at htf
    rw[psz,dum1,mask1] at htf
    simp at htf
    rw[tsz];exact htf
   obtain⟨T1,_⟩:=T.put e2 e3 e4 hload
   refine Mv (Mz (Mz (h true _ ps1 sb1 ⟨⟨_,ep + 1,_,ho1,hex1,rfl,?_,?_⟩,at1 sb1,nd1⟩ (λq hq=>(mem1 q).mp hq) (λq hq=>(mem1 q).mpr (.inl hq)) ⟨(a,p),(mem1 _).mpr (.inr rfl),rfl⟩)))
   ·rw[<-hps']
    simpa[List.map_take,List.map_drop] using T1
   ·rw[q1];exact hled
  |true=>
   simp only[NC]
   have hfull:t.mask * 3<=(ps.length + 1) * 5:=by
    unfold SetTable.tooFull SetTable.fill at htf
    rw[psz,dum1,mask1] at htf
    simpa using htf
   have hload:=T.load
   rw[tsz] at hload
   have hcase:∃mask',Dw mask'/\sizeAbove (grown (ps.length + 1)) - 1=mask'/\sizeAbove (grown (ps.length + 1))<=sizeLine/\(ps.length + 1) * 5 < mask' * 3:=by
    rcases T.mask with e |e |e
    ·have:ps.length + 1=5:=by rw[e] at hfull hload;omega
     rw[this,Gs.1]
     exact⟨31,.inr (.inl rfl),rfl,by rw[Na];decide,by decide⟩
    ·have:ps.length + 1=19:=by rw[e] at hfull hload;omega
     rw[this,Gs.2]
     exact⟨127,.inr (.inr rfl),rfl,by rw[Na];decide,by decide⟩
    ·rw[e] at hfull;omega
   obtain⟨mask',hm3,em,hline,hl2⟩:=hcase
   have hes:(ps.map (dU f)).toArray.size + 1=ps.length + 1:=by simp
   rw[hes,A4]
   have hfit1:(t.put j).1.fits ((ps1.map (dU f)).toArray).size=true:=by
    unfold SetTable.fits SetTable.fill
    have hpl2:ps.length + 1<=t.mask:=by
     rcases T.mask with e |e |e <;> rw[e] at hload ⊢ <;> omega
    rw[psz,dum1,mask1]
    simp[len1,hpl2]
   refine Mv (Mv (Nz ho1 rfl hfit1 ?_))
   dsimp only
   rw[MF (by omega)]
   rw[vt _ _ _ hpl,em]
   obtain⟨t2,order,ps2,g1,g2,g3,g4,g5,g6⟩:=tj f hm3 (ps:=ps1) (by rw[len1];exact hl2) (t.put j).1.finger ((t.put j).1.movedTo mask') (t.put j).1.led
   rw[g1]
   simp only[bind_pure_comp,pure_bind]
   rw[g2]
   have hne:((ps2.map (dU f)).toArray.size != (ps1.map (dU f)).toArray.size)=false:=by simp[g3]
   rw[hne]
   simp only[MQ,Nk]
   have hsize2:((ps2.map (dU f)).toArray).size<=sizeLine:=by rw[Na];simp;omega
   refine Mv (Mz ?_)
   refine wpAny_storeSet_of ho1 rfl ?_ hsize2
   have ho2:((s.heap.update S (Obj.putSet (ps1.map (dU f)).toArray (t.put j).1)).update S (Obj.putSet (ps2.map (dU f)).toArray t2)).get? S=some {o with data:=.set (ps2.map (dU f)).toArray (ep + 1 + 1) t2}:=by
    have:=Nw (Obj.putSet (ps2.map (dU f)).toArray t2) ho1 (by rw[putSet_of (ep:=ep + 1) _ _ rfl];rfl)
    rw[putSet_of (ep:=ep + 1) _ _ rfl] at this;exact this
   have sb2:=sb1.trans (Heap.SameBut.update _ S (Obj.putSet (ps2.map (dU f)).toArray t2))
   have nd2:(ps2.map (·.2)).Nodup:=by
    have hmem:∀q,q∈ps2.map (·.2)↔q∈ps1.map (·.2):=λq=>by
     rw[MM,MM]
     exact⟨λ⟨x,hx,e⟩=>⟨x,(g4 x).mp hx,e⟩,λ⟨x,hx,e⟩=>⟨x,(g4 x).mpr hx,e⟩⟩
    have hnd:(ps2.map λq=>f q.2).Nodup:=by
     refine nM (m:=ps1.map λq=>f q.2) ?_ (λx hx=>?_) (by simp[g3])
     ·have:(ps1.map λq=>f q.2)=(ps1.map (·.2)).map f:=by simp
      rw[this]
      refine NQ.mpr (NZ ?_ nd1)
      intro x y hx hy hxy e
      obtain⟨q,hq,rfl⟩:=MM.mp hx
      obtain⟨r,hr,rfl⟩:=MM.mp hy
      exact hxy (hinj _ _ (at1 sb1 q hq).2 (at1 sb1 r hr).2 e)
     ·obtain⟨q,hq,rfl⟩:=MM.mp hx
      exact MM.mpr ⟨q,(g4 q).mpr hq,rfl⟩
    have:(ps2.map λq=>f q.2)=(ps2.map (·.2)).map f:=by simp
    rw[this] at hnd
    exact (NQ.mp hnd).imp λhxy e=>hxy (by rw[e])
   refine Mz (h true _ ps2 sb2 ⟨⟨_,ep + 1 + 1,t2,ho2,hex,rfl,g5,?_⟩,λq hq=>at1 sb2 q ((g4 q).mp hq),nd2⟩ (λq hq=>(mem1 q).mp ((g4 q).mp hq)) (λq hq=>(g4 q).mpr ((mem1 q).mpr (.inl hq))) ⟨(a,p),(g4 _).mpr ((mem1 _).mpr (.inr rfl)),rfl⟩)
   rw[g6,q1];exact hled
end
def fV (w:World):Bool:= !(w.params.followText "set-order")
def AX (prog:Program)(w:World)(p:Pr):Int:=tupleKeyHash (intKind prog w) [p.1,p.2]
def Ei (prog:Program)(w:World):∀p q,Sm p->Sm q->AX prog w p=AX prog w q->p=q:=λp q h1 h2 e=>Ih h1 h2 e
section
variable {prog:Program}{w:World}{A:Around}{E:Value->Shared->Prop}{s:Shared}{R:Result->Shared->Prop}{I:Addr}{fp wr:List Addr}{n:Nat}{P:Nat->Value->Prop}{St:Nat->Heap->Prop}
def dr (prog:Program)(w:World)(h:Heap)(vs:List Value)(ps:List Pr):Prop:=vs.length=ps.length/\∀(i:Nat) (v:Value) (p:Pr),vs[i]? =some v->ps[i]? =some p->∃a,v=.ref a/\bW prog w h p a/\Sm p
abbrev om (prog:Program)(w:World)(h:Heap)(S:Addr)(vs:List Value)(ps:List Pr)(k:Nat):Prop:=∃qs:List (Addr×Pr),so (AX prog w) prog w (fV w) h S qs/\
 (∀q,q∈qs->Value.ref q.1∈vs.take k/\q.2∈ps.take k)/\∀p,p∈ps.take k->p∈qs.map (·.2)
theorem l6 (W:Walks prog w A.in1 I fp wr n P St)(S:Addr)(hSf:S∉fp){vs:List Value}{ps:List Pr}(hn:vs.length=n)(hP:∀i v,P i v->vs[i]? =some v)(hu:A.in1.units < cLine)(h₀:Heap)
  (hps:dr prog w h₀ vs ps) (hwr:∀b o,b∈S :: wr->h₀.get? b=some o->False):∀(k i:Nat) (s:Shared),n - i=k->i<=n->St i s.heap->(∀b o,h₀.get? b=some o->s.heap.get? b=some o)->om prog w s.heap S vs ps i->
   (∀h' tk,(∀b o,b∉S :: wr->s.heap.get? b=some o->h'.get? b=some o)->om prog w h' S vs ps n->R (.ok (.ret .none)) {s with heap:=h',toks:=tk})->
   codeAny (model prog w) A (.builtin "set.update.loop" ⟨[.ref S,.ref I],[]⟩) R s:=by
 have nw:S∉wr:=λh=>hSf (W.sub _ h)
 intro k
 induction k with
 |zero=>
  intro i s hk hi hst hk0 hF hR
  obtain rfl:i=n:=by omega
  refine OB PyProof.Rows.F.entry_set_update_loop ?_
  rw[OJ Ow _]
  show wpAny _ A.in1 (pyNext (.ref I) >>= λr=>_) _ _ s
  refine Mv (W.done s _ _ hst λh' tk hm=>?_)
  show wpAny _ A.in1 (ret Value.none) _ _ _
  refine Mz (hR h' tk (λb o hb e=>hm b o (λz=>hb (MD _ z)) e) ?_)
  obtain⟨qs,Q1,Q2,Q3⟩:=hF
  obtain⟨o,ep,t,ho,r⟩:=Q1.ex
  refine⟨qs,⟨⟨o,ep,t,hm S o nw ho,r⟩,λq hq=>⟨?_,(Q1.at' q hq).2⟩,Q1.nd⟩,Q2,Q3⟩
  obtain⟨m,hm1,hm2⟩:=Nf.mp (Od (Q2 q hq).1)
  have hm1':m < ps.length:=by rw[<-hps.1];exact hm1
  obtain⟨a,ea,ha,_⟩:=hps.2 m vs[m] ps[m] (Mu hm1) (Mu hm1')
  rw[hm2] at ea
  cases ea
  obtain⟨o',it',n',ho',r'⟩:=(Q1.at' q hq).1
  obtain⟨o2,it2,n2,ho2,r2⟩:=ha
  have:o'=o2:=Option.some.inj (ho'.symm.trans (hk0 _ _ ho2))
  subst this
  exact⟨o',it',n',hm _ _ (λz=>hwr _ _ (MD _ z) ho2) ho',r'⟩
 |succ k ih=>
  intro i s hk hi hst hk0 hF hR
  have hlt:i < n:=by omega
  refine OB PyProof.Rows.F.entry_set_update_loop ?_
  rw[OJ Ow _]
  show wpAny _ A.in1 (pyNext (.ref I) >>= λr=>_) _ _ s
  refine Mv (W.item i s _ _ hlt hst λv h1 tk1 hv hst1 hm=>?_)
  have hvi:=hP i v hv
  have hip:i < ps.length:=by rw[<-hps.1,hn];exact hlt
  obtain⟨a,rfl,ha,hsm⟩:=hps.2 i v ps[i] hvi (Mu hip)
  have k1:∀b o,h₀.get? b=some o->h1.get? b=some o:=λb o e=>hm b o (λz=>hwr b o (MD _ z) e) (hk0 b o e)
  obtain⟨qs,Q1,Q2,Q3⟩:=hF
  have old:∀{q:Addr×Pr} {h:Heap},q∈qs->(∀b o,h₀.get? b=some o->h.get? b=some o)->bW prog w h q.2 q.1:=λ{q h} hq kk=>by
   obtain⟨m,hm1,hm2⟩:=Nf.mp (Od (Q2 q hq).1)
   have hm1':m < ps.length:=by rw[<-hps.1];exact hm1
   obtain⟨a,ea,ha,_⟩:=hps.2 m vs[m] ps[m] (Mu hm1) (Mu hm1')
   rw[hm2] at ea
   cases ea
   obtain⟨o',it',n',ho',r'⟩:=(Q1.at' q hq).1
   obtain⟨o2,it2,n2,ho2,r2⟩:=ha
   have:o'=o2:=Option.some.inj (ho'.symm.trans (hk0 _ _ ho2))
   subst this
   exact⟨o',it',n',kk _ _ ho2,r'⟩
  have P1:so (AX prog w) prog w (fV w) h1 S qs:=by
   obtain⟨o,ep,t,ho,r⟩:=Q1.ex
   exact⟨⟨o,ep,t,hm S o nw ho,r⟩,λq hq=>⟨old hq k1,(Q1.at' q hq).2⟩,Q1.nd⟩
  have ha1:bW prog w h1 ps[i] a:=by
   obtain⟨o',it',n',ho',r'⟩:=ha
   exact⟨o',it',n',k1 _ _ ho',r'⟩
  show wpAny _ A.in1 (holding [Value.ref a] (setAdd S (.ref a)) >>= λ_=>_) _ _ _
  refine Mv (NR ?_)
  unfold setAdd
  refine NR (Mv (wpAny_pyHash_tuple hu ha1 ?_))
  refine so.add (Ei prog w) (s:={s with heap:=h1,toks:=tk1 + ([ps[i].1,ps[i].2].length + 1)}) P1 ha1 hsm hu λb h2 qs' sb P2 m1 m2 m3=>?_
  have sbS:∀b o,h₀.get? b=some o->h2.get? b=some o:=λb o e=>(sb.2 b (λz=>hwr b o (by rw[z];exact MC) e)).trans (k1 b o e)
  refine Mz ⟨plainId_quiet Ow _,ih (i + 1) _ (by omega) hlt (W.frame _ _ _ hst1 λb hb o e=>?_) sbS ⟨qs',P2,λq hq=>?_,λp hp=>?_⟩ λh' tk hm' F'=>?_⟩
  ·rw[sb.2 b λz=>hSf (by rw[<-z];exact hb)];exact e
  ·have htk:∀{α:Type} {l:List α} {x:α},x∈l.take i->x∈l.take (i + 1):=λ{α l x} hx=>by
    rw[Ol];exact NU _ hx
   rcases m1 q hq with z |z
   ·exact⟨htk (Q2 q z).1,htk (Q2 q z).2⟩
   ·subst z
    refine⟨?_,?_⟩
    ·rw[Ol,hvi];exact Ni _ (by simp)
    ·rw[Ol,Mu hip];exact Ni _ (by simp)
  ·rw[Ol,Mu hip] at hp
   rcases M1.mp hp with z |z
   ·obtain⟨q,hq,rfl⟩:=MM.mp (Q3 p z)
    exact MM.mpr ⟨q,m2 q hq,rfl⟩
   ·have:p=ps[i]:=by simpa using z
    obtain⟨q,hq,e⟩:=m3
    exact MM.mpr ⟨q,hq,by rw[e,this]⟩
  ·refine hR h' tk (λb o hb e=>hm' b o hb ?_) F'
   show h2.get? b=some o
   rw[sb.2 b λz=>hb (by rw[z];exact MC)]
   exact hm b o (λz=>hb (MD _ z)) e
def nG (a:Value){Q1:Value->Shared->Prop}
  (h:Q1 (.ref s.heap.objs.size) {s with heap:=s.heap.push {cls:=.type "set",dict:=none,data:=.set #[] 0 (.fresh 0 0 (fV w))}}) :
  codeAny (model prog w) A (.call (.builtin "set.__new__") ⟨[.type "set",a],[]⟩) (wants Q1 E) s:=by
 refine codeAny_of_tree ?_
 show wpAny _ A.in1 (do (checkBuiltinCall "set.__new__" ⟨[.type "set",a],[]⟩);again (.builtin "set.__new__" ⟨[.type "set",a],[]⟩)) _ _ s
 refine Mv (wpAny_of_eq (F.newCall_set_1 a) (Mz ⟨plainId_quiet F.plain_set_new _,OB F.entry_set_new ?_⟩))
 rw[OJ F.plain_set_new _]
 (unfold Builtin.«set.__new__» Builtin.Frozenset.newClass)
 have hsub0:=sub_set_self
 obtain⟨hp0,g0,d0,tk0,os0⟩:=s
 dsimp only
 wp_walk
 (refine O7 (Mz ?_))
 dsimp only
 simp only[newObj]
 (refine Mv (wpAny_alloc (Mz ?_)))
 exact Mz h
def z7 (led:Bool):Tab (.fresh 0 0 led) []:=
 ⟨.inl rfl,rfl,List.Pairwise.nil,λj h=>(by cases (OH.mpr h)),rfl,(by show (0:Nat) * 5 < 7 * 3;decide),λi j h e=>(by simp[SetTable.fresh] at e),rfl⟩
structure Src (prog:Program)(w:World)(h:Heap)(l:Addr)(vs:List Value)(T:String)(itO:Obj)(St:Addr->Nat->Heap->Prop):Prop where
 ty:∃o,h.get? l=some o/\o.cls=.type T
 ns:isSubtype (.type T) (.type "set")=pure false
 nf:isSubtype (.type T) (.type "frozenset")=pure false
 nd:(Value.type T == Value.type "dict")=false
 it:∀(A:Around) (s1:Shared) (Q:Value->Shared->Prop) (E:Value->Shared->Prop),(∀b o,h.get? b=some o->s1.heap.get? b=some o)->Q (.ref s1.heap.objs.size) {s1 with heap:=s1.heap.push itO}->wpAny (model prog w) A (pyIter (.ref l)) Q E s1
 st:∀(h1:Heap),(∀b o,h.get? b=some o->h1.get? b=some o)->St h1.objs.size 0 (h1.push itO)
 wk:∀(A:Around) (I:Addr),A.handled=none->l≠I->Walks prog w A I [I,l] [I] vs.length (λi v=>vs[i]? =some v) (St I)
def Src.list {h:Heap}{l:Addr}{vs:List Value}(hl:h.IsList l vs.toArray):Src prog w h l vs "list" {cls:=.type "list_iterator",data:=.fields #[.ref l,.int 0 0]} (λI i h'=>h'.IsListIter I l i/\h'.IsList l vs.toArray):=by
 obtain⟨o,ho,hc,n,hd⟩:=id hl
 refine⟨⟨o,ho,hc⟩,F.sub_list_set,F.sub_list_frozenset,by decide,λA s1 Q E k hQ=>O2 ⟨o,k _ _ ho,hc,n,hd⟩ hQ,λh1 k=>⟨⟨_,MN _ rfl,rfl,rfl⟩,⟨o,Mw _ (k _ _ ho),hc,n,hd⟩⟩,λA I hh hne=>?_⟩
 have:=Walks.list (prog:=prog) (w:=w) hh I l hne vs.toArray
 simpa using this
def sub_tuple_set:isSubtype (.type "tuple") (.type "set")=pure false:=by rw[Pf];kernel_rfl
def sub_tuple_frozenset:isSubtype (.type "tuple") (.type "frozenset")=pure false:=by rw[Pf];kernel_rfl
def Src.tuple {h:Heap}{l:Addr}{vs:List Value}(hl:h.IsTuple l vs.toArray):Src prog w h l vs "tuple" {cls:=.type "tuple_iterator",data:=.fields #[.ref l,.int 0 0]} (λI i h'=>h'.IsTupleIter I l i/\h'.IsTuple l vs.toArray):=by
 obtain⟨o,ho,hc,n,hd⟩:=id hl
 refine⟨⟨o,ho,hc⟩,sub_tuple_set,sub_tuple_frozenset,by decide,λA s1 Q E k hQ=>OZ ⟨o,k _ _ ho,hc,n,hd⟩ hQ,λh1 k=>⟨⟨_,MN _ rfl,rfl,rfl⟩,⟨o,Mw _ (k _ _ ho),hc,n,hd⟩⟩,λA I hh hne=>?_⟩
 have:=Walks.tuple (prog:=prog) (w:=w) hh I l hne vs.toArray
 simpa using this
set_option maxHeartbeats 3200000 in
theorem oI {l:Addr}{vs:List Value}{ps:List Pr}{T:String}{itO:Obj}{St:Addr->Nat->Heap->Prop}{Q:Value->Shared->Prop}(X:Src prog w s.heap l vs T itO St)(hh:A.handled=none)(hu:A.units + 64 < cLine)(hps:dr prog w s.heap vs ps)
  (h:∀(h':Heap) (tk:Nat),om prog w h' s.heap.objs.size vs ps vs.length->(∀b o,s.heap.get? b=some o->h'.get? b=some o)->Q (.ref s.heap.objs.size) {s with heap:=h',toks:=tk}) :
  wpAny (model prog w) A (call (.type "set") [.ref l]) Q E s:=by
 obtain⟨c0,tl0,hmro0⟩:=NG.mro
 have hmade0:=NG.made
 have hsub0:=NG.sub
 refine wpAny_call (codeAny_of_tree ?_)
 show wpAny _ _ (callAny (.type "set") ⟨[.ref l],[]⟩) _ _ _
 refine Mz ⟨Code.quiet_builtin _ (by decide +kernel),OB F.entry_type_call ?_⟩
 (rw[Around.under_plain (weight_type_call_type "set" [.ref l] []) rfl])
 have g1:=NG.notType
 have g2:=NG.canCreate
 have g3:=F.typeCall_set_1 (.ref l)
 repeat (any_goals (first |assumption |wp_step))
 refine OO (nG (.ref l) (E:=E) (Q1:=λobj s1=>obj=.ref s.heap.objs.size/\s1={s with heap:=s.heap.push {cls:=.type "set",dict:=none,data:=.set #[] 0 (.fresh 0 0 (fV w))}}) ⟨rfl,rfl⟩) λr s1 hr=>?_
 cases r with
 |error e=>exact hr
 |ok fl=>
  cases fl with
  |ret obj=>
   obtain⟨rfl,rfl⟩:=hr
   generalize hO:({cls:=.type "set",dict:=none,data:=.set #[] 0 (.fresh 0 0 (fV w))}:Obj)=O
   have hS0:(s.heap.push O).get? s.heap.objs.size=some O:=MN _ (by rw[<-hO];rfl)
   have hT0:Shared.TypeIs {s with heap:=s.heap.push O} (.ref s.heap.objs.size) "set":=⟨_,hS0,by rw[<-hO]⟩
   have g4:=NG.init.lookup
   have g5:=NG.init.bind (.ref s.heap.objs.size)
   repeat (any_goals (first |assumption |wp_step))
   refine OO (codeAny_call_builtin (R:=wants (λr s2=>r=.none/\∃h' tk,s2={s with heap:=h',toks:=tk}/\om prog w h' s.heap.objs.size vs ps vs.length/\(∀b o,s.heap.get? b=some o->h'.get? b=some o)) E)
    NG.init.plain F.entry_set_init (check_set_init_1 hT0 ?_)) λr2 s2 hr2=>?_
   ·obtain⟨ol,hol,hcl⟩:=X.ty
    have hol':(s.heap.push O).get? l=some ol:=Mw _ hol
    have e1:=X.ns
    have e2:=X.nf
    have e3:=X.nd
    have hTl:Shared.TypeIs {s with heap:=s.heap.push O} (.ref l) T:=⟨ol,hol',hcl⟩
    have hdat:O.data=.set #[] 0 (.fresh 0 0 (fV w)):=by rw[<-hO]
    (unfold Builtin.«set.__init__» noKeywords Builtin.Frozenset.updateFrom)
    subst hO
    obtain⟨oc,od,odt,osl⟩:=ol
    simp only at hcl
    subst hcl
    (generalize hPI0:pyIter=PI0)
    wp_walk
    subst hPI0
    have kp:∀b o,s.heap.get? b=some o->(s.heap.push {cls:=.type "set",dict:=none,data:=.set #[] 0 (.fresh 0 0 (fV w))}).get? b=some o:=λb o e=>Mw _ e
    refine X.it _ _ _ _ kp ?_
    refine Mv (wpAny_runValue ?_)
    have hlS:l < s.heap.objs.size:=MH hol
    have hh3:A.in1.in1.in1.handled=none:=by simp[hh]
    have hneI:l≠(s.heap.push {cls:=.type "set",dict:=none,data:=.set #[] 0 (.fresh 0 0 (fV w))}).objs.size:=by
     rw[N1];exact M7 (Nat.lt_succ_of_lt hlS)
    have hSf:s.heap.objs.size∉ [(s.heap.push {cls:=.type "set",dict:=none,data:=.set #[] 0 (.fresh 0 0 (fV w))}).objs.size,l]:=by
     rw[N1]
     intro z
     rcases MB.mp z with e |z
     ·exact absurd e (M7 (Nat.lt_succ_self _))
     ·exact absurd (MZ.mp z) (Nat.ne_of_gt hlS)
    refine l6 (X.wk _ _ hh3 hneI) s.heap.objs.size hSf rfl (λi v e=>e) (by simp;omega) s.heap hps (λb o hb e=>?_) (vs.length - 0) 0 _ (by omega) (Nd _) (X.st _ kp) (λb o e=>Mw _ (kp b o e)) ?_ ?_
    ·have hlt:=MH e
     rw[N1] at hb
     rcases MB.mp hb with z |z
     ·exact absurd hlt (by rw[z];exact Nh _)
     ·rw[MZ.mp z] at hlt
      exact absurd hlt (Nat.not_lt.mpr (Nat.le_succ _))
    ·refine⟨[],⟨⟨_,0,_,Mw _ hS0,⟨rfl,rfl,rfl⟩,rfl,z7 _,rfl⟩,λq hq=>(by cases hq),ON⟩,λq hq=>(by cases hq),λp hp=>(by simp at hp)⟩
    ·intro h' tk hm F'
     show wpAny _ _ _ _ _ _
     refine Mz ?_
     show wpAny _ _ (ret Value.none) _ _ _
     refine Mz ⟨rfl,h',tk,rfl,F',λb o e=>hm b o (λz=>?_) (Mw _ (kp b o e))⟩
     have hlt:=MH e
     rw[N1] at z
     rcases MB.mp z with z |z
     ·exact absurd hlt (by rw[z];exact Nh _)
     ·rw[MZ.mp z] at hlt
      exact absurd hlt (Nat.not_lt.mpr (Nat.le_succ _))
   ·cases r2 with
    |error e=>exact hr2
    |ok fl2=>
     cases fl2 with
     |ret r=>
      obtain⟨rfl,h',tk,rfl,hF,hk⟩:=hr2
      repeat (any_goals (first |assumption |wp_step))
      exact h _ _ hF hk
     |_=>exact hr2.elim
  |_=>exact hr.elim
end
end L2.ST
namespace L2.SO
open PySem PySem.W PyProof.Rows
def jW {α:Type}(lt:Nat->Nat->Bool):KasT α->α
 | .ret a=>a
 | .ask i j k=>jW lt (k (lt i j))
theorem fm {α β:Type}(lt:Nat->Nat->Bool)(f:α->KasT β):∀t:KasT α,jW lt (t.bind f)=jW lt (f (jW lt t))
 | .ret _=>rfl
 | .ask i j k=>fm lt f (k (lt i j))
def ud {α:Type}(n:Nat)(lt:Nat->Nat->Bool):KasT α->Prop
 | .ret _=>True
 | .ask i j k=>i < n/\j < n/\ud n lt (k (lt i j))
theorem ig {α β:Type}{n:Nat}{lt:Nat->Nat->Bool}{f:α->KasT β}:∀{t:KasT α},ud n lt t->ud n lt (f (jW lt t))->ud n lt (t.bind f)
 | .ret _,_,h=>h
 | .ask i j k,h,h'=>⟨h.1,h.2.1,ig h.2.2 h'⟩
section
variable {n:Nat}{key:Nat->Int}
abbrev ny (key:Nat->Int)(i j:Nat):Bool:=decide (key i < key j)
abbrev Kp (key:Nat->Int)(p:Array Nat)(k:Nat):Int:=key (p.getD k 0)
structure Pm (n:Nat)(p:Array Nat):Prop where
 sz:p.size=n
 nd:p.toList.Nodup
 lt:∀x,x∈p->x < n
def Pm.at {p:Array Nat}(P:Pm n p){k:Nat}(hk:k < n):p.getD k 0 < n:=by
 have h:k < p.size:=by rw[P.sz];exact hk
 simp only[Array.getD,h,dif_pos]
 exact P.lt _ (Pk h)
def Pm.ne {p:Array Nat}(P:Pm n p){i k:Nat}(hi:i < n)(hk:k < n)(hne:i≠k):p.getD i 0≠p.getD k 0:=by
 have h1:i < p.toList.length:=by simpa using (by rw[P.sz];exact hi:i < p.size)
 have h2:k < p.toList.length:=by simpa using (by rw[P.sz];exact hk:k < p.size)
 have h1':i < p.size:=by rw[P.sz];exact hi
 have h2':k < p.size:=by rw[P.sz];exact hk
 have a1:p.getD i 0=p.toList[i]:=by simp[Array.getD,h1']
 have a2:p.getD k 0=p.toList[k]:=by simp[Array.getD,h2']
 rw[a1,a2]
 have q:=OI.mp P.nd
 rcases NL i k with c |c
 ·exact q i k h1 h2 c
 ·exact (q k i h2 h1 (by omega)).symm
def Pm.perm {p q:Array Nat}(P:Pm n p)(h:q.Perm p):Pm n q:=by
 have h':=Array.perm_iff_toList_perm.mp h
 exact⟨by rw[h.size_eq];exact P.sz,h'.nodup_iff.mpr P.nd,λx hx=>P.lt x (by simpa using h'.mem_iff.mp (by simpa using hx))⟩
def vn (n:Nat):Pm n (List.toArray (List.range n)):=⟨by simp,by simpa using OP,λx hx=>by simpa using hx⟩
def Inj (n:Nat)(key:Nat->Int):Prop:=∀i j,i < n->j < n->key i=key j->i=j
def Pm.tri {p:Array Nat}(P:Pm n p)(hi:Inj n key){i k:Nat}(h1:i < n)(h2:k < n)(hne:i≠k):Kp key p i < Kp key p k\/Kp key p k < Kp key p i:=by
 have:Kp key p i≠Kp key p k:=λe=>P.ne h1 h2 hne (hi _ _ (P.at h1) (P.at h2) e)
 omega
def Up (key:Nat->Int)(p:Array Nat)(m:Nat):Prop:=∀i j,i < j->j < m->Kp key p i < Kp key p j
def Dn (key:Nat->Int)(p:Array Nat)(m:Nat):Prop:=∀i j,i < j->j < m->Kp key p j < Kp key p i
def Up.snoc {p:Array Nat}{m:Nat}(U:Up key p m)(h1:1<=m)(h:Kp key p (m - 1) < Kp key p m):Up key p (m + 1):=λi j hij hj=>by
 rcases NL j m with c |c
 ·exact U i j hij c
 ·have:j=m:=by omega
  subst this
  rcases NL i (j - 1) with d |d
  ·exact Int.lt_trans (U i (j - 1) d (by omega)) h
  ·have:i=j - 1:=by omega
   rw[this];exact h
def Dn.snoc {p:Array Nat}{m:Nat}(U:Dn key p m)(h1:1<=m)(h:Kp key p m < Kp key p (m - 1)):Dn key p (m + 1):=λi j hij hj=>by
 rcases NL j m with c |c
 ·exact U i j hij c
 ·have:j=m:=by omega
  subst this
  rcases NL i (j - 1) with d |d
  ·exact Int.lt_trans h (U i (j - 1) d (by omega))
  ·have:i=j - 1:=by omega
   rw[this];exact h
theorem o6 {p:Array Nat}(P:Pm n p)(hi:Inj n key):∀(f m:Nat),1<=m->m + f<=n->Up key p m->
  ∃r,(jW (ny key) (kas_asc p f m)=r/\ud n (ny key) (kas_asc p f m))/\m<=r/\r<=m + f/\Up key p r/\(r < m + f->Kp key p r < Kp key p (r - 1))
 | 0,m,_,_,U=>⟨m,⟨rfl,trivial⟩,My _,My _,U,λh=>absurd h (Nh _)⟩
 |f + 1,m,h1,hn,U=>by
  have b1:p.getD m 0 < n:=P.at (by omega)
  have b2:p.getD (m - 1) 0 < n:=P.at (by omega)
  unfold kas_asc jW ud
  by_cases c:Kp key p m < Kp key p (m - 1)
  ·rw[show ny key (p.getD m 0) (p.getD (m - 1) 0)=true from ME c]
   simp only[NC]
   exact⟨m,⟨rfl,b1,b2,trivial⟩,My _,by omega,U,λ_=>c⟩
  ·rw[show ny key (p.getD m 0) (p.getD (m - 1) 0)=false from MK c]
   simp only[MQ,Nk]
   have up:Kp key p (m - 1) < Kp key p m:=(P.tri hi (by omega) (by omega) (by omega)).resolve_right c
   obtain⟨r,⟨e,o⟩,a,b,u,d⟩:=o6 P hi f (m + 1) (by omega) (by omega) (U.snoc h1 up)
   exact⟨r,⟨e,b1,b2,o⟩,by omega,by omega,u,λh=>d (by omega)⟩
theorem rD {p:Array Nat}(P:Pm n p)(hi:Inj n key):∀(f m:Nat),1<=m->m + f<=n->Dn key p m->
  ∃r,(jW (ny key) (kas_desc f p m 0)=(p,r,0)/\ud n (ny key) (kas_desc f p m 0))/\m<=r/\r<=m + f/\Dn key p r
 | 0,m,_,_,U=>⟨m,⟨rfl,trivial⟩,My _,My _,U⟩
 |f + 1,m,h1,hn,U=>by
  have b1:p.getD m 0 < n:=P.at (by omega)
  have b2:p.getD (m - 1) 0 < n:=P.at (by omega)
  unfold kas_desc jW ud
  by_cases c:Kp key p m < Kp key p (m - 1)
  ·rw[show ny key (p.getD m 0) (p.getD (m - 1) 0)=true from ME c]
   simp only[NC,Nh,gt_iff_lt,Nk]
   obtain⟨r,⟨e,o⟩,a,b,u⟩:=rD P hi f (m + 1) (by omega) (by omega) (U.snoc h1 c)
   exact⟨r,⟨e,b1,b2,o⟩,by omega,by omega,u⟩
  ·rw[show ny key (p.getD m 0) (p.getD (m - 1) 0)=false from MK c]
   simp only[MQ,Nk]
   unfold jW ud
   have up:Kp key p (m - 1) < Kp key p m:=(P.tri hi (by omega) (by omega) (by omega)).resolve_right c
   rw[show ny key (p.getD (m - 1) 0) (p.getD m 0)=true from ME up]
   simp only[NC]
   exact⟨m,⟨rfl,b1,b2,b2,b1,trivial⟩,My _,by omega,U⟩
def BJ {p:Array Nat}{j k:Nat}(hj:j<=p.size)(hk:k < j):(kas_rev p 0 j).getD k 0=p.getD (j - 1 - k) 0:=by
 unfold kas_rev
 rw[Nl,getElem?_mirror_all hj k,MA ⟨Nd _,hk⟩,Nl]
 congr 2
 omega
def Iu {p:Array Nat}{m:Nat}(hm:m<=p.size)(D:Dn key p m):Up key (kas_rev p 0 m) m:=λi j hij hj=>by
 unfold Kp
 rw[BJ hm (by omega),BJ hm hj]
 exact D (m - 1 - j) (m - 1 - i) (by omega) (by omega)
def Pm.rev {p:Array Nat}(P:Pm n p)(j:Nat):Pm n (kas_rev p 0 j):=P.perm (mirror_perm ..)
def xO {p:Array Nat}(P:Pm n p)(hi:Inj n key)(h1:1<=n) :
  ∃m q,(jW (ny key) (kas_count n p)=(m,q)/\ud n (ny key) (kas_count n p))/\Pm n q/\1<=m/\m<=n/\Up key q m:=by
 obtain⟨r,⟨e,o⟩,a,b,u,d⟩:=o6 P hi (n - 1) 1 (My _) (by omega) (λi j hij hj=>by omega)
 have rest:∃m q,(jW (ny key) (if (r == n)=true then KasT.ret (r,p) else if r > 1 then .ask (p.getD 0 0) (p.getD (r - 1) 0) λc=>if c=true then .ret (r,p) else kas_descPart r n (kas_rev p 0 r) else kas_descPart r n p)=(m,q)/\
   ud n (ny key) (if (r == n)=true then KasT.ret (r,p) else if r > 1 then .ask (p.getD 0 0) (p.getD (r - 1) 0) λc=>if c=true then .ret (r,p) else kas_descPart r n (kas_rev p 0 r) else kas_descPart r n p))/\Pm n q/\1<=m/\m<=n/\Up key q m:=by
  by_cases c:(r == n)=true
  ·rw[MA c]
   exact⟨r,p,⟨rfl,trivial⟩,P,a,by omega,u⟩
  ·rw[MF c]
   have hrn:r≠n:=by simpa using c
   have dd:=d (by omega)
   by_cases c2:r > 1
   ·rw[MA c2]
    unfold jW ud
    rw[show ny key (p.getD 0 0) (p.getD (r - 1) 0)=true from ME (u 0 (r - 1) (by omega) (by omega))]
    simp only[NC]
    exact⟨r,p,⟨rfl,P.at (by omega),P.at (by omega),trivial⟩,P,a,by omega,u⟩
   ·rw[MF c2]
    have hr1:r=1:=by omega
    subst hr1
    unfold kas_descPart
    rw[fm]
    have D2:Dn key p 2:=λi j hij hj=>by
     have e1:i=0:=by omega
     have e2:j=1:=by omega
     rw[e1,e2];exact dd
    obtain⟨x,⟨e2,o2⟩,a2,b2,u2⟩:=rD P hi (n - 2) 2 (by omega) (by omega) D2
    obtain⟨y,⟨e3,o3⟩,a3,b3,u3,_⟩:=o6 (P.rev x) hi (n - x) x (by omega) (by omega) (Iu (by rw[P.sz];omega) u2)
    rw[show n - (1 + 1)=n - 2 from rfl,show (1 + 1:Nat)=2 from rfl]
    have t3:ud n (ny key) (kas_tail3 x n p):=by
     unfold kas_tail3
     exact ig o3 trivial
    refine⟨y,kas_rev p 0 x,⟨?_,ig o2 ?_⟩,P.rev x,by omega,by omega,u3⟩
    ·rw[e2]
     simp only[Nh,gt_iff_lt,Nk]
     unfold kas_tail3
     rw[fm,e3]
     rfl
    ·rw[e2]
     simp only[Nh,gt_iff_lt,Nk]
     exact t3
 obtain⟨m,q,⟨f1,f2⟩,f3⟩:=rest
 refine⟨m,q,⟨?_,?_⟩,f3⟩
 ·unfold kas_count
  rw[fm,e]
  exact f1
 ·unfold kas_count
  refine ig o ?_
  rw[e]
  exact f2
theorem place_spec {p:Array Nat}{k:Nat}(P:Pm n p)(hi:Inj n key)(hk:k < n)(U:Up key p k):∀(f l r:Nat),l<=r->r<=k->r - l<=f->(∀i,i < l->Kp key p i < Kp key p k)->(∀i,r<=i->i < k->Kp key p k < Kp key p i)->
  ∃x,(jW (ny key) (kas_place p k f l r)=x/\ud n (ny key) (kas_place p k f l r))/\x<=k/\(∀i,i < x->Kp key p i < Kp key p k)/\(∀i,x<=i->i < k->Kp key p k < Kp key p i)
 | 0,l,r,h1,h2,h3,a,b=>⟨l,⟨rfl,trivial⟩,by omega,a,λi hi=>b i (by omega)⟩
 |f + 1,l,r,h1,h2,h3,a,b=>by
  unfold kas_place
  by_cases c:l>=r
  ·rw[MA c]
   exact⟨l,⟨rfl,trivial⟩,by omega,a,λi hi=>b i (by omega)⟩
  ·rw[MF c]
   have b1:p.getD k 0 < n:=P.at hk
   have b2:p.getD ((l + r) / 2) 0 < n:=P.at (by omega)
   unfold jW ud
   by_cases d:Kp key p k < Kp key p ((l + r) / 2)
   ·rw[show ny key (p.getD k 0) (p.getD ((l + r) / 2) 0)=true from ME d]
    simp only[NC]
    have side:∀i,(l + r) / 2<=i->i < k->Kp key p k < Kp key p i:=λi h1 h2=>by
     rcases NL ((l + r) / 2) i with z |z
     ·exact Int.lt_trans d (U _ _ z h2)
     ·have:i=(l + r) / 2:=by omega
      rw[this];exact d
    obtain⟨x,⟨e1,e2⟩,e3⟩:=place_spec P hi hk U f l ((l + r) / 2) (by omega) (by omega) (by omega) a side
    exact⟨x,⟨e1,b1,b2,e2⟩,e3⟩
   ·rw[show ny key (p.getD k 0) (p.getD ((l + r) / 2) 0)=false from MK d]
    simp only[MQ,Nk]
    have d':Kp key p ((l + r) / 2) < Kp key p k:=(P.tri hi (by omega) hk (by omega)).resolve_right d
    have side:∀i,i < (l + r) / 2 + 1->Kp key p i < Kp key p k:=λi h=>by
     rcases NL i ((l + r) / 2) with z |z
     ·exact Int.lt_trans (U _ _ z (by omega)) d'
     ·have:i=(l + r) / 2:=by omega
      rw[this];exact d'
    obtain⟨x,⟨e1,e2⟩,e3⟩:=place_spec P hi hk U f ((l + r) / 2 + 1) r (by omega) h2 (by omega) side b
    exact⟨x,⟨e1,b1,b2,e2⟩,e3⟩
def C6 {p:Array Nat}{k l j:Nat}(hk:k < p.size)(hl:l<=k):(bubble p k (k - l)).getD j 0=if j=l then p.getD k 0 else if l < j/\j<=k then p.getD (j - 1) 0 else p.getD j 0:=by
 rw[Nl,getElem?_bubble hk (k - l) (by omega) j,show k - (k - l)=l by omega]
 simp only[Nl]
 split
 ·rfl
 ·split <;> rfl
theorem uG (hi:Inj n key):∀(f k:Nat) (p:Array Nat),Pm n p->1<=k->k + f=n->Up key p k->∃q,(jW (ny key) (kas_bin f p k)=q/\ud n (ny key) (kas_bin f p k))/\Pm n q/\Up key q n
 | 0,k,p,P,_,e,U=>⟨p,⟨rfl,trivial⟩,P,by rw[<-e];exact U⟩
 |f + 1,k,p,P,h1,e,U=>by
  have hk:k < n:=by omega
  obtain⟨l,⟨el,ol⟩,hl,a,b⟩:=place_spec P hi hk U k 0 k (Nd _) (My _) (by omega) (λi h=>by omega) (λi h h'=>by omega)
  have side:Up key (bubble p k (k - l)) (k + 1):=λi j hij hj=>by
   have hks:k < p.size:=by rw[P.sz];exact hk
   unfold Kp
   rw[C6 hks hl,C6 hks hl]
   by_cases i1:i=l
   ·rw[MA i1,MF (by omega)]
    by_cases j2:l < j/\j<=k
    ·rw[MA j2];exact b _ (by omega) (by omega)
    ·omega
   ·rw[MF i1]
    by_cases i2:l < i/\i<=k
    ·rw[MA i2,MF (by omega),MA (by omega)]
     exact U _ _ (by omega) (by omega)
    ·rw[MF i2]
     by_cases j1:j=l
     ·rw[MA j1];exact a _ (by omega)
     ·rw[MF j1]
      by_cases j2:l < j/\j<=k
      ·rw[MA j2]
       rcases NL i (j - 1) with z |z
       ·exact U _ _ z (by omega)
       ·omega
      ·rw[MF j2];exact U _ _ hij (by omega)
  obtain⟨q,⟨q1,q2⟩,q3⟩:=uG hi f (k + 1) (bubble p k (k - l)) (P.perm (bubble_perm ..)) (by omega) (by omega) side
  refine⟨q,⟨?_,?_⟩,q3⟩
  ·unfold kas_bin;rw[fm,el];exact q1
  ·unfold kas_bin;refine ig ol ?_;rw[el];exact q2
def z0 (hi:Inj n key)(h2:2<=n):∃q,(jW (ny key) (kas_sort n)=q/\ud n (ny key) (kas_sort n))/\Pm n q/\Up key q n:=by
 obtain⟨m,q,⟨e,o⟩,P,a,b,u⟩:=xO (vn n) hi (by omega)
 by_cases c:m < n
 ·obtain⟨q',⟨e1,o1⟩,r⟩:=uG hi (n - m) m q P a (by omega) u
  refine⟨q',⟨?_,?_⟩,r⟩
  ·unfold kas_sort;rw[fm,e];dsimp only;rw[MA c,Nat.max_eq_left a];exact e1
  ·unfold kas_sort;refine ig o ?_;rw[e];dsimp only;rw[MA c,Nat.max_eq_left a];exact o1
 ·refine⟨q,⟨?_,?_⟩,P,λi j hij hj=>u i j hij (by omega)⟩
  ·unfold kas_sort;rw[fm,e];dsimp only;rw[MF c];rfl
  ·unfold kas_sort;refine ig o ?_;rw[e];dsimp only;rw[MF c];trivial
theorem wp_run {α:Type}{n:Nat}{lt:Nat->Nat->Bool}{cmp:Nat->Nat->(Bool->Shared->Prop)->Shared->Prop}{Q:α->Shared->Prop}{s:Shared} :
  ∀(t:KasT α),(∀i j C,i < n->j < n->C (lt i j) s->cmp i j C s)->ud n lt t->Q (jW lt t) s->t.kasWp cmp Q s
 | .ret a,_,_,h=>h
 | .ask i j k,hc,ho,h=>hc i j _ ho.1 ho.2.1 (wp_run (k (lt i j)) hc ho.2.2 h)
end
end L2.SO
namespace L2.ST
open PySem PySem.SetTable PySem.W PyProof.Rows
def code (p:Pr):Int:=p.1 * 8 + p.2
def yN {p q:Pr}(h1:Sm p)(h2:Sm q):code p < code q↔p.1 < q.1\/(p.1=q.1/\p.2 < q.2):=by
 unfold code Sm at *;omega
def code_inj {p q:Pr}(h1:Sm p)(h2:Sm q)(e:code p=code q):p=q:=by
 unfold code Sm at *
 refine Prod.ext ?_ ?_ <;> omega
section
variable {prog:Program}{w:World}{A:Around}{E:Value->Shared->Prop}{s:Shared}
abbrev qG (ps:List Pr)(i:Nat):Int:=code (ps.getD i (0,0))
def Cd {ps:List Pr}(nd:ps.Nodup)(hs:∀p,p∈ps->Sm p):L2.SO.Inj ps.length (qG ps):=λi j hi hj e=>by
 have a1:ps.getD i (0,0)=ps[i]:=by simp[hi]
 have a2:ps.getD j (0,0)=ps[j]:=by simp[hj]
 unfold qG at e
 rw[a1,a2] at e
 have e':=code_inj (hs _ (NF hi)) (hs _ (NF hj)) e
 have q:=OI.mp nd
 rcases Pj i j with c |c |c
 ·exact absurd e' (q i j hi hj c)
 ·exact c
 ·exact absurd e'.symm (q j i hj hi c)
theorem Em {a b:Addr}{p q:Pr}{Q:Bool->Shared->Prop}(ha:bW prog w s.heap p a)(hb:bW prog w s.heap q b)(hp:Sm p)(hq:Sm q)(h:Q (decide (code p < code q)) s) :
  wpAny (model prog w) A (keyLt' (tuples' true) (.ref a) (.ref b)) Q E s:=by
 obtain⟨oa,ia,na,hoa,hca,hda,hia⟩:=ha
 obtain⟨ob,ib,nb,hob,hcb,hdb,hib⟩:=hb
 obtain⟨l1,rfl⟩:∃l,ia=List.toArray l:=⟨ia.toList,by simp⟩
 obtain⟨l2,rfl⟩:∃l,ib=List.toArray l:=⟨ib.toList,by simp⟩
 simp only[NY] at hia hib
 cases hia with
 | @cons _ v1 _ _ h1 hia=>
  cases hia with
  | @cons _ v2 _ _ h2 hia=>
   cases hia
   cases hib with
   | @cons _ u1 _ _ g1 hib=>
    cases hib with
    | @cons _ u2 _ _ g2 hib=>
     cases hib
     obtain⟨t1,rfl⟩:=Oj h1
     obtain⟨t2,rfl⟩:=Oj h2
     obtain⟨t3,rfl⟩:=Oj g1
     obtain⟨t4,rfl⟩:=Oj g2
     refine kat_lt hoa hda hob hdb ?_
     have hc:=yN hp hq
     refine kat_cons (wpAny_eqBool_int ?_)
     by_cases e1:p.1=q.1
     ·rw[show (p.1 == q.1)=true by simpa using e1]
      refine kat_yes (kat_cons (wpAny_eqBool_int ?_))
      by_cases e2:p.2=q.2
      ·rw[show (p.2 == q.2)=true by simpa using e2]
       refine kat_yes (kat_nil ?_)
       have:decide (code p < code q)=false:=MK (by rw[hc];omega)
       rw[this] at h
       simpa using h
      ·rw[show (p.2 == q.2)=false by simpa using e2]
       refine kat_no ?_
       show wpAny _ _ (oneLt' false _ _) _ _ _
       refine kat_one _ _ (lt_int ?_)
       have:decide (code p < code q)=decide (p.2 < q.2):=by
        by_cases z:p.2 < q.2
        ·rw[ME z];exact ME (hc.mpr (.inr ⟨e1,z⟩))
        ·rw[MK z];exact MK (by rw[hc];omega)
       rw[this] at h;exact h
     ·rw[show (p.1 == q.1)=false by simpa using e1]
      refine kat_no ?_
      show wpAny _ _ (oneLt' true _ _) _ _ _
      refine oneLt_int ?_
      have:decide (code p < code q)=decide (p.1 < q.1):=by
       by_cases z:p.1 < q.1
       ·rw[ME z];exact ME (hc.mpr (.inl z))
       ·rw[MK z];exact MK (by rw[hc];omega)
      rw[this] at h;exact h
theorem yR:∀{vs:List Value} {ps:List Pr},dr prog w s.heap vs ps->∃fs,KatTups s.heap vs fs/\fs.length=vs.length/\∀v∈fs,∃(i:Int) (t:Tok),v=.int i t
 | [],ps,_=>⟨[],KatTups.nil,rfl,λv hv=>by cases hv⟩
 |v :: vs,[],h=>by have:=h.1;simp at this
 |v :: vs,p :: ps,h=>by
  obtain⟨a,rfl,⟨o,items,n,ho,hc,hd,hi⟩,_⟩:=h.2 0 v p rfl rfl
  obtain⟨fs,k,e,f⟩:=yR (vs:=vs) (ps:=ps) ⟨by simpa using h.1,λi v p h1 h2=>h.2 (i + 1) v p (by simpa using h1) (by simpa using h2)⟩
  obtain⟨l1,rfl⟩:∃l,items=List.toArray l:=⟨items.toList,by simp⟩
  simp only[NY] at hi
  cases hi with
  | @cons _ v1 _ _ h1 hi=>
   obtain⟨t1,rfl⟩:=Oj h1
   exact⟨_ :: fs,KatTups.cons ho hc hd rfl k,by simp[e],λv hv=>by
    rcases MB.mp hv with z |z
    ·exact⟨_,_,z⟩
    ·exact f v z⟩
def um {a:Addr}{vs:List Value}{ps:List Pr}{n:Nat}{P:PySem.Fin->Shared->Prop}(ho:s.heap.get? a=some (seqObj "list" vs.toArray n))(hps:dr prog w s.heap vs ps)(nd:ps.Nodup)(h64:vs.length < 64)
  (h:∀(h':Heap) (c:Nat) (ix:Array Nat),L2.SO.Pm vs.length ix->L2.SO.Up (qG ps) ix vs.length->(∀b o,b≠a->s.heap.get? b=some o->h'.get? b=some o)->
   h'.get? a=some (seqObj "list" (ix.toList.map λi=>vs.getD i Value.none).toArray c)->P (.done (.ret .none)) {s with heap:=h'}) :
  wpAny (model prog w) A (Builtin.«list.sort» ⟨[.ref a],[]⟩) P E s:=by
 have ha:a < s.heap.objs.size:=MH ho
 obtain⟨e1,ho1⟩:∃e1,(s.heap.update a (Obj.mapSeq λ_=>(#[]:Array Value))).get? a=some (seqObj "list" #[] e1):=⟨_,get?_update_seq ho λ_=>#[]⟩
 generalize hH1:(s.heap.update a (Obj.mapSeq λ_=>(#[]:Array Value)))=H1 at ho1
 have sb1:Heap.SameBut a s.heap H1:=by rw[<-hH1];exact Heap.SameBut.update ..
 have kp2:∀b o,H1.get? b=some o->((H1.push (seqObj "tuple" vs.toArray 0)).push (seqObj "list" #[] 0)).get? b=some o:=λb o e=>Mw _ (Mw _ e)
 generalize hH2:((H1.push (seqObj "tuple" vs.toArray 0)).push (seqObj "list" #[] 0))=H2 at kp2
 have kp:∀b o,b≠a->s.heap.get? b=some o->H2.get? b=some o:=λb o hb e=>kp2 b o ((sb1.2 b hb).trans e)
 have ho2:=kp2 _ _ ho1
 have hps2:dr prog w H2 vs ps:=⟨hps.1,λi v p h1 h2=>by
  obtain⟨b,e,⟨o,it,m,hb,hc,hd,r⟩,hs⟩:=hps.2 i v p h1 h2
  refine⟨b,e,⟨o,it,m,kp b o (λz=>?_) hb,hc,hd,r⟩,hs⟩
  subst z
  rw[ho] at hb;cases hb
  exact absurd hc (by simp[seqObj])⟩
 have hz:vs.length<=sizeLine:=by rw[Na];omega
 rw[list_sort_plain]
 refine Mv (listItems_at ho rfl (Mv (listUpdate_at ho rfl ?_ (by simpa using hz) (Nd _))))
 rw[hH1]
 refine Mv (seqEpoch_at (s:={s with heap:=H1}) ho1 rfl (Mv (wpAny_newTuple ?_ (by simpa using hz))))
 refine Mv (wpAny_newList ?_ (Nd _))
 refine NR ?_
 show wpAny (model prog w) A _ P E {s with heap:=(H1.push (seqObj "tuple" vs.toArray 0)).push (seqObj "list" #[] 0)}
 rw[hH2]
 have fin:∀(ix:Array Nat) (st:SortSt),L2.SO.Pm vs.length ix->L2.SO.Up (qG ps) ix vs.length->(arrOf st).map (·.2)=List.toArray (ix.toList.map λi=>vs.getD i Value.none)->failedOf st=none->
   wpAny (model prog w) A (do
    let sorted:=(arrOf st).map (·.2)
    let touched:=(<-seqEpoch a) != e1
    Builtin.List.listUpdate (.ref a) λ_=>sorted
    if let some e:=failedOf st then rule "list.sort.comparison-raised";throw e
    if touched then rule "list.sort.modified";raiseError "ValueError" "list modified during sort"
    ret .none) P E {s with heap:=H2}:=λix st P1 U1 hout hf=>by
  dsimp only
  rw[hout]
  have hsz:(List.toArray (ix.toList.map λi=>vs.getD i Value.none)).size=vs.length:=by simp[P1.sz]
  refine Mv (seqEpoch_at (s:={s with heap:=H2}) ho2 rfl ?_)
  refine Mv (listUpdate_at (s:={s with heap:=H2}) ho2 rfl ?_ (Nd _) (ND (Nat.le_of_eq hsz) (Nat.le_succ_of_le hz)))
  rw[hf]
  simp only[bne_self_eq_false,MQ,Nk]
  obtain⟨c2,hc2⟩:∃c2,(H2.update a (Obj.mapSeq λ_=>List.toArray (ix.toList.map λi=>vs.getD i Value.none))).get? a=some (seqObj "list" (List.toArray (ix.toList.map λi=>vs.getD i Value.none)) c2):=⟨_,get?_update_seq ho2 λ_=>List.toArray (ix.toList.map λi=>vs.getD i Value.none)⟩
  exact Mz (h _ c2 ix P1 U1 (λb o hb e=>((Heap.SameBut.update H2 a _).2 b hb).trans (kp b o hb e)) hc2)
 by_cases h2:vs.length < 2
 ·have h2':vs.toArray.size < 2:=by simpa using h2
  dsimp only
  rw[MA h2',MA h2']
  refine Mv (Mz ?_)
  rw[StateT.run_pure]
  refine Mv (Mz ?_)
  refine fin (List.toArray (List.range vs.length)) (SortSt.mk' general' (vs.toArray.zip vs.toArray) #[] 7 none) (L2.SO.vn _) (λi j hij hj=>by omega) ?_ rfl
  have:∀{l:List Value},l.length < 2->((l.toArray.zip l.toArray).map (·.2))=List.toArray ((List.range l.length).map λi=>l.getD i Value.none):=λ{l} hl=>by
   match l,hl with
   | [],_=>simp
   | [x],_=>simp
  exact (this h2).trans (by simp)
 ·have h2':¬vs.toArray.size < 2:=by simpa using h2
  dsimp only
  rw[MF h2',MF h2']
  obtain⟨fs,kt,fl,ff⟩:=yR (s:={s with heap:=H2}) hps2
  refine Mv (kat_kind (s:={s with heap:=H2}) (T:=.type "int") kt (by omega) (λv hv=>?_) (by decide) ?_)
  ·obtain⟨i,t,rfl⟩:=ff v hv
   exact .now
  ·rw[show ((Value.type "int" != Value.type "tuple"):Bool)=true by decide]
   have hinj:L2.SO.Inj vs.length (qG ps):=by
    rw[hps.1]
    refine Cd nd λp hp=>?_
    obtain⟨i,hi,e⟩:=Nf.mp hp
    have hi':i < vs.length:=by rw[hps.1];exact hi
    obtain⟨_,_,_,hs⟩:=hps.2 i vs[i] p (Mu hi') (by rw[Mu hi,e])
    exact hs
   obtain⟨ix,⟨er,ok⟩,P1,U1⟩:=L2.SO.z0 hinj (by omega)
   refine Mv (N0 (kat_run (s:={s with heap:=H2}) (κ:=tuples' true) (ks:=vs) (Q:=λst s'=>s'={s with heap:=H2}/\arrOf st=ix.map (kas_item (vs.toArray.zip vs.toArray))/\failedOf st=none)
    (G:=λp s'=>p=ix/\s'={s with heap:=H2}) rfl (by omega) h64 (λp st s' a1 a2 a3 a4=>?_) (L2.SO.wp_run (n:=vs.length) (lt:=L2.SO.ny (qG ps)) _ (λi j C hi hj hC=>?_) ok ⟨er,rfl⟩)) ?_ λ_ _ x=>x)
   ·obtain⟨rfl,rfl⟩:=a4
    exact⟨rfl,a2,a3⟩
   ·unfold kas_ask
    have hi':i < ps.length:=by rw[<-hps.1];exact hi
    have hj':j < ps.length:=by rw[<-hps.1];exact hj
    obtain⟨b1,eb1,hb1,s1⟩:=hps2.2 i vs[i] ps[i] (Mu hi) (Mu hi')
    obtain⟨b2,eb2,hb2,s2⟩:=hps2.2 j vs[j] ps[j] (Mu hj) (Mu hj')
    have e1:vs.getD i Value.none=.ref b1:=by rw[<-eb1];simp[hi]
    have e2:vs.getD j Value.none=.ref b2:=by rw[<-eb2];simp[hj]
    rw[e1,e2]
    refine Em (s:={s with heap:=H2}) hb1 hb2 s1 s2 ?_
    have:L2.SO.ny (qG ps) i j=decide (code ps[i] < code ps[j]):=by
     unfold L2.SO.ny qG;simp[hi',hj']
    rw[<-this];exact hC
   ·rintro⟨⟨⟩,st⟩ s' ⟨rfl,har,hf⟩
    exact fin ix st P1 U1 (kat_snds rfl har) hf
end
def b8:Slot "set_iterator" "__next__" "set_iterator.__next__":=
 Slot.of (owner:="set_iterator") (n:="__next__") (by rw[typeLookup_type,builtinLookup_eq_fast];kernel_rfl) (by decide +kernel) (by decide +kernel) (by decide +kernel) (by first |exact .inl (by decide +kernel) |exact .inr (by decide +kernel)) (by rw[Pf];kernel_rfl)
def i7:entryFor table "set_iterator.__next__"=some Builtin.«set_iterator.__next__»:=entryFor_of_tree (by kernel_rfl)
def jV (a:Value):argsOk "set_iterator.__next__" ⟨[a],[]⟩:=by unfold argsOk;kernel_rfl
def oR:entryFor table "set.__iter__"=some Builtin.«frozenset.__iter__»:=entryFor_alias (id':="frozenset.__iter__") (by kernel_rfl) rfl (by decide +kernel) (by kernel_rfl)
def jT:Slot "set_iterator" "__iter__" "set_iterator.__iter__":=
 Slot.of (owner:="set_iterator") (n:="__iter__") (by rw[typeLookup_type,builtinLookup_eq_fast];kernel_rfl) (by decide +kernel) (by decide +kernel) (by decide +kernel) (by first |exact .inl (by decide +kernel) |exact .inr (by decide +kernel)) (by rw[Pf];kernel_rfl)
def nu:entryFor table "set_iterator.__iter__"=some Builtin.«dict_keyiterator.__iter__»:=entryFor_alias (id':="dict_keyiterator.__iter__") (by kernel_rfl) rfl (by decide +kernel) (by kernel_rfl)
def nS (a:Value):argsOk "set_iterator.__iter__" ⟨[a],[]⟩:=by unfold argsOk;kernel_rfl
def EL (a:Addr)(slot given ep0:Nat):setNext a slot given ep0=(do
  let (es,epoch,t) <-setState a
  if (<-ask).params.followText "set-order" then
   if epoch != ep0 then unsupported "set_iterator.__next__:elements-changed"
   return ((<-setWalk a)[given]?).map λe=>(e.2,slot)
  if !t.plain && es.size > 1 then unsupported "set_iterator.__next__:the-table-is-plain-no-more"
  let u:Unit <-(show Sem Unit from do if !t.led && !es.isEmpty then unsupported "set:maker-not-led")
  let i:=SetTable.below t.place slot
  return match es[i]?,t.place[i]? with
   |some (_,x),some j=>some (x,j + 1)
   |_,_=>none):=by
 unfold setNext setsByText
 simp only[bind_assoc,pure_bind]
 rfl
def DZ (a:Addr):setWalk a=(do
  let (es,epoch,t) <-setState a
  if (<-ask).params.followText "set-order" then return pickOrder ((<-ask).params.setOrder a epoch) es
  if !t.plain && es.size > 1 then return (<-drawOrder es.size es.toList).toArray
  let u:Unit <-(show Sem Unit from do if !t.led && es.size > 1 then unsupported "set:maker-not-led")
  return es):=by
 unfold setWalk setsByText
 simp only[bind_assoc,pure_bind]
 rfl
def Cp (a:Addr):setDrawn a=(do
  let (es,_,t) <-setState a
  let byText <-(do return (<-ask).params.followText "set-order")
  return !byText && (!t.plain && es.size > 1)):=rfl
theorem g9 {α:Type}:∀(l:List α) (i:Nat) (h:i < l.length),(l[i] :: l.eraseIdx i).Perm l
 |a :: l,0,_=>List.Perm.refl _
 |a :: l,i + 1,h=>by
  have hi:i < l.length:=by simpa using h
  show (l[i] :: a :: l.eraseIdx i).Perm (a :: l)
  exact (List.Perm.swap ..).trans ((g9 l i hi).cons a)
theorem qO {α:Type}(next:Nat->Nat):∀(fuel k:Nat) (left:List α) (out:Array α),left.length=fuel->(pickOrder.go next fuel k left out).toList.Perm (out.toList ++ left)
 | 0,k,left,out,h=>by
  have:left= []:=List.length_eq_zero_iff.mp h
  subst this
  unfold pickOrder.go
  simp
 |fuel + 1,k,left,out,h=>by
  unfold pickOrder.go
  have hlt:next k % left.length < left.length:=O6 _ (by omega)
  rw[Mu hlt]
  dsimp only
  refine (qO next fuel (k + 1) _ _ (by rw[List.length_eraseIdx_of_lt hlt];omega)).trans ?_
  rw[Array.toList_push,Nm]
  refine List.Perm.append_left _ ?_
  exact g9 left _ hlt
def j6 {α:Type}(next:Nat->Nat)(xs:Array α):(pickOrder next xs).toList.Perm xs.toList:=by
 have:=qO next xs.size 0 xs.toList #[] (by simp)
 simpa[pickOrder] using this
section
variable {prog:Program}{w:World}{A:Around}{E:Value->Shared->Prop}{s:Shared}
def told (w:World)(S:Addr)(ep:Nat)(es:Array (Int×Value)):Array (Int×Value):=if w.params.followText "set-order" then pickOrder (w.params.setOrder S ep) es else es
def rQ (w:World)(S:Addr)(ep:Nat)(es:Array (Int×Value)):(told w S ep es).toList.Perm es.toList:=by
 unfold told;split
 ·exact j6 _ _
 ·exact List.Perm.refl _
abbrev vY (S:Addr)(slot k n ep:Nat):Obj:={cls:=.type "set_iterator",data:=.fields #[.int (slot:Int) 0,.int (k:Int) 0,.ref S,.int (n:Int) 0,.int (ep:Int) 0]}
structure lQ (w:World)(S:Addr)(o:Obj)(es:Array (Int×Value))(ep:Nat)(t:SetTable)(I:Addr)(k:Nat)(h:Heap):Prop where
 set:h.get? S=some o
 data:o.data=.set es ep t
 cls:o.cls=.type "set"
 tab:Tab t (es.toList.map (·.1))
 led:t.led=fV w
 it:∃slot,h.get? I=some (vY S slot k es.size ep)/\(fV w=true->slot=if k=0 then 0 else t.place.getD (k - 1) 0 + 1)
def lQ.fits {S I:Addr}{o:Obj}{es:Array (Int×Value)}{ep k:Nat}{t:SetTable}{h:Heap}(X:lQ w S o es ep t I k h):t.fits es.size=true:=pQ X.tab (by simp)
theorem yA {S I:Addr}{o:Obj}{es:Array (Int×Value)}{ep k slot:Nat}{t:SetTable}{Q:Option (Value×Nat)->Shared->Prop}(X:lQ w S o es ep t I k s.heap)(hk:k<=es.size)(hs:fV w=true->slot=if k=0 then 0 else t.place.getD (k - 1) 0 + 1)
  (h:∀(r:Option (Value×Nat)),(k < es.size->∃x nx,r=some (x,nx)/\(told w S ep es)[k]?.map (·.2)=some x/\(fV w=true->nx=t.place.getD k 0 + 1))->(k=es.size->r=none)->Q r s) :
  wpAny (model prog w) A (setNext S slot k ep) Q E s:=by
 rw[EL]
 refine Mv (Nz X.set X.data X.fits ?_)
 dsimp only
 refine Mv (O7 ?_)
 dsimp only
 cases hb:w.params.followText "set-order" with
 |true=>
  rw[MA (show (model prog w).w.params.followText "set-order"=true from hb)]
  simp only[bne_self_eq_false,MQ,Nk]
  rw[DZ]
  refine Mv (Mv (Nz X.set X.data X.fits ?_))
  dsimp only
  refine Mv (O7 ?_)
  dsimp only
  rw[MA (show (model prog w).w.params.followText "set-order"=true from hb)]
  refine Mv (O7 (Mz (Mz ?_)))
  have et:told w S ep es=pickOrder (w.params.setOrder S ep) es:=by unfold told;rw[MA hb]
  have hsz:(pickOrder (w.params.setOrder S ep) es).size=es.size:=by
   have:=(j6 (w.params.setOrder S ep) es).length_eq;simpa using this
  refine h _ (λhlt=>?_) (λe=>?_)
  ·have hlt':k < (pickOrder (w.params.setOrder S ep) es).size:=by rw[hsz];exact hlt
   refine⟨(pickOrder (w.params.setOrder S ep) es)[k].2,slot,?_,?_,λz=>?_⟩
   ·show Option.map _ (pickOrder (w.params.setOrder S ep) es)[k]? =_
    rw[M8 hlt'];rfl
   ·rw[et,M8 hlt'];rfl
   ·unfold fV at z;rw[hb] at z;cases z
  ·show Option.map _ (pickOrder (w.params.setOrder S ep) es)[k]? =_
   rw[O1 (by rw[hsz];omega)];rfl
 |false=>
  rw[MF (show ¬(model prog w).w.params.followText "set-order"=true by intro z;rw[show (model prog w).w.params.followText "set-order"=false from hb] at z;cases z)]
  have hl:fV w=true:=by unfold fV;rw[hb];rfl
  rw[X.tab.plain,X.led,hl]
  simp only[OW,Bool.false_and,MQ,Nk]
  have et:told w S ep es=es:=by unfold told;rw[hb];simp
  have hps:t.place.size=es.size:=by simpa using X.tab.size
  have hbl:below t.place slot=k:=by
   rw[hs hl]
   obtain⟨b1,b2,b3⟩:=dN X.tab.rise (if k=0 then 0 else t.place.getD (k - 1) 0 + 1)
   by_cases k0:k=0
   ·subst k0
    simp only[NC] at b1 b2 b3 ⊢
    rcases Nat.eq_zero_or_pos (below t.place 0) with z |z
    ·exact z
    ·have:=b2 0 z;omega
   ·rw[MF k0] at b1 b2 b3 ⊢
    have hk1:k - 1 < t.place.size:=by omega
    rcases Pj (below t.place (t.place.getD (k - 1) 0 + 1)) k with z |z |z
    ·have q:=b3 (k - 1) (by omega) hk1
     have e:t.place.getD (k - 1) (t.place.getD (k - 1) 0 + 1)=t.place.getD (k - 1) 0:=by simp[Array.getD,hk1]
     omega
    ·exact z
    ·have hks:k < t.place.size:=by omega
     have q:=b2 k z
     have e:t.place.getD k (t.place.getD (k - 1) 0 + 1)=t.place.getD k 0:=by simp[Array.getD,hks]
     have:=iD (d:=0) X.tab.rise (show k - 1 < k by omega) hks
     omega
  refine Mz ?_
  rw[hbl]
  refine h _ (λhlt=>?_) (λe=>?_)
  ·have hlt2:k < t.place.size:=by omega
   refine⟨es[k].2,t.place[k] + 1,?_,?_,λ_=>?_⟩
   ·rw[M8 hlt,M8 hlt2]
   ·rw[et,M8 hlt];rfl
   ·simp[Array.getD,hlt2]
  ·rw[O1 (by omega)]
def AA {S I:Addr}{o:Obj}{es:Array (Int×Value)}{ep:Nat}{t:SetTable}(hh:A.handled=none)(hne:S≠I) :
  Walks prog w A I [I,S] [I] es.size (λi v=>(told w S ep es)[i]?.map (·.2)=some v) (λi h=>lQ w S o es ep t I i h) where
 sub:=λb hb=>MB.mpr (.inl (MZ.mp hb))
 frame:=λi h h' X k=>by
  obtain⟨slot,e,r⟩:=X.it
  exact⟨k S (by simp) _ X.set,X.data,X.cls,X.tab,X.led,slot,k I (by simp) _ e,r⟩
 item:=λi s Q E hi X hQ=>by
  obtain⟨slot,e,r⟩:=X.it
  have hT:s.TypeIs (.ref I) "set_iterator":=⟨_,e,rfl⟩
  unfold pyNext
  refine Mv (wpAny_attempt (OU (name:=Str.ofString "__next__") hT b8 (N9 b8 hT i7 ?_ (jV _))))
  unfold Builtin.«set_iterator.__next__»
  refine Mv (m:=slotArgs "__next__" 0 _) (Mz ?_)
  dsimp only
  unfold fieldsOf
  refine Mv (Mv (wpAny_load e (Mz ?_)))
  dsimp only
  unfold setEntries
  refine Mv (Mv (Nz X.set X.data X.fits (Mz ?_)))
  dsimp only
  rw[MF (by simp)]
  refine Mv ?_
  simp only[M6]
  refine yA X (Nat.le_of_lt hi) r λrr h1 _=>?_
  obtain⟨x,nx,rfl,h2,h3⟩:=h1 hi
  dsimp only
  refine Mv (Ov e rfl (by simp) ?_)
  have e2:=Nw (Obj.mapFields λvs=>vs.setIfInBounds 0 (rawInt (nx:Int))) e rfl
  refine Mv (Ov e2 rfl (by simp) ?_)
  refine Mz ⟨x,rfl,Mz ?_⟩
  have sb:=(Heap.SameBut.update s.heap I (Obj.mapFields λvs=>vs.setIfInBounds 0 (rawInt (nx:Int)))).trans (Heap.SameBut.update _ I (Obj.mapFields λvs=>vs.setIfInBounds 1 (rawInt ((i:Int) + 1))))
  refine hQ x _ _ h2 ⟨(sb.2 S hne).trans X.set,X.data,X.cls,X.tab,X.led,nx,?_,λz=>?_⟩ λb o hb eb=>(sb.2 b (by simpa using hb)).trans eb
  ·exact Nw (Obj.mapFields λvs=>vs.setIfInBounds 1 (rawInt ((i:Int) + 1))) e2 rfl
  ·rw[MF (by omega)];exact h3 z
 done:=λs Q E X hQ=>by
  obtain⟨slot,e,r⟩:=X.it
  have hT:s.TypeIs (.ref I) "set_iterator":=⟨_,e,rfl⟩
  unfold pyNext
  refine Mv (wpAny_attempt (OU (name:=Str.ofString "__next__") hT b8 (N9 b8 hT i7 ?_ (jV _))))
  unfold Builtin.«set_iterator.__next__»
  refine Mv (m:=slotArgs "__next__" 0 _) (Mz ?_)
  dsimp only
  unfold fieldsOf
  refine Mv (Mv (wpAny_load e (Mz ?_)))
  dsimp only
  unfold setEntries
  refine Mv (Mv (Nz X.set X.data X.fits (Mz ?_)))
  dsimp only
  rw[MF (by simp)]
  refine Mv ?_
  simp only[M6]
  refine yA X (My _) r λrr _ h1=>?_
  rw[h1 rfl]
  dsimp only
  refine Mv (Ov e rfl (by simp) ?_)
  (show wpAny _ _ (newExc (.type "StopIteration") [] >>= λx=>raiseNew x) _ _ _)
  refine Mv ?_
  simp only[newExc,newTuple]
  (refine Mv (NI ?_ (by size_fits)))
  (refine Mv (m:=firstArgMember _ _) (wpAny_of_eq (a:=Value.none) (by first |rfl | (simp only[firstArgMember];rfl)) ?_))
  (refine NI ?_ (by size_fits))
  simp only[raiseNew]
  refine Mv (wpAny_handled ?_)
  (rw[show A.in1.handled=none from hh])
  refine Mv (Mz (wpAny_throw ?_))
  refine Mv (wpAny_isInstance (T:="StopIteration") (b:=true) ⟨_,MN _ rfl,rfl⟩ isSubtype_stop (Mz (hQ _ _ λb o hb eb=>?_)))
  exact Mw _ (Mw _ (((Heap.SameBut.update ..).2 b (by simpa using hb)).trans eb))
 self:=λi s Q E X hQ=>by
  obtain⟨slot,e,r⟩:=X.it
  have hT:s.TypeIs (.ref I) "set_iterator":=⟨_,e,rfl⟩
  refine wpAny_pyIter_slot hT jT (N9 jT hT nu ?_ (nS _))
  show wpAny _ _ (ret (.ref I)) _ _ s
  exact Mz ⟨_,rfl,"set_iterator",_,hT,b8.lookup,hQ⟩
def A3 {S:Addr}{o:Obj}{es:Array (Int×Value)}{ep:Nat}{t:SetTable}{Q:Value->Shared->Prop}(ho:s.heap.get? S=some o)(hd:o.data=.set es ep t)(hc:o.cls=.type "set")(T:Tab t (es.toList.map (·.1)))(hl:t.led=fV w)
  (h:Q (.ref s.heap.objs.size) {s with heap:=s.heap.push (vY S 0 0 es.size ep)}):wpAny (model prog w) A (pyIter (.ref S)) Q E s:=by
 have hT:s.TypeIs (.ref S) "set":=⟨o,ho,hc⟩
 have hf:t.fits es.size=true:=pQ T (by simp)
 refine wpAny_pyIter_slot hT F.slot_set_iter (N9 F.slot_set_iter hT oR ?_ (F.args_set_iter_1 _))
 unfold Builtin.«frozenset.__iter__» Builtin.Frozenset.slot0
 refine Mv (Mv (m:=slotArgs "__iter__" 0 _) (Mz (Mz ?_)))
 unfold Builtin.Frozenset.sizeOf setEntries
 refine Mv (Mv (Mv (Nz ho hd hf (Mz (Mz ?_)))))
 rw[Cp]
 refine Mv (Mv (Nz ho hd hf ?_))
 dsimp only
 refine Mv (Mv (O7 (Mz (Mz ?_))))
 rw[T.plain]
 simp only[OW,Bool.false_and,Bool.and_false,MQ,Nk]
 refine Mv (Mz ?_)
 unfold setEpoch
 refine Mv (Mv (Nz ho hd hf (Mz ?_)))
 refine Mv (NI (Mz ⟨_,rfl,"set_iterator",_,⟨_,MN _ rfl,rfl⟩,b8.lookup,h⟩))
def uI {S:Addr}{o:Obj}{es:Array (Int×Value)}{ep:Nat}{t:SetTable}{Q:List Value->Shared->Prop}(hh:A.handled=none)(ho:s.heap.get? S=some o)(hd:o.data=.set es ep t)(hc:o.cls=.type "set")(T:Tab t (es.toList.map (·.1)))(hl:t.led=fV w)
  (hn:es.size<=64) (h:∀h' tk vs,vs=(told w S ep es).toList.map (·.2)->(∀b o,s.heap.get? b=some o->h'.get? b=some o)->Q vs {s with heap:=h',toks:=tk}):wpAny (model prog w) A (collect (.ref S)) Q E s:=by
 have hz:es.size<=sizeLine:=by rw[Na];omega
 unfold collect
 (refine Mv (wpAny_runValue (OB F.entry_proto_collect ?_)))
 (rw[OJ F.plain_proto_collect _])
 show wpAny _ A.in1 (newList [] >>= λl=>again (.builtin "list.__iadd__" ⟨[l,.ref S],[]⟩)) _ _ s
 refine Mv (NI ?_)
 (refine Mz ⟨plainId_quiet F.plain_list_iadd _,OB F.entry_list_iadd ?_⟩)
 (rw[OJ F.plain_list_iadd _])
 show wpAny _ A.in1 (Builtin.List.listExtendWith (.ref s.heap.objs.size) (.ref S) (.ref s.heap.objs.size)) _ _ {s with heap:=s.heap.push (seqObj "list" #[] 0)}
 generalize hH:s.heap.push (seqObj "list" #[] 0)=H1
 have kp1:∀b o,s.heap.get? b=some o->H1.get? b=some o:=λb o e=>by rw[<-hH];exact Mw _ e
 have hD:H1.get? s.heap.objs.size=some (seqObj "list" #[] 0):=by rw[<-hH];exact MN _ rfl
 have hHs:H1.objs.size=s.heap.objs.size + 1:=by rw[<-hH];exact N1 ..
 have hSD:S≠s.heap.objs.size:=M7 (MH ho)
 have hT:Shared.TypeIs {s with heap:=H1} (.ref S) "set":=⟨o,kp1 _ _ ho,hc⟩
 unfold Builtin.List.listExtendWith
 refine Mv (wpAny_typeOf hT ?_)
 have h1:Builtin.List.listSameRef (.ref s.heap.objs.size) (.ref S)=false:=by simp[Builtin.List.listSameRef,Ne.symm hSD]
 have h2:(Value.type "set" == Value.type "list")=false:=by decide
 have h3:(Value.type "set" == Value.type "tuple")=false:=by decide
 rw[h1,h2,h3]
 simp only[Bool.or_false,MQ,Nk]
 refine Mv (A3 (s:={s with heap:=H1}) (kp1 _ _ ho) hd hc T hl ?_)
 refine Mv (NR ?_)
 unfold Builtin.List.listLengthHint
 have hT2:Shared.TypeIs {s with heap:=H1.push (vY S 0 0 es.size ep)} (.ref S) "set":=⟨o,Mw _ (kp1 _ _ ho),hc⟩
 refine Mv (wpAny_specialOf hT2 F.slot_set_len.lookup ?_)
 wp_delta
 refine Mv (wpAny_isInstance hT2 (b:=true) (by rw[Pf];kernel_rfl) ?_)
 show wpAny _ A.in1 (typeOf (Value.ref S) >>= λ_=>_) _ _ _
 refine Mv (wpAny_typeOf hT2 ?_)
 refine Mz ?_
 show wpAny _ A.in1 (rule "list.extend.makes-room" >>= λ_=>Builtin.List.listTouch (.ref s.heap.objs.size) >>= λ_=>again (.builtin "list.extend.loop" ⟨[.ref s.heap.objs.size,.ref H1.objs.size,.ref s.heap.objs.size],[]⟩)) _ _ _
 refine Mv (wpAny_rule (Mv ?_))
 generalize hH2:H1.push (vY S 0 0 es.size ep)=H2
 have kp2:∀b o,H1.get? b=some o->H2.get? b=some o:=λb o e=>by rw[<-hH2];exact Mw _ e
 have hI:H2.get? H1.objs.size=some (vY S 0 0 es.size ep):=by rw[<-hH2];exact MN _ rfl
 have hS0:=kp2 _ _ hD
 show wpAny _ A.in1 (updateSeq s.heap.objs.size (·.push .none) >>= λ_=>updateSeq s.heap.objs.size (·.pop)) _ _ _
 refine Mv (wpAny_updateSeq (s:={s with heap:=H2}) hS0 rfl ?_)
 have hS2:=Nw (Obj.mapSeq (·.push Value.none)) hS0 rfl
 refine wpAny_updateSeq (hz:=by seq_fits) hS2 rfl ?_
 have hS3:=Nw (Obj.mapSeq (·.pop)) hS2 rfl
 have oth:∀b o,b≠s.heap.objs.size->H2.get? b=some o->((H2.update s.heap.objs.size (Obj.mapSeq (·.push Value.none))).update s.heap.objs.size (Obj.mapSeq (·.pop))).get? b=some o:=λb o hb e=>
  ((Heap.SameBut.update _ s.heap.objs.size (Obj.mapSeq (·.pop))).2 b hb).trans (((Heap.SameBut.update H2 s.heap.objs.size (Obj.mapSeq (·.push Value.none))).2 b hb).trans e)
 have hIS:S≠H1.objs.size:=by rw[hHs];exact M7 (Nat.lt_succ_of_lt (MH ho))
 have hID:H1.objs.size≠s.heap.objs.size:=by rw[hHs];exact Nat.succ_ne_self _
 have hDf:s.heap.objs.size∉ [H1.objs.size,S]:=λz=>by
  rcases MB.mp z with e |z
  ·exact hID e.symm
  ·exact hSD (MZ.mp z).symm
 have X0:lQ w S o es ep t H1.objs.size 0 ((H2.update s.heap.objs.size (Obj.mapSeq (·.push Value.none))).update s.heap.objs.size (Obj.mapSeq (·.pop))):=
  ⟨oth _ _ hSD (kp2 _ _ (kp1 _ _ ho)),hd,hc,T,hl,0,oth _ _ hID hI,λ_=>rfl⟩
 refine Mz ⟨plainId_quiet F.plain_extend_loop _,codeAny_extend_loopS (AA (A:=A.in1) (o:=o) (t:=t) hh hIS).toS hz _ hDf _ es.size 0 _ _ _ rfl (Nd _) X0 hS3 (ItemsOf.nil _) λs' acc' c' hm hS' hacc=>?_⟩
 show wpAny _ A (load s.heap.objs.size >>= λ_=>_) _ _ s'
 refine Mv (wpAny_load hS' (Mz ?_))
 obtain⟨h',g',d',tk',os'⟩:=s'
 have eg:g'=s.gens:=hm.gens
 have ed:d'=s.drawn:=hm.drawn
 have eo:os'=s.os:=hm.os
 subst eg ed eo
 refine h h' tk' acc'.toList ?_ λb ob e=>hm.heap b ob (λhb=>?_) (oth b ob (M7 (MH e)) (kp2 _ _ (kp1 _ _ e)))
 ·have hts:(told w S ep es).size=es.size:=by have:=(rQ w S ep es).length_eq;simpa using this
  apply OF
  intro i
  rw[MG]
  by_cases hi:i < es.size
  ·have hi1:i < acc'.size:=by rw[hacc.1];exact hi
   have q:=hacc.2 i acc'[i] (M8 hi1)
   rw[Ob,Ob,M8 hi1]
   exact q.symm
  ·rw[Ob,Ob,O1 (by rw[hacc.1];omega),O1 (by omega)];rfl
 ·have hlt:=MH e
  rcases MB.mp hb with z |z
  ·rw[z] at hlt;exact Nh _ hlt
  ·rw[MZ.mp z,hHs] at hlt;exact absurd hlt (Nat.not_lt.mpr (Nat.le_succ _))
end
end L2.ST
namespace OM
abbrev Pr:=Int×Int
def Gn (p q:Pr):Prop:=p.1 < q.1\/(p.1=q.1/\p.2 < q.2)
def jL (p:Pr):¬Gn p p:=by unfold Gn;omega
def zX {p q r:Pr}(a:Gn p q)(b:Gn q r):Gn p r:=by unfold Gn at *;omega
abbrev ue (l:List Pr):Prop:=l.Pairwise Gn
theorem cX:∀{l m:List Pr},ue l->ue m->(∀x,x∈l↔x∈m)->l=m
 | [],[],_,_,_=>rfl
 | [],b :: m,_,_,h=>absurd ((h b).mpr (MC ..)) (by simp)
 |a :: l,[],_,_,h=>absurd ((h a).mp (MC ..)) (by simp)
 |a :: l,b :: m,hl,hm,h=>by
  have hl':=OY.mp hl
  have hm':=OY.mp hm
  have e:a=b:=by
   rcases MB.mp ((h a).mp (MC ..)) with e |e
   ·exact e
   ·rcases MB.mp ((h b).mpr (MC ..)) with e' |e'
    ·exact e'.symm
    ·exact absurd (zX (hm'.1 a e) (hl'.1 b e')) (jL _)
  subst e
  congr 1
  refine cX hl'.2 hm'.2 λx=>⟨λhx=>?_,λhx=>?_⟩
  ·rcases MB.mp ((h x).mp (MD _ hx)) with e |e
   ·subst e;exact absurd (hl'.1 x hx) (jL _)
   ·exact e
  ·rcases MB.mp ((h x).mpr (MD _ hx)) with e |e
   ·subst e;exact absurd (hm'.1 x hx) (jL _)
   ·exact e
def gQ {l:List Pr}(h:ue l):l.Nodup:=h.imp λ{a b} hab e=>by subst e;exact jL _ hab
def c4 {l:List Pr}(p:Pr->Bool)(h:ue l):ue (l.filter p):=h.sublist OS
def bQ (n:Nat):List Pr:=(List.range (n * n)).map λk=>(((k / n:Nat):Int),((k % n:Nat):Int))
def bC {n:Nat}{p:Pr}:p∈bQ n↔(0<=p.1/\p.1 < n)/\(0<=p.2/\p.2 < n):=by
 unfold bQ
 rw[MM]
 constructor
 ·rintro⟨k,hk,rfl⟩
  have hk:=MX.mp hk
  have hn:0 < n:=by
   rcases Nat.eq_zero_or_pos n with e |e
   ·subst e;omega
   ·exact e
  have h1:k / n < n:=Nat.div_lt_of_lt_mul hk
  have h2:k % n < n:=O6 _ hn
  generalize k / n=q at h1
  generalize k % n=r at h2
  exact⟨⟨Int.natCast_nonneg _,by dsimp only;omega⟩,⟨Int.natCast_nonneg _,by dsimp only;omega⟩⟩
 ·rintro⟨⟨a0,a1⟩,⟨b0,b1⟩⟩
  have hn:0 < n:=by omega
  refine⟨p.1.toNat * n + p.2.toNat,MX.mpr ?_,?_⟩
  ·have h1:p.1.toNat + 1<=n:=by omega
   have h2:p.2.toNat < n:=by omega
   have:=Nat.mul_le_mul_right n h1
   rw[Nat.add_mul] at this
   omega
  ·have h2:p.2.toNat < n:=by omega
   have e1:(p.1.toNat * n + p.2.toNat) / n=p.1.toNat:=by
    rw[Nat.mul_comm,Nat.mul_add_div hn,Nat.div_eq_of_lt h2];rfl
   have e2:(p.1.toNat * n + p.2.toNat) % n=p.2.toNat:=by
    rw[Nat.mul_comm,Nat.mul_add_mod,Nat.mod_eq_of_lt h2]
   rw[e1,e2]
   refine Prod.ext ?_ ?_ <;> dsimp only <;> omega
def eM (n:Nat):ue (bQ n):=by
 unfold bQ
 refine NQ.mpr (NZ ?_ List.pairwise_lt_range)
 intro a b ha hb hab
 have ha:=MX.mp ha
 have hb:=MX.mp hb
 have hn:0 < n:=by
  rcases Nat.eq_zero_or_pos n with e |e
  ·subst e;omega
  ·exact e
 have h1:a / n<=b / n:=Nat.div_le_div_right (Nat.le_of_lt hab)
 have e1:=Nat.div_add_mod a n
 have e2:=Nat.div_add_mod b n
 unfold Gn
 dsimp only
 rcases NL (a / n) (b / n) with c |c
 ·left;omega
 ·right
  have e:a / n=b / n:=by omega
  rw[e] at e1
  omega
open Classical in
noncomputable def cg (n:Nat)(R:Int->Int->Prop):List Pr:=(bQ n).filter λp=>decide (R p.1 p.2)
def bh {n:Nat}{R:Int->Int->Prop}{p:Pr}:p∈cg n R↔((0<=p.1/\p.1 < n)/\(0<=p.2/\p.2 < n))/\R p.1 p.2:=by
 unfold cg
 rw[ML,bC]
 simp
def cN (n:Nat)(R:Int->Int->Prop):ue (cg n R):=c4 _ (eM n)
def wt {n:Nat}{R S:Int->Int->Prop}(h:∀a b:Int,0<=a->a < n->0<=b->b < n->(R a b↔S a b)):cg n R=cg n S:=by
 refine cX (cN n R) (cN n S) λx=>?_
 rw[bh,bh]
 constructor
 ·rintro⟨⟨⟨a,b⟩,c,d⟩,r⟩;exact⟨⟨⟨a,b⟩,c,d⟩,(h _ _ a b c d).mp r⟩
 ·rintro⟨⟨⟨a,b⟩,c,d⟩,r⟩;exact⟨⟨⟨a,b⟩,c,d⟩,(h _ _ a b c d).mpr r⟩
def Wn (n:Nat)(l:List Pr):Prop:=∀p,p∈l->(0<=p.1/\p.1 < n)/\(0<=p.2/\p.2 < n)
abbrev Mem (l:List Pr)(a b:Int):Prop:=(a,b)∈l
def zo {n:Nat}{l:List Pr}(w:Wn n l)(r:ue l):cg n (Mem l)=l:=by
 refine cX (cN n _) r λx=>?_
 rw[bh]
 exact⟨λh=>h.2,λh=>⟨w x h,h⟩⟩
def sD (n:Nat)(R:Int->Int->Prop):Wn n (cg n R):=λ_ h=>(bh.mp h).1
def Dv (n:Nat)(R:Int->Int->Prop):(cg n R).length<=n * n:=by
 unfold cg
 refine ND (OC ..) ?_
 unfold bQ;simp
inductive Tr (R:Int->Int->Prop):Int->Int->Prop
 |one {a b}:R a b->Tr R a b
 |more {a b c}:R a b->Tr R b c->Tr R a c
theorem Tr.trans {R:Int->Int->Prop}{a b c:Int}(h:Tr R a b)(k:Tr R b c):Tr R a c:=by
 induction h with
 |one r=>exact .more r k
 |more r _ ih=>exact .more r (ih k)
theorem Tr.least {R S:Int->Int->Prop}(f:∀a b,R a b->S a b)(t:∀a b c,S a b->S b c->S a c){a b:Int}(h:Tr R a b):S a b:=by
 induction h with
 |one r=>exact f _ _ r
 |more r _ ih=>exact t _ _ _ (f _ _ r) ih
structure Ord (n:Nat)(l:List Pr):Prop where
 lo:1<=n
 hi:n<=8
 wn:Wn n l
 ris:ue l
 irr:∀a,(a,a)∉l
 tr:∀a b c,(a,b)∈l->(b,c)∈l->(a,c)∈l
def Ord.tr_mem {n:Nat}{l:List Pr}(O:Ord n l){a b:Int}:Tr (Mem l) a b↔(a,b)∈l:=
 ⟨λh=>h.least (λ_ _ r=>r) λa b c=>O.tr a b c,λh=>.one h⟩
def Ord.closed {n:Nat}{l:List Pr}(O:Ord n l):cg n (Tr (Mem l))=l:=by
 rw[wt (S:=Mem l) λa b _ _ _ _=>O.tr_mem,zo O.wn O.ris]
def GZ {n:Nat}{l:List Pr}(h1:1<=n)(h8:n<=8)(w:Wn n l)(hr:∀a,¬Tr (Mem l) a a):Ord n (cg n (Tr (Mem l))):=
 ⟨h1,h8,sD n _,cN n _,λa h=>hr a (bh.mp h).2,λa b c h k=>bh.mpr ⟨⟨(bh.mp h).1.1,(bh.mp k).1.2⟩,(bh.mp h).2.trans (bh.mp k).2⟩⟩
theorem pe {l m:List Pr}(hl:l.Nodup)(h:∀x,x∈l->x∈m):l.length<=m.length:=by
 induction l generalizing m with
 |nil=>exact Nd _
 |cons a l ih=>
  have ha:=h a (MC ..)
  have hl':=Nc.mp hl
  have:=ih (m:=m.erase a) hl'.2 λx hx=>by
   refine (List.mem_erase_of_ne ?_).mpr (h x (MD _ hx))
   rintro rfl;exact hl'.1 hx
  rw[Pa ha] at this
  have:0 < m.length:=List.length_pos_of_mem ha
  simp only[MU];omega
def sub_eq {l m:List Pr}(hl:ue l)(hm:ue m)(h:∀x,x∈l->x∈m)(e:l.length=m.length):l=m:=by
 refine cX hl hm λx=>⟨h x,λhx=>Classical.byContradiction λhn=>?_⟩
 have:=pe (l:=x :: l) (m:=m) (Nc.mpr ⟨hn,gQ hl⟩) λy hy=>by
  rcases MB.mp hy with e |e
  ·subst e;exact hx
  ·exact h y e
 simp only[MU] at this
 omega
def more (l:List Pr):List Pr:=l.flatMap λp=>(l.filter λq=>decide (q.1=p.2)).map λq=>(p.1,q.2)
def pj {l:List Pr}{x:Pr}:x∈more l↔∃b,(x.1,b)∈l/\(b,x.2)∈l:=by
 unfold more
 rw[List.mem_flatMap]
 constructor
 ·rintro⟨p,hp,hx⟩
  obtain⟨q,hq,rfl⟩:=MM.mp hx
  obtain⟨hq,e⟩:=ML.mp hq
  have e:q.1=p.2:=by simpa using e
  exact⟨p.2,hp,by rw[<-e];exact hq⟩
 ·rintro⟨b,h1,h2⟩
  exact⟨(x.1,b),h1,MM.mpr ⟨(b,x.2),ML.mpr ⟨h2,by simp⟩,rfl⟩⟩
noncomputable def kn (n:Nat)(l:List Pr):List Pr:=cg n (Mem (l ++ more l))
structure Gb (n:Nat)(ps l:List Pr):Prop where
 wn:Wn n l
 ris:ue l
 sub:∀x,x∈ps->x∈l
 sup:∀x,x∈l->Tr (Mem ps) x.1 x.2
def An {n:Nat}{ps:List Pr}(w:Wn n ps):Gb n ps (cg n (Mem ps)):=
 ⟨sD n _,cN n _,λx hx=>bh.mpr ⟨w x hx,hx⟩,λ_ hx=>.one (bh.mp hx).2⟩
def CF {n:Nat}{ps l:List Pr}(B:Gb n ps l):Wn n (l ++ more l):=λx hx=>by
 rcases M1.mp hx with h |h
 ·exact B.wn x h
 ·obtain⟨b,h1,h2⟩:=pj.mp h
  exact⟨(B.wn _ h1).1,(B.wn _ h2).2⟩
def uT {n:Nat}{ps l:List Pr}(B:Gb n ps l):Gb n ps (kn n l)/\∀x,x∈l->x∈kn n l:=by
 have hs:∀x,x∈l->x∈kn n l:=λx hx=>bh.mpr ⟨B.wn x hx,NU _ hx⟩
 refine⟨⟨sD n _,cN n _,λx hx=>hs x (B.sub x hx),λx hx=>?_⟩,hs⟩
 rcases M1.mp (bh.mp hx).2 with h |h
 ·exact B.sup _ h
 ·obtain⟨b,h1,h2⟩:=pj.mp h
  exact (B.sup _ h1).trans (B.sup _ h2)
def A1 {n:Nat}{ps l:List Pr}(B:Gb n ps l)(e:(kn n l).length=l.length):kn n l=cg n (Tr (Mem ps)):=by
 obtain⟨B2,hs⟩:=uT B
 have q:l=kn n l:=sub_eq B.ris B2.ris hs e.symm
 refine cX B2.ris (cN n _) λx=>⟨λh=>bh.mpr ⟨B2.wn x h,B2.sup x h⟩,λh=>?_⟩
 rw[<-q]
 have tr:∀a b c:Int,(a,b)∈l->(b,c)∈l->(a,c)∈l:=λa b c h1 h2=>by
  rw[q]
  exact bh.mpr ⟨⟨(B.wn _ h1).1,(B.wn _ h2).2⟩,Ni _ (pj.mpr ⟨b,h1,h2⟩)⟩
 exact (bh.mp h).2.least (S:=Mem l) (λa b r=>B.sub _ r) tr
abbrev Tb:=Nat->Nat->Bool
def Tb.set (M:Tb)(a b:Nat):Tb:=λx y=>if x=a/\y=b then true else M x y
def EH (M:Tb)(m:Nat):Prop:=∀k a b,k < m->M a k=true->M k b=true->M a b=true
def Phase (M0 M:Tb)(m:Nat)(D:Nat->Nat->Prop):Prop:=∀a b,M a b=true↔M0 a b=true\/(D a b/\M0 a m=true/\M0 m b=true)
def Phase.start (M:Tb)(m:Nat):Phase M M m λ_ _=>False:=λa b=>by simp
def Phase.row {M0 M:Tb}{m:Nat}{D:Nat->Nat->Prop}(P:Phase M0 M m D)(a:Nat):M a m=true↔M0 a m=true:=by
 rw[P]
 exact⟨λh=>h.elim id λh=>h.2.1,.inl⟩
def Phase.col {M0 M:Tb}{m:Nat}{D:Nat->Nat->Prop}(P:Phase M0 M m D)(b:Nat):M m b=true↔M0 m b=true:=by
 rw[P]
 exact⟨λh=>h.elim id λh=>h.2.2,.inl⟩
def Phase.step {M0 M:Tb}{m:Nat}{D:Nat->Nat->Prop}(P:Phase M0 M m D)(x y:Nat) :
  Phase M0 (if M x m=true/\M m y=true then M.set x y else M) m (λa b=>D a b\/(a=x/\b=y)):=λa b=>by
 have r:=P.row x
 have c:=P.col y
 by_cases h:M x m=true/\M m y=true
 ·rw[MA h]
  unfold Tb.set
  by_cases e:a=x/\b=y
  ·rw[MA e]
   obtain⟨rfl,rfl⟩:=e
   simp only[true_iff]
   exact .inr ⟨.inr (by simp),r.mp h.1,c.mp h.2⟩
  ·rw[MF e,P]
   constructor
   ·rintro (q | ⟨d,q⟩)
    ·exact .inl q
    ·exact .inr ⟨.inl d,q⟩
   ·rintro (q | ⟨d |d,q⟩)
    ·exact .inl q
    ·exact .inr ⟨d,q⟩
    ·exact absurd d e
 ·rw[MF h,P]
  constructor
  ·rintro (q | ⟨d,q⟩)
   ·exact .inl q
   ·exact .inr ⟨.inl d,q⟩
  ·rintro (q | ⟨d | ⟨rfl,rfl⟩,q1,q2⟩)
   ·exact .inl q
   ·exact .inr ⟨d,q1,q2⟩
   ·exact absurd ⟨r.mpr q1,c.mpr q2⟩ h
def Phase.done {M0 M:Tb}{m n:Nat}{D:Nat->Nat->Prop}(P:Phase M0 M m D)(hD:∀a b,a < n->b < n->D a b)(hM:∀a b,M0 a b=true->a < n/\b < n)(T:EH M0 m) :
  EH M (m + 1)/\∀a b,M a b=true->a < n/\b < n:=by
 have hM':∀a b,M a b=true->a < n/\b < n:=λa b h=>by
  rcases (P a b).mp h with q | ⟨_,q1,q2⟩
  ·exact hM a b q
  ·exact⟨(hM _ _ q1).1,(hM _ _ q2).2⟩
 have put:∀a b,M0 a m=true->M0 m b=true->M a b=true:=λa b h1 h2=>(P a b).mpr (.inr ⟨hD a b (hM _ _ h1).1 (hM _ _ h2).2,h1,h2⟩)
 refine⟨λk a b hk h1 h2=>?_,hM'⟩
 rcases NL k m with c |c
 ·rcases (P a k).mp h1 with q1 | ⟨_,q1,q1'⟩
  ·rcases (P k b).mp h2 with q2 | ⟨_,q2,q2'⟩
   ·exact (P a b).mpr (.inl (T k a b c q1 q2))
   ·exact put a b (T k a m c q1 q2) q2'
  ·rcases (P k b).mp h2 with q2 | ⟨_,q2,q2'⟩
   ·exact put a b q1 (T k m b c q1' q2)
   ·exact put a b q1 q2'
 ·have e:k=m:=by omega
  subst e
  exact put a b ((P.row a).mp h1) ((P.col b).mp h2)
structure Tab (n:Nat)(ps:List Pr)(M:Tb):Prop where
 inn:∀a b,M a b=true->a < n/\b < n
 sub:∀a b:Nat,((a:Int),(b:Int))∈ps->M a b=true
 sup:∀a b:Nat,M a b=true->Tr (Mem ps) a b
def Tab.phase {n:Nat}{ps:List Pr}{M0 M:Tb}{m:Nat}{D:Nat->Nat->Prop}(T:Tab n ps M0)(P:Phase M0 M m D):Tab n ps M:=
 ⟨λa b h=>by
  rcases (P a b).mp h with q | ⟨_,q1,q2⟩
  ·exact T.inn a b q
  ·exact⟨(T.inn _ _ q1).1,(T.inn _ _ q2).2⟩,
  λa b h=>(P a b).mpr (.inl (T.sub a b h)),
  λa b h=>by
  rcases (P a b).mp h with q | ⟨_,q1,q2⟩
  ·exact T.sup a b q
  ·exact (T.sup _ _ q1).trans (T.sup _ _ q2)⟩
def Tab.all {n:Nat}{ps:List Pr}{M:Tb}(w:Wn n ps)(T:Tab n ps M)(H:EH M n)(a b:Nat):M a b=true↔Tr (Mem ps) a b:=by
 refine⟨T.sup a b,λh=>?_⟩
 have key:∀{x y:Int},Tr (Mem ps) x y->M x.toNat y.toNat=true:=λ{x y} h=>by
  induction h with
  | @one x y r=>
   have:=w _ r
   refine T.sub _ _ ?_
   have e1:((x.toNat:Nat):Int)=x:=by simp only at this;omega
   have e2:((y.toNat:Nat):Int)=y:=by simp only at this;omega
   rw[e1,e2];exact r
  | @more x y z r _ ih=>
   have:=w _ r
   have e1:((x.toNat:Nat):Int)=x:=by simp only at this;omega
   have e2:((y.toNat:Nat):Int)=y:=by simp only at this;omega
   have q:M x.toNat y.toNat=true:=T.sub _ _ (by rw[e1,e2];exact r)
   exact H y.toNat _ _ (T.inn _ _ q).2 q ih
 have:=key h
 simpa using this
end OM
namespace L2.ST
open PySem PySem.SetTable PySem.W PyProof.Rows
section
variable {prog:Program}{w:World}{A:Around}{E:Value->Shared->Prop}{s:Shared}
def IL {ps:List Pr}(hs:∀p,p∈ps->Sm p){ix:Array Nat}(P:L2.SO.Pm ps.length ix)(U:L2.SO.Up (qG ps) ix ps.length):OM.ue (ix.toList.map λi=>ps.getD i (0,0)):=by
 refine NQ.mpr (OI.mpr λi j hi hj hij=>?_)
 have hi':i < ix.size:=by simpa using hi
 have hj':j < ix.size:=by simpa using hj
 have q:=U i j hij (by rw[<-P.sz];exact hj')
 unfold L2.SO.Kp qG at q
 have ei:ix.getD i 0=ix.toList[i]:=by simp[Array.getD,hi']
 have ej:ix.getD j 0=ix.toList[j]:=by simp[Array.getD,hj']
 rw[ei,ej] at q
 have ai:ix.toList[i] < ps.length:=P.lt _ (by simp)
 have aj:ix.toList[j] < ps.length:=P.lt _ (by simp)
 have bi:Sm (ps.getD ix.toList[i] (0,0)):=by rw[MY,Mu ai];exact hs _ (NF ai)
 have bj:Sm (ps.getD ix.toList[j] (0,0)):=by rw[MY,Mu aj];exact hs _ (NF aj)
 exact (yN bi bj).mp q
def HV {n:Nat}{ix:Array Nat}(P:L2.SO.Pm n ix){k:Nat}(hk:k < n):k∈ix.toList:=by
 refine Classical.byContradiction λhn=>?_
 have:=bE (l:=k :: ix.toList) (m:=List.range n) (Nc.mpr ⟨hn,P.nd⟩) λx hx=>by
  rcases MB.mp hx with e |e
  ·rw[e];exact MX.mpr hk
  ·exact MX.mpr (P.lt x (by simpa using e))
 simp[P.sz] at this
 omega
theorem J1 {h:Heap}{vs:List Value}{ps:List Pr}(hps:dr prog w h vs ps){ix:Array Nat}(P:L2.SO.Pm vs.length ix) :
  dr prog w h (ix.toList.map λi=>vs.getD i Value.none) (ix.toList.map λi=>ps.getD i (0,0)):=by
 refine⟨by simp,λi v p h1 h2=>?_⟩
 rw[MG] at h1 h2
 cases e:ix.toList[i]? with
 |none=>rw[e] at h1;cases h1
 |some k=>
  rw[e] at h1 h2
  have hk:k < vs.length:=P.lt k (by simpa using MO e)
  have hk':k < ps.length:=by rw[<-hps.1];exact hk
  simp[hk,hk'] at h1 h2
  exact hps.2 k v p (by rw[Mu hk,h1]) (by rw[Mu hk',h2])
def rP {v:Value}{vs:List Value}{ps:List Pr}{Q:Value->Shared->Prop}(hps:dr prog w s.heap vs ps)(nd:ps.Nodup)(h64:vs.length < 64)
  (hcol:∀(Q':List Value->Shared->Prop),(∀h' tk,(∀b o,s.heap.get? b=some o->h'.get? b=some o)->Q' vs {s with heap:=h',toks:=tk})->wpAny (model prog w) A.in1 (collect v) Q' (λe s'=>E e s') s)
  (h:∀(h1 h':Heap) (tk:Nat) (D:Addr) (out:List Value) (qs:List Pr) (c:Nat),(∀b o,s.heap.get? b=some o->h1.get? b=some o)->D=h1.objs.size->(∀b o,h1.get? b=some o->h'.get? b=some o)->h'.get? D=some (seqObj "list" out.toArray c)->dr prog w h' out qs->(∀u,u∈out->u∈vs)->OM.ue qs->(∀p,p∈qs↔p∈ps)->
   Q (.ref D) {s with heap:=h',toks:=tk}):wpAny (model prog w) A (call (.builtin "sorted") [v]) Q E s:=by
 have hsm:∀p,p∈ps->Sm p:=λp hp=>by
  obtain⟨i,hi,e⟩:=Nf.mp hp
  have hi':i < vs.length:=by rw[hps.1];exact hi
  obtain⟨_,_,_,hs⟩:=hps.2 i vs[i] p (Mu hi') (by rw[Mu hi,e])
  exact hs
 (refine Calls.call_function_entry kind_sorted plain_sorted entry_sorted (args_sorted1 _) ?_)
 unfold Builtin.«sorted»
 refine Mv (m:=checkCount "sorted" 1 1 ([v]:List Value).length) (Mz ?_)
 refine Mv (hcol _ λh1 tk1 k1=>?_)
 have hz:vs.length<=sizeLine:=by rw[Na];omega
 refine Mv (wpAny_newList ?_ hz)
 show wpAny _ _ _ _ _ {s with heap:=h1.push (seqObj "list" vs.toArray 0),toks:=tk1}
 have hoL:(h1.push (seqObj "list" vs.toArray 0)).get? h1.objs.size=some (seqObj "list" vs.toArray 0):=MN _ rfl
 have kp:∀b o,s.heap.get? b=some o->(h1.push (seqObj "list" vs.toArray 0)).get? b=some o:=λb o e=>Mw _ (k1 b o e)
 have hp1:dr prog w (h1.push (seqObj "list" vs.toArray 0)) vs ps:=⟨hps.1,λi v p a b=>by
  obtain⟨c,e,⟨o,it,n,ho,r⟩,hs⟩:=hps.2 i v p a b
  exact⟨c,e,⟨o,it,n,kp _ _ ho,r⟩,hs⟩⟩
 have hne:∀b o,s.heap.get? b=some o->b≠h1.objs.size:=λb o e=>M7 (MH (k1 b o e))
 refine Mv (NR (N9 slot_list_sort ⟨_,hoL,rfl⟩ entry_list_sort ?_ (args_list_sort _)))
 refine um (s:={s with heap:=h1.push (seqObj "list" vs.toArray 0),toks:=tk1}) hoL hp1 nd h64 λh' c ix P U hk ho=>?_
 refine⟨_,rfl,Mz ⟨_,rfl,?_⟩⟩
 have kk:∀b o,s.heap.get? b=some o->h'.get? b=some o:=λb o e=>hk b o (hne b o e) (kp b o e)
 have P':L2.SO.Pm ps.length ix:=by rw[<-hps.1];exact P
 have k2:∀b o,h1.get? b=some o->h'.get? b=some o:=λb o e=>hk b o (M7 (MH e)) (Mw _ e)
 refine h h1 h' tk1 h1.objs.size _ (ix.toList.map λi=>ps.getD i (0,0)) c k1 rfl k2 ho (J1 ⟨hps.1,λi v p a b=>?_⟩ P) (λu hu=>?_) (IL hsm P' (by rw[<-hps.1];exact U)) λp=>⟨λhp=>?_,λhp=>?_⟩
 ·obtain⟨c,e,⟨o,it,n,ho,r⟩,hs⟩:=hps.2 i v p a b
  exact⟨c,e,⟨o,it,n,kk _ _ ho,r⟩,hs⟩
 ·obtain⟨i,hi,rfl⟩:=MM.mp hu
  have:i < vs.length:=P.lt i (by simpa using hi)
  rw[MY,Mu this]
  exact NF this
 ·obtain⟨i,hi,rfl⟩:=MM.mp hp
  have:i < ps.length:=P'.lt i (by simpa using hi)
  rw[MY,Mu this]
  exact NF this
 ·obtain⟨i,hi,e⟩:=Nf.mp hp
  refine MM.mpr ⟨i,HV P' hi,?_⟩
  rw[MY,Mu hi,e];rfl
end
end L2.ST
namespace L2
open PySem PySem.Spec PyProof.Rows
abbrev Pr:=Int×Int
abbrev Sm:=L2.ST.Sm
section
variable {X:Cx}{pins:List (Addr×Obj)}{σ:St}{H H':Hp}{s:Shared}
def h9 (H H':Hp):Prop:=(∀b xs,H b=some (.tup xs)->H' b=some (.tup xs))/\∀b o u,H b=some (.bq o u)->H' b=some (.bq o u)
def h9.trans {H H1 H2:Hp}(a:h9 H H1)(b:h9 H1 H2):h9 H H2:=⟨λc xs h=>b.1 c xs (a.1 c xs h),λc o u h=>b.2 c o u (a.2 c o u h)⟩
def au.grow {H H':Hp}(e:au H H'):h9 H H':=⟨λb xs h=>e b _ h,λb o u h=>e b _ h⟩
def h9.new {H:Hp}{l:Addr}{o:HO}(h:H l=none):h9 H (upd H l o):=⟨λb xs e=>by rw[aF (aL e h)];exact e,λb o' u e=>by rw[aF (aL e h)];exact e⟩
def au.new {H:Hp}{l:Addr}{o:HO}(h:H l=none):au H (upd H l o):=λb u e=>by rw[aF (aL e h)];exact e
def eV.grow {K:Frag}{a:Addr}{xs:List V}(h:eV K H a xs)(g:h9 H H'):eV K H' a xs:=by
 rcases h with (h | ⟨o,h⟩) |h
 ·exact .inl (.inl (g.1 _ _ h))
 ·exact .inl (.inr ⟨o,g.2 _ _ _ h⟩)
 ·exact .inr h
def h9.list {a:Addr}{ys:List V}{o:HO}(h:H a=some (.lst ys)):h9 H (upd H a o):=
 ⟨λb xs e=>by rw[aF (Gp e h (by intro z;cases z))];exact e,λb o' u e=>by rw[aF (Gp e h (by intro z;cases z))];exact e⟩
theorem qr {α β:Type}{f:α->β}:∀{l:List α} {m:List β},m.Perm (l.map f)->∃l':List α,m=l'.map f/\l'.Perm l:=by
 intro l m h
 generalize hk:l.map f=k at h
 induction h generalizing l with
 |nil=>
  have:l= []:=by simpa using hk
  exact⟨[],rfl,by rw[this]⟩
 | @cons x m1 m2 _ ih=>
  cases l with
  |nil=>cases hk
  |cons a l=>
   simp only[Nj,List.cons.injEq] at hk
   obtain⟨l',e,p⟩:=ih hk.2
   exact⟨a :: l',by rw[Nj,hk.1,e],p.cons a⟩
 |swap x y m1=>
  cases l with
  |nil=>cases hk
  |cons a l=>
   cases l with
   |nil=>simp at hk
   |cons b l=>
    simp only[Nj,List.cons.injEq] at hk
    exact⟨b :: a :: l,by rw[Nj,Nj,hk.1,hk.2.1,hk.2.2],List.Perm.swap ..⟩
 |trans _ _ ih1 ih2=>
  obtain⟨l1,e1,p1⟩:=ih2 hk
  obtain⟨l2,e2,p2⟩:=ih1 e1.symm
  exact⟨l2,e2,p2.trans p1⟩
def aX (K:Frag)(H:Hp):List V->List Pr->Prop:=Paired λv p=>∃a,v=.ref a/\eV K H a [.int p.1,.int p.2]
def aX.grow {K:Frag}{vs:List V}{ps:List Pr}(h:aX K H vs ps)(g:h9 H H'):aX K H' vs ps:=Paired.mapP h λv p ⟨a,e,q⟩=>⟨a,e,q.grow g⟩
theorem Paired.getP {α β:Type}{F:α->β->Prop}:∀{l:List α} {m:List β} {i:Nat} {x:α},Paired F l m->l[i]? =some x->∃y,m[i]? =some y/\F x y
 |_,_,_,_,.nil,e=>by simp at e
 |_,_,0,_,.cons r _,e=>by simp at e;subst e;exact⟨_,rfl,r⟩
 |_,_,i + 1,x,.cons _ t,e=>by
  obtain⟨u,h1,h2⟩:=Paired.getP (i:=i) (x:=x) t (by simpa using e)
  exact⟨u,by simpa using h1,h2⟩
theorem Paired.getQ {α β:Type}{F:α->β->Prop}:∀{l:List α} {m:List β} {i:Nat} {y:β},Paired F l m->m[i]? =some y->∃x,l[i]? =some x/\F x y
 |_,_,_,_,.nil,e=>by simp at e
 |_,_,0,_,.cons r _,e=>by simp at e;subst e;exact⟨_,rfl,r⟩
 |_,_,i + 1,x,.cons _ t,e=>by
  obtain⟨u,h1,h2⟩:=Paired.getQ (i:=i) (y:=x) t (by simpa using e)
  exact⟨u,by simpa using h1,h2⟩
theorem tu (I:Inv X pins σ H s){a:Addr}{p:Pr}(h:eV X.K H a [.int p.1,.int p.2]):L2.ST.bW X.prog X.w s.heap p a:=by
 obtain⟨its,r,⟨o,ho,hc,n,hd⟩,_⟩:=I.tuple h
 cases r with
 |cons r1 r=>
  cases r with
  |cons r2 r=>
   cases r
   obtain⟨t1,rfl⟩:=r1
   obtain⟨t2,rfl⟩:=r2
   exact⟨o,_,n,ho,hc,hd,.cons (intKind_is ..) (.cons (intKind_is ..) .nil)⟩
def pairs_at (I:Inv X pins σ H s){vs:List V}{us:List Value}{ps:List Pr}(hv:Vals vs us)(h:aX X.K H vs ps)(hs:∀p,p∈ps->Sm p):L2.ST.dr X.prog X.w s.heap us ps:=by
 refine⟨by rw[<-hv.length];exact Paired.length h,λi u p e1 e2=>?_⟩
 obtain⟨v,ev,a,rfl,q⟩:=Paired.getQ h e2
 obtain⟨u',eu,ru⟩:=hv.get ev
 rw[e1] at eu;cases eu
 cases ru
 exact⟨a,rfl,tu I q,hs p (MO e2)⟩
theorem oH (I:Inv X pins σ H s){vs:List V}{us:List Value}{ps:List Pr}(hv:Vals vs us)(h:aX X.K H vs ps){h':Heap}(k:∀b o,s.heap.get? b=some o->h'.get? b=some o):∀{out:List Value} {qs:List Pr},
  (∀u,u∈out->u∈us)->L2.ST.dr X.prog X.w h' out qs->∃ws,Vals ws out/\aX X.K H ws qs
 | [],[],_,_=>⟨[],.nil,.nil⟩
 | [],_ :: _,_,hp=>by have:=hp.1;simp at this
 |_ :: _,[],_,hp=>by have:=hp.1;simp at this
 |u :: out,q :: qs,hm,hp=>by
  obtain⟨ws,a1,a2⟩:=oH I hv h k (out:=out) (qs:=qs) (λx hx=>hm x (MD _ hx)) ⟨by have:=hp.1;simpa using this,λi v p e1 e2=>hp.2 (i + 1) v p (by simpa using e1) (by simpa using e2)⟩
  obtain⟨i,hi,e⟩:=Nf.mp (hm u (MC ..))
  have hi':i < vs.length:=by rw[hv.length];exact hi
  obtain⟨u',eu,ru⟩:=hv.get (Mu hi')
  rw[Mu hi,e] at eu
  cases eu
  obtain⟨p,ep,a,ea,qa⟩:=Paired.getP h (Mu hi')
  rw[ea] at ru
  cases ru
  obtain⟨b,eb,hb,_⟩:=hp.2 0 (.ref a) q rfl rfl
  cases eb
  have pa:L2.ST.bW X.prog X.w h' p a:=by
   obtain⟨o,it,n,ho,r⟩:=tu I qa
   exact⟨o,it,n,k _ _ ho,r⟩
  have:p=q:=L2.ST.bW.inj pa hb
  subst this
  exact⟨.ref a :: ws,.cons rfl a1,.cons ⟨a,rfl,qa⟩ a2⟩
def yr (K:Frag):List V->Hp->VK->Prop:=λxs H Q=>∃a vs ps,xs= [.ref a]/\eY K H a vs/\aX K H vs ps/\(∀p,p∈ps->Sm p)/\ps.Nodup/\ps.length < 64/\
 ∀l ws qs,H l=none->aX K H ws qs->OM.ue qs->(∀p,p∈qs↔p∈ps)->Q (.ref l) (upd H l (.lst ws))
def oK (I:Inv X pins σ H s){vs:List V}{us:List Value}{ps:List Pr}(hv:Vals vs us)(hp:aX X.K H vs ps)(hlen:ps.length < 64){Q:VK}
  (q:∀l ws qs,H l=none->aX X.K H ws qs->OM.ue qs->(∀p,p∈qs↔p∈ps)->Q (.ref l) (upd H l (.lst ws)))
  {h1 h':Heap} {tk:Nat} {D:Addr} {out:List Value} {qs:List Pr} {c:Nat} (k1:∀b o,s.heap.get? b=some o->h1.get? b=some o) (eD:D=h1.objs.size) (k2:∀b o,h1.get? b=some o->h'.get? b=some o)
  (ho:h'.get? D=some (seqObj "list" out.toArray c)) (hpq:L2.ST.dr X.prog X.w h' out qs) (hm:∀u,u∈out->u∈us) (hr:OM.ue qs) (hmem:∀p,p∈qs↔p∈ps):EP X pins σ Q (.ref D) {s with heap:=h',toks:=tk}:=by
 obtain⟨ws,r1,r2⟩:=oH I hv hp (λb o e=>k2 b o (k1 b o e)) hm hpq
 have I1:Inv X pins σ H {s with heap:=h1,toks:=tk}:=I.kept k1
 have hf:H D=none:=by rw[eD];exact I1.hok.fresh (My _)
 have hz:ws.length<=sizeLine:=by
  have e1:=r1.length
  have e2:out.length=qs.length:=hpq.1
  have e3:=OM.pe (OM.gQ hr) λx hx=>(hmem x).mp hx
  rw[Na];omega
 have I2:Inv X pins σ (upd H D (.lst ws)) {s with heap:=h',toks:=tk}:=I1.laid (t':=tk) k2 (by rw[eD];exact My _) (show cH X.prog X.w _ h' _ (.lst ws) from⟨hz,out,c,r1,ho⟩)
 exact⟨.ref D,_,I2,rfl,q D ws qs hf r2 hr hmem⟩
def uU:cL X (.builtin "sorted") (yr X.K):=by
 intro pins s σ H xs us Q I r h
 obtain⟨a,vs,ps,rfl,hq,hp,hs,nd,hl,q⟩:=h
 obtain⟨u,rfl,rx⟩:=vals1 r
 cases rx
 obtain⟨its,rv,pl,hz⟩:=I.list hq
 have hpa:=pairs_at I rv hp hs
 have h64:its.length < 64:=by rw[hpa.1];exact hl
 refine L2.ST.rP (v:=.ref a) hpa nd h64 (λQ' hQ'=>collect_list pl.isList ?_ (by rw[Na];omega)) λh1 h' tk D out qs c k1 eD k2 ho hpq hm hr hmem=>?_
 ·exact hQ' _ s.toks λb o e=>by
   rw[Heap.get?_update_ne _ _ _ _ (M7 (MH e)),Pl _ _ _ (M7 (MH e))];exact e
 ·exact oK I rv hp hl q k1 eD k2 ho hpq hm hr hmem
abbrev vq (qs:List (Addr×Pr)):List V:=qs.map λq=>V.ref q.1
abbrev pq (qs:List (Addr×Pr)):List Pr:=qs.map (·.2)
def Gi (prog:Program)(w:World)(S:Addr)(qs:List (Addr×Pr))(h:Heap):Prop:=∃o ep t,h.get? S=some o/\o.ExactSet/\o.data=.set (qs.map λq=>(L2.ST.AX prog w q.2,Value.ref q.1)).toArray ep t/\L2.ST.Tab t (qs.map λq=>L2.ST.AX prog w q.2)/\t.led=L2.ST.fV w
def zD (prog:Program)(w:World)(S:Addr)(qs:List (Addr×Pr)):HO:=.ext (Gi prog w S qs)
def Kh (P:Program)(w:World)(K:Frag):List V->Hp->VK->Prop:=λxs H Q=>∃a vs ps,xs= [.ref a]/\(eY K H a vs\/eV K H a vs)/\aX K H vs ps/\(∀p,p∈ps->Sm p)/\
 ∀S qs,H S=none->aX K H (vq qs) (pq qs)->(pq qs).Nodup->(∀p,p∈pq qs↔p∈ps)->Q (.ref S) (upd H S (zD P w S qs))
def CM (hc:X.calm=true)(hu:X.A.units + 64 < cLine):cL X (.type "set") (Kh X.prog X.w X.K):=by
 intro pins s σ H xs us Q I r h
 obtain⟨a,vs,ps,rfl,hq,hp,hs,q⟩:=h
 obtain⟨u,rfl,rx⟩:=vals1 r
 cases rx
 have hh:=I.ok.hd hc
 have core:∀{its:List Value} {T:String} {itO:Obj} {St:Addr->Nat->Heap->Prop},Vals vs its->L2.ST.Src X.prog X.w s.heap a its T itO St->wpAny (model X.prog X.w) X.A (call (.type "set") [.ref a]) (EP X pins σ Q) X.xe s:=λ{its T itO St} rv src=>by
  refine L2.ST.oI src hh hu (pairs_at I rv hp hs) λh' tk F k=>?_
  obtain⟨qs,P1,P2,P3⟩:=F
  have hlen:its.length=vs.length:=rv.length.symm
  have back:∀qv:Addr×Pr,qv∈qs->∃b,b=qv.1/\eV X.K H b [.int qv.2.1,.int qv.2.2]:=λqv hqv=>by
   obtain⟨i,hi,e⟩:=Nf.mp (Od (P2 qv hqv).1)
   have hi':i < vs.length:=by rw[<-hlen];exact hi
   obtain⟨u',eu,ru⟩:=rv.get (Mu hi')
   rw[Mu hi,e] at eu
   cases eu
   obtain⟨p,ep,b,eb,qb⟩:=Paired.getP hp (Mu hi')
   rw[eb] at ru
   cases ru
   have pa:L2.ST.bW X.prog X.w h' p qv.1:=by
    obtain⟨o,it,n,ho,r⟩:=tu I qb
    exact⟨o,it,n,k _ _ ho,r⟩
   have:p=qv.2:=L2.ST.bW.inj pa (P1.at' qv hqv).1
   subst this
   exact⟨_,rfl,qb⟩
  have hpv:∀{l:List (Addr×Pr)},(∀x,x∈l->x∈qs)->aX X.K H (vq l) (pq l):=λ{l}=>by
   induction l with
   |nil=>intro _;exact .nil
   |cons y l ih=>
    intro hl
    obtain⟨b,eb,qb⟩:=back y (hl y (MC ..))
    subst eb
    exact .cons ⟨_,rfl,qb⟩ (ih λx hx=>hl x (MD _ hx))
  have hmem:∀p,p∈pq qs↔p∈ps:=λp=>by
   have hpl:ps.length=its.length:=by rw[hlen];exact (Paired.length hp).symm
   constructor
   ·intro hx
    obtain⟨qv,hqv,rfl⟩:=MM.mp hx
    exact Od (P2 qv hqv).2
   ·intro hx
    exact P3 p (by rw[<-hpl,N8 (My _)];exact hx)
  have hf:H s.heap.objs.size=none:=I.hok.fresh (My _)
  obtain⟨o,ep,t,ho,r1⟩:=P1.ex
  have new:cH X.prog X.w (upd H s.heap.objs.size (zD X.prog X.w s.heap.objs.size qs)) h' s.heap.objs.size (zD X.prog X.w s.heap.objs.size qs):=
   ⟨⟨o,ep,t,ho,r1⟩,⟨o,ho⟩,λh1 h2 ⟨o1,ep1,t1,g1,g2⟩ kk=>⟨o1,ep1,t1,kk _ g1,g2⟩⟩
  exact⟨.ref _,_,I.laid (t':=tk) k (My _) new,rfl,q _ qs hf (hpv λx hx=>hx) P1.nd hmem⟩
 rcases hq with hq |hq
 ·obtain⟨its,rv,pl,hz⟩:=I.list hq
  exact core rv (L2.ST.Src.list pl.isList)
 ·obtain⟨its,rv,pl,hz⟩:=I.tuple hq
  exact core rv (L2.ST.Src.tuple pl)
def vQ (P:Program)(w:World)(K:Frag):List V->Hp->VK->Prop:=λxs H Q=>∃S qs,xs= [.ref S]/\H S=some (zD P w S qs)/\aX K H (vq qs) (pq qs)/\(∀p,p∈pq qs->Sm p)/\(pq qs).Nodup/\qs.length < 64/\
 ∀l ws rs,H l=none->aX K H ws rs->OM.ue rs->(∀p,p∈rs↔p∈pq qs)->Q (.ref l) (upd H l (.lst ws))
def sP (hc:X.calm=true):cL X (.builtin "sorted") (vQ X.prog X.w X.K):=by
 intro pins s σ H xs us Q I r h
 obtain⟨S,qs,rfl,hS,hp,hs,nd,hl,q⟩:=h
 obtain⟨u,rfl,rx⟩:=vals1 r
 cases rx
 have hh:=I.ok.hd hc
 obtain⟨⟨o,ep,t,ho,hex,hd,T,hled⟩,_,_⟩:Gi X.prog X.w S qs s.heap/\_:=I.hok S _ hS
 have T':L2.ST.Tab t ((qs.map λq=>(L2.ST.AX X.prog X.w q.2,Value.ref q.1)).toArray.toList.map (·.1)):=by
  rw[NY,Oe];exact T
 have htp:=L2.ST.rQ X.w S ep (qs.map λq=>(L2.ST.AX X.prog X.w q.2,Value.ref q.1)).toArray
 have hmem:∀x,x∈(L2.ST.told X.w S ep (qs.map λq=>(L2.ST.AX X.prog X.w q.2,Value.ref q.1)).toArray).toList->∃q,q∈qs/\x=(L2.ST.AX X.prog X.w q.2,Value.ref q.1):=λx hx=>by
  have:=htp.mem_iff.mp hx
  simp only[NY] at this
  obtain⟨q,hq,e⟩:=MM.mp this
  exact⟨q,hq,e.symm⟩
 obtain⟨q2,e2,p2⟩:∃q2:List (Addr×Pr),(L2.ST.told X.w S ep (qs.map λq=>(L2.ST.AX X.prog X.w q.2,Value.ref q.1)).toArray).toList=q2.map (λq=>(L2.ST.AX X.prog X.w q.2,Value.ref q.1))/\q2.Perm qs:=by
  have:=htp
  simp only[NY] at this
  exact qr this
 have hp2:aX X.K H (vq q2) (pq q2):=by
  have key:∀{l:List (Addr×Pr)},(∀x,x∈l->x∈qs)->aX X.K H (vq l) (pq l):=λ{l}=>by
   induction l with
   |nil=>intro _;exact .nil
   |cons y l ih=>
    intro hl
    obtain⟨i,hi,e⟩:=Nf.mp (hl y (MC ..))
    obtain⟨p,ep',a,ea,qa⟩:=Paired.getP (l:=vq qs) (m:=pq qs) (i:=i) (x:=.ref y.1) hp (by simp[hi,e])
    have:p=y.2:=by simp[hi,e] at ep';exact ep'.symm
    subst this
    exact .cons ⟨a,ea,qa⟩ (ih λx hx=>hl x (MD _ hx))
  exact key λx hx=>p2.mem_iff.mp hx
 have hv2:Vals (vq q2) (q2.map λq=>Value.ref q.1):=by
  induction q2 with
  |nil=>exact .nil
  |cons y l ih=>exact .cons rfl (by
    clear ih e2 p2 hp2
    induction l with
    |nil=>exact .nil
    |cons z l ih2=>exact .cons rfl ih2)
 have hm2:∀p,p∈pq q2↔p∈pq qs:=λp=>(p2.map (·.2)).mem_iff
 have hpa:=pairs_at I hv2 hp2 λp hpp=>hs p ((hm2 p).mp hpp)
 have hl2:q2.length < 64:=by rw[p2.length_eq];exact hl
 refine L2.ST.rP (v:=.ref S) hpa ((p2.map (·.2)).nodup_iff.mpr nd) (by simpa using hl2) (λQ' hQ'=>L2.ST.uI (by simpa using hh) ho hd hex.1 T' hled (by simp;omega) λh' tk vs ev k=>?_) λh1 h' tk D out qs' c k1 eD k2 ho' hpq hm hr hmem'=>?_
 ·rw[ev,e2]
  rw[Oe]
  exact hQ' h' tk k
 ·exact oK I hv2 hp2 (by simpa using hl2) (λl ws rs a1 a2 a3 a4=>q l ws rs a1 a2 a3 λp=>(a4 p).trans (hm2 p)) k1 eD k2 ho' hpq hm hr hmem'
end
def mU (cells:List (Str×Addr)):List (Str×NameKind)->List (Str×Addr)->List (Str×Addr)
 | [],cs=>cs
 | (n,k) :: r,cs=>mU cells r (if k == .free then (n,(cells.lookup n).getD 0) :: cs else cs)
def oX {scope:Scope}{env:Env}(h:∀y∈scope.names,y.2=.free->∃c,env.cells.lookup y.1=some c):closureFor scope env=pure (mU env.cells scope.names []):=by
 unfold closureFor
 have key:∀(l:List (Str×NameKind)) (cs:List (Str×Addr)),(∀y∈l,y.2=.free->∃c,env.cells.lookup y.1=some c)->
   (forIn l cs (λ(x:Str×NameKind) (r:List (Str×Addr))=>if (x.2 == NameKind.free)=true then (do let a <-cellOf env x.1;pure (ForInStep.yield ((x.1,a) :: r)):Sem _) else pure (ForInStep.yield r)):Sem (List (Str×Addr)))=pure (mU env.cells l cs):=by
  intro l
  induction l with
  |nil=>intro cs _;rfl
  |cons y l ih=>
   intro cs hy
   obtain⟨n,k⟩:=y
   rw[List.forIn_cons]
   unfold mU
   by_cases hk:(k == NameKind.free)=true
   ·have hk':k=.free:=by simpa using hk
    obtain⟨c,hc⟩:=hy (n,k) (MC ..) hk'
    have hce:cellOf env n=pure c:=by unfold cellOf;rw[hc]
    simp only[hk,NC]
    have hc':env.cells.lookup n=some c:=hc
    rw[hce,hc']
    simp only[pure_bind,Option.getD_some]
    exact ih _ λz hz=>hy z (MD _ hz)
   ·simp only[hk,Nk,MQ]
    simp only[pure_bind]
    exact ih _ λz hz=>hy z (MD _ hz)
 have:=key scope.names [] h
 simp only[bind_pure_comp] at this ⊢
 first
  |exact this
  | (rw[this];rfl)
  | (simpa using this)
theorem nr {cells:List (Str×Addr)}{x:Str}:∀{l:List (Str×NameKind)} {cs:List (Str×Addr)},((x,NameKind.free)∈l\/cs.lookup x=some ((cells.lookup x).getD 0))->(mU cells l cs).lookup x=some ((cells.lookup x).getD 0)
 | [],cs,h=>by
  rcases h with h |h
  ·cases h
  ·exact h
 | (n,k) :: r,cs,h=>by
  unfold mU
  refine nr ?_
  by_cases hk:(k == NameKind.free)=true
  ·rw[MA hk]
   by_cases hx:x=n
   ·subst hx;right;simp
   ·rcases h with h |h
    ·rcases MB.mp h with e |e
     ·injection e with e1 _;exact absurd e1 hx
     ·exact .inl e
    ·right
     rw[lookup_cons,show (x == n)=false by simpa using hx]
     exact h
  ·rw[MF hk]
   rcases h with h |h
   ·rcases MB.mp h with e |e
    ·injection e with _ e2;exact absurd (by rw[<-e2];rfl) hk
    ·exact .inl e
   ·exact .inr h
theorem mX {cells:List (Str×Addr)}{x:Str}{c:Addr}:∀{l:List (Str×NameKind)} {cs:List (Str×Addr)},(mU cells l cs).lookup x=some c->((x,NameKind.free)∈l/\c=(cells.lookup x).getD 0)\/cs.lookup x=some c
 | [],cs,h=>.inr h
 | (n,k) :: r,cs,h=>by
  unfold mU at h
  rcases mX h with⟨a,b⟩ |a
  ·exact .inl ⟨MD _ a,b⟩
  ·by_cases hk:(k == NameKind.free)=true
   ·rw[MA hk,lookup_cons] at a
    by_cases hx:x=n
    ·subst hx
     simp at a
     have:k=.free:=by simpa using hk
     subst this
     exact .inl ⟨MC ..,a.symm⟩
    ·rw[show (x == n)=false by simpa using hx] at a
     exact .inr a
   ·rw[MF hk] at a
    exact .inr a
theorem nJ {f:Str->NameKind->NameKind}{x:Str}:∀(l:List (Str×NameKind)),(l.map λy=>(y.1,f y.1 y.2)).lookup x=(l.lookup x).map (f x)
 | []=>rfl
 | (n,k) :: l=>by
  rw[Nj,lookup_cons,lookup_cons]
  by_cases hx:x=n
  ·subst hx;simp
  ·have hb:(x == n)=false:=by simpa using hx
   simp only[hb]
   exact nJ l
def pE (scope:Scope)(env:Env)(x:Str):(relabel scope env).names.lookup x=(scope.names.lookup x).map λk=>if (k == .free && env.scope.kind == .function && env.kindOf x == some .cell) then .cell else k:=by
 have e:(relabel scope env).names=scope.names.map λy=>(y.1,if (y.2 == .free && env.scope.kind == .function && env.kindOf y.1 == some .cell) then .cell else y.2):=by
  unfold relabel
  dsimp only
  refine NH λy _=>?_
  obtain⟨n,k⟩:=y
  dsimp only
  split <;> rfl
 rw[e]
 exact nJ (f:=λn k=>if (k == .free && env.scope.kind == .function && env.kindOf n == some .cell) then .cell else k) scope.names
def iN (X:Cx)(NB:List Str)(scope:Scope)(C:Addr)(ex:List Addr)(s3:Shared)(H3:Hp)(pn:List (Addr×Obj)):Cx:=
 {X with N:=NB,s₀:=s3,H₀:=H3,env:=compEnvC scope (mU X.env.cells scope.names []) C X.env,outer:=X.stack,ex:=ex,fn:=λ_=>false,pn:=pn,xe:=λ_ _=>False}
def bS (own:Nat)(ixs:List Nat)(σ:St):St:=List.replicate own none ++ ixs.map λi=>(σ[i]?).join
structure df (X:Cx)(NB:List Str)(own:Nat)(ixs:List Nat)(scope:Scope):Prop where
 kind:scope.kind=.function
 nocell:∀y∈scope.names,y.2≠.cell
 names:∀y∈scope.names,scope.names.lookup y.1=some y.2
 frees:∀y∈scope.names,y.2=.free->X.env.kindOf y.1=some .cell\/X.env.kindOf y.1=some .free
 nd:NB.Nodup
 len:NB.length=own + ixs.length
 at':∀k,k < ixs.length->NB[own + k]? =X.N[ixs.getD k 0]?/\∀x,NB[own + k]? =some x->(x,NameKind.free)∈scope.names
section
variable {X:Cx}{NB:List Str}{own:Nat}{ixs:List Nat}{scope:Scope}{pins:List (Addr×Obj)}{σ:St}{H:Hp}{s:Shared}
def AK (S:df X NB own ixs scope)(I:Inv X pins σ H s){fp:List Addr}(hfp:∀b∈fp,mT X pins H b)(hob:∀b∈fp,∃o,s.heap.get? b=some o){h1:Heap}{tk:Nat}
  (hn:h1.Ns s.heap.objs.size (λ_=>none)) (hk:∀b o,s.heap.get? b=some o->h1.get? b=some o) :
  Inv (iN X NB scope s.heap.objs.size fp s H (X.pn ++ pins)) [] (bS own ixs σ) H {s with heap:=h1,toks:=tk}:=by
 have stk:=I.stack
 have frees:∀{x:Str},(x,NameKind.free)∈scope.names->∃c,X.env.cells.lookup x=some c:=λ{x} hx=>I.ok.has x (S.frees _ hx rfl)
 have clE:∀{x:Str} {c:Addr},(mU X.env.cells scope.names []).lookup x=some c->(x,NameKind.free)∈scope.names/\X.env.cells.lookup x=some c:=λ{x c} h=>by
  rcases mX h with⟨a,b⟩ |a
  ·obtain⟨c',e⟩:=frees a
   rw[e] at b
   exact⟨a,by rw[e,b];rfl⟩
  ·simp at a
 have kindB:∀x,(iN X NB scope s.heap.objs.size fp s H (X.pn ++ pins)).env.kindOf x=(scope.names.lookup x).map λk=>if (k == .free && X.env.scope.kind == .function && X.env.kindOf x == some .cell) then .cell else k:=λx=>pE scope X.env x
 have isFree:∀{x:Str},((iN X NB scope s.heap.objs.size fp s H (X.pn ++ pins)).env.kindOf x=some .cell\/(iN X NB scope s.heap.objs.size fp s H (X.pn ++ pins)).env.kindOf x=some .free)->(x,NameKind.free)∈scope.names:=λ{x} h=>by
  rw[kindB] at h
  cases e:scope.names.lookup x with
  |none=>rw[e] at h;simp at h
  |some k=>
   have hm:=Ou e
   cases k with
   |free=>exact hm
   |cell=>exact absurd rfl (S.nocell _ hm)
   |_=>rw[e] at h;simp at h
 have neN:∀b o,s.heap.get? b=some o->b≠s.heap.objs.size:=λb o e=>M7 (MH e)
 have cellN:∀{x:Str} {c:Addr},X.env.cells.lookup x=some c->c < s.heap.objs.size:=λ{x c} e=>by
  obtain⟨v,o,ho,_⟩:=I.cell x c e
  exact MH ho
 have ok:(iN X NB scope s.heap.objs.size fp s H (X.pn ++ pins)).Ok:=by
  refine⟨I.ok.mod,S.kind,I.ok.glob,I.ok.blt,My _,λx y c h1 h2=>I.ok.inj x y c (clE h1).2 (clE h2).2,λx hx=>?_,λx c h=>(by cases h),I.ok.hd,I.ok.frames,.inl rfl,λb hb=>?_,I.bs,ND I.ok.bsz I.sz,λb o e hb=>?_,λb hb hs=>?_,stk,I.stkFree⟩
  ·have hm:=isFree hx
   exact⟨_,nr (.inl hm)⟩
  ·obtain⟨_,f1,f2,f3,f4,f5⟩:=hfp b hb
   refine⟨?_,λx c h z=>f4 x c (clE h).2 z⟩
   obtain⟨o,ho⟩:=hob b hb
   exact neN b o ho
  ·obtain⟨_,f1,f2,f3,f4,f5⟩:=hfp b hb
   rcases f3 with f3 |f3
   ·exact I.ok.noex b o e f3
   ·exact absurd (M4 (MH e) (ND I.ok.bsz f3)) (Nh _)
  ·obtain⟨_,f1,f2,f3,f4,f5⟩:=hfp b hb
   rcases MB.mp (I.stkSub b hs) with z |z
   ·exact f1 z
   ·exact f2 z
 refine⟨ok,rfl,I.bare,Un.kept hk,⟨_,hn,λi x v h1' h2' h3'=>?_⟩,λx c h=>?_,I.hok.fresh (My _),λx c h=>I.freeC x c (clE h).2,λp hp=>?_,I.hok.kept hk,?_⟩
 ·
  have h1':NB[i]? =some x:=h1'
  have hown:own<=i:=by
   refine Classical.byContradiction λhc=>?_
   have hlt:i < own:=Nat.lt_of_not_le hc
   unfold bS at h2'
   rw[Ng (by simpa using hlt),N3,MA hlt] at h2'
   cases h2'
  obtain⟨k,rfl⟩:∃k,i=own + k:=⟨i - own,by omega⟩
  have hk':k < ixs.length:=by
   have:=(MJ.mp h1').1
   rw[S.len] at this;omega
  obtain⟨e1,e2⟩:=S.at' k hk'
  have hm:=e2 x h1'
  unfold bS at h2'
  rw[Nb (by simp),Oy,Nat.add_sub_cancel_left,MG,Mu hk'] at h2'
  simp only[Option.map_some,Option.some.injEq] at h2'
  have hix:ixs.getD k 0=ixs[k]:=by simp[hk']
  have hσ:σ[ixs[k]]? =some (some v):=by
   cases e:σ[ixs[k]]? with
   |none=>rw[e] at h2';cases h2'
   |some o=>rw[e] at h2';simp at h2';rw[h2']
  rw[e1,hix] at h1'
  have hkind:=S.frees _ hm rfl
  have hvis:AW X.env.scope x:=hkind.elim (λz=>.inr (.inl z)) (λz=>.inr (.inr z))
  obtain⟨m,hm',hl⟩:=I.loc
  obtain⟨u,r,look⟩:=hl _ x v h1' hσ hvis
  refine⟨u,r,.inr ⟨?_,?_⟩⟩
  ·rw[kindB]
   have hfr:scope.names.lookup x=some .free:=S.names _ hm
   rw[hfr]
   simp only[Option.map_some]
   split
   ·exact .inl rfl
   ·exact .inr rfl
  ·rcases look with⟨z,_⟩ | ⟨_,c,hc,hcell⟩
   ·rcases hkind with q |q
    ·rw[q] at z;cases z
    ·rw[q] at z;cases z
   ·refine⟨c,?_,?_⟩
    ·have:=nr (cells:=X.env.cells) (cs:=[]) (.inl hm)
     rw[hc] at this
     exact this
    ·obtain⟨o,ho,hd⟩:=hcell
     exact⟨o,hk _ _ ho,hd⟩
 ·obtain⟨v,o,ho,hd⟩:=I.cell x c (clE h).2
  exact⟨v,o,hk _ _ ho,hd⟩
 ·have hp':p∈X.pn ++ pins:=by
   rcases M1.mp hp with z |z
   ·exact z
   ·cases z
  obtain⟨e,n,ne,nf,d⟩:=I.pin p hp'
  refine⟨hk _ _ e,n,neN _ _ e,λz=>?_,d⟩
  rcases MB.mp (I.stkSub _ z) with q |q
  ·exact ne q
  ·exact nf q
 ·show (bS own ixs σ).length=NB.length
  unfold bS
  rw[S.len];simp
end
abbrev ya (ifs:List Expr)(env:Env):Sem Bool:=forIn ifs true λc r=>if r=true then do let ok <-isTrue c env (eval c env);pure (ForInStep.yield ok) else pure (ForInStep.yield r)
theorem zL {prog:Program}{w:World}{A:Around}{R:Result->Shared->Prop}{s:Shared}{elt target iter:Expr}{ifs:List Expr}{scope:Scope}{pos:Pos}{it acc:Value}{env:Env}(I:Nat->Shared->Prop)
  (turn:∀n s,I n s->wpAny (model prog w) A (pyNext it) (λr s1=>match r with
   |none=>R (.ok .next) s1
   |some v=>wpAny (model prog w) A (letOwnedTupleGo target it v) (λ_ s1'=>wpAny (model prog w) A (assign target env v) (λ_ s2=>
     wpAny (model prog w) A (ya ifs env) (λok s3=>
      if ok=true then wpAny (model prog w) A (eval elt env) (λx s4=>wpAny (model prog w) A (call (.builtin "list.append") [acc,x]) (λ_ s5=>∃m,m < n/\I m s5) (λ_ _=>False) s4) (λ_ _=>False) s3
      else ∃m,m < n/\I m s3) (λ_ _=>False) s2) (λ_ _=>False) s1') (λ_ _=>False) s1) (λ_ _=>False) s)
  (n:Nat) (h:I n s):codeAny (model prog w) A (.compLoop (.ListComp elt [⟨target,iter,ifs,0⟩] scope pos) 0 it acc env) R s:=by
 refine codeAny_loop rfl I (λn s hI=>?_) n h
 (show wpAny _ A ((compTurn (.ListComp elt [⟨target,iter,ifs,0⟩] scope pos) 0 it acc env).onRaise (λx=>do (noteFrame x env);theTreesLotGoes x)) _ _ s)
 refine wpAny_noted ?_
 rw[compTurn_list]
 refine Mv (wpAny_standAt (Mv (N0 (turn n s hI) (λr s1 h1=>?_) λ_ _ z=>z.elim)))
 cases r with
 |none=>exact Mz h1
 |some v=>
  refine Mv (N0 h1 (λ_ s1' h1'=>?_) λ_ _ z=>z.elim)
  refine Mv (N0 h1' (λ_ s2 h2=>Mv (N0 h2 (λok s3 h3=>?_) λ_ _ z=>z.elim)) λ_ _ z=>z.elim)
  cases ok with
  |false=>exact Mz ⟨rfl,h3⟩
  |true=>exact Mv (Mv (N0 h3 (λx s4 h4=>Mv (N0 h4 (λ_ s5 h5=>Mz (Mz ⟨rfl,h5⟩)) λ_ _ z=>z.elim)) λ_ _ z=>z.elim))
def B3 (X:Cx)(ifs:List Expr)(t:TT):Prop:=
 ∀(pins:List (Addr×Obj)) (s:Shared) (σ:St) (H:Hp) (Q:Bool->Hp->Prop),Inv X pins σ H s->t σ H Q->wpAny (model X.prog X.w) X.A (ya ifs X.env) (TP X pins σ Q) X.xe s
def HZ:TT:=λ_ H Q=>Q true H
def r6 {X:Cx}:B3 X [] HZ:=λpins s σ H Q I h=>Mz ⟨H,I,h⟩
def yt {X:Cx}{c:Expr}{t:TT}(h:PT X c t):B3 X [c] t:=λpins s σ H Q I q=>wpAny_tests_one (h pins s σ H Q I q)
def xh (own:Nat)(ixs:List Nat)(wi:TI)(g:TG)(tt:TT)(te:TE)(σ:St)(H:Hp)(Q:VK):Prop:=wi σ H λJ H1=>∀D,H1 D=none->∃W:Nat->Nat->St->Hp->Prop,(∃m,W 0 m (bS own ixs σ) (upd H1 D (.lst [])))/\∀i m σ' H',W i m σ' H'->
 (J.stop i H'/\(∃acc,H' D=some (.lst acc))/\Q (.ref D) H')\/
 (J.go i H'/\∃N:St->Hp->Prop,(∀σ2 H2,N σ2 H2->∃m',m' < m/\W (i + 1) m' σ2 H2)/\∀x H2,J.yld i H' x H2->g x σ' H2 λσ3 H3=>tt σ3 H3 λb H4=>
  if b=true then te σ3 H4 λv H5=>∃acc,H5 D=some (.lst acc)/\acc.length < sizeLine/\N σ3 (upd H5 D (.lst (acc ++ [v]))) else N σ3 H4)
section
variable {X:Cx}{NB:List Str}{own:Nat}{ixs:List Nat}{scope:Scope}{elt tg iter:Expr}{ifs:List Expr}{pos:Pos}{wi:TI}{g:TG}{tt:TT}{te:TE}
def rh (hc:X.calm=true)(S:df X NB own ixs scope)
  (hg:∀C ex s3 H3 pn,PG (iN X NB scope C ex s3 H3 pn) tg g) (ht:∀C ex s3 H3 pn,B3 (iN X NB scope C ex s3 H3 pn) ifs tt) (he:∀C ex s3 H3 pn,PE (iN X NB scope C ex s3 H3 pn) elt te)
  {pins:List (Addr×Obj)} {σ:St} {H1:Hp} {s2:Shared} {it:Addr} {fp:List Addr} {tn:Nat->Heap->Prop} {J:It} {Q:VK} (I2:Inv X pins σ H1 s2) (T:Turn X.prog X.w X.K tg J fp it tn) (st2:tn 0 s2.heap) (f2:∀b∈fp,mT X pins H1 b)
  (hQ:∀D,H1 D=none->∃W:Nat->Nat->St->Hp->Prop,(∃m,W 0 m (bS own ixs σ) (upd H1 D (.lst [])))/\∀i m σ' H',W i m σ' H'->
   (J.stop i H'/\(∃acc,H' D=some (.lst acc))/\Q (.ref D) H')\/
   (J.go i H'/\∃N:St->Hp->Prop,(∀σ2 H2,N σ2 H2->∃m',m' < m/\W (i + 1) m' σ2 H2)/\∀x H2,J.yld i H' x H2->g x σ' H2 λσ3 H3=>tt σ3 H3 λb H4=>
    if b=true then te σ3 H4 λv H5=>∃acc,H5 D=some (.lst acc)/\acc.length < sizeLine/\N σ3 (upd H5 D (.lst (acc ++ [v]))) else N σ3 H4))
  {E:Value->Shared->Prop} {RR:Value->Addr->Result->Shared->Prop}
  (fin:∀D C H' s' m,Inv X pins σ H' s'->Q (.ref D) H'->s'.heap.Ns C m->H' C=none->C≠X.env.locals->(∀x c,X.env.cells.lookup x=some c->c≠C)->X.s₀.heap.objs.size<=C->(∀p∈X.pn ++ pins,p.1≠C)->RR (.ref D) C (.ok .next) s') :
  wpAny (model X.prog X.w) X.A (newList []) (λacc s3=>wpAny (model X.prog X.w) X.A (newFunctionEnv scope X.env.globals (mU X.env.cells scope.names []) [] X.env.qual none .none (some X.env)) (λcenv s4=>
   codeAny (model X.prog X.w) X.A (.compStart (.ListComp elt [⟨tg,iter,ifs,0⟩] scope pos) 0 (.ref it) acc {cenv with scope:=relabel scope X.env}) (RR acc cenv.locals) s4) E s3) E s2:=by
 refine wpAny_newList ?_ (Nd _)
 have hD:H1 s2.heap.objs.size=none:=I2.hok.fresh (My _)
 obtain⟨W,⟨m0,w0⟩,turn⟩:=hQ s2.heap.objs.size hD
 generalize hs3:({s2 with heap:=s2.heap.push (seqObj "list" ([]:List Value).toArray 0)}:Shared)=s3
 have I3:Inv X pins σ (upd H1 s2.heap.objs.size (.lst [])) s3:=by
  rw[<-hs3]
  exact I2.lnew (ys:=[]) (its:=[]) (t':=s2.toks) .nil (Nd _)
 have k3:∀b o,s2.heap.get? b=some o->s3.heap.get? b=some o:=λb o e=>by rw[<-hs3];exact Mw _ e
 have sz3:s3.heap.objs.size=s2.heap.objs.size + 1:=by rw[<-hs3];exact N1 ..
 have ob2:∀b∈fp,∃o,s2.heap.get? b=some o:=λb hb=>let ⟨o,e,_⟩:=T.obj 0 _ st2 b hb;⟨o,e⟩
 have neD:∀b∈fp,b≠s2.heap.objs.size:=λb hb=>let ⟨o,e⟩:=ob2 b hb;M7 (MH e)
 have f3:∀b∈fp,mT X pins (upd H1 s2.heap.objs.size (.lst [])) b:=λb hb=>by
  obtain⟨a1,a2⟩:=f2 b hb
  exact⟨by rw[aF (neD b hb)];exact a1,a2⟩
 have st3:tn 0 s3.heap:=T.keep _ _ _ st2 λb _ o e=>k3 b o e
 refine wpAny_newFunctionEnv S.nocell (λy hy=>by simp at hy) (λh4 hn4 sb4=>?_) S.kind
 have k4:∀b o,s3.heap.get? b=some o->h4.get? b=some o:=λb o e=>sb4.extBut b o (M7 (MH e)) (Mw _ e)
 have I4:Inv (iN X NB scope s3.heap.objs.size fp s3 (upd H1 s2.heap.objs.size (.lst [])) (X.pn ++ pins)) [] (bS own ixs σ) (upd H1 s2.heap.objs.size (.lst [])) {s3 with heap:=h4,toks:=s3.toks + ([]:List (Str×Value)).length}:=
  AK S I3 f3 (λb hb=>let ⟨o,e⟩:=ob2 b hb;⟨o,k3 _ _ e⟩) (by simpa using hn4) k4
 have st4:tn 0 h4:=T.keep _ _ _ st3 λb _ o e=>k4 b o e
 generalize hB:iN X NB scope s3.heap.objs.size fp s3 (upd H1 s2.heap.objs.size (.lst [])) (X.pn ++ pins)=B at I4
 have hgB:PG B tg g:=by rw[<-hB];exact hg _ _ _ _ _
 have htB:B3 B ifs tt:=by rw[<-hB];exact ht _ _ _ _ _
 have heB:PE B elt te:=by rw[<-hB];exact he _ _ _ _ _
 have eP:B.prog=X.prog:=by rw[<-hB];rfl
 have eW:B.w=X.w:=by rw[<-hB];rfl
 have eK:B.K=X.K:=by rw[<-hB];rfl
 have eA:B.A=X.A:=by rw[<-hB];rfl
 have eC:B.calm=true:=by rw[<-hB];exact hc
 have eX:B.xe=λ_ _=>False:=by rw[<-hB];rfl
 have eE:B.env=compEnvC scope (mU X.env.cells scope.names []) s3.heap.objs.size X.env:=by rw[<-hB];rfl
 have ex:B.ex=fp:=by rw[<-hB];rfl
 have eL:B.env.locals=s3.heap.objs.size:=by rw[eE];rfl
 have stat:∀{H':Hp},(∀b∈fp,H' b=none)->∀b∈fp,mT B [] H' b:=λ{H'} hn b hb=>by
  obtain⟨a1,a2,a3,a4,a5,a6⟩:=f3 b hb
  obtain⟨o,eo⟩:=ob2 b hb
  refine⟨hn b hb,?_,λz=>?_,.inl (by rw[ex];exact hb),λx c e z=>?_,λp hp z=>?_⟩
  ·rw[eL];exact M7 (MH (k3 _ _ eo))
  ·have hz:b∈iY X.stack:=by rw[<-hB] at z;exact z
   rcases MB.mp (I3.stkSub b hz) with q |q
   ·exact a2 q
   ·exact a3 q
  ·rw[eE] at e
   rcases mX e with⟨m1,m2⟩ |m1
   ·obtain⟨c',e'⟩:=I3.ok.has x (S.frees _ m1 rfl)
    rw[e'] at m2
    exact a5 x c' e' (by rw[<-z,m2];rfl)
   ·simp at m1
  ·have hp':p∈X.pn ++ pins:=by
    rw[<-hB] at hp
    rcases M1.mp hp with q |q
    ·exact q
    ·cases q
   exact a6 p hp' z
 have back:∀{σ':St} {H':Hp} {s':Shared},Inv B [] σ' H' s'->Inv X pins σ H' s':=λ{σ' H' s'} J'=>by
  have u:=J'.base
  have os:=J'.os
  have bare:=J'.bare
  have hok:=J'.hok
  subst hB
  exact I3.call' (ch:=fp) os u hok bare λb hb=>by
   obtain⟨a1,a2,a3,a4,a5,a6⟩:=f3 b hb
   exact⟨a4,a2,a5,a6⟩
 have loop:∀s5:Shared,s5={s3 with heap:=h4,toks:=s3.toks + ([]:List (Str×Value)).length}->
   codeAny (model X.prog X.w) X.A (.compLoop (.ListComp elt [⟨tg,iter,ifs,0⟩] scope pos) 0 (.ref it) (.ref s2.heap.objs.size) (compEnvC scope (mU X.env.cells scope.names []) s3.heap.objs.size X.env)) (RR (.ref s2.heap.objs.size) s3.heap.objs.size) s5:=by
  rintro s5 rfl
  refine zL (λn s'=>∃i σ' H',Inv B [] σ' H' s'/\tn i s'.heap/\(∀b∈fp,H' b=none)/\W i n σ' H') ?_ m0 ⟨0,_,_,I4,st4,λb hb=>(f3 b hb).1,w0⟩
  rintro n s6 ⟨i,σ6,H6,I6,st6,fr6,w6⟩
  rcases turn i n σ6 H6 w6 with⟨stop,⟨acc,hacc⟩,qn⟩ | ⟨go,N,hN,step⟩
  ·have:=T.done B eP eW eK eC i [] s6 σ6 H6 (λ_ _=>False) I6 (stat fr6) st6 stop
   rw[eA] at this
   refine cv this λr s7 ⟨hr,I7⟩=>?_
   subst hr
   obtain⟨m7,hn7,_⟩:=I7.loc
   rw[eL] at hn7
   have J7:=back I7
   refine fin _ _ H6 s7 m7 J7 qn hn7 (by rw[<-eL];exact I7.free) (λz=>?_) (λx c e z=>?_) ?_ λp hp z=>?_
   ·have:=I3.lt
    rw[<-z] at this
    exact Nh _ this
   ·obtain⟨v,o,ho,_⟩:=I3.cell x c e
    exact absurd (MH ho) (by rw[z];exact Nh _)
   ·exact I3.sz
   ·have:=MH (I3.pin p hp).1
    rw[z] at this
    exact Nh _ this
  ·have hitem:=T.item B eP eW eK eC i [] s6 σ6 H6 (λ_ _=>False) I6 (stat fr6) st6 go
   rw[eA] at hitem
   refine cv hitem λr s7 ⟨u,hr,h7⟩=>?_
   subst hr
   refine cv h7 λ_ s8 ⟨x,H8,I8,r8,y8,st8,fr8⟩=>?_
   have I8':=I8.pinned (stat fr8) (T.obj _ _ st8)
   have ha:=hgB _ s8 σ6 H8 x u _ I8' r8 (step x H8 y8)
   rw[eP,eW,eA,eE,eX] at ha
   refine cv ha λ_ s9 ⟨σ9,H9,I9,q9⟩=>?_
   have hb:=htB _ s9 σ9 H9 _ I9 q9
   rw[eP,eW,eA,eE,eX] at hb
   refine cv hb λok s10 ⟨H10,I10,q10⟩=>?_
   have again:∀{σ7:St} {H7:Hp} {s7:Shared},Inv B ([] ++ oQ fp s8.heap) σ7 H7 s7->N σ7 H7->∃m,m < n/\∃i σ' H',Inv B [] σ' H' s7/\tn i s7.heap/\(∀b∈fp,H' b=none)/\W i m σ' H':=λ{σ7 H7 s7} I7 n7=>by
    obtain⟨m',hm,w7⟩:=hN σ7 H7 n7
    refine⟨m',hm,i + 1,σ7,H7,I7.unpinned,T.keep _ _ _ st8 λb hb o e=>(I7.pin (b,o) (Ni _ (Ni _ (jy hb e)))).1,λb hb=>?_,w7⟩
    obtain⟨o,e,d⟩:=T.obj _ _ st8 b hb
    exact (I7.pin (b,o) (Ni _ (Ni _ (jy hb e)))).2.1
   cases ok with
   |false=>
    simp only[MQ,Nk] at q10 ⊢
    exact again I10 q10
   |true=>
    simp only[NC] at q10 ⊢
    have hv:=heB _ s10 σ9 H10 _ I10 q10
    rw[eP,eW,eA,eE,eX] at hv
    refine cv hv λy s11 ⟨v,H11,I11,r11,acc,hacc,hz,q11⟩=>?_
    have hap:=mS (X:=B) _ s11 σ9 H11 (.ref s2.heap.objs.size) [v] (.ref s2.heap.objs.size) [y] (λz H'=>z=.non/\N σ9 H') I11 rfl (.cons r11 .nil) ⟨_,acc,v,rfl,rfl,hacc,hz,rfl,q11⟩
    rw[eP,eW,eA,eX] at hap
    exact cv hap λ_ s12 ⟨_,H12,I12,_,_,q12⟩=>again I12 q12
 exact codeAny_compStart_list (loop _ rfl) (T.self X.A 0 _ _ _ st4 (loop _ rfl))
def uk (hc:X.calm=true)(S:df X NB own ixs scope)(hi:PI X tg iter wi)
  (hg:∀C ex s3 H3 pn,PG (iN X NB scope C ex s3 H3 pn) tg g) (ht:∀C ex s3 H3 pn,B3 (iN X NB scope C ex s3 H3 pn) ifs tt) (he:∀C ex s3 H3 pn,PE (iN X NB scope C ex s3 H3 pn) elt te)
  (hs:∀x,foldedSetIterable iter X.env x=pure x:=by intro _;rfl) :
  PE X (.ListComp elt [⟨tg,iter,ifs,0⟩] scope pos) (xh own ixs wi g tt te):=by
 intro pins s σ H Q I h
 rw[eval_ListComp]
 refine wpAny_comprehension_free (use:=none) rfl hs (oX λy hy e=>I.ok.has _ (S.frees y hy e)) S.kind (λy hy e=>by rw[S.names y hy,e]) ?_
 refine cv (hi pins s σ H _ I h) λv s1 h1=>cv h1 λitv s2 h2=>?_
 obtain⟨it,fp,tn,J,H2,e,I2,T,st2,f2,q2⟩:=h2
 subst e
 refine rh hc S hg ht he I2 T st2 f2 q2 (RR:=λacc C=>compPost (model X.prog X.w) X.A X.xe none (EP X pins σ Q) acc C) λD C H' s' m J' q hn hC n1 n2 n3 n4=>?_
 refine⟨m,hn,λh'' sb=>⟨.ref D,H',?_,rfl,q⟩⟩
 exact J'.turned (t':=s'.toks) (it:=C) (λb o hb e=>sb.extBut b o hb e) hC n1 (.inr n3) n2 n4
def DH {i:Nat}{y:Str}{py spos:Pos}(hc:X.calm=true)(S:df X NB own ixs scope)(hi:PI X tg iter wi)
  (hg:∀C ex s3 H3 pn,PG (iN X NB scope C ex s3 H3 pn) tg g) (ht:∀C ex s3 H3 pn,B3 (iN X NB scope C ex s3 H3 pn) ifs tt) (he:∀C ex s3 H3 pn,PE (iN X NB scope C ex s3 H3 pn) elt te)
  (hN:X.N.Nodup) (hy:X.N[i]? =some y) (hl:X.env.scope.names.lookup y=some .local)
  (hsw:swapsWith (.ListComp elt [⟨tg,iter,ifs,0⟩] scope pos) (some (.Name y py)) spos.line X.env=pure true)
  (hs:∀x,foldedSetIterable iter X.env x=pure x:=by intro _;rfl) :
  PS X (.Assign [.Name y py] (.ListComp elt [⟨tg,iter,ifs,0⟩] scope pos) spos) (λD σ H=>xh own ixs wi g tt te σ H λv H'=>D.nx (σ.set i (some v)) H'):=by
 intro pins s σ H D I h
 rw[exec_Assign_Name_used _ _ _ _ hsw]
 refine Mv (wpAny_standAt (Mv ?_))
 show wpAny _ X.A (comprehension (.ListComp elt [⟨tg,iter,ifs,0⟩] scope pos) scope X.env _ (newList []) false (eval iter X.env) (some (assign (.Name y py) X.env)) >>= λ_=>pure ()) _ _ s
 refine Mv (N0 (wpAny_comprehension_free (use:=some (assign (.Name y py) X.env)) (Q:=λ_ s'=>SP X pins D .next s') rfl hs (oX λy hy e=>I.ok.has _ (S.frees y hy e)) S.kind (λy hy e=>by rw[S.names y hy,e]) ?_)
  (λ_ s' hq=>Mz (Mz hq)) λ_ _ e=>e)
 refine cv (hi pins s σ H _ I h) λv s1 h1=>cv h1 λitv s2 h2=>?_
 obtain⟨it,fp,tn,J,H2,e,I2,T,st2,f2,q2⟩:=h2
 subst e
 refine rh hc S hg ht he I2 T st2 f2 q2 (Q:=λv H'=>D.nx (σ.set i (some v)) H') (RR:=λacc C=>compPost (model X.prog X.w) X.A X.xe (some (assign (.Name y py) X.env)) (λ_ s'=>SP X pins D .next s') acc C) λD' C H' s' m J' q hn hC n1 n2 n3 n4=>?_
 show wpAny _ X.A (assign (.Name y py) X.env (.ref D')) _ _ s'
 refine wpAny_assign_Name (rG J' hN hy (.inl hl) (v:=.ref D') rfl (λs'' I'' ⟨a,sb,ha⟩=>?_) (.inr hl))
 have hCa:C≠a:=by
  rcases ha with z |z
  ·rw[z];exact n1
  ·exact (n2 _ _ z).symm
 refine⟨m,hn.sameBut sb hCa,λh3 sb3=>⟨_,H',?_,q⟩⟩
 exact I''.turned (t':=s''.toks) (it:=C) (λb o hb e=>sb3.extBut b o hb e) hC n1 (.inr n3) n2 n4
end
section
variable {own:Nat}{ixs:List Nat}{g:TG}{tt:TT}{te:TE}{σ:St}{H:Hp}{Q:VK}{K:Frag}{D a:Addr}{xs:List V}
abbrev dX (g:TG)(tt:TT)(te:TE)(D:Addr)(x:V)(σ:St)(H:Hp)(N:St->Hp->Prop):Prop:=g x σ H λσ3 H3=>tt σ3 H3 λb H4=>
  if b=true then te σ3 H4 λv H5=>∃acc,H5 D=some (.lst acc)/\acc.length < sizeLine/\N σ3 (upd H5 D (.lst (acc ++ [v]))) else N σ3 H4
def zp (Pv:Nat->St->Hp->Prop)(h0:Pv 0 (bS own ixs σ) (upd H D (.lst [])))(hl:∀i σ H,i<=xs.length->Pv i σ H->eY K H a xs)
  (hs:∀i x σ H,xs[i]? =some x->Pv i σ H->dX g tt te D x σ H (Pv (i + 1))) (hd:∀σ H,Pv xs.length σ H->(∃acc,H D=some (.lst acc))/\Q (.ref D) H) :
  ∃W:Nat->Nat->St->Hp->Prop,(∃m,W 0 m (bS own ixs σ) (upd H D (.lst [])))/\∀i m σ' H',W i m σ' H'->
   ((zx K a).stop i H'/\(∃acc,H' D=some (.lst acc))/\Q (.ref D) H')\/
   ((zx K a).go i H'/\∃N:St->Hp->Prop,(∀σ2 H2,N σ2 H2->∃m',m' < m/\W (i + 1) m' σ2 H2)/\∀x H2,(zx K a).yld i H' x H2->dX g tt te D x σ' H2 N):=by
 refine⟨λi m σ H=>m=xs.length - i/\i<=xs.length/\Pv i σ H,⟨xs.length,by simp,Nd _,h0⟩,?_⟩
 rintro i m σ H ⟨rfl,hi,p⟩
 have q:=hl i σ H hi p
 by_cases hlt:i < xs.length
 ·refine .inr ⟨⟨xs,xs[i],q,by simp[hlt]⟩,Pv (i + 1),λσ' H' p'=>⟨xs.length - (i + 1),by omega,rfl,hlt,p'⟩,λx H' y=>?_⟩
  obtain⟨e,y⟩:=y
  subst e
  exact hs i x σ _ (y xs q) p
 ·have e:i=xs.length:=by omega
  subst e
  exact .inl ⟨⟨xs,q,My _⟩,hd σ H p⟩
def wW {lo:Int}{n:Nat}(Pv:Nat->St->Hp->Prop)(h0:Pv 0 (bS own ixs σ) (upd H D (.lst [])))
  (hs:∀i σ H,i < n->Pv i σ H->dX g tt te D (.int (lo + i)) σ H (Pv (i + 1))) (hd:∀σ H,Pv n σ H->(∃acc,H D=some (.lst acc))/\Q (.ref D) H) :
  ∃W:Nat->Nat->St->Hp->Prop,(∃m,W 0 m (bS own ixs σ) (upd H D (.lst [])))/\∀i m σ' H',W i m σ' H'->
   ((zR lo n).stop i H'/\(∃acc,H' D=some (.lst acc))/\Q (.ref D) H')\/
   ((zR lo n).go i H'/\∃N:St->Hp->Prop,(∀σ2 H2,N σ2 H2->∃m',m' < m/\W (i + 1) m' σ2 H2)/\∀x H2,(zR lo n).yld i H' x H2->dX g tt te D x σ' H2 N):=by
 refine⟨λi m σ H=>m=n - i/\i<=n/\Pv i σ H,⟨n,by simp,Nd _,h0⟩,?_⟩
 rintro i m σ H ⟨rfl,hi,p⟩
 by_cases hlt:i < n
 ·refine .inr ⟨hlt,Pv (i + 1),λσ' H' p'=>⟨n - (i + 1),by omega,rfl,hlt,p'⟩,λx H' y=>?_⟩
  obtain⟨e,y⟩:=y
  subst e y
  exact hs i σ _ hlt p
 ·have e:i=n:=by omega
  subst e
  exact .inl ⟨My _,hd σ H p⟩
end
mutual
inductive Rep (K:Frag)(H:Hp):V->PyData->Prop
 |non:Rep K H .non .none
 |bl (b:Bool):Rep K H (.bl b) (.bool b)
 |int (i:Int):Rep K H (.int i) (.int i)
 |str (x:Str):Rep K H (.str x) (.str x)
 |tup {a:Addr} {xs:List V} {ds:List PyData}:eV K H a xs->il K H xs ds->Rep K H (.ref a) (.tuple ds)
 |lst {a:Addr} {xs:List V} {ds:List PyData}:eY K H a xs->il K H xs ds->Rep K H (.ref a) (.list ds)
inductive il (K:Frag)(H:Hp):List V->List PyData->Prop
 |nil:il K H [] []
 |cons {x:V} {xs:List V} {d:PyData} {ds:List PyData}:Rep K H x d->il K H xs ds->il K H (x :: xs) (d :: ds)
end
section
variable {X:Cx}{pins:List (Addr×Obj)}{σ:St}{H H':Hp}{s:Shared}
mutual
theorem Rep.reads (I:Inv X pins σ H s):∀{x:V} {d:PyData} {u:Value},Rep X.K H x d->RelV x u->∃as,Reads s.heap u d as
 |_,_,_,.non,r=>by cases r;exact⟨_,.none⟩
 |_,_,_,.bl b,r=>by cases r;exact⟨_,.bool b⟩
 |_,_,_,.int i,r=>by obtain⟨t,rfl⟩:=r;exact⟨_,.int i t⟩
 |_,_,_,.str x,r=>by obtain⟨t,rfl⟩:=r;exact⟨_,.str x t⟩
 |_,_,_,.tup h hs,r=>by
  cases r
  obtain⟨its,rv,⟨o,ho,hc,n,hd⟩,_⟩:=I.tuple h
  obtain⟨as,q⟩:=il.reads I hs rv
  exact⟨_,.tuple ho hc hd (by simpa using q)⟩
 |_,_,_,.lst h hs,r=>by
  cases r
  obtain⟨its,rv,pl,_⟩:=I.list h
  obtain⟨o,ho,hc,n,hd⟩:=pl.isList
  obtain⟨as,q⟩:=il.reads I hs rv
  exact⟨_,.list ho hc hd (by simpa using q)⟩
theorem il.reads (I:Inv X pins σ H s):∀{xs:List V} {ds:List PyData} {us:List Value},il X.K H xs ds->Vals xs us->∃as,ReadsAll s.heap us ds as
 |_,_,_,.nil,r=>by cases r;exact⟨_,.nil⟩
 |_,_,_,.cons h hs,r=>by
  cases r with
  |cons r1 r2=>
   obtain⟨as,q⟩:=Rep.reads I h r1
   obtain⟨bs,q'⟩:=il.reads I hs r2
   exact⟨_,.cons q q'⟩
end
def Hl (K:Frag)(neg:Bool):R2:=λx y H Q=>∃d e,Rep K H x d/\Rep K H y e/\SeqAt.shaped d=true/\SeqAt.shaped e=true/\Q (.bl (if neg then !PyData.eqv d e else PyData.eqv d e)) H
def gk (hu:X.A.units + 64 < cLine):lO X (compareOp .Eq) (Hl X.K false):=by
 intro pins s σ H x y v u Q I rx ry h
 obtain⟨d,e,h1,h2,s1,s2,q⟩:=h
 obtain⟨as,r1⟩:=h1.reads I rx
 obtain⟨bs,r2⟩:=h2.reads I ry
 exact SeqAt.compareEq_shaped r1 r2 s1 s2 hu ⟨.bl _,H,I,rfl,q⟩
def gj (hu:X.A.units + 64 < cLine):lO X (compareOp .NotEq) (Hl X.K true):=by
 intro pins s σ H x y v u Q I rx ry h
 obtain⟨d,e,h1,h2,s1,s2,q⟩:=h
 obtain⟨as,r1⟩:=h1.reads I rx
 obtain⟨bs,r2⟩:=h2.reads I ry
 exact SeqAt.compareNe_shaped r1 r2 s1 s2 hu ⟨.bl _,H,I,rfl,q⟩
def Jw (K:Frag)(neg:Bool):R2:=λx y H Q=>∃p xs d ds,y=.ref p/\(eY K H p xs\/eV K H p xs)/\il K H xs ds/\Rep K H x d/\SeqAt.shaped d=true/\(∀e,e∈ds->SeqAt.shaped e=true)/\
 Q (.bl (if neg then !(ds.any λe=>PyData.eqv e d) else ds.any λe=>PyData.eqv e d)) H
theorem il.at' {K:Frag}:∀{xs:List V} {ds:List PyData} {i:Nat} {x:V},il K H xs ds->xs[i]? =some x->∃d,ds[i]? =some d/\Rep K H x d
 |_,_,_,_,.nil,e=>by simp at e
 |_,_,0,_,.cons r _,e=>by simp at e;subst e;exact⟨_,rfl,r⟩
 |_,_,i + 1,x,.cons _ t,e=>by
  obtain⟨u,h1,h2⟩:=il.at' (i:=i) (x:=x) t (by simpa using e)
  exact⟨u,by simpa using h1,h2⟩
theorem il.len {K:Frag}:∀{xs:List V} {ds:List PyData},il K H xs ds->xs.length=ds.length
 |_,_,.nil=>rfl
 |_,_,.cons _ t=>by simp[il.len t]
open Classical in
theorem pI (I:Inv X pins σ H s)(d:PyData):∀{xs:List V} {us:List Value} {ds:List PyData},Vals xs us->il X.K H xs ds->(∀e,e∈ds->SeqAt.shaped e=true)->∃f:Value->Bool,us.any f=(ds.any λe=>PyData.eqv e d)/\∀u,u∈us->∃e as,e∈ds/\Reads s.heap u e as/\f u=PyData.eqv e d:=by
 intro xs us ds hv hr hs
 let f:Value->Bool:=λu=>if h:∃e as,SeqAt.shaped e=true/\Reads s.heap u e as then PyData.eqv (Classical.choose h) d else false
 have hf:∀{u:Value} {e:PyData} {as:List Addr},SeqAt.shaped e=true->Reads s.heap u e as->f u=PyData.eqv e d:=λ{u e as} h1 h2=>by
  have hx:∃e as,SeqAt.shaped e=true/\Reads s.heap u e as:=⟨e,as,h1,h2⟩
  show (if h:∃e as,SeqAt.shaped e=true/\Reads s.heap u e as then PyData.eqv (Classical.choose h) d else false)=_
  rw[dif_pos hx]
  obtain⟨bs,q1,q2⟩:=Classical.choose_spec hx
  rw[SeqAt.Reads.unique _ _ _ _ _ (NW q1) q2 h2]
 refine⟨f,?_,?_⟩
 ·induction hv generalizing ds with
  |nil=>cases hr;rfl
  | @cons x u xs us r1 r2 ih=>
   cases hr with
   | @cons _ _ e es h1 h2=>
    obtain⟨as,q⟩:=h1.reads I r1
    rw[Oo,Oo,hf (hs e (MC ..)) q,ih h2 λz hz=>hs z (MD _ hz)]
 ·intro u hu
  obtain⟨i,hi,e0⟩:=Nf.mp hu
  have hi':i < xs.length:=by rw[hv.length];exact hi
  obtain⟨u',eu,ru⟩:=hv.get (Mu hi')
  rw[Mu hi,e0] at eu
  cases eu
  obtain⟨e,ee,re⟩:=il.at' hr (Mu hi')
  obtain⟨as,q⟩:=re.reads I ru
  have hm:=MO ee
  exact⟨e,as,hm,q,hf (hs e hm) q⟩
inductive FK (K:Frag)(H:Hp):V->String->Prop
 |non:FK K H .non "NoneType"
 |bl (b:Bool):FK K H (.bl b) "bool"
 |int (i:Int):FK K H (.int i) "int"
 |str (x:Str):FK K H (.str x) "str"
 |tup {a:Addr} {xs:List V}:eV K H a xs->FK K H (.ref a) "tuple"
 |lst {a:Addr} {xs:List V}:eY K H a xs->FK K H (.ref a) "list"
 |dic {a:Addr} {kvs:List (Key×V)}:H a=some (.dK kvs)->FK K H (.ref a) "dict"
def K8 (K:Frag):List V->Hp->VK->Prop:=λxs H Q=>∃x T t b,xs= [x,.ty T]/\FK K H x t/\PySem.W.kitOne K (.type t) (.type T)=some b/\Q (.bl b) H
theorem B4:cL X (.builtin "isinstance") (K8 X.K):=by
 intro pins s σ H xs us Q I r h
 obtain⟨x,T,t,b,rfl,ty,e,q⟩:=h
 obtain⟨u,c,rfl,rx,rc⟩:=vals2 r
 cases rc
 have fin:∀tk,EP X pins σ Q (.bool b) {s with toks:=tk}:=λtk=>⟨.bl b,H,I.tok tk,rfl,q⟩
 cases ty with
 |non=>exact i0 I rx .non e fin
 |bl b=>exact i0 I rx (.bl b) e fin
 |int i=>exact i0 I rx (.int i) e fin
 |str z=>exact i0 I rx (.str z) e fin
 |dic hk=>exact i0 I rx (.dK hk) e fin
 |tup hq=>
  cases rx
  obtain⟨its,rv,⟨o,h1,h2,_⟩,_⟩:=I.tuple hq
  exact Nu PySem.W.kitx_tuple I.kIn ⟨o,h1,h2⟩ e (λz=>nomatch z) fin
 |lst hq=>
  cases rx
  obtain⟨its,rv,pl,_⟩:=I.list hq
  obtain⟨o,h1,h2,_⟩:=pl.isList
  exact Nu PySem.W.kitx_list I.kIn ⟨o,h1,h2⟩ e (λz=>nomatch z) fin
def uh {A:Around}{its:List Value}{bs:List Bool}(hv:Vals (bs.map V.bl) its):TruthOf X.prog X.w A (λi v=>its[i]? =some v) (λi=>bs.getD i false):=λi v s Q E hi hq=>by
 have hl:=hv.length
 have hi2:i < bs.length:=by
  have:=(MJ.mp hi).1
  rw[<-hl] at this;simpa using this
 obtain⟨u,eu,ru⟩:=hv.get (i:=i) (x:=.bl bs[i]) (by simp[hi2])
 rw[hi] at eu;cases eu
 cases ru
 refine N5 ?_
 have:bs.getD i false=bs[i]:=by simp[hi2]
 rw[<-this];exact hq
theorem range_all (bs:List Bool):(List.range bs.length).all (λi=>bs.getD i false)=bs.all id:=by
 induction bs with
 |nil=>rfl
 |cons b bs ih=>
  rw[MU,List.range_succ_eq_map,all_cons,O4,all_cons,<-ih]
  rfl
theorem range_any (bs:List Bool):(List.range bs.length).any (λi=>bs.getD i false)=bs.any id:=by
 induction bs with
 |nil=>rfl
 |cons b bs ih=>
  rw[MU,List.range_succ_eq_map,Oo,List.any_map,Oo,<-ih]
  rfl
def xX (K:Frag)(f:List Bool->Bool):List V->Hp->VK->Prop:=λxs H Q=>∃a bs,xs= [.ref a]/\eY K H a (bs.map V.bl)/\Q (.bl (f bs)) H
def oJ (hc:X.calm=true){a:Addr}{bs:List Bool}{Q:VK}(I:Inv X pins σ H s)(hq:eY X.K H a (bs.map V.bl)){f:List Bool->Bool}{g:(Nat->Bool)->Nat->Bool}(hfg:g (λi=>bs.getD i false) bs.length=f bs)(q:Q (.bl (f bs)) H) :
  wpAny (model X.prog X.w) X.A.in1 (pyIter (.ref a)) (λit s2=>∃Ii fp wr n P St tr,it=.ref Ii/\Walks X.prog X.w X.A.in1 Ii fp wr n P St/\St 0 s2.heap/\TruthOf X.prog X.w X.A.in1 P tr/\
   ∀h' tk,(∀b o,b∉wr->s2.heap.get? b=some o->h'.get? b=some o)->EP X pins σ Q (.bool (g tr n)) {s2 with heap:=h',toks:=tk}) X.xe s:=by
 obtain⟨its,rv,pl,hz⟩:=I.list hq
 have hh:X.A.in1.handled=none:=I.ok.hd hc
 have hlen:its.length=bs.length:=by rw[<-rv.length];simp
 obtain⟨o,ho,_⟩:=id pl.isList
 refine O2 pl.isList ?_
 have W:=Walks.list (prog:=X.prog) (w:=X.w) hh s.heap.objs.size a (M7 (MH ho)) its.toArray
 refine⟨s.heap.objs.size,_,_,_,_,_,λi=>bs.getD i false,rfl,W,⟨⟨_,MN _ rfl,rfl,rfl⟩,pl.isList.push _⟩,?_,λh' tk k=>?_⟩
 ·have:=uh (X:=X) (A:=X.A.in1) rv
  simpa using this
 ·have e:its.toArray.size=bs.length:=by simpa using hlen
  rw[e,hfg]
  have I1:Inv X pins σ H {s with heap:=s.heap.push {cls:=.type "list_iterator",data:=.fields #[.ref a,.int 0 0]}}:=I.kept (t':=s.toks) λb o e=>Mw _ e
  have hf:H s.heap.objs.size=none:=I.hok.fresh (My _)
  have fp:=I.fpOk (H':=H) (b:=s.heap.objs.size) (My _) hf
  refine⟨.bl _,H,I1.turned (it:=s.heap.objs.size) (t':=tk) (λb o hb e=>k b o (by simpa using hb) e) hf fp.2.1 fp.2.2.2.1 fp.2.2.2.2.1 fp.2.2.2.2.2,rfl,q⟩
def gW (hc:X.calm=true):cL X (.builtin "all") (xX X.K λbs=>bs.all id):=by
 intro pins s σ H xs us Q I r h
 obtain⟨a,bs,rfl,hq,q⟩:=h
 obtain⟨u,rfl,rx⟩:=vals1 r
 cases rx
 exact call_all_walk (oJ hc I hq (f:=λbs=>bs.all id) (g:=λtr n=>(List.range n).all tr) (range_all bs) q)
def CW (hc:X.calm=true):cL X (.builtin "any") (xX X.K λbs=>bs.any id):=by
 intro pins s σ H xs us Q I r h
 obtain⟨a,bs,rfl,hq,q⟩:=h
 obtain⟨u,rfl,rx⟩:=vals1 r
 cases rx
 exact call_any_walk (oJ hc I hq (f:=λbs=>bs.any id) (g:=λtr n=>(List.range n).any tr) (range_any bs) q)
def DF:cL X (.type "range") (λxs H Q=>∃n:Int,xs= [.int n]/\∀p,H p=none->Q (.ref p) (upd H p (.eS 0 n))):=by
 intro pins s σ H xs us Q I r h
 obtain⟨n,rfl,q⟩:=h
 obtain⟨u,rfl,rx⟩:=vals1 r
 obtain⟨t,rfl⟩:=rx
 refine call_range_1 ⟨.ref s.heap.objs.size,upd H s.heap.objs.size (.eS 0 n),?_,rfl,q _ (I.hok.fresh (My _))⟩
 exact I.laid (λb o e=>Mw _ e) (My _) ⟨_,_,_,MN _ rfl⟩
def qB (hc:X.calm=true):cL X (.type "list") (λxs H Q=>∃p n,xs= [.ref p]/\H p=some (.eS 0 n)/\0<=n/\n<=1000/\∀l,H l=none->Q (.ref l) (upd H l (.lst ((List.range n.toNat).map λ(i:Nat)=>V.int (i:Int))))):=by
 intro pins s σ H xs us Q I r h
 obtain⟨p,n,rfl,hp,h0,h1,q⟩:=h
 obtain⟨u,rfl,rx⟩:=vals1 r
 cases rx
 obtain⟨t,u,v,hr⟩:∃t u v,s.heap.get? p=some {cls:=.type "range",data:=.fields #[.int 0 t,.int n u,.int 1 v]}:=I.hok p _ hp
 have hsz:Builtin.Range.rangeSize 0 n 1=(n.toNat:Int):=by rw[rangeSize_one];split <;> omega
 refine call_list_range (I.ok.hd hc) hr (small_one (by omega) (by omega) (by omega) (by omega)) hsz (by omega) λh' tk acc c k hS hacc=>?_
 have hv:Vals ((List.range n.toNat).map λ(i:Nat)=>V.int (i:Int)) acc.toList:=by
  have key:∀(m:Nat) (us:List Value) (j:Nat),us.length=m->(∀(i:Nat) (v:Value),us[i]? =some v->∃t,v=Value.int ((j + i:Nat):Int) t)->Vals ((List.range' j m).map λ(i:Nat)=>V.int (i:Int)) us:=by
   intro m
   induction m with
   |zero=>intro us j hl _;cases us with
    |nil=>exact .nil
    |cons a b=>simp at hl
   |succ m ih=>
    intro us j hl hh
    cases us with
    |nil=>simp at hl
    |cons u us=>
     rw[List.range'_succ,Nj]
     refine .cons (by have:=hh 0 u rfl;simp at this;exact this) (ih us (j + 1) (by simpa using hl) λi v hi=>?_)
     obtain⟨t,e⟩:=hh (i + 1) v (by simpa using hi)
     exact⟨t,by rw[e];congr 2;omega⟩
  have:=key n.toNat acc.toList 0 (by simpa using hacc.1) λi v hi=>by
   obtain⟨t,e⟩:=hacc.2 i v (by simpa using hi)
   exact⟨t,by rw[e];simp⟩
  rw[List.range_eq_range'];exact this
 refine⟨.ref s.heap.objs.size,_,I.laid (t':=tk) k (My _) (show cH X.prog X.w _ h' _ (.lst _) from⟨by simp;rw[Na];omega,acc.toList,c,hv,by simpa using hS⟩),rfl,q _ (I.hok.fresh (My _))⟩
end
def Rc (h:Heap)(e:Addr)(cls:Value)(T:Addr)(fl:Value):Prop:=∃oe vs oT ts,h.get? e=some oe/\oe.cls=cls/\oe.dict=none/\oe.data=.fields vs/\vs[1]? =some (.ref T)/\T≠e/\h.get? T=some oT/\oT.data=.fields ts/\ts[3]? =some fl
abbrev Keeps (F:List Addr)(ch:List Addr)(h h':Heap):Prop:=∀b o,h.get? b=some o->b∉F->b∉ch->h'.get? b=some o
abbrev Slots (F:List Addr)(h h':Heap):Prop:=∀b o,h.get? b=some o->b∈F->∃sl,h'.get? b=some {o with slots:=sl}
section
variable {M:Model}{A:Around}{E:Value->Shared->Prop}{s:Shared}{base:Heap}{env:Env}{outer:List Env}{L e:Addr}{cls:Value}{Q:Unit->Shared->Prop}
def Cu {oe:Obj}{vs:Array Value}{head:Value}{hadNext:Bool}(hfr:A.frames=some (env :: outer))(hl:s.heap.FunFrames base (env :: outer))(hf:env.frame=some L)(he:s.heap.get? e=some oe)(hc:oe.cls=cls)(hdd:oe.dict=none)(hd:oe.data=.fields vs)(hsz:1 < vs.size)
  (h:∀h' T,Keeps (iY (env :: outer)) [e] s.heap h'->Slots (iY (env :: outer)) s.heap h'->s.heap.get? T=none->Rc h' e cls T (rawInt L)->Q () {s with heap:=h'}) :
  wpAny M A (do let a <-frameOf env;let pl <-entryPlaceOf L hadNext;let b <-EntryCells.newEntry head a .none (rawInt L) .none pl;setField (.ref e) 1 b) Q E s:=by
 have eF:e∉iY (env :: outer):=λz=>by
  obtain⟨_,o,q,n⟩:=hl.mem z
  rw[he] at q;cases q;exact n _ hd
 refine Mv (wpAny_frameOf_fun hfr hl hf λh1 s1=>?_)
 refine Mv (wpAny_entryPlaceOf λpl hpl=>?_)
 unfold EntryCells.newEntry newFields
 refine Mv (NI ?_ (hpl.sizeOk5 _ _ _ _ _))
 have e1:h1.get? e=some oe:=(s1.2.1 e eF).trans he
 have e2:=Mw (h:=h1) {cls:=.type "traceback",dict:=none,data:=.fields ([head,.ref L,.none,rawInt L,.none] ++ (if pl.isEmpty then List.replicate 6 Value.none else pl)).toArray} e1
 have tn:h1.objs.size≠e:=Nat.ne_of_gt (MH e1)
 refine Ov e2 hd hsz (h _ h1.objs.size (λb o q hb hn=>?_) (λb o q hb=>?_) ?_ ?_)
 ·have hbe:b≠e:=by simpa using hn
  have q1:h1.get? b=some o:=(s1.2.1 b hb).trans q
  rw[NO _ _ (Ne.symm hbe)]
  exact Mw _ q1
 ·obtain⟨sl,q1⟩:=s1.2.2 b o q
  have hbe:b≠e:=λz=>eF (z▸hb)
  refine⟨sl,?_⟩
  rw[NO _ _ (Ne.symm hbe)]
  exact Mw _ q1
 ·cases q:s.heap.get? h1.objs.size with
  |none=>rfl
  |some o=>obtain⟨sl,q1⟩:=s1.2.2 _ o q;exact absurd (MH q1) (Nh _)
 ·have d3:=Pc hd (·.setIfInBounds 1 (Value.ref h1.objs.size))
  have e3:=Nw (Obj.mapFields (·.setIfInBounds 1 (Value.ref h1.objs.size))) e2 (Obj.isFreed_of_fields d3)
  refine⟨_,_,_,_,e3,(Obj.cls_mapFields _ _).trans hc,?_,d3,by simp[hsz],tn,(NO _ _ (Ne.symm tn)).trans (MN h1 rfl),rfl,?_⟩
  ·unfold Obj.mapFields
   split <;> exact hdd
  ·rcases hpl with rfl | ⟨_,_,_,_,_,_,_,rfl⟩ <;> simp
def xi {oe:Obj}{vs:Array Value}(hfr:A.frames=some (env :: outer))(hl:s.heap.FunFrames base (env :: outer))(hf:env.frame=some L)(he:s.heap.get? e=some oe)(hc:oe.cls=cls)(hdd:oe.dict=none)(hd:oe.data=.fields vs)(h1:vs[1]? =some .none)
  (h:∀h' T,Keeps (iY (env :: outer)) [e] s.heap h'->Slots (iY (env :: outer)) s.heap h'->s.heap.get? T=none->Rc h' e cls T (rawInt L)->Q () {s with heap:=h'}):wpAny M A (noteFrame (.ref e) env) Q E s:=by
 unfold noteFrame
 simp only[hf]
 refine Mv (OL he hd h1 ?_)
 rw[MF (by decide)]
 exact Cu hfr hl hf he hc hdd hd (Ny.mp h1).1 h
def AD {T0:Addr}(hfr:A.frames=some (env :: outer))(hl:s.heap.FunFrames base (env :: outer))(hf:env.frame=some L)(r:Rc s.heap e cls T0 .none)
  (h:∀h' T,Keeps (iY (env :: outer)) [e,T0] s.heap h'->Slots (iY (env :: outer)) s.heap h'->(s.heap.get? T=none\/T=T0)->Rc h' e cls T (rawInt L)->Q () {s with heap:=h'}):wpAny M A (noteFrame (.ref e) env) Q E s:=by
 obtain⟨oe,vs,oT,ts,he,hc,hdd,hd,h1,hTe,hT,hdT,h3⟩:=r
 have tF:T0∉iY (env :: outer):=λz=>by
  obtain⟨_,o,q,n⟩:=hl.mem z
  rw[hT] at q;cases q;exact n _ hdT
 unfold noteFrame
 simp only[hf]
 refine Mv (OL he hd h1 ?_)
 rw[MA (show (Value.ref T0 != Value.none)=true from by simp)]
 refine Mv (OL hT hdT h3 ?_)
 rw[MF (show ¬((Value.none == rawInt L)=true) from by simp[rawInt])]
 refine Mv (Ov hT hdT (Ny.mp h3).1 ?_)
 have oth:∀b,b≠T0->(s.heap.update T0 (Obj.mapFields (·.setIfInBounds 3 Value.none))).get? b=s.heap.get? b:=λb hb=>NO _ _ (Ne.symm hb)
 have nf:∀b o,s.heap.get? b=some o->(∀ws,o.data≠.fields ws)->b≠T0:=λb o q n z=>by
  rw[z,hT] at q;cases q;exact n _ hdT
 refine Cu (base:=base) hfr (hl.of_keeps λb o q n=>⟨o,(oth b (nf b o q n)).trans q,rfl⟩) hf ((oth e (Ne.symm hTe)).trans he) hc hdd hd (Ny.mp h1).1 λh' T kp sl tn rc=>?_
 refine h h' T (λb o q hb hn=>?_) (λb o q hb=>?_) ?_ rc
 ·simp only[MB,Np,Of,not_or] at hn
  exact kp b o ((oth b hn.2).trans q) hb (by simp[hn.1])
 ·exact sl b o ((oth b λz=>tF (z▸hb)).trans q) hb
 ·by_cases z:T=T0
  ·exact .inr z
  ·exact .inl ((oth T z).symm.trans tn)
def yq {T:Addr}{fl:Value}(r:Rc s.heap e cls T fl)(h:∀h',Keeps [] [T] s.heap h'->Rc h' e cls T .none->Q () {s with heap:=h'}):wpAny M A (setFlight (.ref e) none) Q E s:=by
 obtain⟨oe,vs,oT,ts,he,hc,hdd,hd,h1,hTe,hT,hdT,h3⟩:=r
 have sz:3 < ts.size:=(Ny.mp h3).1
 unfold setFlight
 refine Mv (OL he hd h1 ?_)
 rw[MA (show (Value.ref T != Value.none)=true from by simp)]
 refine Ov hT hdT sz (h _ (λb o q _ hn=>?_) ?_)
 ·have hb:b≠T:=by simpa using hn
  exact (NO _ _ (Ne.symm hb)).trans q
 ·have d3:=Pc hdT (·.setIfInBounds 3 ((none:Option Addr).elim Value.none λf=>rawInt f))
  exact⟨oe,vs,_,_,(NO _ _ hTe).trans he,hc,hdd,hd,h1,hTe,Nw _ hT (Obj.isFreed_of_fields d3),d3,by simp[sz]⟩
end
section
variable {P:Program}{w:World}
theorem cH.there {H:Hp}{h:Heap}{a:Addr}{o:HO}(x:cH P w H h a o):∃u,h.get? a=some u:=by
 cases o with
 |lst xs=>obtain⟨_,_,_,_,e⟩:=x;exact⟨_,e⟩
 |tup xs=>obtain⟨_,_,_,u,e,_⟩:=x;exact⟨u,e⟩
 |dK kvs=>obtain⟨_,_,_,_,o,_,_,e,_⟩:=x;exact⟨_,e⟩
 |dT kvs=>obtain⟨_,_,_,_,o,_,_,e,_⟩:=x;exact⟨_,e⟩
 |set S n=>obtain⟨o,_,_,_,e,_⟩:=x;exact⟨_,e⟩
 |ins C dx fs=>obtain⟨_,_,_,e,_⟩:=x;exact⟨_,e⟩
 |own y=>obtain⟨_,e⟩:=x;exact⟨_,e⟩
 |xd fs=>obtain⟨_,⟨_,_,_,e,_⟩,_⟩:=x;exact⟨_,e⟩
 |eS lo hi=>obtain⟨_,_,_,e⟩:=x;exact⟨_,e⟩
 |bq ob u=>obtain⟨e,_⟩:=x;exact⟨_,e⟩
 |tbl ps=>exact⟨_,show h.get? a=some _ from x⟩
 |met f y=>exact⟨_,show h.get? a=some _ from x⟩
 |ext φ=>obtain⟨_,⟨_,e⟩,_⟩:=x;exact⟨_,e⟩
end
structure Lies (h₀:Heap)(H:Hp)(h:Heap)(e:Addr)(cls:Value):Prop where
 free:H e=none
 new:h₀.get? e=none
 ob:∃T,Rc h e cls T .none/\H T=none/\h₀.get? T=none
def nR (P:Program)(w:World):z6:=λouter H s E e s'=>∃ea cls H',e=.ref ea/\s'.os=s.os/\AllBare s'.gens/\Un (iY outer) [] H H' s.heap s'.heap/\lu P w H' s'.heap/\Lies s.heap H' s'.heap ea cls/\E cls none H'
section
variable {P:Program}{w:World}{M:Model}{A:Around}{E':Value->Shared->Prop}{s:Shared}{env:Env}{outer:List Env}{L e:Addr}{cls:Value}{base h₀:Heap}{H:Hp}{Q:Unit->Shared->Prop}
def vK {h h':Heap}(hok:lu P w H h)(k:∀b o,h.get? b=some o->(∃u,H b=some u)->h'.get? b=some o):lu P w H h':=λa o ha=>
 (hok a o ha).stay (λb u hb q=>k b u q (hb.elim (λz=>⟨o,by rw[z];exact ha⟩) λz=>⟨_,z⟩)) (λ_ q=>q) λ_ _ q=>q
def A6 (hfr:A.frames=some (env :: outer))(hf:env.frame=some L)(hfn:s.heap.FunFrames base (env :: outer))(hok:lu P w H s.heap)(hff:∀b∈iY (env :: outer),H b=none)(Ly:Lies h₀ H s.heap e cls)(hex:∀b o,h₀.get? b=some o->∃o',s.heap.get? b=some o')
  (hQ:∀h',(∀b o,s.heap.get? b=some o->b∉iY (env :: outer)->((∃o0,h₀.get? b=some o0)\/∃u,H b=some u)->h'.get? b=some o)->(∀b o,s.heap.get? b=some o->b∈iY (env :: outer)->∃sl,h'.get? b=some {o with slots:=sl})->Lies h₀ H h' e cls->lu P w H h'->Q () {s with heap:=h'}) :
  wpAny M A (leaving env (.ref e)) Q E' s:=by
 obtain⟨fr,nw,T0,rc,hHT,hnT⟩:=Ly
 obtain⟨oe,vs,oT,ts,he,hc,hdd,hd,h1,hTe,hT,hdT,h3⟩:=id rc
 have tF:T0∉iY (env :: outer):=λz=>by
  obtain⟨_,o,q,n⟩:=hfn.mem z
  rw[hT] at q;cases q;exact n _ hdT
 unfold leaving
 refine Mv (AD hfr hfn hf rc λh4 T kp sl tn rc4=>yq rc4 λh5 kp5 rc5=>?_)
 have nT:∀b o,s.heap.get? b=some o->b≠T0->b≠T:=λb o q n z=>by
  rcases tn with tn |tn
  ·rw[z,tn] at q;cases q
  ·exact n (z.trans tn)
 have kept:∀b o,s.heap.get? b=some o->b∉iY (env :: outer)->((∃o0,h₀.get? b=some o0)\/∃u,H b=some u)->h5.get? b=some o:=λb o q hb hor=>by
  have be:b≠e:=λz=>by subst z;rcases hor with⟨_,z⟩ | ⟨_,z⟩ <;> simp_all
  have bT:b≠T0:=λz=>by subst z;rcases hor with⟨_,z⟩ | ⟨_,z⟩ <;> simp_all
  exact kp5 b o (kp b o q hb (by simp[be,bT])) (by simp) (by simp[nT b o q bT])
 have slot:∀b o,s.heap.get? b=some o->b∈iY (env :: outer)->∃sl,h5.get? b=some {o with slots:=sl}:=λb o q hb=>by
  obtain⟨x,q4⟩:=sl b o q hb
  exact⟨x,kp5 b _ q4 (by simp) (by simp[nT b o q λz=>tF (z▸hb)])⟩
 have fresh:H T=none/\h₀.get? T=none:=by
  rcases tn with tn |tn
  ·refine⟨?_,?_⟩
   ·cases q:H T with
    |none=>rfl
    |some u=>obtain⟨o,qo⟩:=(hok T u q).there;rw[tn] at qo;cases qo
   ·cases q:h₀.get? T with
    |none=>rfl
    |some u=>obtain⟨o,qo⟩:=hex T u q;rw[tn] at qo;cases qo
  ·rw[tn];exact⟨hHT,hnT⟩
 refine hQ h5 kept slot ⟨fr,nw,T,rc5,fresh.1,fresh.2⟩ (vK hok λb o q hu=>kept b o q (λz=>?_) (.inr hu))
 obtain⟨u,hu⟩:=hu
 rw[hff b z] at hu;cases hu
def xR {h:Heap}{args:List Value}(hfr:A.frames=some (env :: outer))(hf:env.frame=some L)(hfn:h.FunFrames base (env :: outer))(hok:lu P w H h)(hff:∀b∈iY (env :: outer),H b=none)(hex:∀b o,h₀.get? b=some o->∃o',h.get? b=some o')(hx:Heap.MadeExcOf h s.heap e cls args)
  (hQ:∀h',(∀b o,h.get? b=some o->b∉iY (env :: outer)->h'.get? b=some o)->(∀b o,h.get? b=some o->b∈iY (env :: outer)->∃sl,h'.get? b=some {o with slots:=sl})->Lies h₀ H h' e cls->lu P w H h'->Q () {s with heap:=h'}) :
  wpAny M A (leaving env (.ref e)) Q E' s:=by
 obtain⟨t,he,_,_⟩:=hx.there
 unfold leaving
 refine Mv (xi (cls:=cls) hfr (hfn.of_keeps λb o q _=>⟨o,hx.keeps b o q,rfl⟩) hf he rfl rfl rfl rfl λh4 T kp sl tn rc4=>yq rc4 λh5 kp5 rc5=>?_)
 have ne:∀b o,h.get? b=some o->b≠e:=λb o q z=>by rw[z,hx.new] at q;cases q
 have nT:∀b o,h.get? b=some o->b≠T:=λb o q z=>by
  have:=hx.keeps b o q
  rw[z,tn] at this;cases this
 have kept:∀b o,h.get? b=some o->b∉iY (env :: outer)->h5.get? b=some o:=λb o q hb=>kp5 b o (kp b o (hx.keeps b o q) hb (by simp[ne b o q])) (by simp) (by simp[nT b o q])
 have slot:∀b o,h.get? b=some o->b∈iY (env :: outer)->∃sl,h5.get? b=some {o with slots:=sl}:=λb o q hb=>by
  obtain⟨x,q4⟩:=sl b o (hx.keeps b o q) hb
  exact⟨x,kp5 b _ q4 (by simp) (by simp[nT b o q])⟩
 have fresh:∀{b:Addr},h.get? b=none->H b=none/\h₀.get? b=none:=λ{b} hb=>by
  refine⟨?_,?_⟩
  ·cases q:H b with
   |none=>rfl
   |some u=>obtain⟨o,qo⟩:=(hok b u q).there;rw[hb] at qo;cases qo
  ·cases q:h₀.get? b with
   |none=>rfl
   |some u=>obtain⟨o,qo⟩:=hex b u q;rw[hb] at qo;cases qo
 have no:h.get? T=none:=by
  cases q:h.get? T with
  |none=>rfl
  |some o=>exact absurd rfl (nT T o q)
 obtain⟨f1,f2⟩:=fresh hx.new
 obtain⟨g1,g2⟩:=fresh no
 refine hQ h5 kept slot ⟨f1,f2,T,rc5,g1,g2⟩ (vK hok λb o q hu=>kept b o q λz=>?_)
 obtain⟨u,hu⟩:=hu
 rw[hff b z] at hu;cases hu
end
section
variable {P:Program}{w:World}{K:Frag}{mg:Str->Option Value}{base:Heap}{N:List Str}{qual:Str}{scope:Scope}{f:Addr}{cd:Value}{A:Around}{outer:List Env}{s0:Shared}{H0:Hp}{E:XK}
def aR:Passes (nR P w) (kU (nR P w) P w K mg base N qual scope f cd A outer s0 H0 E) E:=by
 intro pins σ H s e s' I hcx
 obtain⟨ea,cls,H',rfl,os,bare,un,hok,Ly,q⟩:=hcx
 have I':=I.call' os un hok bare (λb hb=>absurd hb (by simp))
 have old:∀{b:Addr},s.heap.get? b=none->s0.heap.get? b=none:=λ{b} hb=>by
  cases z:s0.heap.get? b with
  |none=>rfl
  |some o=>obtain⟨o',z'⟩:=I.base.there b o z (show b∉([]:List Addr) by simp);rw[hb] at z';cases z'
 have Ly0:Lies s0.heap H' s'.heap ea cls:=by
  obtain⟨fr,nw,T,rc,hHT,hnT⟩:=Ly
  exact⟨fr,old nw,T,rc,hHT,old hnT⟩
 have above:s0.heap.objs.size<=(envOfC qual scope s0.heap.objs.size f cd).locals:=I.ok.above
 refine A6 (base:=base) (h₀:=s0.heap) I'.ok.frames rfl I'.stack I'.hok I'.stkFree Ly0 (λb o z=>I'.base.there b o z (show b∉([]:List Addr) by simp)) λh' kept slot Ly' hok'=>?_
 have nL:∀{b:Addr} {o:Obj},s0.heap.get? b=some o->b∉iY outer->b∉iY (envOfC qual scope s0.heap.objs.size f cd :: outer):=λ{b o} z hb hm=>by
  rcases MB.mp (I'.stkSub b hm) with e |e
  ·have:=MH z
   rw[e] at this
   exact absurd (M4 this above) (Nh _)
  ·exact hb e
 have inn:∀{b:Addr},b∈iY outer->b∈iY (envOfC qual scope s0.heap.objs.size f cd :: outer):=λ{b} hb=>by
  obtain⟨en,h1,h2⟩:=Oa.mp hb
  exact Oa.mpr ⟨en,MD _ h1,h2⟩
 refine⟨ea,cls,H',rfl,os.trans I.os,bare,⟨λb o z n hb _=>?_,λb o z n hb _=>?_,λb o z n _=>I'.base.free b o z n (show b∉([]:List Addr) by simp),λb o z _=>?_,I'.base.tups,I'.base.frzs,I'.base.tbls⟩,hok',Ly',q⟩
 ·exact kept b o (I'.base.keep b o z n hb (show b∉([]:List Addr) by simp)) (nL z hb) (.inl ⟨o,z⟩)
 ·obtain⟨sl,z1⟩:=I'.base.slot b o z n hb (show b∉([]:List Addr) by simp)
  obtain⟨sl2,z2⟩:=slot b _ z1 (inn hb)
  exact⟨sl2,z2⟩
 ·obtain⟨o',z1⟩:=I'.base.there b o z (show b∉([]:List Addr) by simp)
  by_cases hb:b∈iY (envOfC qual scope s0.heap.objs.size f cd :: outer)
  ·obtain⟨sl,z2⟩:=slot b o' z1 hb
   exact⟨_,z2⟩
  ·exact⟨o',kept b o' z1 hb (.inl ⟨o,z⟩)⟩
def GQ (C:Addr)(E:XK)(t:TA):TS:=λ_ σ H=>t σ H λvs H1=>vs.length<=sizeLine/\E (.ref C) none H1
def De {x:Str}{C:Addr}{np cpos pos:Pos}{e0:Expr}{es:List Expr}{t:TA}{Bn newId initId:String}{bmB:List Value}(FB:ExcBaseFacts Bn newId initId bmB)(hbb:bmB.contains (.type "BaseException")=true)(q:PySem.W.excIn K C bmB newId=true)
  (hg:Gl (kU (nR P w) P w K mg base N qual scope f cd A outer s0 H0 E) x) (hm:mg x=some (.ref C)) (ha:PA (kU (nR P w) P w K mg base N qual scope f cd A outer s0 H0 E) (e0 :: es) t)
  (he:starEach (e0 :: es) (envOfC qual scope s0.heap.objs.size f cd)=(false,eval e0 (envOfC qual scope s0.heap.objs.size f cd)) :: starEach es (envOfC qual scope s0.heap.objs.size f cd):=by rfl)
  (hpl:(backTo cpos (starEach es (envOfC qual scope s0.heap.objs.size f cd))).any (·.1)=false:=by rfl) (hdb:(x == ("__debug__":Str))=false:=by decide) :
  PS (kU (nR P w) P w K mg base N qual scope f cd A outer s0 H0 E) (.Raise (some (.Call (.Name x np) (e0 :: es) [] cpos)) none pos) (GQ C E t):=by
 intro pins s σ H D I h
 have own:∀{hh:Heap},K.In hh->∃bm Nn nm qn bs hdct sn sub ab col dd k0 k1 k2 k3 k5 mN,hh.get? C=some (excClassObj nm qn C Nn bs bm hdct sn sub ab col dd k0 k1 k2 k3 k5 newId)/\hh.Ns Nn mN/\mN "__init__"=none/\OwnTail hh bmB bm:=λ{hh} X=>by
  have q:=q
  unfold PySem.W.excIn at q
  split at q
  ·rename_i dd cdd sl ho
   split at q
   ·rename_i C' bm k0 k1 k2 k3 n k5 hm hs
    simp only[MP,beq_iff_eq,NX] at q
    obtain⟨⟨⟨⟨⟨rfl,rfl⟩,hdel⟩,ht⟩,hok⟩,hni⟩:=q
    obtain⟨nm,bs,mro,ns,qn,hd,sn,sub,ab,col,del⟩:=cdd
    dsimp only at hm hdel hok hni
    subst hm hdel
    have hsl:sl=#[k0,k1,k2,k3,some (.builtin n),k5]:=by
     obtain⟨l⟩:=sl
     simp only at hs
     rw[hs]
    subst hsl
    exact⟨bm,ns,nm,qn,bs,hd,sn,sub,ab,col,dd,k0,k1,k2,k3,k5,_,X _ _ ho,.of_isNs (PySem.W.isNs_of_in X hok),PySem.W.nsMap_none_of_in X hok hni,PySem.W.tail_of_in X ht⟩
   ·cases q
  ·cases q
 obtain⟨bm,Nn,nm,qn,bs,hdct,sn,sub,ab,col,dd,k0,k1,k2,k3,k5,mN,hC,hN,hni,TL⟩:=own I.ok.mod.kin
 have hA:=ha cpos pins s σ H _ I h
 refine wpAny_Raise_call_subT (C:=C) (nm:=nm) (q:=qn) (N:=Nn) (bs:=bs) (bm:=bm) (hdct:=hdct) (sn:=sn) (sub:=sub) (ab:=ab) (col:=col) (dd:=dd) (k0:=k0) (k1:=k1) (k2:=k2) (k3:=k3) (k5:=k5) FB (mN:=mN) (TL.hasType hbb) (I.ok.hd rfl) ?_ hni (sf I hg hm ⟨rfl,?_⟩ hdb)
 ·show (backTo cpos (starEach (e0 :: es) (envOfC qual scope s0.heap.objs.size f cd))).any (·.1)=false
  rw[he]
  show (false || (backTo cpos (starEach es (envOfC qual scope s0.heap.objs.size f cd))).any (·.1))=false
  rw[hpl];rfl
 have hA:wpAny _ _ (spliced (backTo cpos (starEach (e0 :: es) (envOfC qual scope s0.heap.objs.size f cd)))) _ _ s:=hA
 show wpAny _ _ (evalArgs (.ref C) true (backTo cpos (starEach (e0 :: es) (envOfC qual scope s0.heap.objs.size f cd))) []) _ _ s
 rw[he] at hA ⊢
 refine O5 (cv hA λus s2 ⟨vs,H2,I2,r2,hl2,q2⟩=>⟨rfl,by show us.length<=_;rw[<-r2.length];exact hl2,I2.bk _ _ hC,hN.keeps I2.bk,TL.keeps I2.bk,λh' e hx=>?_⟩)
 have above:s0.heap.objs.size<=(envOfC qual scope s0.heap.objs.size f cd).locals:=I2.ok.above
 have nil:∀b:Addr,b∉([]:List Addr):=λb=>by simp
 refine xR (s:={s2 with heap:=h'}) (h:=s2.heap) (base:=base) (h₀:=s0.heap) I2.ok.frames rfl I2.stack I2.hok I2.stkFree (λb o z=>I2.base.there b o z (nil b)) hx λh2 kept slot Ly hok=>?_
 have nL:∀{b:Addr} {o:Obj},s0.heap.get? b=some o->b∉iY outer->b∉iY (envOfC qual scope s0.heap.objs.size f cd :: outer):=λ{b o} z hb hm=>by
  rcases MB.mp (I2.stkSub b hm) with e |e
  ·have:=MH z
   rw[e] at this
   exact absurd (M4 this above) (Nh _)
  ·exact hb e
 have inn:∀{b:Addr},b∈iY outer->b∈iY (envOfC qual scope s0.heap.objs.size f cd :: outer):=λ{b} hb=>by
  obtain⟨en,h1,h2⟩:=Oa.mp hb
  exact Oa.mpr ⟨en,MD _ h1,h2⟩
 refine⟨e,.ref C,H2,rfl,I2.os,I2.bare,⟨λb o z n hb _=>?_,λb o z n hb _=>?_,λb o z n _=>I2.base.free b o z n (nil b),λb o z _=>?_,I2.base.tups,I2.base.frzs,I2.base.tbls⟩,hok,Ly,q2⟩
 ·exact kept b o (I2.base.keep b o z n hb (nil b)) (nL z hb)
 ·obtain⟨sl,z1⟩:=I2.base.slot b o z n hb (nil b)
  obtain⟨sl2,z2⟩:=slot b _ z1 (inn hb)
  exact⟨sl2,z2⟩
 ·obtain⟨o',z1⟩:=I2.base.there b o z (nil b)
  by_cases hb:b∈iY (envOfC qual scope s0.heap.objs.size f cd :: outer)
  ·obtain⟨sl,z2⟩:=slot b o' z1 hb
   exact⟨_,z2⟩
  ·exact⟨o',kept b o' z1 hb⟩
end
def mroIn (K:Frag)(C:Addr):List Value:=match K.lookup C with
 |some ⟨_,_,.cls cd,_⟩=>cd.mro
 |_=>[]
structure CN (k:Nat)(A:Around):Prop where
 dp:A.depth + 3 * k + 5 < recursionLimit
 un:A.units + 16 * k + 200 < cLine
 gd:A.guards=some []
def fI.h {k:Nat}{A:Around}(r:fI k A):CN k A:=⟨r.dp,r.un,r.gd⟩
def CN.units {k:Nat}{A:Around}(r:CN k A):A.units + 64 < cLine:=by have:=r.un;omega
section
variable {P:Program}{w:World}{K:Frag}{mg:Str->Option Value}{base:Heap}
def DV.uc {x qual:Str}{st:Stmt}{f:Addr}{fd:FuncData}{N ps:List Str}{k:Nat}{sp:Sp}(F:DV K x qual st f fd)(S:aJ N ps (ay st))(len:∀vs H Q E,sp vs H Q E->vs.length=ps.length)
  (hbody:∀(cdv:Value) (A:Around) (outer:List Env) (s:Shared) (H:Hp) (vs:List V) (Q:VK) (E:XK),fI k (A.deeper (envOfC qual (ay st) s.heap.objs.size f cdv))->sp vs H Q E->
   ∃t,qN (kU (nR P w) P w K mg base N qual (ay st) f cdv A outer s H E) (cY st) t/\t {nx:=λ_ H'=>Q .non H',rt:=Q} (start N vs) H):fW P w K mg base (nR P w) (k + 1) f fd ps sp:=by
 obtain⟨oc,od,kV,doc,pm,an,cdv,ct,osl,rfl,lk,hcd⟩:=F.ex
 exact GD lk hcd S len λA outer s H vs Q E hr hsp=>hbody cdv A outer s H vs Q E hr hsp
end
section
variable {X:Cx}
def rk (hu:X.A.units + 100 < cLine):lO X (compareOp .NotIn) (Jw X.K true):=by
 intro pins s σ H x y v u Q I rx ry h
 obtain⟨p,xs,d,ds,rfl,hq,hs,hx,s1,s2,q⟩:=h
 cases ry
 obtain⟨bs,r2⟩:=hx.reads I rx
 have key:∀{e:PyData} {as:List Addr} {u:Value},SeqAt.shaped e=true->Reads s.heap u e as->SeqAt.EqAt X.A.in1 s u v (PyData.eqv e d):=λ{e as u} h1 h2=>by
  refine SeqAt.eqAt_reads _ _ _ _ _ _ _ _ h2 r2 (NW h1) (NW s1) ?_
  have:=SeqAt.depth_of_shaped h1
  show X.A.units + 1 + _ < _
  omega
 rcases hq with hq |hq
 ·obtain⟨its,r,pl,hz⟩:=I.list hq
  obtain⟨f,e1,e2⟩:=pI I d r hs s2
  refine SeqAt.notIn_listAt f pl.isList (λw hw=>?_) ⟨.bl _,H,I,rfl,?_⟩
  ·obtain⟨e,as,hm,rd,ef⟩:=e2 w (by simpa using hw)
   rw[ef];exact key (s2 e hm) rd
  ·rw[show its.toArray.any f=its.any f by simp,e1];exact q
 ·obtain⟨its,r,pl,hz⟩:=I.tuple hq
  obtain⟨f,e1,e2⟩:=pI I d r hs s2
  refine SeqAt.notIn_tupleAt f pl (λw hw=>?_) ⟨.bl _,H,I,rfl,?_⟩
  ·obtain⟨e,as,hm,rd,ef⟩:=e2 w (by simpa using hw)
   rw[ef];exact key (s2 e hm) rd
  ·rw[show its.toArray.any f=its.any f by simp,e1];exact q
end
abbrev D:=PyData
def kD:Key->D
 | .inl i=>.int i
 | .inr x=>.str x
mutual
inductive Rp (K:Frag)(G:Hp):V->D->Prop
 |non:Rp K G .non .none
 |bl (b:Bool):Rp K G (.bl b) (.bool b)
 |int (i:Int):Rp K G (.int i) (.int i)
 |str (x:Str):Rp K G (.str x) (.str x)
 |tup {a:Addr} {xs:List V} {ds:List D}:eV K G a xs->b5 K G xs ds->Rp K G (.ref a) (.tuple ds)
 |lst {a:Addr} {xs:List V} {ds:List D}:G a=some (.lst xs)->b5 K G xs ds->Rp K G (.ref a) (.list ds)
 |scr {a:Addr} {ns:List Int}:eY K G a (ns.map V.int)->Rp K G (.ref a) (.dict [(.none,.list (ns.map int))])
 |dK {a:Addr} {kvs:List (Key×V)} {ds:List (D×D)}:G a=some (.dK kvs)->AV K G kvs ds->Rp K G (.ref a) (.dict ds)
 |dT {a:Addr} {kvs:List (List Key×V)} {ds:List (D×D)}:G a=some (.dT kvs)->AZ K G kvs ds->Rp K G (.ref a) (.dict ds)
inductive b5 (K:Frag)(G:Hp):List V->List D->Prop
 |nil:b5 K G [] []
 |cons {x:V} {xs:List V} {d:D} {ds:List D}:Rp K G x d->b5 K G xs ds->b5 K G (x :: xs) (d :: ds)
inductive AV (K:Frag)(G:Hp):List (Key×V)->List (D×D)->Prop
 |nil:AV K G [] []
 |cons {k:Key} {x:V} {xs:List (Key×V)} {d:D} {ds:List (D×D)}:Rp K G x d->AV K G xs ds->AV K G ((k,x) :: xs) ((kD k,d) :: ds)
inductive AZ (K:Frag)(G:Hp):List (List Key×V)->List (D×D)->Prop
 |nil:AZ K G [] []
 |cons {k:List Key} {x:V} {xs:List (List Key×V)} {d:D} {ds:List (D×D)}:Rp K G x d->AZ K G xs ds->AZ K G ((k,x) :: xs) ((.tuple (k.map kD),d) :: ds)
end
section
variable {K:Frag}{G G' H H':Hp}
def Rd.mono {a:Addr}{u:HO}(h:Rd G a u)(s:au G G'):Rd G' a u:=h.elim (λe=>.inl (s _ _ e)) λ⟨o,e⟩=>.inr ⟨o,s _ _ e⟩
mutual
theorem Rp.mono (s:au G G'):∀{x:V} {d:D},Rp K G x d->Rp K G' x d
 |_,_,.non=>.non
 |_,_,.bl b=>.bl b
 |_,_,.int i=>.int i
 |_,_,.str x=>.str x
 |_,_,.tup h hs=>.tup (h.grow s.grow) (b5.mono s hs)
 |_,_,.lst h hs=>.lst (s _ _ h) (b5.mono s hs)
 |_,_,.scr h=>.scr (s.seq h)
 |_,_,.dK h hs=>.dK (s _ _ h) (AV.mono s hs)
 |_,_,.dT h hs=>.dT (s _ _ h) (AZ.mono s hs)
theorem b5.mono (s:au G G'):∀{xs:List V} {ds:List D},b5 K G xs ds->b5 K G' xs ds
 |_,_,.nil=>.nil
 |_,_,.cons h hs=>.cons (Rp.mono s h) (b5.mono s hs)
theorem AV.mono (s:au G G'):∀{xs:List (Key×V)} {ds:List (D×D)},AV K G xs ds->AV K G' xs ds
 |_,_,.nil=>.nil
 |_,_,.cons h hs=>.cons (Rp.mono s h) (AV.mono s hs)
theorem AZ.mono (s:au G G'):∀{xs:List (List Key×V)} {ds:List (D×D)},AZ K G xs ds->AZ K G' xs ds
 |_,_,.nil=>.nil
 |_,_,.cons h hs=>.cons (Rp.mono s h) (AZ.mono s hs)
end
theorem b5.len:∀{xs:List V} {ds:List D},b5 K G xs ds->xs.length=ds.length
 |_,_,.nil=>rfl
 |_,_,.cons _ t=>by simp[b5.len t]
theorem b5.at:∀{xs:List V} {ds:List D} {i:Nat} {d:D},b5 K G xs ds->ds[i]? =some d->∃x,xs[i]? =some x/\Rp K G x d
 |_,_,_,_,.nil,e=>by simp at e
 |_,_,0,_,.cons r _,e=>by simp at e;subst e;exact⟨_,rfl,r⟩
 |_,_,i + 1,x,.cons _ t,e=>by
  obtain⟨u,h1,h2⟩:=b5.at (i:=i) (d:=x) t (by simpa using e)
  exact⟨u,by simpa using h1,h2⟩
theorem b5.at':∀{xs:List V} {ds:List D} {i:Nat} {x:V},b5 K G xs ds->xs[i]? =some x->∃d,ds[i]? =some d/\Rp K G x d
 |_,_,_,_,.nil,e=>by simp at e
 |_,_,0,_,.cons r _,e=>by simp at e;subst e;exact⟨_,rfl,r⟩
 |_,_,i + 1,x,.cons _ t,e=>by
  obtain⟨u,h1,h2⟩:=b5.at' (i:=i) (x:=x) t (by simpa using e)
  exact⟨u,by simpa using h1,h2⟩
theorem b5.append:∀{xs ys:List V} {ds es:List D},b5 K G xs ds->b5 K G ys es->b5 K G (xs ++ ys) (ds ++ es)
 |_,_,_,_,.nil,s=>s
 |_,_,_,_,.cons r t,s=>.cons r (b5.append t s)
def b5.snoc {xs:List V}{ds:List D}{x:V}{d:D}(h:b5 K G xs ds)(q:Rp K G x d):b5 K G (xs ++ [x]) (ds ++ [d]):=h.append (.cons q .nil)
theorem b5.take:∀{xs:List V} {ds:List D} (n:Nat),b5 K G xs ds->b5 K G (xs.take n) (ds.take n)
 |_,_,0,_=>.nil
 |_,_,_ + 1,.nil=>.nil
 |_,_,n + 1,.cons r t=>.cons r (b5.take n t)
theorem b5.drop:∀{xs:List V} {ds:List D} (n:Nat),b5 K G xs ds->b5 K G (xs.drop n) (ds.drop n)
 |_,_,0,r=>r
 |_,_,_ + 1,.nil=>.nil
 |_,_,n + 1,.cons _ t=>b5.drop n t
theorem b5.set {x:V}{d:D}(r:Rp K G x d):∀{xs:List V} {ds:List D} (i:Nat),b5 K G xs ds->b5 K G (xs.set i x) (ds.set i d)
 |_,_,_,.nil=>.nil
 |_,_,0,.cons _ t=>.cons r t
 |_,_,i + 1,.cons q t=>.cons q (b5.set r i t)
theorem b5.rep {n:Nat}{xs:List V}{ds:List D}(h:b5 K G xs ds):b5 K G (List.replicate n xs).flatten (List.replicate n ds).flatten:=by
 induction n with
 |zero=>exact .nil
 |succ n ih=>rw[Nr,Nr,N6,N6];exact h.append ih
mutual
def BO:D->Bool
 | .dict _=>false
 | .list ds=>ql ds
 | .tuple ds=>ql ds
 |_=>true
def ql:List D->Bool
 | []=>true
 |d :: ds=>BO d && ql ds
end
mutual
theorem Rp.rep:∀{x:V} {d:D},Rp K G x d->BO d=true->Rep K G x d
 |_,_,.non,_=>.non
 |_,_,.bl b,_=>.bl b
 |_,_,.int i,_=>.int i
 |_,_,.str x,_=>.str x
 |_,_,.tup h hs,e=>.tup h (b5.reps hs (by simpa[BO] using e))
 |_,_,.lst h hs,e=>.lst (.inl (.inl h)) (b5.reps hs (by simpa[BO] using e))
 |_,_,.scr _,e=>by simp[BO] at e
 |_,_,.dK _ _,e=>by simp[BO] at e
 |_,_,.dT _ _,e=>by simp[BO] at e
theorem b5.reps:∀{xs:List V} {ds:List D},b5 K G xs ds->ql ds=true->il K G xs ds
 |_,_,.nil,_=>.nil
 |_,_,.cons h hs,e=>.cons (Rp.rep h (by simp[ql] at e;exact e.1)) (b5.reps hs (by simp[ql] at e;exact e.2))
end
def Own (K:Frag)(G H:Hp)(a:Addr):D->Prop
 | .list ds=>∃xs,H a=some (.lst xs)/\b5 K G xs ds
 | .dict ds=>(∃kvs,H a=some (.dK kvs)/\AV K G kvs ds)\/∃kvs,H a=some (.dT kvs)/\AZ K G kvs ds
 |_=>False
def Own.obj {a:Addr}{d:D}(h:Own K G H a d):∃o,H a=some o:=by
 cases d <;> first |exact h.elim |skip
 ·obtain⟨xs,e,_⟩:=h;exact⟨_,e⟩
 ·rcases h with⟨_,e,_⟩ | ⟨_,e,_⟩ <;> exact⟨_,e⟩
def Own.mono {a:Addr}{d:D}(h:Own K G H a d)(s:au G G')(m:∀o,H a=some o->H' a=some o):Own K G' H' a d:=by
 cases d <;> first |exact h.elim |skip
 ·obtain⟨xs,e,r⟩:=h;exact⟨xs,m _ e,r.mono s⟩
 ·rcases h with⟨k,e,r⟩ | ⟨k,e,r⟩
  ·exact .inl ⟨k,m _ e,r.mono s⟩
  ·exact .inr ⟨k,m _ e,r.mono s⟩
def Own.rp {a:Addr}{d:D}(h:Own K G H a d)(n:G a=none){G':Hp}(s:au G G')(e:∀o,H a=some o->G' a=some o):Rp K G' (.ref a) d:=by
 cases d <;> first |exact h.elim |skip
 ·obtain⟨xs,q,r⟩:=h;exact .lst (e _ q) (r.mono s)
 ·rcases h with⟨k,q,r⟩ | ⟨k,q,r⟩
  ·exact .dK (e _ q) (r.mono s)
  ·exact .dT (e _ q) (r.mono s)
def kZ (K:Frag)(B:Option Addr)(G H:Hp)(v:V)(d:D):Prop:=Rp K G v d\/∃a,v=.ref a/\B≠some a/\Own K G H a d
def iK (B:Option Addr)(H H':Hp):Prop:=∀b o,H b=some o->B≠some b->H' b=some o
def iK.refl (B:Option Addr)(H:Hp):iK B H H:=λ_ _ h _=>h
def iK.trans {B:Option Addr}{H1:Hp}(x:iK B H H1)(y:iK B H1 H'):iK B H H':=λb o h n=>y b o (x b o h n) n
def au.mov (s:au H H')(B:Option Addr):iK B H H':=λb o h _=>s b o h
def kZ.mono {B:Option Addr}{v:V}{d:D}(h:kZ K B G H v d)(s:au G G')(m:iK B H H'):kZ K B G' H' v d:=by
 rcases h with h | ⟨a,e,n,h⟩
 ·exact .inl (h.mono s)
 ·exact .inr ⟨a,e,n,h.mono s λo q=>m a o q n⟩
def kZ.rpH {B:Option Addr}{v:V}{d:D}(h:kZ K B G H v d)(s:au G H):Rp K H v d:=by
 rcases h with h | ⟨a,rfl,n,h⟩
 ·exact h.mono s
 ·cases d <;> first |exact h.elim |skip
  ·obtain⟨xs,q,r⟩:=h;exact .lst q (r.mono s)
  ·rcases h with⟨k,q,r⟩ | ⟨k,q,r⟩
   ·exact .dK q (r.mono s)
   ·exact .dT q (r.mono s)
def kZ.list {B:Option Addr}{v:V}{ds:List D}(h:kZ K B G H v (.list ds))(s:au G H):∃a xs,v=.ref a/\Rd H a (.lst xs)/\b5 K G xs ds:=by
 rcases h with h | ⟨a,rfl,n,xs,q,r⟩
 ·cases h with
  |lst h r=>exact⟨_,_,rfl,.inl (s _ _ h),r⟩
 ·exact⟨a,xs,rfl,.inl q,r⟩
def kZ.tuple {B:Option Addr}{v:V}{ds:List D}(h:kZ K B G H v (.tuple ds))(s:au G H):∃a xs,v=.ref a/\eV K H a xs/\b5 K G xs ds:=by
 rcases h with h | ⟨a,rfl,n,h⟩
 ·cases h with
  |tup h r=>exact⟨_,_,rfl,h.grow s.grow,r⟩
 ·exact h.elim
def kZ.int {B:Option Addr}{v:V}{i:Int}(h:kZ K B G H v (.int i)):v=.int i:=by
 rcases h with h | ⟨a,rfl,n,h⟩
 ·cases h;rfl
 ·exact h.elim
def kZ.bool {B:Option Addr}{v:V}{b:Bool}(h:kZ K B G H v (.bool b)):v=.bl b:=by
 rcases h with h | ⟨a,rfl,n,h⟩
 ·cases h;rfl
 ·exact h.elim
def kZ.str {B:Option Addr}{v:V}{x:Str}(h:kZ K B G H v (.str x)):v=.str x:=by
 rcases h with h | ⟨a,rfl,n,h⟩
 ·cases h;rfl
 ·exact h.elim
def kZ.none {B:Option Addr}{v:V}(h:kZ K B G H v .none):v=.non:=by
 rcases h with h | ⟨a,rfl,n,h⟩
 ·cases h;rfl
 ·exact h.elim
end
def Fz:HO->Prop
 | .tup _=>True
 | .bq _ _=>True
 |_=>False
def Mx (H:Hp)(b:Addr):Prop:=H b≠none/\∀o,H b=some o->¬Fz o
def Mx.lst {H:Hp}{b:Addr}{xs:List V}(h:H b=some (.lst xs)):Mx H b:=⟨by rw[h];simp,λys z=>by rw[h] at z;cases z;exact λy=>y⟩
theorem Mx.same {H H':Hp}{b:Addr}(h:Mx H b)(m:∀o,H b=some o->H' b=some o):Mx H' b:=by
 obtain⟨h1,h2⟩:=h
 cases e:H b with
 |none=>exact absurd e h1
 |some o=>
  refine⟨by rw[m o e];simp,λxs z=>?_⟩
  rw[m o e] at z
  cases z
  exact h2 o e
def Own.mx {K:Frag}{G H:Hp}{a:Addr}{d:D}(h:Own K G H a d):Mx H a:=by
 cases d <;> first |exact h.elim |skip
 ·obtain⟨xs,e,_⟩:=h;exact Mx.lst e
 ·rcases h with⟨k,e,_⟩ | ⟨k,e,_⟩ <;> exact⟨by rw[e];simp,λys z=>by rw[e] at z;cases z;exact λy=>y⟩
open Classical in
noncomputable def ly (G H:Hp):Hp:=λb=>match G b with
 |some o=>some o
 |none=>match H b with
  |some o=>if Fz o then some o else none
  |none=>none
def ra {G H:Hp}:au G (ly G H):=λb o e=>by unfold ly;rw[e]
theorem yd {G H:Hp}(s:au G H){b:Addr}{o:HO}(e:H b=some o)(f:Fz o):ly G H b=some o:=by
 unfold ly
 cases q:G b with
 |some u=>have:=s b u q;rw[e] at this;cases this;rfl
 |none=>simp only[e];rw[MA f]
theorem u4 {G H:Hp}(s:au G H):au (ly G H) H:=λb o e=>by
 unfold ly at e
 cases q:G b with
 |some u=>rw[q] at e;cases e;exact s b _ q
 |none=>
  rw[q] at e
  cases q2:H b with
  |none=>rw[q2] at e;cases e
  |some u=>
   rw[q2] at e
   dsimp only at e
   split at e
   ·cases e;rfl
   ·cases e
theorem yQ {G H H':Hp}(hh:au H H'){b:Addr}(m:Mx H b):ly G H' b=G b:=by
 unfold ly
 cases q:G b with
 |some u=>rfl
 |none=>
  obtain⟨h1,h2⟩:=m
  cases e:H b with
  |none=>exact absurd e h1
  |some o=>
   simp only[hh b o e]
   rw[MF (h2 o e)]
def lP {K:Frag}{G H:Hp}(s:au G H){a:Addr}{xs:List V}(h:eV K H a xs):eV K (ly G H) a xs:=by
 rcases h with (h | ⟨o,h⟩) |h
 ·exact .inl (.inl (yd s h trivial))
 ·exact .inl (.inr ⟨o,yd s h trivial⟩)
 ·exact .inr h
structure Fx where
 K:Frag
 H0:Hp
 G0:Hp
 par:List Addr
 ca:Str->Addr
 br:Nat->Bool
 bx:Option Addr
inductive Sl where
 |no |fz (d:D) |ow (d:D) |bx |br (d:D)
abbrev En:=List Sl
inductive Nv where
 |no |da (d:D) |bx
def Sl.val:Sl->Nv
 | .no=>.no
 | .fz d=>.da d
 | .ow d=>.da d
 | .br d=>.da d
 | .bx=>.bx
def vl (env:En):List Nv:=env.map Sl.val
def LQ (Γ:Fx)(B:Option Addr)(G H:Hp)(i:Nat)(o:Option (Option V)):Sl->Prop
 | .no=>True
 | .fz d=>∃v,o=some (some v)/\Rp Γ.K G v d
 | .ow d=>∃a,o=some (some (.ref a))/\Γ.H0 a=none/\G a=none/\B≠some a/\Own Γ.K G H a d
 | .bx=>∃a,o=some (some (.ref a))/\B=some a
 | .br d=>Γ.br i=true/\∃a,o=some (some (.ref a))/\B≠some a/\a∉Γ.par/\Own Γ.K G H a d
structure SR (Γ:Fx)(B:Option Addr)(G H:Hp)(σ:St)(env:En)(β:Int):Prop where
 sub:au G H
 old:au Γ.G0 G
 new:∀b,Mx Γ.H0 b->Γ.G0 b=none->G b=none
 keep:∀b o,Γ.H0 b=some o->b∉Γ.par->H b=some o
 pin:∀b,b∈Γ.par->Mx H b
 fix:∀b,Γ.bx=some b->B=some b
 box:∀b,B=some b->H b=some (.lst [.int β])/\G b=none/\(b∈Γ.par\/Γ.H0 b=none)
 len:σ.length=env.length
 slot:∀(i:Nat) (s:Sl),env[i]? =some s->LQ Γ B G H i (σ[i]?) s
 sep:∀(i j:Nat) (a:Addr) (d e:D),env[i]? =some (.ow d)->env[j]? =some (.ow e)->σ[i]? =some (some (.ref a))->σ[j]? =some (some (.ref a))->i=j
structure Ext (G H G' H':Hp):Prop where
 hh:au H H'
 gg:au G G'
 gh:au G' H'
 on:∀b,Mx H b->G' b=G b
def Ext.refl {G H:Hp}(s:au G H):Ext G H G H:=⟨au.refl _,au.refl _,s,λ_ _=>rfl⟩
def Ext.tups {G H H':Hp}(s:au G H)(hh:au H H'):Ext G H (ly G H') H':=⟨hh,ra,u4 (s.trans hh),λ_ m=>yQ hh m⟩
def Ext.new {G H:Hp}(s:au G H){p:Addr}{o:HO}(h:H p=none):Ext G H (upd G p o) (upd H p o):=by
 refine⟨au.new h,au.new (s.free h),λb u e=>?_,λb hb=>?_⟩
 ·by_cases z:b=p
  ·subst z;rw[aC] at e ⊢;exact e
  ·rw[aF z] at e ⊢;exact s b u e
 ·exact aF (λz=>hb.1 (by rw[z];exact h))
def Ext.own {G H:Hp}(s:au G H){p:Addr}{o:HO}(h:H p=none):Ext G H G (upd H p o):=
 ⟨au.new h,au.refl _,s.trans (au.new h),λ_ _=>rfl⟩
def Ext.trans {G H G1 H1 G2 H2:Hp}(x:Ext G H G1 H1)(y:Ext G1 H1 G2 H2):Ext G H G2 H2:=by
 refine⟨x.hh.trans y.hh,x.gg.trans y.gg,y.gh,λb hb=>?_⟩
 rw[y.on b (hb.same λo e=>x.hh b o e),x.on b hb]
section
variable {Γ:Fx}{B:Option Addr}{G H G' H':Hp}{σ:St}{env:En}{β:Int}
def SR.there (I:SR Γ B G H σ env β){b:Addr}(h:Γ.H0 b≠none):H b≠none:=by
 by_cases hp:b∈Γ.par
 ·exact (I.pin b hp).1
 ·cases e:Γ.H0 b with
  |none=>exact absurd e h
  |some o=>rw[I.keep b o e hp];simp
def SR.thereM (I:SR Γ B G H σ env β){b:Addr}(h:Mx Γ.H0 b):Mx H b:=by
 by_cases hp:b∈Γ.par
 ·exact I.pin b hp
 ·exact h.same λo e=>I.keep b o e hp
def SR.ext (I:SR Γ B G H σ env β)(x:Ext G H G' H'):SR Γ B G' H' σ env β:=by
 refine⟨x.gh,I.old.trans x.gg,λb h1 h2=>?_,λb o h1 h2=>x.hh b o (I.keep b o h1 h2),λb hb=>?_,I.fix,λb e=>?_,I.len,λi s e=>?_,I.sep⟩
 ·rw[x.on b (I.thereM h1)];exact I.new b h1 h2
 ·exact (I.pin b hb).same λo e=>x.hh b o e
 ·obtain⟨h1,h2,h3⟩:=I.box b e
  exact⟨x.hh b _ h1,by rw[x.on b (Mx.lst h1)];exact h2,h3⟩
 ·have q:=I.slot i s e
  cases s with
  |no=>trivial
  |fz d=>obtain⟨v,h1,h2⟩:=q;exact⟨v,h1,h2.mono x.gg⟩
  |ow d=>
   obtain⟨a,h1,h2,h3,h4,h5⟩:=q
   exact⟨a,h1,h2,by rw[x.on a h5.mx];exact h3,h4,h5.mono x.gg λo q=>x.hh a o q⟩
  |bx=>exact q
  |br d=>obtain⟨b1,a,h1,h4,hp,h5⟩:=q;exact⟨b1,a,h1,h4,hp,h5.mono x.gg λo q=>x.hh a o q⟩
def ja (env:En)(i:Nat):En:=match env[i]? with
 |some (.ow d)=>env.set i (.fz d)
 |_=>env
def bq (L:List Nat)(env:En):En:=L.foldl ja env
def cf (L M:List Nat)(env:En):bq (L ++ M) env=bq M (bq L env):=by unfold bq;rw[List.foldl_append]
def xp (env:En)(i:Nat)(s:Sl)(h:∀t,env[i]? =some t->t.val=s.val):vl (env.set i s)=vl env:=by
 unfold vl
 apply OF
 intro j
 rw[MG,MG,List.getElem?_set]
 by_cases e:i=j
 ·subst e
  by_cases hi:i < env.length
  ·simp only[NC,hi]
   have:=h _ (Mu hi)
   simp[Mu hi,this]
  ·simp only[NC,hi,Nk]
   rw[NS (by omega)]
 ·simp[e]
def FD (env:En)(i:Nat):vl (ja env i)=vl env:=by
 unfold ja
 split
 ·rename_i d e
  exact xp _ _ _ λt ht=>by rw[e] at ht;cases ht;rfl
 ·rfl
theorem eQ (L:List Nat)(env:En):vl (bq L env)=vl env:=by
 unfold bq
 induction L generalizing env with
 |nil=>rfl
 |cons i L ih=>rw[O9,ih,FD]
theorem GB {i:Nat}{d:D}(h:(vl env)[i]? =some (.da d)):env[i]? =some (.fz d)\/env[i]? =some (.ow d)\/env[i]? =some (.br d):=by
 unfold vl at h
 rw[MG] at h
 cases e:env[i]? with
 |none=>rw[e] at h;simp at h
 |some s=>
  rw[e] at h
  cases s with
  |no=>simp[Sl.val] at h
  |fz d'=>simp[Sl.val] at h;subst h;exact .inl rfl
  |ow d'=>simp[Sl.val] at h;subst h;exact .inr (.inl rfl)
  |bx=>simp[Sl.val] at h
  |br d'=>simp[Sl.val] at h;subst h;exact .inr (.inr rfl)
theorem JD {i:Nat}(h:(vl env)[i]? =some .bx):env[i]? =some .bx:=by
 unfold vl at h
 rw[MG] at h
 cases e:env[i]? with
 |none=>rw[e] at h;simp at h
 |some s=>
  rw[e] at h
  cases s with
  |bx=>rfl
  |_=>simp[Sl.val] at h
def SR.freeze (I:SR Γ B G H σ env β)(i:Nat)(hb:Γ.br i=false){d:D}(h:(vl env)[i]? =some (.da d)):∃G' v,SR Γ B G' H σ (ja env i) β/\au G G'/\σ[i]? =some (some v)/\Rp Γ.K G' v d:=by
 rcases GB h with e |e |e
 ·obtain⟨v,h1,h2⟩:=I.slot i _ e
  exact⟨G,v,by unfold ja;rw[e];exact I,au.refl _,h1,h2⟩
 rotate_left
 ·obtain⟨z,_⟩:=I.slot i _ e
  rw[hb] at z;cases z
 ·obtain⟨a,h1,h2,h3,h4,h5⟩:=I.slot i _ e
  obtain⟨o,ho⟩:=h5.obj
  have sG:au G (upd G a o):=au.new h3
  have hi:i < env.length:=(MJ.mp e).1
  have hr:Rp Γ.K (upd G a o) (.ref a) d:=h5.rp h3 sG λo' q=>by rw[ho] at q;cases q;exact aC
  refine⟨upd G a o,.ref a,?_,sG,h1,hr⟩
  unfold ja
  rw[e]
  refine⟨λb u q=>?_,I.old.trans sG,λb n1 n2=>?_,I.keep,I.pin,I.fix,λb q=>?_,by rw[NK];exact I.len,λj s q=>?_,λj k c d1 d2 q1 q2 q3 q4=>?_⟩
  ·by_cases z:b=a
   ·subst z;rw[aC] at q;cases q;exact ho
   ·rw[aF z] at q;exact I.sub b u q
  ·rw[aF (λz=>n1.1 (by rw[z];exact h2))];exact I.new b n1 n2
  ·obtain⟨k1,k2,k3⟩:=I.box b q
   exact⟨k1,by rw[aF (λz=>h4 (by rw[<-z];exact q))];exact k2,k3⟩
  ·by_cases z:j=i
   ·subst z
    rw[MV hi] at q
    cases q
    exact⟨.ref a,h1,hr⟩
   ·rw[MR (Ne.symm z)] at q
    have w:=I.slot j s q
    cases s with
    |no=>trivial
    |fz d'=>obtain⟨v,w1,w2⟩:=w;exact⟨v,w1,w2.mono sG⟩
    |ow d'=>
     obtain⟨c,w1,w2,w3,w4,w5⟩:=w
     have ca:c≠a:=λz2=>z (I.sep j i c d' d q e w1 (by rw[z2];exact h1))
     exact⟨c,w1,w2,by rw[aF ca];exact w3,w4,w5.mono sG λo q=>q⟩
    |bx=>exact w
    |br d'=>obtain⟨b1,c,w1,w4,wp,w5⟩:=w;exact⟨b1,c,w1,w4,wp,w5.mono sG λo q=>q⟩
  ·have ne:∀{j:Nat} {d':D},(env.set i (Sl.fz d))[j]? =some (.ow d')->env[j]? =some (.ow d'):=λ{j d'} q=>by
    by_cases z:j=i
    ·subst z;rw[MV hi] at q;cases q
    ·rw[MR (Ne.symm z)] at q;exact q
   exact I.sep j k c d1 d2 (ne q1) (ne q2) q3 q4
theorem SR.bq (I:SR Γ B G H σ env β)(L:List Nat)(hb:∀i,i∈L->Γ.br i=false):∃G',SR Γ B G' H σ (bq L env) β/\au G G':=by
 induction L generalizing env G with
 |nil=>exact⟨G,I,au.refl _⟩
 |cons i L ih=>
  show ∃G',SR Γ B G' H σ (L2.bq L (ja env i)) β/\au G G'
  have key:∃G1,SR Γ B G1 H σ (ja env i) β/\au G G1:=by
   cases e:env[i]? with
   |none=>exact⟨G,by unfold ja;rw[e];exact I,au.refl _⟩
   |some s=>
    cases s with
    |ow d=>
     obtain⟨G1,v,h1,h2,_⟩:=I.freeze i (hb i (MC ..)) (d:=d) (by unfold vl;rw[MG,e];rfl)
     exact⟨G1,h1,h2⟩
    |_=>exact⟨G,by unfold ja;rw[e];exact I,au.refl _⟩
  obtain⟨G1,I1,s1⟩:=key
  obtain⟨G2,I2,s2⟩:=ih I1 λj hj=>hb j (MD _ hj)
  exact⟨G2,I2,s1.trans s2⟩
def SR.set (I:SR Γ B G H σ env β){i:Nat}(hi:i < env.length){v:V}{d:D}(h:Rp Γ.K G v d):SR Γ B G H (σ.set i (some v)) (env.set i (.fz d)) β:=by
 have hs:i < σ.length:=by rw[I.len];exact hi
 refine⟨I.sub,I.old,I.new,I.keep,I.pin,I.fix,I.box,by rw[NK,NK];exact I.len,λj s q=>?_,λj k c d1 d2 q1 q2 q3 q4=>?_⟩
 ·by_cases z:j=i
  ·subst z
   rw[MV hi] at q
   cases q
   exact⟨v,by rw[MV hs],h⟩
  ·rw[MR (Ne.symm z)] at q ⊢
   exact I.slot j s q
 ·have ne:∀{j:Nat} {d':D},(env.set i (Sl.fz d))[j]? =some (.ow d')->j≠i/\env[j]? =some (.ow d'):=λ{j d'} q=>by
   by_cases z:j=i
   ·subst z;rw[MV hi] at q;cases q
   ·rw[MR (Ne.symm z)] at q;exact⟨z,q⟩
  obtain⟨n1,e1⟩:=ne q1
  obtain⟨n2,e2⟩:=ne q2
  rw[MR (Ne.symm n1)] at q3
  rw[MR (Ne.symm n2)] at q4
  exact I.sep j k c d1 d2 e1 e2 q3 q4
def SR.setOw (I:SR Γ B G H σ env β){i:Nat}(hi:i < env.length){a:Addr}{d:D}(h0:Γ.H0 a=none)(hg:G a=none)(hb:B≠some a)(h:Own Γ.K G H a d)(hn:∀(j:Nat) (d':D),env[j]? =some (.ow d')->j≠i->σ[j]?≠some (some (.ref a))):SR Γ B G H (σ.set i (some (.ref a))) (env.set i (.ow d)) β:=by
 have hs:i < σ.length:=by rw[I.len];exact hi
 refine⟨I.sub,I.old,I.new,I.keep,I.pin,I.fix,I.box,by rw[NK,NK];exact I.len,λj s q=>?_,λj k c d1 d2 q1 q2 q3 q4=>?_⟩
 ·by_cases z:j=i
  ·subst z
   rw[MV hi] at q
   cases q
   exact⟨a,by rw[MV hs],h0,hg,hb,h⟩
  ·rw[MR (Ne.symm z)] at q ⊢
   exact I.slot j s q
 ·by_cases z1:j=i
  ·by_cases z2:k=i
   ·rw[z1,z2]
   ·subst z1
    rw[MR (Ne.symm z2)] at q2 q4
    rw[MV hs] at q3
    cases q3
    exact absurd q4 (hn k d2 q2 z2)
  ·by_cases z2:k=i
   ·subst z2
    rw[MR (Ne.symm z1)] at q1 q3
    rw[MV hs] at q4
    cases q4
    exact absurd q3 (hn j d1 q1 z1)
   ·rw[MR (Ne.symm z1)] at q1 q3
    rw[MR (Ne.symm z2)] at q2 q4
    exact I.sep j k c d1 d2 q1 q2 q3 q4
def SR.fresh (I:SR Γ B G H σ env β){a:Addr}(h:H a=none):Γ.H0 a=none/\G a=none/\B≠some a/\∀(j:Nat) (d:D),env[j]? =some (.ow d)->σ[j]?≠some (some (.ref a)):=by
 have hB:B≠some a:=λz=>by rw[(I.box a z).1] at h;cases h
 refine⟨?_,I.sub.free h,hB,λj d e z=>?_⟩
 ·cases e:Γ.H0 a with
  |none=>rfl
  |some o=>exact absurd h (I.there (by rw[e];simp))
 ·obtain⟨c,h1,_,_,_,h5⟩:=I.slot j _ e
  rw[z] at h1
  cases h1
  obtain⟨o,ho⟩:=h5.obj
  rw[h] at ho;cases ho
def SR.write (I:SR Γ B G H σ env β)(hb:∀j,Γ.br j=false){i:Nat}{a:Addr}{d d':D}{o:HO}(e:env[i]? =some (.ow d))(ea:σ[i]? =some (some (.ref a)))(h:∀H',H' a=some o->au G H'->Own Γ.K G H' a d'):SR Γ B G (upd H a o) σ (env.set i (.ow d')) β:=by
 obtain⟨a',h1,h2,h3,h4,h5⟩:=I.slot i _ e
 rw[ea] at h1;cases h1
 have hi:i < env.length:=(MJ.mp e).1
 have sub:au G (upd H a o):=λb u q=>by rw[aF (λz=>by rw[z,h3] at q;cases q)];exact I.sub b u q
 refine⟨sub,I.old,I.new,λb u q n=>?_,λb q=>?_,I.fix,λb q=>?_,by rw[NK];exact I.len,λj s q=>?_,λj k c d1 d2 q1 q2 q3 q4=>?_⟩
 ·rw[aF (λz=>by rw[z,h2] at q;cases q)];exact I.keep b u q n
 ·by_cases z:b=a
  ·subst z;exact (h _ aC sub).mx
  ·exact (I.pin b q).same λo e=>by rw[aF z];exact e
 ·obtain⟨k1,k2,k3⟩:=I.box b q
  exact⟨by rw[aF (λz=>h4 (by rw[<-z];exact q))];exact k1,k2,k3⟩
 ·by_cases z:j=i
  ·subst z
   rw[MV hi] at q
   cases q
   exact⟨a,ea,h2,h3,h4,h _ aC sub⟩
  ·rw[MR (Ne.symm z)] at q
   have w:=I.slot j s q
   cases s with
   |no=>trivial
   |fz d1=>exact w
   |ow d1=>
    obtain⟨c,w1,w2,w3,w4,w5⟩:=w
    have ca:c≠a:=λz2=>z (I.sep j i c d1 d q e w1 (by rw[z2];exact ea))
    exact⟨c,w1,w2,w3,w4,w5.mono (au.refl _) λo q=>by rw[aF ca];exact q⟩
   |bx=>exact w
   |br d1=>obtain⟨b1,_⟩:=w;rw[hb j] at b1;cases b1
 ·have back:∀{j:Nat} {d1:D},(env.set i (Sl.ow d'))[j]? =some (.ow d1)->∃d2,env[j]? =some (.ow d2):=λ{j d1} q=>by
   by_cases z:j=i
   ·subst z;exact⟨d,e⟩
   ·rw[MR (Ne.symm z)] at q;exact⟨d1,q⟩
  obtain⟨_,b1⟩:=back q1
  obtain⟨_,b2⟩:=back q2
  exact I.sep j k c _ _ b1 b2 q3 q4
end
inductive R (α:Type) where
 |ok (a:α) (β:Int)
 |exc (c:Str)
 |bad
def R.bnd {α γ:Type}(r:R α)(k:α->Int->R γ):R γ:=match r with
 | .ok a β=>k a β
 | .exc c=>.exc c
 | .bad=>.bad
def R.of {α:Type}(o:Option α)(β:Int):R α:=match o with
 |some a=>.ok a β
 |none=>.bad
abbrev VF (α:Type):=List Nv->Int->R α
def Kp (Γ:Fx)(H':Hp):Prop:=∀b o,Γ.H0 b=some o->b∉Γ.par->H' b=some o
def Out {α:Type}(Γ:Fx)(E:XK)(r:R α)(P:α->Int->Prop):Prop:=match r with
 | .ok a β=>P a β
 | .exc c=>∀H',Kp Γ H'->E (.ref (Γ.ca c)) none H'
 | .bad=>False
section
variable {α γ:Type}{Γ:Fx}{E:XK}
theorem Out.bnd {r:R α}{k:α->Int->R γ}{P:γ->Int->Prop}(h:Out Γ E (r.bnd k) P):Out Γ E r λa β=>Out Γ E (k a β) P:=by
 cases r with
 |ok a β=>exact h
 |exc c=>exact h
 |bad=>exact h
theorem Out.imp {r:R α}{P P':α->Int->Prop}(h:Out Γ E r P)(i:∀a β,P a β->P' a β):Out Γ E r P':=by
 cases r with
 |ok a β=>exact i a β h
 |exc c=>exact h
 |bad=>exact h
theorem Out.of {o:Option α}{β:Int}{P:α->Int->Prop}(h:Out Γ E (R.of o β) P):∃a,o=some a/\P a β:=by
 cases o with
 |none=>exact h.elim
 |some a=>exact⟨a,rfl,h⟩
end
inductive Md where
 |b |v |w
def VO (K:Frag)(B:Option Addr)(H G' H':Hp):Md->D->V->Prop
 | .b,d,v=>kZ K B G' H' v d
 | .v,d,v=>Rp K G' v d
 | .w,d,v=>∃a,v=.ref a/\H a=none/\G' a=none/\Own K G' H' a d
def pT (Γ:Fx)(E:XK)(f:VF D)(L:List Nat)(md:Md):TE:=λσ H Q=>∃env G B β,SR Γ B G H σ env β/\
 Out Γ E (f (vl env) β) λd β'=>∀v G' H',SR Γ B G' H' σ (bq L env) β'->au G G'->iK B H H'->VO Γ.K B H G' H' md d v->Q v H'
def SE (X:Cx)(Γ:Fx)(E:XK)(e:Expr)(f:VF D)(L:List Nat)(md:Md):Prop:=PE X e (pT Γ E f L md)
def qT (Γ:Fx)(E:XK)(f:VF Bool)(L:List Nat):TT:=λσ H Q=>∃env G B β,SR Γ B G H σ env β/\
 Out Γ E (f (vl env) β) λc β'=>∀G' H',SR Γ B G' H' σ (bq L env) β'->au G G'->iK B H H'->Q c H'
def x9 (X:Cx)(Γ:Fx)(E:XK)(e:Expr)(f:VF Bool)(L:List Nat):Prop:=PT X e (qT Γ E f L)
def tY (X:Cx)(Γ:Fx)(E:XK)(e:Expr)(f:VF Bool)(L:List Nat):Prop:=PW X e (qT Γ E f L)
def aT (Γ:Fx)(E:XK)(f:VF (List D))(L:List Nat):TA:=λσ H Q=>∃env G B β,SR Γ B G H σ env β/\
 Out Γ E (f (vl env) β) λds β'=>∀vs G' H',SR Γ B G' H' σ (bq L env) β'->au G G'->iK B H H'->b5 Γ.K G' vs ds->Q vs H'
def SA (X:Cx)(Γ:Fx)(E:XK)(es:List Expr)(f:VF (List D))(L:List Nat):Prop:=PA X es (aT Γ E f L)
def PE.post' {X:Cx}{e:Expr}{t u:TE}(h:PE X e t)(m:∀σ H Q,u σ H Q->t σ H Q):PE X e u:=λpins s σ H Q I q=>h pins s σ H Q I (m σ H Q q)
def PT.post {X:Cx}{e:Expr}{t u:TT}(h:PT X e t)(m:∀σ H Q,u σ H Q->t σ H Q):PT X e u:=λpins s σ H Q I q=>h pins s σ H Q I (m σ H Q q)
def PW.post {X:Cx}{e:Expr}{t u:TT}(h:PW X e t)(m:∀σ H Q,u σ H Q->t σ H Q):PW X e u:=λwh pins s σ H Q I q=>h wh pins s σ H Q I (m σ H Q q)
def PA.post {X:Cx}{es:List Expr}{t u:TA}(h:PA X es t)(m:∀σ H Q,u σ H Q->t σ H Q):PA X es u:=λpos pins s σ H Q I q=>h pos pins s σ H Q I (m σ H Q q)
def PS.post {X:Cx}{st:Stmt}{t u:TS}(h:PS X st t)(m:∀D σ H,u D σ H->t D σ H):PS X st u:=λpins s σ H D I q=>h pins s σ H D I (m D σ H q)
def dat:Option Nv->Option D
 |some (.da d)=>some d
 |_=>none
def gv (i:Nat):VF D:=λvs β=>R.of (dat vs[i]?) β
def cst (d:D):VF D:=λ_ β=>.ok d β
section
variable {X:Cx}{Γ:Fx}{E:XK}{e a b c:Expr}{f fa fb fc:VF D}{L La Lb Lc:List Nat}{md ma mb mc:Md}{pos:Pos}
theorem join_some {o:Option Nv}{d:D}(h:dat o=some d):o=some (.da d):=by
 cases o with
 |none=>cases h
 |some o=>cases o with
  |da x=>cases h;rfl
  |_=>cases h
def SR.letIn {B:Option Addr}{G H:Hp}{σ:St}{env:En}{β:Int}(I:SR Γ B G H σ env β){p:Addr}{d:D}(h0:Γ.H0 p=none)(hg:G p=none)(hb:B≠some p)(hn:∀(j:Nat) (d':D),env[j]? =some (.ow d')->σ[j]?≠some (some (.ref p)))(h:Own Γ.K G H p d) :
  ∃G',SR Γ B G' H σ env β/\au G G'/\Rp Γ.K G' (.ref p) d:=by
 obtain⟨o,ho⟩:=h.obj
 have sG:au G (upd G p o):=au.new hg
 refine⟨upd G p o,⟨λb u q=>?_,I.old.trans sG,λb n1 n2=>?_,I.keep,I.pin,I.fix,λb q=>?_,I.len,λj s q=>?_,I.sep⟩,sG,h.rp hg sG λo' q=>by rw[ho] at q;cases q;exact aC⟩
 ·by_cases z:b=p
  ·subst z;rw[aC] at q;cases q;exact ho
  ·rw[aF z] at q;exact I.sub b u q
 ·rw[aF (λz=>n1.1 (by rw[z];exact h0))];exact I.new b n1 n2
 ·obtain⟨k1,k2,k3⟩:=I.box b q
  exact⟨k1,by rw[aF (λz=>hb (by rw[<-z];exact q))];exact k2,k3⟩
 ·have w:=I.slot j s q
  cases s with
  |no=>trivial
  |fz d'=>obtain⟨v,w1,w2⟩:=w;exact⟨v,w1,w2.mono sG⟩
  |ow d'=>
   obtain⟨c,w1,w2,w3,w4,w5⟩:=w
   have ca:c≠p:=λz2=>hn j d' q (by rw[<-z2];exact w1)
   exact⟨c,w1,w2,by rw[aF ca];exact w3,w4,w5.mono sG λo q=>q⟩
  |bx=>exact w
  |br d'=>obtain⟨b1,c,w1,w4,wp,w5⟩:=w;exact⟨b1,c,w1,w4,wp,w5.mono sG λo q=>q⟩
def yu {env:En}{i j:Nat}{d:D}(h:(ja env i)[j]? =some (.ow d)):env[j]? =some (.ow d):=by
 unfold ja at h
 split at h
 ·rename_i d' e
  by_cases z:i=j
  ·subst z
   rw[MV (MJ.mp e).1] at h;cases h
  ·rw[MR z] at h;exact h
 ·exact h
theorem sU {L:List Nat}{env:En}{j:Nat}{d:D}(h:(bq L env)[j]? =some (.ow d)):env[j]? =some (.ow d):=by
 unfold bq at h
 induction L generalizing env with
 |nil=>exact h
 |cons i L ih=>exact yu (ih h)
def SR.letW {B:Option Addr}{G H G' H':Hp}{σ:St}{env:En}{β β':Int}{L:List Nat}{d:D}{v:V}(I:SR Γ B G H σ env β)(I':SR Γ B G' H' σ (L2.bq L env) β')(h:VO Γ.K B H G' H' .w d v):∃G2,SR Γ B G2 H' σ (L2.bq L env) β'/\au G' G2/\Rp Γ.K G2 v d:=by
 obtain⟨p,rfl,h1,h2,h3⟩:=h
 obtain⟨q1,q2,q3,q4⟩:=I.fresh h1
 exact I'.letIn q1 h2 q3 (λj d' e=>q4 j d' (sU e)) h3
def SE.wv (h:SE X Γ E e f L .w):SE X Γ E e f L .v:=by
 refine PE.post' h λσ H Q ⟨env,G,B,β,I,o⟩=>⟨env,G,B,β,I,o.imp λd β' k v G' H' I' s m vo=>?_⟩
 obtain⟨G2,I2,s2,r⟩:=I.letW I' vo
 exact k v G2 H' I2 (s.trans s2) m r
theorem VO.brw {B:Option Addr}{H G' H':Hp}{d:D}{v:V}{K:Frag}(h:VO K B H G' H' md d v)(hB:∀x,B=some x->H x≠none):kZ K B G' H' v d:=by
 cases md with
 |b=>exact h
 |v=>exact .inl h
 |w=>
  obtain⟨p,rfl,h1,h2,h3⟩:=h
  exact .inr ⟨p,rfl,λz=>hB p z h1,h3⟩
def SR.boxThere {B:Option Addr}{G H:Hp}{σ:St}{env:En}{β:Int}(I:SR Γ B G H σ env β):∀x,B=some x->H x≠none:=λx e=>by rw[(I.box x e).1];simp
def af (i:Nat){x:Str}(hN:X.N[i]? =some x:=by rfl)(hv:AW X.env.scope x:=by first |exact Or.inl rfl |exact Or.inr (Or.inl rfl) |exact Or.inr (Or.inr rfl))(hd:(x == ("__debug__":Str))=false:=by decide)
  (hcd:(x == ("__classdict__":Str))=false:=by decide):SE X Γ E (.Name x pos) (gv i) [] .b:=by
 refine PE.post' (jO hN hv hd hcd) λσ H Q ⟨env,G,B,β,I,o⟩=>?_
 obtain⟨d,e,k⟩:=o.of
 have e:=join_some e
 rcases GB e with q |q |q
 ·obtain⟨v,h1,h2⟩:=I.slot i _ q
  exact⟨v,h1,k v G H I (au.refl _) (iK.refl _ _) (.inl h2)⟩
 ·obtain⟨p,h1,h2,h3,h4,h5⟩:=I.slot i _ q
  exact⟨.ref p,h1,k _ G H I (au.refl _) (iK.refl _ _) (.inr ⟨p,rfl,h4,h5⟩)⟩
 ·obtain⟨_,p,h1,h4,_,h5⟩:=I.slot i _ q
  exact⟨.ref p,h1,k _ G H I (au.refl _) (iK.refl _ _) (.inr ⟨p,rfl,h4,h5⟩)⟩
def av (i:Nat)(hb:Γ.br i=false){x:Str}(hN:X.N[i]? =some x:=by rfl)(hv:AW X.env.scope x:=by first |exact Or.inl rfl |exact Or.inr (Or.inl rfl) |exact Or.inr (Or.inr rfl))(hd:(x == ("__debug__":Str))=false:=by decide)
  (hcd:(x == ("__classdict__":Str))=false:=by decide):SE X Γ E (.Name x pos) (gv i) [i] .v:=by
 refine PE.post' (jO hN hv hd hcd) λσ H Q ⟨env,G,B,β,I,o⟩=>?_
 obtain⟨d,e,k⟩:=o.of
 obtain⟨G',v,I',s,h1,h2⟩:=I.freeze i hb (join_some e)
 exact⟨v,h1,k v G' H I' s (iK.refl _ _) h2⟩
def Cq {v:V}{d:D}(h:PE X e (tC v))(r:∀G,Rp Γ.K G v d):SE X Γ E e (cst d) [] .v:=by
 refine PE.post' h λσ H Q ⟨env,G,B,β,I,o⟩=>?_
 exact o v G H I (au.refl _) (iK.refl _ _) (r G)
def aB {i:Int}{j}:SE X Γ E (.Constant (.int i) j pos) (cst (.int i)) [] .v:=Cq rZ λ_=>.int i
def gp {i:Bool}{j}:SE X Γ E (.Constant (.bool i) j pos) (cst (.bool i)) [] .v:=Cq yg λ_=>.bl i
def Hb {j}:SE X Γ E (.Constant .none j pos) (cst .none) [] .v:=Cq Hk λ_=>.non
def lq {x:Str}{j}:SE X Γ E (.Constant (.str x) j pos) (cst (.str x)) [] .v:=Cq HC λ_=>.str x
def Fs {x:Str}{i:Int}{t:Tok}(hg:Gl X x)(hm:X.mg x=some (.int i t))(hd:(x == ("__debug__":Str))=false:=by decide):SE X Γ E (.Name x pos) (cst (.int i)) [] .v:=Cq (FL hg hm (show RelV (.int i) _ from⟨_,rfl⟩) hd) λ_=>.int i
def two {W:V->V->Hp->Prop}{B:Option Addr}{G H:Hp}{σ:St}{env:En}{β:Int}(I:SR Γ B G H σ env β)
  (h:Out Γ E (fa (vl env) β) λd1 β1=>Out Γ E (fb (vl env) β1) λd2 β2=>∀x y G2 H2,SR Γ B G2 H2 σ (bq (La ++ Lb) env) β2->au G G2->iK B H H2->kZ Γ.K B G2 H2 x d1->kZ Γ.K B G2 H2 y d2->W x y H2) :
  pT Γ E fa La ma σ H λx H1=>pT Γ E fb Lb mb σ H1 λy H2=>W x y H2:=by
 refine⟨env,G,B,β,I,h.imp λd1 β1 h x G1 H1 I1 s1 m1 vx=>⟨bq La env,G1,B,β1,I1,?_⟩⟩
 rw[eQ]
 refine h.imp λd2 β2 k y G2 H2 I2 s2 m2 vy=>?_
 refine k x y G2 H2 (by rw[cf];exact I2) (s1.trans s2) (m1.trans m2) ((vx.brw I.boxThere).mono s2 m2) (vy.brw I1.boxThere)
def mG (K:Frag)(r:R2)(g:D->D->Option D)(md:Md):Prop:=∀(B:Option Addr) (G H:Hp) (x y:V) (dx dy d:D) (Q:VK),au G H->(∀x,B=some x->H x≠none)->kZ K B G H x dx->kZ K B G H y dy->g dx dy=some d->
 (∀v G' H',Ext G H G' H'->VO K B H G' H' md d v->Q v H')->r x y H Q
def f2 (fa fb:VF D)(g:D->D->Option D):VF D:=λvs β=>(fa vs β).bnd λx β1=>(fb vs β1).bnd λy β2=>R.of (g x y) β2
theorem fq {B:Option Addr}{H H2:Hp}(m:iK B H H2)(hB:∀x,B=some x->H2 x≠none){p:Addr}(h:H2 p=none):H p=none:=by
 cases e:H p with
 |none=>rfl
 |some o=>rw[m p o e λz=>hB p z h] at h;cases h
theorem VO.back {K:Frag}{B:Option Addr}{H H2 G' H':Hp}{d:D}{v:V}(h:VO K B H2 G' H' md d v)(m:iK B H H2)(hB:∀x,B=some x->H2 x≠none):VO K B H G' H' md d v:=by
 cases md with
 |b=>exact h
 |v=>exact h
 |w=>obtain⟨p,e,h1,h2,h3⟩:=h;exact⟨p,e,fq m hB h1,h2,h3⟩
def mz {r:R2}{g:D->D->Option D}{Q:VK}(pr:mG Γ.K r g md){B:Option Addr}{G H:Hp}{σ:St}{env:En}{β:Int}(I:SR Γ B G H σ env β)
  (h:Out Γ E (f2 fa fb g (vl env) β) λd β'=>∀v G' H',SR Γ B G' H' σ (bq (La ++ Lb) env) β'->au G G'->iK B H H'->VO Γ.K B H G' H' md d v->Q v H') :
  pT Γ E fa La ma σ H λx H1=>pT Γ E fb Lb mb σ H1 λy H2=>r x y H2 Q:=by
 refine two I (h.bnd.imp λd1 β1 h=>h.bnd.imp λd2 β2 h x y G2 H2 I2 s2 m2 bx by'=>?_)
 obtain⟨d,e,k⟩:=h.of
 refine pr B G2 H2 x y d1 d2 d Q I2.sub I2.boxThere bx by' e λv G' H' x' vo=>?_
 exact k v G' H' (I2.ext x') (s2.trans x'.gg) (m2.trans (x'.hh.mov B)) (vo.back m2 I2.boxThere)
def bH {op:Operator}{r:R2}{g:D->D->Option D}(ho:lO X (binaryOp op) r)(pr:mG Γ.K r g md)(ha:SE X Γ E a fa La ma)(hb:SE X Γ E b fb Lb mb):SE X Γ E (.BinOp a op b pos) (f2 fa fb g) (La ++ Lb) md:=
 PE.post' (qQ ho ha hb) λσ H Q ⟨env,G,B,β,I,o⟩=>mz pr I o
def lC {op:CmpOp}{r:R2}{g:D->D->Option D}(ho:lO X (compareOp op) r)(pr:mG Γ.K r g md)(ha:SE X Γ E a fa La ma)(hb:SE X Γ E b fb Lb mb)(hm:behindInMarks op b=false):SE X Γ E (.Compare a [op] [b] pos) (f2 fa fb g) (La ++ Lb) md:=
 PE.post' (FN ho ha hb hm) λσ H Q ⟨env,G,B,β,I,o⟩=>mz pr I o
def bt {r:R2}{g:D->D->Option D}(hr:Bq X r)(pr:mG Γ.K r g md)(ha:SE X Γ E a fa La ma)(hb:SE X Γ E b fb Lb mb)(hs:yS b):SE X Γ E (.Subscript a b pos) (f2 fa fb g) (La ++ Lb) md:=
 PE.post' (k7 hr ha hb hs) λσ H Q ⟨env,G,B,β,I,o⟩=>mz pr I o
def AS (K:Frag)(r:V->Hp->VK->Prop)(g:D->Option D)(md:Md):Prop:=∀(B:Option Addr) (G H:Hp) (x:V) (dx d:D) (Q:VK),au G H->(∀x,B=some x->H x≠none)->kZ K B G H x dx->g dx=some d->
 (∀v G' H',Ext G H G' H'->VO K B H G' H' md d v->Q v H')->r x H Q
def f1 (fa:VF D)(g:D->Option D):VF D:=λvs β=>(fa vs β).bnd λx β1=>R.of (g x) β1
def gG {r:V->Hp->VK->Prop}{g:D->Option D}{Q:VK}(pr:AS Γ.K r g md){B:Option Addr}{G H:Hp}{σ:St}{env:En}{β:Int}(I:SR Γ B G H σ env β)
  (h:Out Γ E (f1 fa g (vl env) β) λd β'=>∀v G' H',SR Γ B G' H' σ (bq La env) β'->au G G'->iK B H H'->VO Γ.K B H G' H' md d v->Q v H') :
  pT Γ E fa La ma σ H λx H1=>r x H1 Q:=by
 refine⟨env,G,B,β,I,h.bnd.imp λd1 β1 h x G1 H1 I1 s1 m1 vx=>?_⟩
 obtain⟨d,e,k⟩:=h.of
 refine pr B G1 H1 x d1 d Q I1.sub I1.boxThere (vx.brw I.boxThere) e λv G' H' x' vo=>?_
 exact k v G' H' (I1.ext x') (s1.trans x'.gg) (m1.trans (x'.hh.mov B)) (vo.back m1 I1.boxThere)
def BN {op:UnaryOp}{r:V->Hp->VK->Prop}{g:D->Option D}(ho:KL X (unaryOp op) r)(pr:AS Γ.K r g md)(ha:SE X Γ E a fa La ma):SE X Γ E (.UnaryOp op a pos) (f1 fa g) La md:=
 PE.post' (Gg ho ha) λσ H Q ⟨env,G,B,β,I,o⟩=>gG pr I o
def bb {id:String}{r:List V->Hp->VK->Prop}{g:D->Option D}{x:Str}{p:Pos}(hc:cL X (.builtin id) r)(pr:AS Γ.K (λx=>r [x]) g md)(hg:Gl X x)(hm:X.mg x=none)(hv:bootBuiltins x=some (.builtin id))(ha:SE X Γ E a fa La ma)(hn:x≠"__name__":=by decide)(hdb:(x == ("__debug__":Str))=false:=by decide)
  (he:starEach [a] X.env=(false,eval a X.env) :: starEach [] X.env:=by rfl):SE X Γ E (.Call (.Name x p) [a] [] pos) (f1 fa g) La md:=
 PE.post' (jd hc hg hm hv (aO ha bA he) hn hdb he) λσ H Q ⟨env,G,B,β,I,o⟩=>gG (r:=λx=>r [x]) pr I o
def ku {id:String}{r:List V->Hp->VK->Prop}{g:D->Option D}{x:Str}{p:Pos}(hc:cL X (.type id) r)(pr:AS Γ.K (λx=>r [x]) g md)(hg:Gl X x)(hm:X.mg x=none)(hv:bootBuiltins x=some (.type id))(ha:SE X Γ E a fa La ma)(hn:x≠"__name__":=by decide)(hdb:(x == ("__debug__":Str))=false:=by decide)
  (he:starEach [a] X.env=(false,eval a X.env) :: starEach [] X.env:=by rfl):SE X Γ E (.Call (.Name x p) [a] [] pos) (f1 fa g) La md:=
 PE.post' (gK hc hg hm hv (aO ha bA he) hn hdb he) λσ H Q ⟨env,G,B,β,I,o⟩=>gG (r:=λx=>r [x]) pr I o
def vE {id:String}{r:List V->Hp->VK->Prop}{g:D->D->Option D}{x:Str}{p:Pos}(hc:cL X (.builtin id) r)(pr:mG Γ.K (λx y=>r [x,y]) g md)(hg:Gl X x)(hm:X.mg x=none)(hv:bootBuiltins x=some (.builtin id))(ha:SE X Γ E a fa La ma)(hb:SE X Γ E b fb Lb mb)(hn:x≠"__name__":=by decide)(hdb:(x == ("__debug__":Str))=false:=by decide)
  (he:starEach [a,b] X.env=(false,eval a X.env) :: starEach [b] X.env:=by rfl) (he2:starEach [b] X.env=(false,eval b X.env) :: starEach [] X.env:=by rfl) (hpl:(backTo pos (starEach [b] X.env)).any (·.1)=false:=by rfl):SE X Γ E (.Call (.Name x p) [a,b] [] pos) (f2 fa fb g) (La ++ Lb) md:=
 PE.post' (jd hc hg hm hv (aO ha (aO hb bA he2) he) hn hdb he hpl) λσ H Q ⟨env,G,B,β,I,o⟩=>mz (r:=λx y=>r [x,y]) pr I o
def ip (fa fb:VF D):VF D:=λvs β=>(fa vs β).bnd λx β1=>match x with
 | .bool true=>fb vs β1
 | .bool false=>.ok (.bool false) β1
 |_=>.bad
def lG {op}(h:SE X Γ E a fa La md):SE X Γ E (.BoolOp op [a] pos) fa La md:=ID h
theorem lr {rest:List Expr}(ha:SE X Γ E a fa La ma)(hb:SE X Γ E (.BoolOp .And (b :: rest) pos) fb Lb .v)(hbr:∀i,i∈Lb->Γ.br i=false):SE X Γ E (.BoolOp .And (a :: b :: rest) pos) (ip fa fb) (La ++ Lb) .v:=by
 refine PE.post' (Hh ha hb) λσ H Q ⟨env,G,B,β,I,o⟩=>?_
 refine⟨env,G,B,β,I,o.bnd.imp λd1 β1 h x G1 H1 I1 s1 m1 vx=>?_⟩
 have bx:=vx.brw I.boxThere
 cases d1 with
 |bool c=>
  obtain rfl:=bx.bool
  refine⟨c,rfl,?_⟩
  cases c with
  |true=>exact vC ⟨_,G1,B,β1,I1,by rw[eQ];exact h.imp λd β' k v G' H' I' s' m' vo=>k v G' H' (by rw[cf];exact I') (s1.trans s') (m1.trans m') vo⟩
  |false=>
   obtain⟨G2,I2,s2⟩:=I1.bq Lb hbr
   exact uV (h _ G2 H1 (by rw[cf];exact I2) (s1.trans s2) m1 (.bl false))
 |_=>exact h.elim
def DC:D->Option D
 | .bool c=>some (.bool (!c))
 |_=>none
theorem A5 (ha:SE X Γ E a fa La ma):SE X Γ E (.UnaryOp .Not a pos) (f1 fa DC) La .v:=by
 refine PE.post' (Hq ha) λσ H Q ⟨env,G,B,β,I,o⟩=>?_
 refine gG (r:=λx H1 Q=>∃c,x=.bl c/\Q (.bl (!c)) H1) ?_ I o
 intro B G H x dx d Q s hB bx e k
 cases dx with
 |bool c=>
  obtain rfl:=bx.bool
  cases e
  exact⟨c,rfl,k _ G H (Ext.refl s) (.bl _)⟩
 |_=>cases e
def Hd:D->Option Bool
 | .none=>some false
 | .bool b=>some b
 | .int i=>some (i != 0)
 | .str y=>if y.length<=sizeLine then some ((y.length:Int) != 0) else none
 | .list ds=>some (!ds.isEmpty)
 | .tuple ds=>some (!ds.isEmpty)
 | .dict _=>none
def la (fa:VF D):VF Bool:=λvs β=>(fa vs β).bnd λx β1=>R.of (Hd x) β1
def nI {K:Frag}{G:Hp}{xs:List V}{ds:List D}(r:b5 K G xs ds):(!ds.isEmpty)= !xs.isEmpty:=by cases r <;> rfl
theorem cU (hK:X.K=Γ.K)(ha:SE X Γ E a fa La ma)(he:∀whole,isTrue a X.env whole=(do let v <-whole;standAt a.pos;holding [v] (truthy v)):=by intro _;rfl):x9 X Γ E a (la fa) La:=by
 refine PT.post (B9 ha he) λσ H Q ⟨env,G,B,β,I,o⟩=>?_
 refine⟨env,G,B,β,I,o.bnd.imp λd1 β1 h x G1 H1 I1 s1 m1 vx=>?_⟩
 obtain⟨c,e,k⟩:=h.of
 have bx:=vx.brw I.boxThere
 refine⟨c,?_,k G1 H1 I1 s1 m1⟩
 rw[hK]
 cases d1 with
 |none=>obtain rfl:=bx.none;cases e;rfl
 |bool b=>obtain rfl:=bx.bool;cases e;rfl
 |int i=>obtain rfl:=bx.int;cases e;rfl
 |str y=>
  obtain rfl:=bx.str
  simp only[Hd] at e
  split at e
  ·cases e;exact⟨by assumption,rfl⟩
  ·cases e
 |list ds=>obtain⟨p,xs,rfl,hq,r⟩:=bx.list I1.sub;cases e;exact .inl ⟨xs,.inl hq,nI r⟩
 |tuple ds=>obtain⟨p,xs,rfl,hq,r⟩:=bx.tuple I1.sub;cases e;exact .inr (.inl ⟨xs,hq,nI r⟩)
 |dict ds=>cases e
def dD (fa:VF D):VF Bool:=λvs β=>(fa vs β).bnd λx β1=>match x with
 | .bool c=>.ok c β1
 |_=>.bad
theorem bM {op:CmpOp}{r:R2}{g:D->D->Option D}(ho:lO X (compareOp op) r)(pr:mG Γ.K r g .v)(ha:SE X Γ E a fa La ma)(hb:SE X Γ E b fb Lb mb)(hm:behindInMarks op b=false):x9 X Γ E (.Compare a [op] [b] pos) (dD (f2 fa fb g)) (La ++ Lb):=by
 refine PT.post (Eh ho ha hb hm) λσ H Q ⟨env,G,B,β,I,o⟩=>?_
 refine mz pr I (o.bnd.imp λd β' h v G' H' I' s' m' vo=>?_)
 cases d with
 |bool c=>cases vo;exact⟨c,rfl,h G' H' I' s' m'⟩
 |_=>exact h.elim
def nV (t:VF Bool):VF Bool:=λvs β=>(t vs β).bnd λc β1=>.ok (!c) β1
def DX (t u:VF Bool):VF Bool:=λvs β=>(t vs β).bnd λc β1=>if c=true then u vs β1 else .ok false β1
def lJ (t u:VF Bool):VF Bool:=λvs β=>(t vs β).bnd λc β1=>if c=true then .ok true β1 else u vs β1
variable {ta tb tc:VF Bool}
def c7 (ha:x9 X Γ E a ta La):x9 X Γ E (.UnaryOp .Not a pos) (nV ta) La:=by
 refine PT.post (IG ha) λσ H Q ⟨env,G,B,β,I,o⟩=>?_
 exact⟨env,G,B,β,I,o.bnd.imp λc β1 h=>h⟩
def tY.t (h:tY X Γ E e ta La):x9 X Γ E e ta La:=PW.pt h
def ym (ha:x9 X Γ E a ta La):tY X Γ E (.BoolOp .And [a] pos) ta La:=yn ha
def js (ha:x9 X Γ E a ta La):tY X Γ E (.BoolOp .Or [a] pos) ta La:=Hx ha
theorem Dl {rest:List Expr}(ha:x9 X Γ E a ta La)(hb:tY X Γ E (.BoolOp .And (b :: rest) pos) tb Lb)(hbr:∀i,i∈Lb->Γ.br i=false):tY X Γ E (.BoolOp .And (a :: b :: rest) pos) (DX ta tb) (La ++ Lb):=by
 refine PW.post (BK ha hb) λσ H Q ⟨env,G,B,β,I,o⟩=>?_
 refine⟨env,G,B,β,I,o.bnd.imp λc β1 h G1 H1 I1 s1 m1=>?_⟩
 cases c with
 |true=>exact vC ⟨_,G1,B,β1,I1,by rw[eQ];exact Out.imp h λd β' k G' H' I' s' m'=>k G' H' (by rw[cf];exact I') (s1.trans s') (m1.trans m')⟩
 |false=>
  obtain⟨G2,I2,s2⟩:=I1.bq Lb hbr
  exact uV (h G2 H1 (by rw[cf];exact I2) (s1.trans s2) m1)
theorem lV {rest:List Expr}(ha:x9 X Γ E a ta La)(hb:tY X Γ E (.BoolOp .Or (b :: rest) pos) tb Lb)(hbr:∀i,i∈Lb->Γ.br i=false):tY X Γ E (.BoolOp .Or (a :: b :: rest) pos) (lJ ta tb) (La ++ Lb):=by
 refine PW.post (JJ ha hb) λσ H Q ⟨env,G,B,β,I,o⟩=>?_
 refine⟨env,G,B,β,I,o.bnd.imp λc β1 h G1 H1 I1 s1 m1=>?_⟩
 cases c with
 |true=>
  obtain⟨G2,I2,s2⟩:=I1.bq Lb hbr
  exact vC (h G2 H1 (by rw[cf];exact I2) (s1.trans s2) m1)
 |false=>exact uV ⟨_,G1,B,β1,I1,by rw[eQ];exact Out.imp h λd β' k G' H' I' s' m'=>k G' H' (by rw[cf];exact I') (s1.trans s') (m1.trans m')⟩
def Ml (t:VF Bool)(fa fb:VF D):VF D:=λvs β=>(t vs β).bnd λc β1=>if c=true then fa vs β1 else fb vs β1
def ah:VF (List D):=λ_ β=>.ok [] β
def aa (fa:VF D)(fr:VF (List D)):VF (List D):=λvs β=>(fa vs β).bnd λx β1=>(fr vs β1).bnd λxs β2=>.ok (x :: xs) β2
variable {fr:VF (List D)}{es:List Expr}
def ao:SA X Γ E [] ah []:=PA.post bA λσ H Q ⟨env,G,B,β,I,o⟩=>o [] G H I (au.refl _) (iK.refl _ _) .nil
def ae (ha:SE X Γ E a fa La .v)(hr:SA X Γ E es fr Lb)(hs:starEach (a :: es) X.env=(false,eval a X.env) :: starEach es X.env:=by rfl):SA X Γ E (a :: es) (aa fa fr) (La ++ Lb):=by
 refine PA.post (aO ha hr hs) λσ H Q ⟨env,G,B,β,I,o⟩=>?_
 refine⟨env,G,B,β,I,o.bnd.imp λd1 β1 h x G1 H1 I1 s1 m1 vx=>⟨bq La env,G1,B,β1,I1,?_⟩⟩
 rw[eQ]
 refine h.bnd.imp λds β2 k xs G2 H2 I2 s2 m2 r=>?_
 exact k (x :: xs) G2 H2 (by rw[cf];exact I2) (s1.trans s2) (m1.trans m2) (.cons (vx.mono s2) r)
def fF (fr:VF (List D)):VF D:=λvs β=>(fr vs β).bnd λds β1=>if ds.length<=sizeLine then .ok (.tuple ds) β1 else .bad
def cG (fr:VF (List D)):VF D:=λvs β=>(fr vs β).bnd λds β1=>if ds.length<=sizeLine then .ok (.list ds) β1 else .bad
def jH {x1}(h:SA X Γ E es fr L):SE X Γ E (.Tuple es x1 pos) (fF fr) L .v:=by
 refine PE.post' (wX h) λσ H Q ⟨env,G,B,β,I,o⟩=>?_
 refine⟨env,G,B,β,I,o.bnd.imp λds β1 k xs G1 H1 I1 s1 m1 r=>?_⟩
 by_cases hz:ds.length<=sizeLine
 ·rw[MA hz] at k
  refine⟨by rw[r.len];exact hz,λp hp=>?_⟩
  have x:=Ext.new I1.sub (o:=.tup xs) hp
  exact k _ _ _ (I1.ext x) (s1.trans x.gg) (m1.trans (x.hh.mov B)) (.tup (.inl (.inl aC)) (r.mono x.gg))
 ·rw[MF hz] at k;exact k.elim
def dA (h:SA X Γ E es fr L):SE X Γ E (.List es pos) (cG fr) L .w:=by
 refine PE.post' (BP h) λσ H Q ⟨env,G,B,β,I,o⟩=>?_
 refine⟨env,G,B,β,I,o.bnd.imp λds β1 k xs G1 H1 I1 s1 m1 r=>?_⟩
 by_cases hz:ds.length<=sizeLine
 ·rw[MA hz] at k
  refine⟨by rw[r.len];exact hz,λp hp=>?_⟩
  have x:=Ext.own I1.sub (o:=.lst xs) hp
  exact k _ _ _ (I1.ext x) s1 (m1.trans (x.hh.mov B)) ⟨p,rfl,fq m1 I1.boxThere hp,I1.sub.free hp,xs,aC,r⟩
 ·rw[MF hz] at k;exact k.elim
inductive FR where
 |ok (d:D) (fresh:Bool)
 |exc (c:Str)
 |bad
def FV (K:Frag)(H G' H':Hp)(fr:Bool)(d:D)(v:V):Prop:=if fr=true then ∃a,v=.ref a/\H a=none/\G' a=none/\Own K G' H' a d else Rp K G' v d
def DW (K:Frag)(ca:Str->Addr)(n:Nat)(F:List D->FR):Sp:=λvs H Q E=>∃G ds,au G H/\ds.length=n/\b5 K G vs ds/\match F ds with
 | .ok d fr=>∀v G' H',au H H'->au G G'->au G' H'->(∀b,Mx H b->G b=none->G' b=none)->FV K H G' H' fr d v->Q v H'
 | .exc c=>∀H',au H H'->E (.ref (ca c)) none H'
 | .bad=>False
structure bX (P:Program)(w:World)(K:Frag)(mg:Str->Option Value)(base:Heap)(ca:Str->Addr)(x:Str)(ps:List Str)(k:Nat)(F:List D->FR):Prop where
 ex:∃f fd,mg x=some (.ref f)/\PySem.W.keepIn K (.ref f)=true/\Binds K fd ps []/\fW P w K mg base (nR P w) k f fd ps (DW K ca ps.length F)
 len:∀ds,F ds≠.bad->ds.length=ps.length
def ak (F:List D->FR)(fr:VF (List D)):VF D:=λvs β=>(fr vs β).bnd λds β1=>match F ds with
 | .ok d _=>.ok d β1
 | .exc c=>.exc c
 | .bad=>.bad
def uR (F:List D->FR)(fr:VF (List D)):VF D:=λvs β=>(fr vs β).bnd λds β1=>match F ds with
 | .ok d true=>.ok d β1
 | .ok _ false=>.bad
 | .exc c=>.exc c
 | .bad=>.bad
def SR.called {B:Option Addr}{G1 H1 G2 H2:Hp}{σ:St}{env:En}{β:Int}(I1:SR Γ B G1 H1 σ env β)(h:au H1 H2)(g:au G1 G2)(s:au G2 H2)(n:∀b,Mx H1 b->G1 b=none->G2 b=none):SR Γ B G2 H2 σ env β/\iK B H1 H2:=by
 refine⟨⟨s,I1.old.trans g,λb n1 n2=>?_,λb o e np=>h b o (I1.keep b o e np),λb hb=>?_,I1.fix,λb e=>?_,I1.len,λi t e=>?_,I1.sep⟩,h.mov B⟩
 ·exact n b (I1.thereM n1) (I1.new b n1 n2)
 ·exact (I1.pin b hb).same λo e=>h b o e
 ·obtain⟨h1,h2,h3⟩:=I1.box b e
  exact⟨h b _ h1,n b (Mx.lst h1) h2,h3⟩
 ·have q:=I1.slot i t e
  cases t with
  |no=>trivial
  |fz d=>obtain⟨v,h1,h2⟩:=q;exact⟨v,h1,h2.mono g⟩
  |ow d=>
   obtain⟨p,h1,h2,h3,h4,h5⟩:=q
   exact⟨p,h1,h2,n p h5.mx h3,h4,h5.mono g λo q=>h p o q⟩
  |bx=>exact q
  |br d=>obtain⟨b1,p,h1,h4,hp,h5⟩:=q;exact⟨b1,p,h1,h4,hp,h5.mono g λo q=>h p o q⟩
def SR.kp {B:Option Addr}{G H H':Hp}{σ:St}{env:En}{β:Int}(I:SR Γ B G H σ env β)(h:au H H'):Kp Γ H':=λb o e n=>h b o (I.keep b o e n)
theorem rE {F:List D->FR}{ps:List Str}{Q:VK}{B:Option Addr}{G H:Hp}{σ:St}{env:En}{β:Int}(I:SR Γ B G H σ env β)(hK:X.K=Γ.K){wv:Bool}
  (h:Out Γ E (if wv=true then uR F fr (vl env) β else ak F fr (vl env) β) λd β'=>∀v G' H',SR Γ B G' H' σ (bq L env) β'->au G G'->iK B H H'->VO Γ.K B H G' H' (if wv=true then .w else .v) d v->Q v H') (hl:∀ds,F ds≠.bad->ds.length=ps.length) :
  aT Γ E fr L σ H λvs H1=>DW X.K Γ.ca ps.length F vs H1 Q E:=by
 refine⟨env,G,B,β,I,?_⟩
 have h:Out Γ E (fr (vl env) β) λds β1=>Out Γ E (match F ds with
   | .ok d true=>.ok d β1
   | .ok d false=>if wv=true then .bad else .ok d β1
   | .exc c=>.exc c
   | .bad=>.bad) λd β'=>∀v G' H',SR Γ B G' H' σ (bq L env) β'->au G G'->iK B H H'->VO Γ.K B H G' H' (if wv=true then .w else .v) d v->Q v H':=by
  cases wv with
  |true=>
   simp only[NC] at h ⊢
   refine h.bnd.imp λds β1 h=>?_
   cases q:F ds with
   |ok d b=>rw[q] at h;cases b <;> exact h
   |exc c=>rw[q] at h;exact h
   |bad=>rw[q] at h;exact h
  |false=>
   simp only[MQ,Nk] at h ⊢
   refine h.bnd.imp λds β1 h=>?_
   cases q:F ds with
   |ok d b=>rw[q] at h;cases b <;> exact h
   |exc c=>rw[q] at h;exact h
   |bad=>rw[q] at h;exact h
 refine h.imp λds β1 k vs G1 H1 I1 s1 m1 r=>?_
 refine⟨G1,ds,I1.sub,?_,by rw[hK];exact r,?_⟩
 ·exact hl ds λz=>by rw[z] at k;exact k
 cases q:F ds with
 |bad=>rw[q] at k;exact k
 |exc c=>rw[q] at k;exact λH' s=>k H' (I1.kp s)
 |ok d b=>
  rw[q] at k
  intro v G' H' hh hg hs hn fv
  obtain⟨I2,m2⟩:=I1.called hh hg hs hn
  cases b with
  |true=>
   obtain⟨p,rfl,p1,p2,p3⟩:∃a,v=.ref a/\H1 a=none/\G' a=none/\Own X.K G' H' a d:=fv
   rw[hK] at p3
   have hp:=fq m1 I1.boxThere p1
   cases wv with
   |true=>exact k _ G' H' I2 (s1.trans hg) (m1.trans m2) ⟨p,rfl,hp,p2,p3⟩
   |false=>
    obtain⟨q1,q2,q3,q4⟩:=I1.fresh p1
    obtain⟨G3,I3,s3,r3⟩:=I2.letIn q1 p2 q3 q4 p3
    exact k _ G3 H' I3 ((s1.trans hg).trans s3) (m1.trans m2) r3
  |false=>
   cases wv with
   |true=>exact k.elim
   |false=>
    have fv:Rp X.K G' v d:=fv
    rw[hK] at fv
    exact k _ G' H' I2 (s1.trans hg) (m1.trans m2) fv
def aA {x:Str}{ps:List Str}{k:Nat}{F:List D->FR}{p:Pos}(hf:bX X.prog X.w X.K X.mg X.base Γ.ca x ps k F)(hr:fI k X.A)(hx:Passes (nR X.prog X.w) X E)(hK:X.K=Γ.K)(hg:Gl X x)(ha:SA X Γ E (a :: es) fr L)(hdb:(x == ("__debug__":Str))=false:=by decide)
  (he:starEach (a :: es) X.env=(false,eval a X.env) :: starEach es X.env:=by rfl) (hpl:(backTo pos (starEach es X.env)).any (·.1)=false:=by rfl):SE X Γ E (.Call (.Name x p) (a :: es) [] pos) (ak F fr) L .v:=by
 obtain⟨f,fd,hm,hk,hb,hF⟩:=hf.ex
 refine PE.post' (oy (dvs:=[]) hF hr hg hm hk hb .nil hx ha hdb he hpl) λσ H Q ⟨env,G,B,β,I,o⟩=>?_
 show aT Γ E fr L σ H λvs H1=>DW X.K Γ.ca ps.length F (vs ++ []) H1 Q E
 have:=rE (Q:=Q) (wv:=false) (ps:=ps) I hK o hf.len
 simpa using this
def DL {x:Str}{ps:List Str}{k:Nat}{F:List D->FR}{p:Pos}(hf:bX X.prog X.w X.K X.mg X.base Γ.ca x ps k F)(hr:fI k X.A)(hx:Passes (nR X.prog X.w) X E)(hK:X.K=Γ.K)(hg:Gl X x)(ha:SA X Γ E (a :: es) fr L)(hdb:(x == ("__debug__":Str))=false:=by decide)
  (he:starEach (a :: es) X.env=(false,eval a X.env) :: starEach es X.env:=by rfl) (hpl:(backTo pos (starEach es X.env)).any (·.1)=false:=by rfl):SE X Γ E (.Call (.Name x p) (a :: es) [] pos) (uR F fr) L .w:=by
 obtain⟨f,fd,hm,hk,hb,hF⟩:=hf.ex
 refine PE.post' (oy (dvs:=[]) hF hr hg hm hk hb .nil hx ha hdb he hpl) λσ H Q ⟨env,G,B,β,I,o⟩=>?_
 show aT Γ E fr L σ H λvs H1=>DW X.K Γ.ca ps.length F (vs ++ []) H1 Q E
 have:=rE (Q:=Q) (wv:=true) (ps:=ps) I hK o hf.len
 simpa using this
end
inductive SO where
 |nx (env:En) (β:Int)
 |bk (env:En) (β:Int)
 |ct (env:En) (β:Int)
 |rt (d:D) (fr:Bool) (β:Int)
 |exc (c:Str)
 |bad
abbrev SF:=En->Int->SO
def RV (Γ:Fx)(G' H':Hp)(fr:Bool)(d:D)(v:V):Prop:=if fr=true then ∃a,v=.ref a/\Γ.H0 a=none/\G' a=none/\Own Γ.K G' H' a d else Rp Γ.K G' v d
def qg (Γ:Fx)(E:XK)(G:Hp)(N:Ends):SO->Prop
 | .nx env β=>∀B G' H' σ,SR Γ B G' H' σ env β->au G G'->N.nx σ H'
 | .bk env β=>∀B G' H' σ,SR Γ B G' H' σ env β->au G G'->N.bk σ H'
 | .ct env β=>∀B G' H' σ,SR Γ B G' H' σ env β->au G G'->N.ct σ H'
 | .rt d fr β=>∀B G' H' σ env v,SR Γ B G' H' σ env β->au G G'->RV Γ G' H' fr d v->N.rt v H'
 | .exc c=>∀H',Kp Γ H'->E (.ref (Γ.ca c)) none H'
 | .bad=>False
def sT (Γ:Fx)(E:XK)(m:SF):TS:=λN σ H=>∃env G B β,SR Γ B G H σ env β/\qg Γ E G N (m env β)
def SS (X:Cx)(Γ:Fx)(E:XK)(st:Stmt)(m:SF):Prop:=PS X st (sT Γ E m)
def DU (X:Cx)(Γ:Fx)(E:XK)(st:List Stmt)(m:SF):Prop:=qN X st (sT Γ E m)
def qN.post {X:Cx}{st:List Stmt}{t u:TS}(h:qN X st t)(m:∀D σ H,u D σ H->t D σ H):qN X st u:=λpins s σ H D I q=>h pins s σ H D I (m D σ H q)
def aH (m m':SF):SF:=λenv β=>match m env β with
 | .nx env' β'=>m' env' β'
 |r=>r
def iQ:SF:=λenv β=>.nx env β
section
variable {X:Cx}{Γ:Fx}{E:XK}{e a b c:Expr}{f fa fb:VF D}{L La Lb:List Nat}{md ma mb:Md}{pos:Pos}{st:Stmt}{sts:List Stmt}{m m':SF}{ta:VF Bool}
theorem qg.weak {G G1:Hp}{N:Ends}{r:SO}(h:qg Γ E G N r)(s:au G G1):qg Γ E G1 N r:=by
 cases r with
 |nx env β=>exact λB G' H' σ I s'=>h B G' H' σ I (s.trans s')
 |bk env β=>exact λB G' H' σ I s'=>h B G' H' σ I (s.trans s')
 |ct env β=>exact λB G' H' σ I s'=>h B G' H' σ I (s.trans s')
 |rt d fr β=>exact λB G' H' σ env v I s'=>h B G' H' σ env v I (s.trans s')
 |exc c=>exact h
 |bad=>exact h
def bI:DU X Γ E [] iQ:=qN.post yC λN σ H ⟨env,G,B,β,I,o⟩=>o B G H σ I (au.refl _)
theorem ag (h:SS X Γ E st m)(h':DU X Γ E sts m'):DU X Γ E (st :: sts) (aH m m'):=by
 refine qN.post (hZ h h') λN σ H ⟨env,G,B,β,I,o⟩=>?_
 refine⟨env,G,B,β,I,?_⟩
 unfold aH at o
 cases q:m env β with
 |nx env' β'=>rw[q] at o;exact λB' G' H' σ' I' s'=>⟨env',G',B',β',I',o.weak s'⟩
 |bk env' β'=>rw[q] at o;exact o
 |ct env' β'=>rw[q] at o;exact o
 |rt d fr β'=>rw[q] at o;exact o
 |exc c=>rw[q] at o;exact o
 |bad=>rw[q] at o;exact o
def aE (h:SS X Γ E st m):DU X Γ E [st] m:=iI h
def toS {α:Type}(r:R α)(k:α->Int->SO):SO:=match r with
 | .ok x β=>k x β
 | .exc c=>.exc c
 | .bad=>.bad
theorem cx {α:Type}{G:Hp}{N:Ends}{r:R α}{k:α->Int->SO}{P:α->Int->Prop}(h:qg Γ E G N (toS r k))(i:∀x β,qg Γ E G N (k x β)->P x β):Out Γ E r P:=by
 cases r with
 |ok x β=>exact i x β h
 |exc c=>exact h
 |bad=>exact h
def SR.set' {B:Option Addr}{G H:Hp}{σ:St}{env:En}{β:Int}(I:SR Γ B G H σ env β)(i:Nat){v:V}{d:D}(h:Rp Γ.K G v d):SR Γ B G H (σ.set i (some v)) (env.set i (.fz d)) β:=by
 by_cases hi:i < env.length
 ·exact I.set hi h
 ·have h1:env.set i (.fz d)=env:=Og (by omega)
  have h2:σ.set i (some v)=σ:=Og (by rw[I.len];omega)
  rw[h1,h2];exact I
def SR.setOw' {B:Option Addr}{G H:Hp}{σ:St}{env:En}{β:Int}(I:SR Γ B G H σ env β)(i:Nat){a:Addr}{d:D}(h0:Γ.H0 a=none)(hg:G a=none)(hb:B≠some a)(h:Own Γ.K G H a d)(hn:∀(j:Nat) (d':D),env[j]? =some (.ow d')->σ[j]?≠some (some (.ref a))):SR Γ B G H (σ.set i (some (.ref a))) (env.set i (.ow d)) β:=by
 by_cases hi:i < env.length
 ·exact I.setOw hi h0 hg hb h λj d' e _=>hn j d' e
 ·have h1:env.set i (.ow d)=env:=Og (by omega)
  have h2:σ.set i (some (.ref a))=σ:=Og (by rw[I.len];omega)
  rw[h1,h2];exact I
def bo (i:Nat)(L:List Nat)(f:VF D):SF:=λenv β=>toS (f (vl env) β) λd β'=>.nx ((bq L env).set i (.fz d)) β'
def a7 {i:Nat}{x:Str}{pos':Pos}(he:SE X Γ E e f L .v)(hN:X.N.Nodup)(hi:X.N[i]? =some x:=by rfl)(hx:Loc X.env.scope x:=by first |exact Or.inl rfl |exact Or.inr rfl)(hs:swapsWith e (some (.Name x pos')) pos.line X.env=pure false:=by rfl)(hf:X.fn x=true\/X.env.scope.names.lookup x=some .local:=by first |exact .inl rfl |exact .inr rfl |assumption) :
  SS X Γ E (.Assign [.Name x pos'] e pos) (bo i L f):=by
 refine PS.post (pC hN hi hx he hs hf) λN σ H ⟨env,G,B,β,I,o⟩=>?_
 refine⟨env,G,B,β,I,cx o λd β' k v G' H' I' s' m' vo=>?_⟩
 exact k B G' H' _ (I'.set' i vo) s'
def kW (i:Nat)(L:List Nat)(f:VF D):SF:=λenv β=>toS (f (vl env) β) λd β'=>.nx ((bq L env).set i (.ow d)) β'
def iw {i:Nat}{x:Str}{pos':Pos}(he:SE X Γ E e f L .w)(hN:X.N.Nodup)(hi:X.N[i]? =some x:=by rfl)(hx:Loc X.env.scope x:=by first |exact Or.inl rfl |exact Or.inr rfl)(hs:swapsWith e (some (.Name x pos')) pos.line X.env=pure false:=by rfl)(hf:X.fn x=true\/X.env.scope.names.lookup x=some .local:=by first |exact .inl rfl |exact .inr rfl |assumption) :
  SS X Γ E (.Assign [.Name x pos'] e pos) (kW i L f):=by
 refine PS.post (pC hN hi hx he hs hf) λN σ H ⟨env,G,B,β,I,o⟩=>?_
 refine⟨env,G,B,β,I,cx o λd β' k v G' H' I' s' m' vo=>?_⟩
 obtain⟨p,rfl,h1,h2,h3⟩:=vo
 obtain⟨q1,q2,q3,q4⟩:=I.fresh h1
 exact k B G' H' _ (I'.setOw' i q1 h2 q3 h3 λj d' z=>q4 j d' (sU z)) s'
def kr (L:List Nat)(f:VF D):SF:=λenv β=>toS (f (vl env) β) λ_ β'=>.nx (bq L env) β'
def jN (he:SE X Γ E e f L md)(hs:swapsWith e none pos.line X.env=pure false:=by rfl):SS X Γ E (.Expr e pos) (kr L f):=by
 refine PS.post (sd he hs) λN σ H ⟨env,G,B,β,I,o⟩=>?_
 exact⟨env,G,B,β,I,cx o λd β' k v G' H' I' s' m' vo=>k B G' H' _ I' s'⟩
def bP (f:VF D):SF:=λenv β=>toS (f (vl env) β) λd β'=>.rt d false β'
def ba (he:SE X Γ E e f L .v):SS X Γ E (.Return (some e) pos) (bP f):=by
 refine PS.post (mQ he) λN σ H ⟨env,G,B,β,I,o⟩=>?_
 exact⟨env,G,B,β,I,cx o λd β' k v G' H' I' s' m' vo=>k B G' H' σ _ v I' s' vo⟩
def uo (f:VF D):SF:=λenv β=>toS (f (vl env) β) λd β'=>.rt d true β'
def si (he:SE X Γ E e f L .w):SS X Γ E (.Return (some e) pos) (uo f):=by
 refine PS.post (mQ he) λN σ H ⟨env,G,B,β,I,o⟩=>?_
 refine⟨env,G,B,β,I,cx o λd β' k v G' H' I' s' m' vo=>?_⟩
 obtain⟨p,rfl,h1,h2,h3⟩:=vo
 obtain⟨q1,_⟩:=I.fresh h1
 exact k B G' H' σ _ _ I' s' ⟨p,rfl,q1,h2,h3⟩
def jj (i:Nat):SF:=λenv β=>match env[i]? with
 |some (.fz d)=>.rt d false β
 |some (.ow d)=>.rt d true β
 |_=>.bad
theorem jF (i:Nat){x:Str}{p:Pos}(hN:X.N[i]? =some x:=by rfl)(hv:AW X.env.scope x:=by first |exact Or.inl rfl |exact Or.inr (Or.inl rfl) |exact Or.inr (Or.inr rfl))(hd:(x == ("__debug__":Str))=false:=by decide)
  (hcd:(x == ("__classdict__":Str))=false:=by decide):SS X Γ E (.Return (some (.Name x p)) pos) (jj i):=by
 refine PS.post (mQ (jO hN hv hd hcd)) λN σ H ⟨env,G,B,β,I,o⟩=>?_
 unfold jj at o
 cases q:env[i]? with
 |none=>rw[q] at o;exact o.elim
 |some s=>
  rw[q] at o
  cases s with
  |no=>exact o.elim
  |bx=>exact o.elim
  |br d=>exact o.elim
  |fz d=>
   obtain⟨v,h1,h2⟩:=I.slot i _ q
   exact⟨v,h1,o B G H σ env v I (au.refl _) h2⟩
  |ow d=>
   obtain⟨p,h1,h2,h3,h4,h5⟩:=I.slot i _ q
   exact⟨_,h1,o B G H σ env _ I (au.refl _) ⟨p,rfl,h2,h3,h5⟩⟩
def g8 (L:List Nat)(t:VF Bool)(m m':SF):SF:=λenv β=>toS (t (vl env) β) λc β'=>if c=true then m (bq L env) β' else m' (bq L env) β'
theorem cB {x y:List Stmt}(hc:x9 X Γ E c ta L)(ha:DU X Γ E x m)(hb:DU X Γ E y m'):SS X Γ E (.If c x y pos) (g8 L ta m m'):=by
 refine PS.post (GH hc ha hb) λN σ H ⟨env,G,B,β,I,o⟩=>?_
 refine⟨env,G,B,β,I,cx o λd β' k G' H' I' s' m'=>?_⟩
 cases d with
 |true=>exact vC ⟨_,G',B,β',I',qg.weak k s'⟩
 |false=>exact uV ⟨_,G',B,β',I',qg.weak k s'⟩
def iU (L:List Nat)(t:VF Bool)(m:SF):Nat->SF
 | 0=>λ_ _=>.bad
 |n + 1=>λenv β=>toS (t (vl env) β) λc β'=>if c=true then (match m (bq L env) β' with
   | .nx env2 β2=>iU L t m n env2 β2
   | .ct env2 β2=>iU L t m n env2 β2
   | .bk env2 β2=>.nx env2 β2
   |r=>r) else .nx (bq L env) β'
theorem oU {x:List Stmt}(n:Nat)(hp:PassesOwn (model X.prog X.w) X.A X.env X.xe)(hc:x9 X Γ E c ta L)(hb:DU X Γ E x m):SS X Γ E (.While c x [] pos) (iU L ta m n):=by
 refine PS.post (Dh hp hc hb) λN σ H ⟨env,G,B,β,I,o⟩=>?_
 refine⟨λk σ H=>∃env G1 B β,SR Γ B G1 H σ env β/\au G G1/\qg Γ E G1 N (iU L ta m k env β),⟨n,env,G,B,β,I,au.refl _,o⟩,?_⟩
 rintro k σ H ⟨env,G1,B,β,I,sG,o⟩
 cases k with
 |zero=>exact o.elim
 |succ k=>
  refine⟨env,G1,B,β,I,cx o λd β' q G' H' I' s' m'=>?_⟩
  cases d with
  |false=>exact uV (q B G' H' σ I' s')
  |true=>
   refine vC ⟨λσ H=>∃env G1 B β,SR Γ B G1 H σ env β/\au G G1/\qg Γ E G1 N (iU L ta m k env β),λσ' H' h=>⟨k,Nat.lt_succ_self k,h⟩,bq L env,G',B,β',I',?_⟩
   rw[MA rfl] at q
   cases r:m (bq L env) β' with
   |nx env2 β2=>rw[r] at q;exact λB2 G2 H2 σ2 I2 s2=>⟨env2,G2,B2,β2,I2,(sG.trans s').trans s2,qg.weak q (s'.trans s2)⟩
   |ct env2 β2=>rw[r] at q;exact λB2 G2 H2 σ2 I2 s2=>⟨env2,G2,B2,β2,I2,(sG.trans s').trans s2,qg.weak q (s'.trans s2)⟩
   |bk env2 β2=>rw[r] at q;exact λB2 G2 H2 σ2 I2 s2=>q B2 G2 H2 σ2 I2 (s'.trans s2)
   |rt d fr β2=>rw[r] at q;exact qg.weak q s'
   |exc c=>rw[r] at q;exact q
   |bad=>rw[r] at q;exact q
def Walk (K:Frag)(B:Option Addr)(G H1:Hp)(ds:List D)(J:It):Prop:=∀Gc H (i:Nat),au G Gc->au Gc H->iK B H1 H->
 (i < ds.length->J.go i H/\∀x H',J.yld i H x H'->∃G' d,Ext Gc H G' H'/\ds[i]? =some d/\Rp K G' x d)/\(ds.length<=i->J.stop i H)
def Walk.any {K:Frag}{B:Option Addr}{G H1:Hp}{ds:List D}{J:It}(h:Walk K B G (λ_=>none) ds J):Walk K B G H1 ds J:=λGc H i s1 s2 _=>h Gc H i s1 s2 λb o e=>by cases e
def iT (Γ:Fx)(E:XK)(f:VF (List D))(L:List Nat)(md:Md):TI:=λσ H Rr=>∃env G B β,SR Γ B G H σ env β/\
 Out Γ E (f (vl env) β) λds β'=>∀J G' H',SR Γ B G' H' σ (bq L env) β'->au G G'->iK B H H'->Walk Γ.K B G' (match md with | .b=>H' |_=>λ_=>none) ds J->Rr J H'
def SI (X:Cx)(Γ:Fx)(E:XK)(tg e:Expr)(f:VF (List D))(L:List Nat)(md:Md):Prop:=PI X tg e (iT Γ E f L md)
def PI.post {X:Cx}{tg e:Expr}{t u:TI}(h:PI X tg e t)(m:∀σ H Q,u σ H Q->t σ H Q):PI X tg e u:=λpins s σ H Q I q=>h pins s σ H Q I (m σ H Q q)
variable {tg:Expr}
def ll:D->Option (List D)
 | .list ds=>some ds
 | .tuple ds=>some ds
 |_=>none
def bu (fa:VF D):VF (List D):=λvs β=>(fa vs β).bnd λx β1=>R.of (ll x) β1
end
def Ms (K:Frag)(tl:TE):TI:=λσ H R=>tl σ H λx H1=>∃a xs,x=.ref a/\((eY K H1 a xs/\R (zx K a) H1)\/(eV K H1 a xs/\R (Gq K a) H1))
section
variable {X:Cx}{tg l:Expr}{tl:TE}
def GA (hl:PE X l tl):PI X tg l (Ms X.K tl):=by
 intro pins s σ H R I h
 refine cv (hl pins s σ H _ I h) λv s1 ⟨x,H1,I1,r1,q1⟩=>?_
 obtain⟨a,xs,e,q⟩:=q1
 subst e
 cases r1
 rcases q with⟨hq,q⟩ | ⟨hq,q⟩
 ·obtain⟨its,rv,p,hz⟩:=I1.list hq
  refine O2 p.isList ?_
  refine⟨s1.heap.objs.size,[s1.heap.objs.size],_,_,H1,rfl,I1.kept (t':=s1.toks) λb o e=>Mw _ e,mP a _,⟨_,MN _ rfl,rfl,rfl⟩,λb hb=>?_,q⟩
  have e:b=s1.heap.objs.size:=by simpa using hb
  subst e
  exact I1.fpOk (My _) (I1.hok.fresh (My _))
 ·obtain⟨its,rv,p,hz⟩:=I1.tuple hq
  refine OZ (show s1.heap.IsTuple a its.toArray from p) ?_
  refine⟨s1.heap.objs.size,[s1.heap.objs.size],_,_,H1,rfl,I1.kept (t':=s1.toks) λb o e=>Mw _ e,pV a _,⟨_,MN _ rfl,rfl,rfl⟩,λb hb=>?_,q⟩
  have e:b=s1.heap.objs.size:=by simpa using hb
  subst e
  exact I1.fpOk (My _) (I1.hok.fresh (My _))
end
section
variable {X:Cx}{Γ:Fx}{E:XK}{e a b c:Expr}{f fa fb:VF D}{L La Lb:List Nat}{md ma mb:Md}{pos:Pos}{st:Stmt}{sts:List Stmt}{m m':SF}{ta:VF Bool}{tg:Expr}
def nt {K:Frag}{B:Option Addr}{G H1:Hp}{p:Addr}{xs:List V}{ds:List D}(h:∀Gc H,au G Gc->au Gc H->iK B H1 H->eY K H p xs)(r:b5 K G xs ds):Walk K B G H1 ds (zx K p):=λGc H i s1 s2 m=>by
 have hq:=h Gc H s1 s2 m
 refine⟨λhi=>⟨?_,λx H' y=>?_⟩,λhi=>⟨xs,hq,by rw[r.len];exact hi⟩⟩
 ·have hi':i < xs.length:=by rw[r.len];exact hi
  exact⟨xs,xs[i],hq,by simp[hi']⟩
 ·obtain⟨rfl,y⟩:=y
  obtain⟨d,e,q⟩:=r.at' (y xs hq)
  exact⟨Gc,d,Ext.refl s2,e,q.mono s1⟩
def uS {K:Frag}{B:Option Addr}{G H1:Hp}{p:Addr}{xs:List V}{ds:List D}(h:∀Gc H,au G Gc->au Gc H->iK B H1 H->eV K H p xs)(r:b5 K G xs ds):Walk K B G H1 ds (Gq K p):=λGc H i s1 s2 m=>by
 have hq:=h Gc H s1 s2 m
 refine⟨λhi=>⟨?_,λx H' y=>?_⟩,λhi=>⟨xs,hq,by rw[r.len];exact hi⟩⟩
 ·have hi':i < xs.length:=by rw[r.len];exact hi
  exact⟨xs,xs[i],hq,by simp[hi']⟩
 ·obtain⟨rfl,y⟩:=y
  obtain⟨d,e,q⟩:=r.at' (y xs hq)
  exact⟨Gc,d,Ext.refl s2,e,q.mono s1⟩
theorem EU (hK:X.K=Γ.K)(ha:SE X Γ E a fa La .v):SI X Γ E tg a (bu fa) La .v:=by
 refine PI.post (GA ha) λσ H Q ⟨env,G,B,β,I,o⟩=>?_
 refine⟨env,G,B,β,I,o.bnd.imp λd1 β1 h x G1 H1 I1 s1 m1 vx=>?_⟩
 obtain⟨ds,e,k⟩:=h.of
 rw[hK]
 have vx:Rp Γ.K G1 x d1:=vx
 cases d1 with
 |list l=>
  cases e
  cases vx with
  | @lst p xs _ hq r=>exact⟨p,xs,rfl,.inl ⟨.inl (Rd.mono (.inl hq) I1.sub),k _ G1 H1 I1 s1 m1 (nt (λGc H t1 t2 _=>.inl (Rd.mono (.inl hq) (t1.trans t2))) r)⟩⟩
 |tuple l=>
  cases e
  cases vx with
  | @tup p xs _ hq r=>exact⟨p,xs,rfl,.inr ⟨hq.grow I1.sub.grow,k _ G1 H1 I1 s1 m1 (uS (λGc H t1 t2 _=>hq.grow (t1.trans t2).grow) r)⟩⟩
 |_=>cases e
theorem jY (hK:X.K=Γ.K)(ha:SE X Γ E a fa La ma):SI X Γ E tg a (bu fa) La .b:=by
 refine PI.post (GA ha) λσ H Q ⟨env,G,B,β,I,o⟩=>?_
 refine⟨env,G,B,β,I,o.bnd.imp λd1 β1 h x G1 H1 I1 s1 m1 vx=>?_⟩
 obtain⟨ds,e,k⟩:=h.of
 rw[hK]
 have vx:=vx.brw I.boxThere
 cases d1 with
 |list l=>
  cases e
  rcases vx with vx | ⟨p,rfl,hb,xs,q,r⟩
  ·cases vx with
   | @lst p xs _ hq r=>exact⟨p,xs,rfl,.inl ⟨.inl (Rd.mono (.inl hq) I1.sub),k _ G1 H1 I1 s1 m1 (nt (λGc H t1 t2 _=>.inl (Rd.mono (.inl hq) (t1.trans t2))) r)⟩⟩
  ·exact⟨p,xs,rfl,.inl ⟨.inl (.inl q),k _ G1 H1 I1 s1 m1 (nt (λGc H t1 t2 mv=>.inl (.inl (mv p _ q hb))) r)⟩⟩
 |tuple l=>
  cases e
  rcases vx with vx | ⟨p,rfl,hb,q⟩
  ·cases vx with
   | @tup p xs _ hq r=>exact⟨p,xs,rfl,.inr ⟨hq.grow I1.sub.grow,k _ G1 H1 I1 s1 m1 (uS (λGc H t1 t2 _=>hq.grow (t1.trans t2).grow) r)⟩⟩
  ·exact q.elim
 |_=>cases e
def cZ (lo:Int)(n:Nat):List D:=(List.range n).map λ(k:Nat)=>int (lo + k)
def i8 (lo:Int)(n:Nat):(cZ lo n).length=n:=by unfold cZ;simp
def vO {K:Frag}{B:Option Addr}{G H1:Hp}(lo:Int)(n:Nat):Walk K B G H1 (cZ lo n) (zR lo n):=λGc H i s1 s2 m=>by
 rw[i8]
 refine⟨λhi=>⟨hi,λx H' y=>?_⟩,λhi=>hi⟩
 obtain⟨rfl,rfl⟩:=y
 refine⟨Gc,.int (lo + i),Ext.refl s2,?_,.int _⟩
 unfold cZ
 rw[MG,NP hi];rfl
def uc (j:Int):Bool:=Nat.ble j.natAbs 1000000
def iP {j:Int}(h:uc j=true): -(2 ^ 62)<=j/\j < 2 ^ 62:=by
 have:=Nat.le_of_ble_eq_true h
 omega
def kQ {j:Int}(h: -1000<=j)(h2:j<=10000):uc j=true:=Nat.ble_eq_true_of_le (by omega)
def gq (fa:VF D):VF (List D):=λvs β=>(fa vs β).bnd λx β1=>match x with
 | .int j=>if uc j=true then .ok (cZ 0 j.toNat) β1 else .bad
 |_=>.bad
def rn (fa fb:VF D):VF (List D):=λvs β=>(fa vs β).bnd λx β1=>(fb vs β1).bnd λy β2=>match x,y with
 | .int i,.int j=>if (uc i && uc j)=true then .ok (cZ i (j - i).toNat) β2 else .bad
 |_,_=>.bad
theorem nK {p:Pos}(hg:Gl X "range")(hm:X.mg "range"=none)(ha:SE X Γ E a fa La ma)(hs:starEach [a] X.env= [(false,eval a X.env)]:=by rfl)(hs':starEach [a] X.env=(false,eval a X.env) :: starEach [] X.env:=by rfl):SI X Γ E tg (.Call (.Name "range" p) [a] [] pos) (gq fa) La md:=by
 refine PI.post (kI hg hm (aO ha bA hs') hs) λσ H Q ⟨env,G,B,β,I,o⟩=>?_
 refine⟨env,G,B,β,I,o.bnd.imp λd1 β1 h x G1 H1 I1 s1 m1 vx=>?_⟩
 have vx:=vx.brw I.boxThere
 cases d1 with
 |int j=>
  obtain rfl:=vx.int
  dsimp only at h
  by_cases hj:uc j=true
  ·rw[MA hj] at h
   exact⟨j,rfl,(iP hj).1,(iP hj).2,h _ G1 H1 I1 s1 m1 (vO 0 _)⟩
  ·rw[MF hj] at h;exact h.elim
 |_=>exact h.elim
def Jg {p:Pos}(hg:Gl X "range")(hm:X.mg "range"=none)(ha:SE X Γ E a fa La ma)(hb:SE X Γ E b fb Lb mb)(hs:starEach [a,b] X.env= [(false,eval a X.env),(false,eval b X.env)]:=by rfl)(hs2:starEach [b] X.env= [(false,eval b X.env)]:=by rfl)(hs':starEach [a,b] X.env=(false,eval a X.env) :: starEach [b] X.env:=by rfl)(hs3:starEach [b] X.env=(false,eval b X.env) :: starEach [] X.env:=by rfl):SI X Γ E tg (.Call (.Name "range" p) [a,b] [] pos) (rn fa fb) (La ++ Lb) md:=by
 refine PI.post (Au hg hm (aO ha (aO hb bA hs3) hs') hs hs2) λσ H Q ⟨env,G,B,β,I,o⟩=>?_
 refine two (W:=λx y H2=>∃i j:Int,[x,y]= [.int i,.int j]/\(-(2 ^ 62)<=i/\i < 2 ^ 62/\ -(2 ^ 62)<=j/\j < 2 ^ 62)/\Q (zR i (j - i).toNat) H2) I (o.bnd.imp λd1 β1 h=>h.bnd.imp λd2 β2 h x y G2 H2 I2 s2 m2 bx by'=>?_)
 obtain⟨i,j,rfl,rfl⟩:∃i j,d1=.int i/\d2=.int j:=by
  cases d1 <;> cases d2 <;> first |exact h.elim |exact⟨_,_,rfl,rfl⟩
 obtain rfl:=bx.int
 obtain rfl:=by'.int
 dsimp only at h
 by_cases hj:(uc i && uc j)=true
 ·rw[MA hj] at h
  rw[MP] at hj
  exact⟨i,j,rfl,⟨(iP hj.1).1,(iP hj.1).2,(iP hj.2).1,(iP hj.2).2⟩,h _ G2 H2 I2 s2 m2 (vO i _)⟩
 ·rw[MF hj] at h;exact h.elim
inductive Tg where
 |nm (i:Nat)
 |two (i j:Nat)
def pairD:D->Option (D×D)
 | .tuple [x,y]=>some (x,y)
 |_=>none
def DB {d x y:D}(h:pairD d=some (x,y)):d=.tuple [x,y]:=by
 unfold pairD at h
 split at h
 ·cases h;rfl
 ·cases h
def du:Tg->D->En->Option En
 | .nm i,d,env=>some (env.set i (.fz d))
 | .two i j,d,env=>(pairD d).map λp=>(env.set i (.fz p.1)).set j (.fz p.2)
def lb:Tg->D->List Nv->Option (List Nv)
 | .nm i,d,vs=>some (vs.set i (.da d))
 | .two i j,d,vs=>(pairD d).map λp=>(vs.set i (.da p.1)).set j (.da p.2)
def xM (env:En)(i:Nat)(s:Sl):vl (env.set i s)=(vl env).set i s.val:=by unfold vl;rw[List.map_set]
theorem Et (t:Tg)(d:D)(env:En):(du t d env).map vl=lb t d (vl env):=by
 cases t with
 |nm i=>show some (vl _)=some _;rw[xM];rfl
 |two i j=>
  show ((pairD d).map _).map vl=(pairD d).map _
  cases pairD d with
  |none=>rfl
  |some p=>show some (vl _)=some _;rw[xM,xM];rfl
def gT (Γ:Fx)(t:Tg):TG:=λv σ H Q=>∃env G B β d env',SR Γ B G H σ env β/\Rp Γ.K G v d/\du t d env=some env'/\∀σ',SR Γ B G H σ' env' β->Q σ' H
def SG (X:Cx)(Γ:Fx)(tg:Expr)(t:Tg):Prop:=PG X tg (gT Γ t)
def PG.post {X:Cx}{tg:Expr}{t u:TG}(h:PG X tg t)(m:∀v σ H Q,u v σ H Q->t v σ H Q):PG X tg u:=λpins s σ H v uu Q I r q=>h pins s σ H v uu Q I r (m v σ H Q q)
def cO {i:Nat}{x:Str}(hN:X.N.Nodup)(hi:X.N[i]? =some x:=by rfl)(hx:Loc X.env.scope x:=by first |exact Or.inl rfl |exact Or.inr rfl)(hf:X.fn x=true\/X.env.scope.names.lookup x=some .local:=by first |exact .inl rfl |exact .inr rfl |assumption):SG X Γ (.Name x pos) (.nm i):=by
 refine PG.post (cV hN hi hx hf) λv σ H Q ⟨env,G,B,β,d,env',I,r,e,k⟩=>?_
 cases e
 exact k _ (I.set' i r)
theorem iW {i j:Nat}{x y:Str}{px py:Pos}{n:Nat}(hN:X.N.Nodup)(hc:X.calm=true:=by rfl)(hK:X.K=Γ.K:=by rfl)(hi:X.N[i]? =some x:=by rfl)(hj:X.N[j]? =some y:=by rfl)(hx:Loc X.env.scope x:=by first |exact Or.inl rfl |exact Or.inr rfl)(hy:Loc X.env.scope y:=by first |exact Or.inl rfl |exact Or.inr rfl)
  (hf:X.fn x=true\/X.env.scope.names.lookup x=some .local:=by first |exact .inl rfl |exact .inr rfl |assumption) (hf':X.fn y=true\/X.env.scope.names.lookup y=some .local:=by first |exact .inl rfl |exact .inr rfl |assumption):SG X Γ (.Tuple [.Name x px,.Name y py] n pos) (.two i j):=by
 refine PG.post (o7 (n:=2) hc (dF (cV hN hi hx hf) (dF (cV hN hj hy hf') my))) λv σ H Q ⟨env,G,B,β,d,env',I,r,e,k⟩=>?_
 rw[hK]
 have e:(pairD d).map (λp=>(env.set i (.fz p.1)).set j (.fz p.2))=some env':=e
 cases q:pairD d with
 |none=>rw[q] at e;cases e
 |some p=>
  obtain⟨dx,dy⟩:=p
  rw[q] at e
  cases e
  obtain rfl:=DB q
  cases r with
  | @tup p xs _ hq r=>
   cases r with
   |cons r1 r=>
    cases r with
    |cons r2 r=>
     cases r
     exact⟨p,_,rfl,hq.grow I.sub.grow,rfl,_,_,rfl,_,_,rfl,rfl,k _ ((I.set' i r1).set' j r2)⟩
def iZ (t:Tg)(m:SF):List D->SF
 | []=>λenv β=>.nx env β
 |d :: ds=>λenv β=>match du t d env with
  |none=>.bad
  |some env1=>match m env1 β with
   | .nx env2 β2=>iZ t m ds env2 β2
   | .ct env2 β2=>iZ t m ds env2 β2
   | .bk env2 β2=>.nx env2 β2
   |r=>r
def dO (t:Tg)(L:List Nat)(fi:VF (List D))(m:SF):SF:=λenv β=>toS (fi (vl env) β) λds β'=>iZ t m ds (bq L env) β'
def fG {t:Tg}{fi:VF (List D)}{x:List Stmt}(hp:PassesOwn (model X.prog X.w) X.A X.env X.xe)(hc:X.calm=true)(hi:SI X Γ E tg e fi L .v)(hg:SG X Γ tg t)(hb:DU X Γ E x m)(hs:∀x,foldedSetIterable e X.env x=pure x:=by intro _;rfl):SS X Γ E (.For tg e x [] pos) (dO t L fi m):=by
 refine PS.post (tO hp hc hi hg hb hs) λN σ H ⟨env,G,B,β,I,o⟩=>?_
 refine⟨env,G,B,β,I,cx o λds β' q J G' H' I' s' m' w=>?_⟩
 have w:Walk Γ.K B G' (λ_=>none) ds J:=w
 refine⟨λi n σ H=>n=ds.length - i/\i<=ds.length/\∃env G1 B β,SR Γ B G1 H σ env β/\au G' G1/\qg Γ E G1 N (iZ t m (ds.drop i) env β),⟨ds.length,by simp,Nd _,bq L env,G',B,β',I',au.refl _,by rw[List.drop_zero];exact qg.weak q s'⟩,?_⟩
 rintro i n σ H ⟨rfl,hi,env,G1,B1,β1,I1,s1,q⟩
 obtain⟨w1,w2⟩:=w G1 H i s1 I1.sub λb o e=>by cases e
 by_cases hlt:i < ds.length
 ·obtain⟨go,yl⟩:=w1 hlt
  refine .inr ⟨go,λσ H=>∃env G2 B β,SR Γ B G2 H σ env β/\au G' G2/\qg Γ E G2 N (iZ t m (ds.drop (i + 1)) env β),λσ2 H2 h=>⟨ds.length - (i + 1),by omega,rfl,hlt,h⟩,λx H2 y=>?_⟩
  obtain⟨G2,d,x2,ed,rd⟩:=yl x H2 y
  have I2:=I1.ext x2
  have q:=qg.weak q x2.gg
  rw[OK hlt] at q
  have ed':ds[i]=d:=by rw[Mu hlt] at ed;exact Option.some.inj ed
  rw[ed'] at q
  unfold iZ at q
  cases eb:du t d env with
  |none=>rw[eb] at q;exact q.elim
  |some env1=>
   rw[eb] at q
   refine⟨env,G2,B1,β1,d,env1,I2,rd,eb,λσ3 I3=>⟨env1,G2,B1,β1,I3,?_⟩⟩
   have s2:=s1.trans x2.gg
   dsimp only at q
   cases r:m env1 β1 with
   |nx env2 β2=>rw[r] at q;exact λB2 G3 H3 σ2 I2 s3=>⟨env2,G3,B2,β2,I2,s2.trans s3,qg.weak q s3⟩
   |ct env2 β2=>rw[r] at q;exact λB2 G3 H3 σ2 I2 s3=>⟨env2,G3,B2,β2,I2,s2.trans s3,qg.weak q s3⟩
   |bk env2 β2=>rw[r] at q;exact λB2 G3 H3 σ2 I2 s3=>q B2 G3 H3 σ2 I2 s3
   |rt d fr β2=>rw[r] at q;exact q
   |exc c=>rw[r] at q;exact q
   |bad=>rw[r] at q;exact q
 ·have e:i=ds.length:=by omega
  subst e
  rw[List.drop_length] at q
  exact .inl ⟨w2 (My _),q B1 G1 H σ I1 (au.refl _)⟩
end
abbrev Fx.iN (Γ:Fx)(H0 G0:Hp)(par:List Addr)(br:Nat->Bool)(bx:Option Addr):Fx:=⟨Γ.K,H0,G0,par,Γ.ca,br,bx⟩
def dS (own:Nat)(ixs:List Nat)(vs:List Nv):List Nv:=List.replicate own .no ++ ixs.map λi=>(vs[i]?).getD .no
def Jj:Option Sl->Sl
 |some (.ow d)=>.br d
 |some s=>s
 |none=>.no
def benv (own:Nat)(ixs:List Nat)(env:En):En:=List.replicate own .no ++ ixs.map λi=>Jj env[i]?
theorem ES (o:Option Sl):(Jj o).val=(o.map Sl.val).getD .no:=by
 cases o with
 |none=>rfl
 |some s=>cases s <;> rfl
def EY (own:Nat)(ixs:List Nat)(env:En):vl (benv own ixs env)=dS own ixs (vl env):=by
 unfold vl benv dS
 rw[NM,List.map_replicate,Oe]
 congr 1
 refine NH λi _=>?_
 show (Jj env[i]?).val=_
 rw[ES,MG]
def xN (env:En):Prop:=∀(i:Nat) (d:D),env[i]?≠some (.ow d)
theorem uB {env:En}(h:xN env)(L:List Nat):bq L env=env:=by
 unfold bq
 induction L with
 |nil=>rfl
 |cons i L ih=>
  rw[O9]
  have:ja env i=env:=by
   unfold ja
   split
   ·rename_i d e;exact absurd e (h i d)
   ·rfl
  rw[this];exact ih
def qM (own:Nat)(ixs:List Nat)(env:En):xN (benv own ixs env):=λi d e=>by
 unfold benv at e
 have hm:=MO e
 rcases M1.mp hm with h |h
 ·have:=Pd h;cases this
 ·obtain⟨k,_,hk⟩:=MM.mp h
  cases q:env[k]? with
  |none=>rw[q] at hk;cases hk
  |some s=>rw[q] at hk;cases s <;> cases hk
def p0 {env:En}(h:xN env)(i:Nat)(d:D):xN (env.set i (.fz d)):=λj d' e=>by
 by_cases z:i=j
 ·subst z
  by_cases hi:i < env.length
  ·rw[MV hi] at e;cases e
  ·rw[Og (by omega)] at e;exact h _ _ e
 ·rw[MR z] at e;exact h _ _ e
theorem zF {env env1:En}{t:Tg}{d:D}(h:xN env)(e:du t d env=some env1):xN env1:=by
 cases t with
 |nm i=>cases e;exact p0 h i d
 |two i j=>
  have e:(pairD d).map _=some env1:=e
  cases q:pairD d with
  |none=>rw[q] at e;cases e
  |some p=>rw[q] at e;cases e;exact p0 (p0 h _ _) _ _
theorem AQ {env env1:En}{t:Tg}{d:D}(e:du t d env=some env1)(d':D):du t d' env1=du t d' env:=by
 cases t with
 |nm i=>cases e;show some _=some _;rw[set_set]
 |two i j=>
  have e:(pairD d).map _=some env1:=e
  cases q:pairD d with
  |none=>rw[q] at e;cases e
  |some p=>
   rw[q] at e;cases e
   show (pairD d').map _=(pairD d').map _
   cases pairD d' with
   |none=>rfl
   |some p'=>
    show some _=some _
    congr 1
    dsimp only
    by_cases z:i=j
    ·subst z;simp[set_set]
    ·rw[List.set_comm _ _ (Ne.symm z),set_set,set_set]
def Ext.mov {G H G' H':Hp}(x:Ext G H G' H')(B:Option Addr):iK B H H':=x.hh.mov B
section
variable {Γ:Fx}{B:Option Addr}{G H G1 H1 Gc Hc:Hp}{σ σ':St}{env envb:En}{β β':Int}{own:Nat}{ixs:List Nat}{Da:Addr}{acc:List V}
def xj (envb:En):Nat->Bool:=λj=>match envb[j]? with
 |some (.br _)=>true
 |_=>false
def SR.block (I:SR Γ B G H σ env β)(own:Nat)(ixs:List Nat)(hD:H Da=none):SR (Γ.iN (upd H Da (.lst [])) G (Da :: B.toList) (xj (benv own ixs env)) B) B G (upd H Da (.lst [])) (bS own ixs σ) (benv own ixs env) β:=by
 obtain⟨q1,q2,q3,q4⟩:=I.fresh hD
 have nB:∀b,B=some b->b≠Da:=λb e z=>q3 (by rw[<-z];exact e)
 refine⟨I.sub.trans (au.new hD),au.refl _,λb _ h=>h,λb o h _=>h,λb hb=>?_,λb e=>e,λb e=>?_,?_,λi s e=>?_,λi j c d d' e=>absurd e (qM own ixs env i d)⟩
 ·rcases MB.mp hb with z |z
  ·subst z;exact Mx.lst aC
  ·have z':B=some b:=by simpa using z
   exact Mx.lst (by rw[aF (nB b z')];exact (I.box b z').1)
 ·obtain⟨h1,h2,_⟩:=I.box b e
  exact⟨by rw[aF (nB b e)];exact h1,h2,.inl (MD _ (by simpa using e))⟩
 ·unfold bS benv;simp
 ·by_cases hi:i < own
  ·unfold benv at e
   rw[Ng (by simpa using hi),N3,MA hi] at e
   cases e;trivial
  ·have e0:=e
   unfold benv at e
   rw[Nb (by simpa using hi),Oy,MG] at e
   cases ek:ixs[i - own]? with
   |none=>rw[ek] at e;cases e
   |some k=>
    rw[ek] at e
    have e:Jj env[k]? =s:=Option.some.inj e
    have es:(bS own ixs σ)[i]? =some ((σ[k]?).join):=by
     unfold bS
     rw[Nb (by simpa using hi),Oy,MG,ek];rfl
    rw[es]
    cases q:env[k]? with
    |none=>rw[q] at e;subst e;trivial
    |some t=>
     rw[q] at e
     have w:=I.slot k t q
     cases t with
     |no=>subst e;trivial
     |fz d=>subst e;obtain⟨v,h1,h2⟩:=w;exact⟨v,by rw[h1];rfl,h2⟩
     |bx=>subst e;obtain⟨a,h1,h2⟩:=w;exact⟨a,by rw[h1];rfl,h2⟩
     |ow d=>
      subst e
      obtain⟨a,h1,h2,h3,h4,h5⟩:=w
      obtain⟨o,ho⟩:=h5.obj
      have aD:a≠Da:=aL ho hD
      refine⟨by show xj _ i=true;unfold xj;rw[e0];rfl,a,by rw[h1];rfl,h4,?_,h5.mono (au.refl _) λo q=>by rw[aF aD];exact q⟩
      intro hm
      rcases MB.mp hm with z |z
      ·exact aD z
      ·exact h4 (by simpa using z)
     |br d=>
      subst e
      obtain⟨b1,a,h1,h4,hp,h5⟩:=w
      obtain⟨o,ho⟩:=h5.obj
      have aD:a≠Da:=aL ho hD
      refine⟨by show xj _ i=true;unfold xj;rw[e0];rfl,a,by rw[h1];rfl,h4,?_,h5.mono (au.refl _) λo q=>by rw[aF aD];exact q⟩
      intro hm
      rcases MB.mp hm with z |z
      ·exact aD z
      ·exact h4 (by simpa using z)
def SR.unblock (I:SR Γ B G H σ env β){br:Nat->Bool}(hD:H Da=none)(J:SR (Γ.iN (upd H Da (.lst [])) G (Da :: B.toList) br B) B Gc Hc σ' envb β'):SR Γ B Gc Hc σ env β'/\iK B H Hc/\Gc Da=none:=by
 obtain⟨q1,q2,q3,q4⟩:=I.fresh hD
 have up:∀{b:Addr},Mx H b->Mx (upd H Da (.lst [])) b:=λ{b} h=>h.same λo e=>by rw[aF (aL e hD)];exact e
 have mv:iK B H Hc:=λb o e n=>J.keep b o (show upd H Da (.lst []) b=some o by rw[aF (aL e hD)];exact e) λhm=>by
  rcases MB.mp hm with z |z
  ·rw[z,hD] at e;cases e
  ·exact n (by simpa using z)
 refine⟨⟨J.sub,I.old.trans J.old,λb h1 h2=>J.new b (up (I.thereM h1)) (I.new b h1 h2),λb o h1 h2=>mv b o (I.keep b o h1 h2) λz=>?_,λb hb=>J.thereM (up (I.pin b hb)),I.fix,λb e=>?_,I.len,λi s e=>?_,I.sep⟩,mv,J.new Da (Mx.lst (show upd H Da (.lst []) Da=some (.lst []) from aC)) q2⟩
 ·obtain⟨_,_,h3⟩:=I.box b z
  rcases h3 with h3 |h3
  ·exact h2 h3
  ·rw[h1] at h3;cases h3
 ·obtain⟨j1,j2,_⟩:=J.box b e
  exact⟨j1,j2,(I.box b e).2.2⟩
 ·have w:=I.slot i s e
  cases s with
  |no=>trivial
  |fz d=>obtain⟨v,h1,h2⟩:=w;exact⟨v,h1,h2.mono J.old⟩
  |bx=>exact w
  |ow d=>
   obtain⟨a,h1,h2,h3,h4,h5⟩:=w
   exact⟨a,h1,h2,J.new a (up h5.mx) h3,h4,h5.mono J.old λo q=>mv a o q h4⟩
  |br d=>
   obtain⟨b1,a,h1,h4,hp,h5⟩:=w
   exact⟨b1,a,h1,h4,hp,h5.mono J.old λo q=>mv a o q h4⟩
def SR.updD {ys:List V}(J:SR Γ B G H σ env β)(hp:Da∈Γ.par)(h0:Mx Γ.H0 Da)(g0:Γ.G0 Da=none)(hB:B≠some Da):SR Γ B G (upd H Da (.lst ys)) σ env β:=by
 have gD:=J.new Da h0 g0
 refine⟨λb u q=>by rw[aF (λz=>by rw[z,gD] at q;cases q)];exact J.sub b u q,J.old,J.new,λb u q n=>by rw[aF (λz=>n (by rw[z];exact hp))];exact J.keep b u q n,λb hb=>?_,J.fix,λb e=>?_,J.len,λi s e=>?_,J.sep⟩
 ·by_cases z:b=Da
  ·subst z;exact Mx.lst aC
  ·exact (J.pin b hb).same λo e=>by rw[aF z];exact e
 ·obtain⟨h1,h2⟩:=J.box b e
  exact⟨by rw[aF (λz=>hB (by rw[<-z];exact e))];exact h1,h2⟩
 ·have w:=J.slot i s e
  cases s with
  |no=>trivial
  |fz d=>exact w
  |bx=>exact w
  |ow d=>
   obtain⟨a,h1,h2,h3,h4,h5⟩:=w
   have aD:a≠Da:=λz=>h0.1 (by rw[<-z];exact h2)
   exact⟨a,h1,h2,h3,h4,h5.mono (au.refl _) λo q=>by rw[aF aD];exact q⟩
  |br d=>
   obtain⟨b1,a,h1,h4,hpa,h5⟩:=w
   have aD:a≠Da:=λz=>hpa (by rw[z];exact hp)
   exact⟨b1,a,h1,h4,hpa,h5.mono (au.refl _) λo q=>by rw[aF aD];exact q⟩
end
def R.okb {α γ:Type}(r:R α)(k:α->Int->R γ):R γ:=match r with
 | .ok a β=>k a β
 |_=>.bad
def fZ (t:Tg)(ft:VF Bool)(fe:VF D)(vs:List Nv):List D->Int->R (List D)
 | [],β=>.ok [] β
 |d :: ds,β=>match lb t d vs with
  |none=>.bad
  |some vs1=>(ft vs1 β).okb λc β1=>if c=true then (fe vs1 β1).okb λx β2=>(fZ t ft fe vs ds β2).okb λxs β3=>.ok (x :: xs) β3 else fZ t ft fe vs ds β1
def aP (own:Nat)(ixs:List Nat)(t:Tg)(fi:VF (List D))(ft:VF Bool)(fe:VF D):VF D:=λvs β=>(fi vs β).bnd λds β1=>if ds.length<=sizeLine then (fZ t ft fe (dS own ixs vs) ds β1).okb λxs β2=>.ok (.list xs) β2 else .bad
def ij:VF Bool:=λ_ β=>.ok true β
def Gk (own:Nat)(ixs Lc:List Nat)(j:Nat):Bool:=decide (j < own) || (match ixs[j - own]? with
 |some i=>Lc.contains i
 |none=>false)
theorem FC {α γ:Type}{Γ:Fx}{E:XK}{r:R α}{k:α->Int->R γ}{P:γ->Int->Prop}(h:Out Γ E (r.okb k) P):∃a β,r=.ok a β/\Out Γ E (k a β) P:=by
 cases r with
 |ok a β=>exact⟨a,β,rfl,h⟩
 |exc c=>exact h.elim
 |bad=>exact h.elim
section
variable {X:Cx}{Γ:Fx}{E:XK}{tg iter elt:Expr}{ifs:List Expr}{scope:Scope}{NB:List Str}{own:Nat}{ixs Li Lc Lt Le:List Nat}{t:Tg}{fi:VF (List D)}{ft:VF Bool}{fe:VF D}{pos:Pos}
def cw {X:Cx}{Γ:Fx}{E:XK}:B3 X [] (qT Γ E ij []):=λpins s σ H Q I ⟨env,G,B,β,J,o⟩=>r6 pins s σ H Q I (o G H J (au.refl _) (iK.refl _ _))
def mi {X:Cx}{Γ:Fx}{E:XK}{c:Expr}{ta:VF Bool}{L:List Nat}(h:x9 X Γ E c ta L):B3 X [c] (qT Γ E ta L):=yt h
def jU {NB:List Str}{scope:Scope}{C:Addr}{ex:List Addr}{s3:Shared}{H3:Hp}{pn:List (Addr×Obj)}{P:Program}{w:World}:Passes (nR P w) (iN X NB scope C ex s3 H3 pn) E0:=λpins σ H s e s' I h=>by
 obtain⟨_,_,_,_,_,_,_,_,_,q⟩:=h
 exact q.elim
abbrev gU (Γ:Fx)(t:Tg):TG:=λv σ H Q=>∃H0 G0 par br bx,gT (Γ.iN H0 G0 par br bx) t v σ H Q
abbrev tU (Γ:Fx)(own:Nat)(ixs Lc:List Nat)(ft:VF Bool)(Lt:List Nat):TT:=λσ H Q=>∃H0 G0 par br bx,(∀j,Gk own ixs Lc j=true->br j=false)/\qT (Γ.iN H0 G0 par br bx) E0 ft Lt σ H Q
abbrev eU (Γ:Fx)(own:Nat)(ixs Lc:List Nat)(fe:VF D)(Le:List Nat):TE:=λσ H Q=>∃H0 G0 par br bx,(∀j,Gk own ixs Lc j=true->br j=false)/\pT (Γ.iN H0 G0 par br bx) E0 fe Le .v σ H Q
def Gd {σ:St}{H:Hp}{Q:VK}(hLc:∀i,i∈Lc->Γ.br i=false)(h:pT Γ E (aP own ixs t fi ft fe) (Li ++ Lc) .w σ H Q):xh own ixs (iT Γ E fi Li .b) (gU Γ t) (tU Γ own ixs Lc ft Lt) (eU Γ own ixs Lc fe Le) σ H Q:=by
 obtain⟨env,G,B,β,I,o⟩:=h
 refine⟨env,G,B,β,I,o.bnd.imp λds β1 h J G1 H1 I1 s1 m1 wk Da hD=>?_⟩
 have wk:Walk Γ.K B G1 H1 ds J:=wk
 by_cases hz:ds.length<=sizeLine
 case neg=>rw[MF hz] at h;exact h.elim
 rw[MA hz] at h
 obtain⟨xs0,β0,e0,h⟩:=FC h
 have h:∀v G' H',SR Γ B G' H' σ (bq (Li ++ Lc) env) β0->au G G'->iK B H H'->VO Γ.K B H G' H' .w (.list xs0) v->Q v H':=h
 obtain⟨G2,I2,s2⟩:=I1.bq Lc hLc
 rw[<-cf] at I2
 obtain⟨q1,q2,q3,q4⟩:=I2.fresh hD
 have Ib0:=I2.block own ixs hD
 generalize hbr:xj (benv own ixs (bq (Li ++ Lc) env))=br at Ib0
 have hbo:∀j,Gk own ixs Lc j=true->br j=false:=by
  intro j hj
  rw[<-hbr]
  unfold xj
  split
  ·rename_i d e
   exfalso
   unfold benv at e
   by_cases hjo:j < own
   ·rw[Ng (by simpa using hjo),N3,MA hjo] at e;cases e
   ·rw[Nb (by simpa using hjo),Oy,MG] at e
    unfold Gk at hj
    rw[MK hjo,Bool.false_or] at hj
    cases ek:ixs[j - own]? with
    |none=>rw[ek] at hj;cases hj
    |some k=>
     rw[ek] at hj e
     have hk:k∈Lc:=by simpa using hj
     have e:Jj (bq (Li ++ Lc) env)[k]? =.br d:=Option.some.inj e
     cases q:(bq (Li ++ Lc) env)[k]? with
     |none=>rw[q] at e;cases e
     |some s=>
      rw[q] at e
      cases s with
      |no=>cases e
      |fz _=>cases e
      |bx=>cases e
      |br d'=>
       obtain⟨b1,_⟩:=I2.slot k _ q
       rw[hLc k hk] at b1;cases b1
      |ow d'=>
       rw[cf] at q
       have key:∀(M:List Nat) (en:En),k∈M->∀d',(bq M en)[k]?≠some (.ow d'):=by
        intro M
        induction M with
        |nil=>intro en hm;cases hm
        |cons i M ih=>
         intro en hm d' z
         rcases MB.mp hm with y |y
         ·subst y
          have z1:(ja en k)[k]? =some (.ow d'):=sU (L:=M) z
          have z2:=yu z1
          unfold ja at z1
          rw[z2] at z1
          dsimp only at z1
          rw[MV (MJ.mp z2).1] at z1;cases z1
         ·exact ih (ja en i) y d' z
       exact key Lc _ hk d' q
  ·rfl
 have evb:vl (benv own ixs (bq (Li ++ Lc) env))=dS own ixs (vl env):=by rw[EY,eQ]
 refine⟨λi n σ' H'=>n=ds.length - i/\i<=ds.length/\∃envb Gc β' acc accd,SR (Γ.iN (upd H1 Da (.lst [])) G2 (Da :: B.toList) br B) B Gc H' σ' envb β'/\(envb=benv own ixs (bq (Li ++ Lc) env)\/∃d,du t d (benv own ixs (bq (Li ++ Lc) env))=some envb)/\
   H' Da=some (.lst acc)/\b5 Γ.K Gc acc accd/\accd.length<=i/\∃xs,fZ t ft fe (dS own ixs (vl env)) (ds.drop i) β'=.ok xs β0/\accd ++ xs=xs0,
  ⟨ds.length,by simp,Nd _,_,G2,β1,[],[],Ib0,.inl rfl,aC,.nil,Nd _,xs0,by rw[List.drop_zero];exact e0,rfl⟩,?_⟩
 rintro i n σ' H' ⟨rfl,hi',envb,Gc,β',acc,accd,Ib,eb,hacc,racc,lacc,xs,ec,exs⟩
 obtain⟨Io,mv,gD⟩:=I2.unblock hD Ib
 obtain⟨w1,w2⟩:=wk Gc H' i (s2.trans Ib.old) Ib.sub mv
 by_cases hlt:i < ds.length
 ·obtain⟨go,yl⟩:=w1 hlt
  refine .inr ⟨go,λσ' H'=>∃envb Gc β' acc accd,SR (Γ.iN (upd H1 Da (.lst [])) G2 (Da :: B.toList) br B) B Gc H' σ' envb β'/\(envb=benv own ixs (bq (Li ++ Lc) env)\/∃d,du t d (benv own ixs (bq (Li ++ Lc) env))=some envb)/\
   H' Da=some (.lst acc)/\b5 Γ.K Gc acc accd/\accd.length<=i + 1/\∃xs,fZ t ft fe (dS own ixs (vl env)) (ds.drop (i + 1)) β'=.ok xs β0/\accd ++ xs=xs0,λσ2 H2 hh=>⟨ds.length - (i + 1),by omega,rfl,hlt,hh⟩,λx H2 y=>?_⟩
  obtain⟨G3,d,x3,ed,rd⟩:=yl x H2 y
  have I3:=Ib.ext x3
  have ed':ds[i]=d:=by rw[Mu hlt] at ed;exact Option.some.inj ed
  rw[OK hlt,ed'] at ec
  unfold fZ at ec
  cases ebv:lb t d (dS own ixs (vl env)) with
  |none=>rw[ebv] at ec;cases ec
  |some vs1=>
   rw[ebv] at ec
   dsimp only at ec
   obtain⟨env1,eb1,ev1⟩:∃env1,du t d (benv own ixs (bq (Li ++ Lc) env))=some env1/\vl env1=vs1:=by
    have:=Et t d (benv own ixs (bq (Li ++ Lc) env))
    rw[evb,ebv] at this
    cases q:du t d (benv own ixs (bq (Li ++ Lc) env)) with
    |none=>rw[q] at this;cases this
    |some env1=>rw[q] at this;exact⟨env1,rfl,Option.some.inj this⟩
   have eb2:du t d envb=some env1:=by
    rcases eb with rfl | ⟨d0,eb⟩
    ·exact eb1
    ·rw[AQ eb];exact eb1
   have no1:xN env1:=zF (qM _ _ _) eb1
   have a2:H2 Da=some (.lst acc):=x3.hh _ _ hacc
   refine⟨_,_,_,_,_,envb,G3,B,β',d,env1,I3,rd,eb2,λσ3 I4=>?_⟩
   refine⟨_,_,_,_,_,hbo,env1,G3,B,β',I4,?_⟩
   rw[ev1]
   cases et:ft vs1 β' with
   |exc c=>rw[et] at ec;cases ec
   |bad=>rw[et] at ec;cases ec
   |ok c β2=>
    rw[et] at ec
    intro G4 H4 I5 s4 m4
    rw[uB no1] at I5
    have a4:H4 Da=some (.lst acc):=m4 _ _ a2 q3
    cases c with
    |false=>
     refine uV ⟨env1,G4,β2,acc,accd,I5,.inr ⟨d,eb1⟩,a4,racc.mono (x3.gg.trans s4),by omega,xs,?_,exs⟩
     exact ec
    |true=>
     refine vC ⟨_,_,_,_,_,hbo,env1,G4,B,β2,I5,?_⟩
     rw[ev1]
     have ec:((fe vs1 β2).okb λx β3=>(fZ t ft fe (dS own ixs (vl env)) (ds.drop (i + 1)) β3).okb λxs β4=>R.ok (x :: xs) β4)=R.ok xs β0:=ec
     cases ee:fe vs1 β2 with
     |exc c=>rw[ee] at ec;cases ec
     |bad=>rw[ee] at ec;cases ec
     |ok dx β3=>
      rw[ee] at ec
      intro v G5 H5 I6 s5 m5 vo
      rw[uB no1] at I6
      have a5:H5 Da=some (.lst acc):=m5 _ _ a4 q3
      have ec:((fZ t ft fe (dS own ixs (vl env)) (ds.drop (i + 1)) β3).okb λxs β4=>R.ok (dx :: xs) β4)=R.ok xs β0:=ec
      cases er:fZ t ft fe (dS own ixs (vl env)) (ds.drop (i + 1)) β3 with
      |exc c=>rw[er] at ec;cases ec
      |bad=>rw[er] at ec;cases ec
      |ok ys β4=>
       rw[er] at ec
       cases ec
       refine⟨acc,a5,by rw[racc.len];omega,env1,G5,β3,acc ++ [v],accd ++ [dx],?_,.inr ⟨d,eb1⟩,aC,(racc.mono ((x3.gg.trans s4).trans s5)).snoc vo,by rw[M5];simp;omega,ys,er,by rw[<-exs,Nm];rfl⟩
       refine I6.updD (MC ..) (Mx.lst (show upd H1 Da (.lst []) Da=some (.lst []) from aC)) (I2.sub.free hD) q3
 ·have e:i=ds.length:=by omega
  subst e
  rw[List.drop_length] at ec
  cases ec
  rw[Oc] at exs
  subst exs
  refine .inl ⟨w2 (My _),⟨acc,hacc⟩,h _ Gc H' Io ((s1.trans s2).trans Ib.old) (m1.trans mv) ⟨Da,rfl,fq m1 I1.boxThere hD,gD,acc,hacc,racc⟩⟩
def bU (hg:∀H0 G0 par br bx C ex s3 H3 pn,SG (iN X NB scope C ex s3 H3 pn) (Γ.iN H0 G0 par br bx) tg t)(C:Addr)(ex:List Addr)(s3:Shared)(H3:Hp)(pn:List (Addr×Obj)):PG (iN X NB scope C ex s3 H3 pn) tg (gU Γ t):=by
 rintro pins s σ H v u Q I r ⟨H0,G0,par,br,bx,q⟩
 exact hg H0 G0 par br bx C ex s3 H3 pn pins s σ H v u Q I r q
def b4 (Lc:List Nat)(hc:X.calm=true)(S:df X NB own ixs scope)(hLc:∀i,i∈Lc->Γ.br i=false)(hi:SI X Γ E tg iter fi Li .b)
  (hg:∀H0 G0 par br bx C ex s3 H3 pn,SG (iN X NB scope C ex s3 H3 pn) (Γ.iN H0 G0 par br bx) tg t)
  (ht:∀H0 G0 par br bx C ex s3 H3 pn,(∀j,Gk own ixs Lc j=true->br j=false)->B3 (iN X NB scope C ex s3 H3 pn) ifs (qT (Γ.iN H0 G0 par br bx) E0 ft Lt))
  (he:∀H0 G0 par br bx C ex s3 H3 pn,(∀j,Gk own ixs Lc j=true->br j=false)->SE (iN X NB scope C ex s3 H3 pn) (Γ.iN H0 G0 par br bx) E0 elt fe Le .v)
  (hs:∀x,foldedSetIterable iter X.env x=pure x:=by intro _;rfl) :
  SE X Γ E (.ListComp elt [⟨tg,iter,ifs,0⟩] scope pos) (aP own ixs t fi ft fe) (Li ++ Lc) .w:=by
 refine PE.post' (uk (g:=gU Γ t) (tt:=tU Γ own ixs Lc ft Lt) (te:=eU Γ own ixs Lc fe Le) hc S hi (bU hg) (λC ex s3 H3 pn=>?_) (λC ex s3 H3 pn=>?_) hs) λσ H Q h=>Gd hLc h
 ·rintro pins s σ H Q I ⟨H0,G0,par,br,bx,b,q⟩
  exact ht H0 G0 par br bx C ex s3 H3 pn b pins s σ H Q I q
 ·rintro pins s σ H Q I ⟨H0,G0,par,br,bx,b,q⟩
  exact he H0 G0 par br bx C ex s3 H3 pn b pins s σ H Q I q
def tM {i:Nat}{y:Str}{py spos:Pos}(Lc:List Nat)(hc:X.calm=true)(S:df X NB own ixs scope)(hLc:∀i,i∈Lc->Γ.br i=false)(hi:SI X Γ E tg iter fi Li .b)
  (hg:∀H0 G0 par br bx C ex s3 H3 pn,SG (iN X NB scope C ex s3 H3 pn) (Γ.iN H0 G0 par br bx) tg t)
  (ht:∀H0 G0 par br bx C ex s3 H3 pn,(∀j,Gk own ixs Lc j=true->br j=false)->B3 (iN X NB scope C ex s3 H3 pn) ifs (qT (Γ.iN H0 G0 par br bx) E0 ft Lt))
  (he:∀H0 G0 par br bx C ex s3 H3 pn,(∀j,Gk own ixs Lc j=true->br j=false)->SE (iN X NB scope C ex s3 H3 pn) (Γ.iN H0 G0 par br bx) E0 elt fe Le .v)
  (hN:X.N.Nodup) (hy:X.N[i]? =some y:=by rfl) (hl:X.env.scope.names.lookup y=some .local:=by rfl)
  (hsw:swapsWith (.ListComp elt [⟨tg,iter,ifs,0⟩] scope pos) (some (.Name y py)) spos.line X.env=pure true:=by rfl)
  (hs:∀x,foldedSetIterable iter X.env x=pure x:=by intro _;rfl) :
  SS X Γ E (.Assign [.Name y py] (.ListComp elt [⟨tg,iter,ifs,0⟩] scope pos) spos) (bo i (Li ++ Lc) (aP own ixs t fi ft fe)):=by
 refine PS.post (DH (g:=gU Γ t) (tt:=tU Γ own ixs Lc ft Lt) (te:=eU Γ own ixs Lc fe Le) hc S hi (bU hg) (λC ex s3 H3 pn=>?_) (λC ex s3 H3 pn=>?_) hN hy hl hsw hs) λN σ H ⟨env,G,B,β,I,o⟩=>?_
 ·rintro pins s σ H Q I ⟨H0,G0,par,br,bx,b,q⟩
  exact ht H0 G0 par br bx C ex s3 H3 pn b pins s σ H Q I q
 ·rintro pins s σ H Q I ⟨H0,G0,par,br,bx,b,q⟩
  exact he H0 G0 par br bx C ex s3 H3 pn b pins s σ H Q I q
 refine Gd hLc ⟨env,G,B,β,I,cx o λd β' k v G' H' I' s' m' vo=>?_⟩
 obtain⟨G2,I2,s2,r⟩:=I.letW I' vo
 exact k B G2 H' _ (I2.set' i r) (s'.trans s2)
end
def fin:SO->FR
 | .nx _ _=>.ok .none false
 | .rt d fr _=>.ok d fr
 | .exc c=>.exc c
 |_=>.bad
def zh (n:Nat)(ds:List D):En:=ds.map Sl.fz ++ List.replicate (n - ds.length) .no
def bp (n p:Nat)(m:SF):List D->FR:=λds=>if ds.length=p then fin (m (zh n ds) 0) else .bad
abbrev Fx.fn (K:Frag)(H G:Hp)(ca:Str->Addr):Fx:=⟨K,H,G,[],ca,λ_=>false,none⟩
def SR.start {K:Frag}{H G:Hp}{ca:Str->Addr}{N:List Str}{vs:List V}{ds:List D}(s:au G H)(r:b5 K G vs ds)(hn:ds.length<=N.length):SR (Fx.fn K H G ca) none G H (start N vs) (zh N.length ds) 0:=by
 have hl:=r.len
 refine⟨s,au.refl _,λb _ h=>h,λb o h _=>h,λb h=>(by cases h),λb h=>(by cases h),λb h=>(by cases h),?_,λi t e=>?_,λi j a d e h=>?_⟩
 ·unfold L2.start zh;simp;omega
 ·unfold zh at e
  by_cases hi:i < ds.length
  ·rw[Ng (by simpa using hi),MG,Mu hi] at e
   cases e
   obtain⟨x,hx,rx⟩:=r.at (Mu hi)
   refine⟨x,?_,rx⟩
   unfold L2.start
   rw[Ng (by simpa[hl] using hi),MG,hx];rfl
  ·rw[Nb (by simpa using hi),N3] at e
   split at e
   ·cases e;trivial
   ·cases e
 ·unfold zh at h
  have hm:=MO h
  rcases M1.mp hm with z |z
  ·obtain⟨_,_,z⟩:=MM.mp z;cases z
  ·have:=Pd z;cases this
section
variable {P:Program}{w:World}{K:Frag}{mg:Str->Option Value}{base:Heap}{ca:Str->Addr}
def a9 {x qual:Str}{st:Stmt}{f:Addr}{fd:FuncData}{N ps:List Str}{k:Nat}{m:SF}(F:DV K x qual st f fd)(S:aJ N ps (ay st))
  (hbody:∀(cdv:Value) (A:Around) (outer:List Env) (s:Shared) (H G:Hp) (E:XK),fI k (A.deeper (envOfC qual (ay st) s.heap.objs.size f cdv))->DU (kU (nR P w) P w K mg base N qual (ay st) f cdv A outer s H E) (Fx.fn K H G ca) E (cY st) m) :
  fW P w K mg base (nR P w) (k + 1) f fd ps (DW K ca ps.length (bp N.length ps.length m)):=by
 have hpn:ps.length<=N.length:=by have:=congrArg List.length S.pre;rw[NN] at this;omega
 refine F.uc S (λvs H Q E h=>?_) (λcdv A outer s H vs Q E hr h=>?_)
 ·obtain⟨G,ds,sG,hl,r,_⟩:=h
  rw[r.len];exact hl
 ·obtain⟨G,ds,sG,hl,r,h⟩:=h
  refine⟨_,hbody cdv A outer s H G E hr,?_⟩
  have I:=SR.start (ca:=ca) (N:=N) sG r (by omega)
  refine⟨_,G,none,0,I,?_⟩
  unfold bp at h
  rw[MA hl] at h
  have fin':∀{B G' H' σ env β},SR (Fx.fn K H G ca) B G' H' σ env β->au H H':=λJ b o e=>J.keep b o e (λz=>by cases z)
  cases q:m (zh N.length ds) 0 with
  |nx env β=>rw[q] at h;exact λB G' H' σ J s'=>h .non G' H' (fin' J) s' J.sub (λb h1 h2=>J.new b h1 h2) Rp.non
  |bk env β=>rw[q] at h;exact h.elim
  |ct env β=>rw[q] at h;exact h.elim
  |rt d fr β=>
   rw[q] at h
   refine λB G' H' σ env v J s' rv=>h v G' H' (fin' J) s' J.sub (λb h1 h2=>J.new b h1 h2) ?_
   cases fr with
   |true=>exact rv
   |false=>exact rv
  |exc c=>rw[q] at h;exact λH' kp=>h H' λb o e=>kp b o e (λz=>by cases z)
  |bad=>rw[q] at h;exact h.elim
def D5 {n:Nat}{F F':List D->FR}(h:∀ds,ds.length=n->F' ds≠.bad->F ds=F' ds){vs:List V}{H:Hp}{Q:VK}{E:XK}(q:DW K ca n F' vs H Q E):DW K ca n F vs H Q E:=by
 obtain⟨G,ds,s,hl,r,q⟩:=q
 refine⟨G,ds,s,hl,r,?_⟩
 by_cases hb:F' ds=.bad
 ·rw[hb] at q;exact q.elim
 ·rw[h ds hl hb];exact q
def bX.imp {x:Str}{ps:List Str}{k:Nat}{F F':List D->FR}(h:bX P w K mg base ca x ps k F)(i:∀ds,F' ds≠.bad->F ds=F' ds):bX P w K mg base ca x ps k F':=by
 obtain⟨f,fd,a,b,c,d⟩:=h.ex
 exact⟨⟨f,fd,a,b,c,d.imp λvs H Q E q=>D5 (λds _=>i ds) q⟩,λds hn=>h.len ds (by rw[i ds hn];exact hn)⟩
def aQ {n p:Nat}{m:SF}(ds:List D)(h:bp n p m ds≠.bad):ds.length=p:=by
 unfold bp at h
 by_cases hl:ds.length=p
 ·exact hl
 ·rw[MF hl] at h;exact absurd rfl h
def gZ {N:List Str}{qual:Str}{scope:Scope}{f:Addr}{cd:Value}{A:Around}{outer:List Env}{s0:Shared}{H0:Hp}{E:XK}{Γ:Fx}{x:Str}{C:Addr}{np cpos pos:Pos}{e0:Expr}{es:List Expr}{fr:VF (List D)}{L:List Nat}(q:PySem.W.excIn K C [.type "ValueError",.type "Exception",.type "BaseException",.type "object"] "ValueError.__new__"=true)(hca:Γ.ca x=C)
  (hg:Gl (kU (nR P w) P w K mg base N qual scope f cd A outer s0 H0 E) x) (hm:mg x=some (.ref C)) (ha:SA (kU (nR P w) P w K mg base N qual scope f cd A outer s0 H0 E) Γ E (e0 :: es) fr L)
  (he:starEach (e0 :: es) (envOfC qual scope s0.heap.objs.size f cd)=(false,eval e0 (envOfC qual scope s0.heap.objs.size f cd)) :: starEach es (envOfC qual scope s0.heap.objs.size f cd):=by rfl)
  (hpl:(backTo cpos (starEach es (envOfC qual scope s0.heap.objs.size f cd))).any (·.1)=false:=by rfl) (hdb:(x == ("__debug__":Str))=false:=by decide) :
  SS (kU (nR P w) P w K mg base N qual scope f cd A outer s0 H0 E) Γ E (.Raise (some (.Call (.Name x np) (e0 :: es) [] cpos)) none pos) (λenv β=>toS (fr (vl env) β) λds _=>if ds.length<=sizeLine then .exc x else .bad):=by
 refine PS.post (De PySem.F.excBase_ValueError (by decide +kernel) q hg hm ha he hpl hdb) λD σ H ⟨env,G,B,β,I,o⟩=>?_
 refine⟨env,G,B,β,I,cx o λds β' k vs G' H' I' s' m' r=>?_⟩
 by_cases hz:ds.length<=sizeLine
 ·rw[MA hz] at k
  refine⟨by rw[r.len];exact hz,?_⟩
  have:=k H' (I'.kp (au.refl _))
  rw[hca] at this
  exact this
 ·rw[MF hz] at k;exact k.elim
end
section
variable {X:Cx}{Γ:Fx}{E:XK}{e a b c:Expr}{f fa fb:VF D}{L La Lb:List Nat}{md ma mb:Md}{pos apos cpos np:Pos}
def tQ:Option Sl->Bool
 |some (.ow (.list _))=>true
 |_=>false
theorem oD {o:Option Sl}(h:tQ o=true):∃ds,o=some (.ow (.list ds)):=by
 cases o with
 |none=>cases h
 |some s=>
  cases s with
  |ow d=>cases d with
   |list ds=>exact⟨ds,rfl⟩
   |_=>cases h
  |_=>cases h
def G9 (i:Nat)(env:En)(β:Int)(g:List D->Option (List D)):SO:=match env[i]? with
 |some (.ow (.list ds))=>(match g ds with
  |some es=>.nx (env.set i (.ow (.list es))) β
  |none=>.bad)
 |_=>.bad
def nQ (i:Nat)(L:List Nat)(f:VF D):SF:=λenv β=>if tQ env[i]? =true then toS (f (vl env) β) λd β'=>G9 i (bq L env) β' λds=>if ds.length < sizeLine then some (ds ++ [d]) else none else .bad
def tZ {Γ:Fx}{E:XK}{G:Hp}{N:Ends}{i:Nat}{env:En}{β:Int}{g:List D->Option (List D)}(h:qg Γ E G N (G9 i env β g)):∃ds es,env[i]? =some (.ow (.list ds))/\g ds=some es/\qg Γ E G N (.nx (env.set i (.ow (.list es))) β):=by
 unfold G9 at h
 split at h
 ·rename_i ds q
  cases e:g ds with
  |none=>rw[e] at h;exact h.elim
  |some es=>rw[e] at h;exact⟨ds,es,q,e,h⟩
 ·exact h.elim
def mH (i:Nat){x:Str}(hb:∀j,Γ.br j=false)(he:SE X Γ E e f L .v)(hN:X.N[i]? =some x:=by rfl)(hv:AW X.env.scope x:=by first |exact Or.inl rfl |exact Or.inr (Or.inl rfl) |exact Or.inr (Or.inr rfl))(hd:(x == ("__debug__":Str))=false:=by decide)
  (hcd:(x == ("__classdict__":Str))=false:=by decide)
  (hbase:attributeBase (.Name x np) "append" X.env (eval (.Name x np) X.env)=eval (.Name x np) X.env:=by rfl)
  (hfew:((backTo cpos (starEach [e] X.env)).all (λx=> !x.1) && (backToKw cpos (keywordEach [] X.env)).all (λx=>x.1.isSome)
   && decide ([e].length + ([]:List Keyword).length + (if ([]:List Keyword).isEmpty then 0 else 1) < 30))=true:=by rfl)
  (hline:(apos.endLine == cpos.line)=true:=by rfl) (hs:starEach [e] X.env=(false,eval e X.env) :: starEach [] X.env:=by rfl)
  (hsw:swapsWith (.Call (.Attribute (.Name x np) "append" apos) [e] [] cpos) none pos.line X.env=pure false:=by rfl) :
  SS X Γ E (.Expr (.Call (.Attribute (.Name x np) "append" apos) [e] [] cpos) pos) (nQ i L f):=by
 refine PS.post (sd (Cc OV PySem.F.slot_list_append PySem.F.type_list_append mS (jO hN hv hd hcd) (aO he bA hs) hbase hfew hline hs rfl) hsw) λN σ H ⟨env,G,B,β,I,o⟩=>?_
 unfold nQ at o
 by_cases hO:tQ env[i]? =true
 case neg=>rw[MF hO] at o;exact o.elim
 rw[MA hO] at o
 obtain⟨ds0,q0⟩:=oD hO
 obtain⟨p,h1,_,_,_,xs,h5,_⟩:=I.slot i _ q0
 refine⟨_,h1,.inl ⟨rfl,xs,.inl (.inl h5)⟩,?_⟩
 refine⟨env,G,B,β,I,cx o λd β' k v G' H' I' s' m' vo=>?_⟩
 obtain⟨ds,es,q,eg,k⟩:=tZ k
 by_cases hz:ds.length < sizeLine
 case neg=>rw[MF hz] at eg;cases eg
 rw[MA hz] at eg
 cases eg
 obtain⟨p',g1,_,_,_,ys,g5,g6⟩:=I'.slot i _ q
 rw[h1] at g1;cases g1
 refine⟨p,ys,v,rfl,rfl,g5,by rw[g6.len];exact hz,?_⟩
 exact k B G' _ σ (I'.write hb q h1 λH2 e2 s2=>⟨_,e2,g6.snoc vo⟩) s'
def Inv.lstR {pins:List (Addr×Obj)}{σ:St}{H:Hp}{s:Shared}{l:Addr}{xs:List V}(I:Inv X pins σ H s)(hH:Rd H l (.lst xs)):xs.length<=sizeLine/\∃(its:List Value) (n:Nat),Vals xs its/\xs.length=its.length/\s.heap.get? l=some {cls:=.type "list",data:=.seq its.toArray n}:=by
 obtain⟨z,its,n,r,e⟩:=hH.ok I.hok
 exact⟨z,its,n,r,r.length,e⟩
def me (i:Nat)(Le Li:List Nat)(fe fi:VF D):SF:=λenv β=>toS (fe (vl env) β) λd β1=>if tQ (bq Le env)[i]? =true then toS (fi (vl env) β1) λk β2=>G9 i (bq (Le ++ Li) env) β2 λds=>match k with
 | .int j=>(ub ds.length j).map λn=>ds.set n d
 |_=>none else .bad
theorem sh (i:Nat){x:Str}{spos:Pos}(hb:∀j,Γ.br j=false)(he:SE X Γ E e f La .v)(hi:SE X Γ E a fa Lb mb)(hN:X.N[i]? =some x:=by rfl)(hv:AW X.env.scope x:=by first |exact Or.inl rfl |exact Or.inr (Or.inl rfl) |exact Or.inr (Or.inr rfl))(hd:(x == ("__debug__":Str))=false:=by decide)
  (hcd:(x == ("__classdict__":Str))=false:=by decide)
  (hA:∀v,assign (.Subscript (.Name x np) a spos) X.env v=(do
   let ov <-holding [v] (eval (.Name x np) X.env)
   let iv <-holding [v,ov] (eval a X.env)
   standAt spos
   holding [v,ov,iv] (setItem ov iv v)
   release [v,ov,iv] []):=by intro _;rfl)
  (hs:swapsWithSole [.Subscript (.Name x np) a spos] e pos.line X.env=pure false:=by rfl) (hw:swappedStores [.Subscript (.Name x np) a spos] e X.env=pure none:=by rfl)
  (h1:(assignEach [.Subscript (.Name x np) a spos] X.env).map (·.2)= [assign (.Subscript (.Name x np) a spos) X.env]:=by rfl) :
  SS X Γ E (.Assign [.Subscript (.Name x np) a spos] e pos) (me i La Lb f fa):=by
 refine PS.post (mR he (sk (jO hN hv hd hcd) hi set_list hA) hs hw h1) λN σ H ⟨env,G,B,β,I,o⟩=>?_
 refine⟨env,G,B,β,I,cx o λd β1 o v G1 H1 I1 s1 m1 vo=>?_⟩
 by_cases hO:tQ (bq La env)[i]? =true
 case neg=>rw[MF hO] at o;exact o.elim
 rw[MA hO] at o
 obtain⟨ds0,q0⟩:=oD hO
 obtain⟨p,h1,_,_,_,xs,h5,_⟩:=I1.slot i _ q0
 refine⟨_,h1,bq La env,G1,B,β1,I1,?_⟩
 rw[eQ]
 refine cx o λk β2 o w G2 H2 I2 s2 m2 vi=>?_
 rw[<-cf] at I2
 obtain⟨ds,es,q,eg,o⟩:=tZ o
 cases k with
 |int j=>
  dsimp only at eg
  obtain rfl:=(vi.brw I1.boxThere).int
  obtain⟨p',g1,_,_,_,ys,g5,g6⟩:=I2.slot i _ q
  rw[h1] at g1;cases g1
  cases en:ub ds.length j with
  |none=>rw[en] at eg;cases eg
  |some n=>
   rw[en] at eg
   cases eg
   have vo:Rp Γ.K G1 v d:=vo
   refine⟨p,ys,j,n,rfl,rfl,g5,by rw[g6.len];exact en,?_⟩
   exact o B G2 _ σ (I2.write hb q h1 λH3 e3 s3=>⟨_,e3,g6.set (vo.mono s2) n⟩) (s1.trans s2)
 |_=>cases eg
end
section
variable {K:Frag}{X:Cx}
def pU {g:Int->Int->V}{gd:D->D->Option D}(h:∀dx dy d,gd dx dy=some d->∃i j,dx=.int i/\dy=.int j/\∀G,Rp K G (g i j) d):mG K (vc g) gd .v:=by
 intro B G H x y dx dy d Q s hB bx by' e k
 obtain⟨i,j,rfl,rfl,r⟩:=h _ _ _ e
 obtain rfl:=bx.int
 obtain rfl:=by'.int
 exact⟨i,j,rfl,rfl,k _ G H (Ext.refl s) (r G)⟩
def yE {C:Int->Int->Prop}{g:Int->Int->V}{gd:D->D->Option D}(h:∀dx dy d,gd dx dy=some d->∃i j,dx=.int i/\dy=.int j/\C i j/\∀G,Rp K G (g i j) d):mG K (rI C g) gd .v:=by
 intro B G H x y dx dy d Q s hB bx by' e k
 obtain⟨i,j,rfl,rfl,c,r⟩:=h _ _ _ e
 obtain rfl:=bx.int
 obtain rfl:=by'.int
 exact⟨i,j,rfl,rfl,c,k _ G H (Ext.refl s) (r G)⟩
def gI (c:Int->Int->Bool)(g:Int->Int->D):D->D->Option D
 | .int i,.int j=>if c i j=true then some (g i j) else none
 |_,_=>none
def vP (g:Int->Int->D):D->D->Option D
 | .int i,.int j=>some (g i j)
 |_,_=>none
def ye {c:Int->Int->Bool}{g:Int->Int->D}{dx dy d:D}(h:gI c g dx dy=some d):∃i j,dx=.int i/\dy=.int j/\c i j=true/\d=g i j:=by
 unfold gI at h
 split at h
 ·split at h
  ·cases h;exact⟨_,_,rfl,rfl,by assumption,rfl⟩
  ·cases h
 ·cases h
def jz {g:Int->Int->D}{dx dy d:D}(h:vP g dx dy=some d):∃i j,dx=.int i/\dy=.int j/\d=g i j:=by
 unfold vP at h
 split at h
 ·cases h;exact⟨_,_,rfl,rfl,rfl⟩
 ·cases h
def rA:D->D->Option D:=vP λi j=>.int (i - j)
def BU:mG K (vc λi j=>.int (i - j)) rA .v:=pU λdx dy d h=>by obtain⟨i,j,rfl,rfl,rfl⟩:=jz h;exact⟨i,j,rfl,rfl,λ_=>.int _⟩
def AY:D->D->Option D:=gI (λ_ j=>decide (0 < j) && decide (j < 1073741824)) λi j=>.int (i / j)
def E4:mG K (rI E7 λi j=>.int (i / j)) AY .v:=yE λdx dy d h=>by obtain⟨i,j,rfl,rfl,c,rfl⟩:=ye h;exact⟨i,j,rfl,rfl,by simpa[E7] using c,λ_=>.int _⟩
def lB:D->D->Option D:=gI (λ_ j=>decide (0 < j)) λi j=>.int (i % j)
def qW:mG K (rI (λ_ j=>0 < j) λi j=>.int (i % j)) lB .v:=yE λdx dy d h=>by obtain⟨i,j,rfl,rfl,c,rfl⟩:=ye h;exact⟨i,j,rfl,rfl,by simpa using c,λ_=>.int _⟩
def Hm (i j:Int):Bool:=decide (0<=j) && decide (j<=1000000) && decide (i.natAbs < 2 ^ 64)
def FG {i j:Int}(h:Hm i j=true):II i j:=by
 unfold Hm at h
 simp only[MP,MT] at h
 exact⟨h.1.1,h.1.2,h.2⟩
def xF:D->D->Option D:=gI Hm λi j=>.int (i * 2 ^ j.toNat)
def FW:mG K (rI II λi j=>.int (i * 2 ^ j.toNat)) xF .v:=yE λdx dy d h=>by obtain⟨i,j,rfl,rfl,c,rfl⟩:=ye h;exact⟨i,j,rfl,rfl,FG c,λ_=>.int _⟩
def Bo:D->D->Option D:=vP λi j=>.int (Builtin.bitAnd i j)
def Jo:mG K (vc λi j=>.int (Builtin.bitAnd i j)) Bo .v:=pU λdx dy d h=>by obtain⟨i,j,rfl,rfl,rfl⟩:=jz h;exact⟨i,j,rfl,rfl,λ_=>.int _⟩
def L4:D->D->Option D:=vP λi j=>.int (Builtin.bitOr i j)
def Lw:mG K (vc λi j=>.int (Builtin.bitOr i j)) L4 .v:=pU λdx dy d h=>by obtain⟨i,j,rfl,rfl,rfl⟩:=jz h;exact⟨i,j,rfl,rfl,λ_=>.int _⟩
def vU:D->D->Option D:=vP λi j=>.bool (decide (i < j))
def Bv:D->D->Option D:=vP λi j=>.bool (decide (i<=j))
def K2:D->D->Option D:=vP λi j=>.bool (decide (j<=i))
def Ad:mG K (vc λi j=>.bl (decide (i < j))) vU .v:=pU λdx dy d h=>by obtain⟨i,j,rfl,rfl,rfl⟩:=jz h;exact⟨i,j,rfl,rfl,λ_=>.bl _⟩
def GJ:mG K (vc λi j=>.bl (decide (i<=j))) Bv .v:=pU λdx dy d h=>by obtain⟨i,j,rfl,rfl,rfl⟩:=jz h;exact⟨i,j,rfl,rfl,λ_=>.bl _⟩
def K5:mG K (vc λi j=>.bl (decide (j<=i))) K2 .v:=pU λdx dy d h=>by obtain⟨i,j,rfl,rfl,rfl⟩:=jz h;exact⟨i,j,rfl,rfl,λ_=>.bl _⟩
mutual
theorem yk:∀d:D,d.canLay0=true->BO d=true
 | .none,_=>rfl
 | .bool _,_=>rfl
 | .int _,_=>rfl
 | .str _,_=>rfl
 | .list ds,h=>by simp only[PyData.canLay0] at h;simp only[BO];exact pK ds h
 | .tuple ds,h=>by simp only[PyData.canLay0] at h;simp only[BO];exact pK ds h
 | .dict _,h=>by simp[PyData.canLay0] at h
theorem pK:∀ds:List D,PyData.canLayAll0 ds=true->ql ds=true
 | [],_=>rfl
 |d :: ds,h=>by
  simp only[PyData.canLayAll0,MP] at h
  simp only[ql,MP]
  exact⟨yk d h.1,pK ds h.2⟩
end
def pL {d:D}(h:SeqAt.shaped d=true):BO d=true:=yk d (NW h)
theorem sN:∀{ds:List D},(ds.all SeqAt.shaped)=true->ql ds=true
 | [],_=>rfl
 |d :: ds,h=>by
  rw[all_cons,MP] at h
  simp only[ql,MP]
  exact⟨pL h.1,sN h.2⟩
def dC (neg:Bool)(x y:D):Option D:=if (SeqAt.shaped x && SeqAt.shaped y)=true then some (.bool (if neg then !PyData.eqv x y else PyData.eqv x y)) else none
def gr {neg:Bool}:mG K (Hl K neg) (dC neg) .v:=by
 intro B G H x y dx dy d Q s hB bx by' e k
 unfold dC at e
 split at e
 ·rename_i h
  rw[MP] at h
  cases e
  exact⟨dx,dy,(bx.rpH s).rep (pL h.1),(by'.rpH s).rep (pL h.2),h.1,h.2,k _ G H (Ext.refl s) (.bl _)⟩
 ·cases e
def Dx (neg:Bool)(x y:D):Option D:=match ll y with
 |some ds=>if (SeqAt.shaped x && ds.all SeqAt.shaped)=true then some (.bool (if neg then !(ds.any λe=>PyData.eqv e x) else ds.any λe=>PyData.eqv e x)) else none
 |none=>none
theorem kZ.seq {B:Option Addr}{G H:Hp}{v:V}{d:D}{ds:List D}(h:kZ K B G H v d)(e:ll d=some ds)(s:au G H):∃a xs,v=.ref a/\(eY K H a xs\/eV K H a xs)/\b5 K G xs ds:=by
 cases d with
 |list l=>cases e;obtain⟨a,xs,e,q,r⟩:=h.list s;exact⟨a,xs,e,.inl (.inl q),r⟩
 |tuple l=>cases e;obtain⟨a,xs,e,q,r⟩:=h.tuple s;exact⟨a,xs,e,.inr q,r⟩
 |_=>cases e
theorem Jc {neg:Bool}:mG K (Jw K neg) (Dx neg) .v:=by
 intro B G H x y dx dy d Q s hB bx by' e k
 unfold Dx at e
 cases q:ll dy with
 |none=>rw[q] at e;cases e
 |some ds=>
  rw[q] at e
  dsimp only at e
  split at e
  ·rename_i h
   rw[MP] at h
   cases e
   obtain⟨a,xs,rfl,hq,r⟩:=by'.seq q s
   refine⟨a,xs,dx,ds,rfl,hq,(r.mono s).reps (sN h.2),(bx.rpH s).rep (pL h.1),h.1,λe he=>MS.mp h.2 e he,k _ G H (Ext.refl s) (.bl _)⟩
  ·cases e
def kT:D->Bool
 | .none=>true
 |_=>false
def xg {a:Expr}{fa:VF D}{La:List Nat}{ma:Md}{Γ:Fx}{E:XK}{j pos' pos}(ha:SE X Γ E a fa La ma):SE X Γ E (.Compare a [.Is] [.Constant .none j pos'] pos) (f1 fa λd=>some (.bool (kT d))) La .v:=by
 refine PE.post' (Hn (DQ ha)) λσ H Q ⟨env,G,B,β,I,o⟩=>?_
 refine gG (r:=λx H1 Q=>Q (.bl (decide (x=.non))) H1) ?_ I o
 intro B G H x dx d Q s hB bx e k
 cases e
 have:decide (x=.non)=kT dx:=by
  cases dx with
  |none=>obtain rfl:=bx.none;rfl
  |bool b=>obtain rfl:=bx.bool;rfl
  |int b=>obtain rfl:=bx.int;rfl
  |str b=>obtain rfl:=bx.str;rfl
  |list b=>obtain⟨a,xs,rfl,_⟩:=bx.list s;rfl
  |tuple b=>obtain⟨a,xs,rfl,_⟩:=bx.tuple s;rfl
  |dict b=>
   rcases bx with bx | ⟨a,rfl,_⟩
   ·cases bx <;> rfl
   ·rfl
 show Q (.bl (decide (x=.non))) H
 rw[this]
 exact k _ G H (Ext.refl s) (.bl _)
theorem b5.ints {G:Hp}:∀ns:List Int,b5 K G (ns.map V.int) (ns.map int)
 | []=>.nil
 |n :: ns=>.cons (.int n) (b5.ints ns)
theorem AV.noNone {G:Hp}{kvs:List (Key×V)}{d:D}{r:List (D×D)}(h:AV K G kvs ((.none,d) :: r)):False:=by
 generalize e:(PyData.none,d) :: r=l at h
 cases h with
 |nil=>cases e
 | @cons k x xs d' ds _ _=>
  injection e with e1 _
  injection e1 with e2 _
  cases k <;> cases e2
theorem AZ.noNone {G:Hp}{kvs:List (List Key×V)}{d:D}{r:List (D×D)}(h:AZ K G kvs ((.none,d) :: r)):False:=by
 generalize e:(PyData.none,d) :: r=l at h
 cases h with
 |nil=>cases e
 | @cons k x xs d' ds _ _=>
  injection e with e1 _
  injection e1 with e2 _
  cases e2
def kZ.scr {B:Option Addr}{G H:Hp}{v:V}{ds:List D}(h:kZ K B G H v (.dict [(.none,.list ds)]))(s:au G H):∃a xs,v=.ref a/\eY K H a xs/\b5 K G xs ds:=by
 rcases h with h | ⟨a,rfl,n,h⟩
 ·cases h with
  | @scr a ns q=>exact⟨a,_,rfl,s.seq q,b5.ints ns⟩
  |dK _ r=>exact r.noNone.elim
  |dT _ r=>exact r.noNone.elim
 ·rcases h with⟨_,_,r⟩ | ⟨_,_,r⟩
  ·exact r.noNone.elim
  ·exact r.noNone.elim
def bR:D->D->Option D
 | .list ds,.int i=>jk ds i
 | .tuple ds,.int i=>jk ds i
 | .str z,.int i=>if z.length<=sizeLine then (jk z.cps.toList i).map λc=>.str ⟨#[c]⟩ else none
 | .dict [(.none,.list ds)],.int i=>jk ds i
 |_,_=>none
theorem tE {G:Hp}{xs:List V}{ds:List D}{i:Int}{d:D}(r:b5 K G xs ds)(h:jk ds i=some d):∃x,jk xs i=some x/\Rp K G x d:=by
 unfold jk at h ⊢
 rw[r.len]
 cases e:ub ds.length i with
 |none=>rw[e] at h;cases h
 |some j=>rw[e] at h;exact r.at h
theorem cm:mG K (L5 K) bR .v:=by
 intro B G H x y dx dy d Q s hB bx by' e k
 cases dx with
 |list ds=>
  cases dy with
  |int i=>
   obtain rfl:=by'.int
   obtain⟨a,xs,rfl,q,r⟩:=bx.list s
   obtain⟨v,ev,rv⟩:=tE r e
   exact .inl ⟨a,xs,i,v,rfl,rfl,.inl q,ev,k _ G H (Ext.refl s) rv⟩
  |_=>cases e
 |tuple ds=>
  cases dy with
  |int i=>
   obtain rfl:=by'.int
   obtain⟨a,xs,rfl,q,r⟩:=bx.tuple s
   obtain⟨v,ev,rv⟩:=tE r e
   exact .inr (.inl ⟨a,xs,i,v,rfl,rfl,q,ev,k _ G H (Ext.refl s) rv⟩)
  |_=>cases e
 |str z=>
  cases dy with
  |int i=>
   obtain rfl:=by'.int
   obtain rfl:=bx.str
   simp only[bR] at e
   split at e
   ·rename_i hz
    cases q:jk z.cps.toList i with
    |none=>rw[q] at e;cases e
    |some c=>rw[q] at e;cases e;exact .inr (.inr ⟨z,i,c,rfl,rfl,hz,q,k _ G H (Ext.refl s) (.str _)⟩)
   ·cases e
  |_=>cases e
 |none=>cases dy <;> cases e
 |bool b=>cases dy <;> cases e
 |int b=>cases dy <;> cases e
 |dict b=>
  obtain⟨ds,i,rfl,rfl,e⟩:∃ds i,b= [(.none,.list ds)]/\dy=.int i/\jk ds i=some d:=by
   unfold bR at e
   split at e
   ·contradiction
   ·contradiction
   ·contradiction
   ·rename_i h;cases h;exact⟨_,_,rfl,rfl,e⟩
   ·cases e
  obtain rfl:=by'.int
  obtain⟨a,xs,rfl,q,r⟩:=bx.scr s
  obtain⟨v,ev,rv⟩:=tE r e
  exact .inl ⟨a,xs,i,v,rfl,rfl,q,ev,k _ G H (Ext.refl s) rv⟩
def c3:D->Option D
 | .list ds=>some (.int ds.length)
 | .tuple ds=>some (.int ds.length)
 | .str z=>if z.length<=sizeLine then some (.int z.length) else none
 | .dict [(.none,.list ds)]=>some (.int ds.length)
 |_=>none
def LS (K:Frag):List V->Hp->VK->Prop:=λxs H Q=>∃x n,xs= [x]/\JA K x H n/\Q (.int n) H
def i9:AS K (λx=>LS K [x]) c3 .v:=by
 intro B G H x dx d Q s hB bx e k
 unfold c3 at e
 split at e
 ·cases e;obtain⟨a,xs,rfl,q,r⟩:=bx.list s;exact⟨_,_,rfl,.inl ⟨xs,.inl q,r.len.symm⟩,k _ G H (Ext.refl s) (.int _)⟩
 ·cases e;obtain⟨a,xs,rfl,q,r⟩:=bx.tuple s;exact⟨_,_,rfl,.inr ⟨xs,q,r.len.symm⟩,k _ G H (Ext.refl s) (.int _)⟩
 ·obtain rfl:=bx.str
  split at e
  ·rename_i hz;cases e;exact⟨_,_,rfl,⟨hz,rfl⟩,k _ G H (Ext.refl s) (.int _)⟩
  ·cases e
 ·cases e;obtain⟨a,xs,rfl,q,r⟩:=bx.scr s;exact⟨_,_,rfl,.inl ⟨xs,q,r.len.symm⟩,k _ G H (Ext.refl s) (.int _)⟩
 ·cases e
def m6:D->Option D
 | .list ds=>some (.tuple ds)
 | .tuple ds=>some (.tuple ds)
 |_=>none
theorem oC:AS K (λx H Q=>∃p ys,[x]= [.ref p]/\((eY K H p ys/\∀l,H l=none->Q (.ref l) (upd H l (.tup ys)))\/(eV K H p ys/\Q (.ref p) H))) m6 .v:=by
 intro B G H x dx d Q s hB bx e k
 cases dx with
 |list ds=>
  cases e
  obtain⟨a,xs,rfl,q,r⟩:=bx.list s
  refine⟨a,xs,rfl,.inl ⟨.inl q,λl hl=>?_⟩⟩
  have x:=Ext.new s (o:=.tup xs) hl
  exact k _ _ _ x (.tup (.inl (.inl aC)) (r.mono x.gg))
 |tuple ds=>
  cases e
  rcases bx with bx | ⟨_,_,_,z⟩
  ·cases bx with
   | @tup a xs _ hq r=>exact⟨a,xs,rfl,.inr ⟨hq.grow s.grow,k _ G H (Ext.refl s) (.tup hq r)⟩⟩
  ·exact z.elim
 |_=>cases e
def Gw:D->Option D
 | .list ds=>some (.list ds)
 | .tuple ds=>some (.list ds)
 |_=>none
def Iv:AS K (λx H Q=>∃p ys,[x]= [.ref p]/\(eY K H p ys\/eV K H p ys)/\∀l,H l=none->Q (.ref l) (upd H l (.lst ys))) Gw .w:=by
 intro B G H x dx d Q s hB bx e k
 obtain⟨ds,e1,rfl⟩:∃ds,ll dx=some ds/\d=.list ds:=by
  cases dx <;> cases e <;> exact⟨_,rfl,rfl⟩
 obtain⟨a,xs,rfl,hq,r⟩:=bx.seq e1 s
 refine⟨a,xs,rfl,hq,λl hl=>?_⟩
 exact k _ _ _ (Ext.own s (o:=.lst xs) hl) ⟨l,rfl,hl,s.free hl,xs,aC,r⟩
def ke:List D->Option (List Bool)
 | []=>some []
 | .bool b :: ds=>(ke ds).map (b :: ·)
 |_=>none
theorem rz {G:Hp}:∀{ds:List D} {bs:List Bool} {xs:List V},ke ds=some bs->b5 K G xs ds->xs=bs.map V.bl
 | [],bs,xs,e,r=>by cases e;cases r;rfl
 | .bool b :: ds,bs,xs,e,r=>by
  cases r with
  |cons r1 r2=>
   cases r1
   simp only[ke] at e
   cases q:ke ds with
   |none=>rw[q] at e;cases e
   |some cs=>rw[q] at e;cases e;rw[rz q r2];rfl
 | .none :: _,_,_,e,_=>by cases e
 | .int _ :: _,_,_,e,_=>by cases e
 | .str _ :: _,_,_,e,_=>by cases e
 | .list _ :: _,_,_,e,_=>by cases e
 | .tuple _ :: _,_,_,e,_=>by cases e
 | .dict _ :: _,_,_,e,_=>by cases e
def cn (f:List Bool->Bool):D->Option D
 | .list ds=>(ke ds).map λbs=>.bool (f bs)
 |_=>none
theorem iH {f:List Bool->Bool}:AS K (λx=>xX K f [x]) (cn f) .v:=by
 intro B G H x dx d Q s hB bx e k
 cases dx with
 |list ds=>
  simp only[cn] at e
  cases q:ke ds with
  |none=>rw[q] at e;cases e
  |some bs=>
   rw[q] at e
   cases e
   obtain⟨a,xs,rfl,hq,r⟩:=bx.list s
   obtain rfl:=rz q r
   exact⟨a,bs,rfl,.inl hq,k _ G H (Ext.refl s) (.bl _)⟩
 |_=>cases e
def FX:R2:=λx y H Q=>∃l b xs zs,x=.ref l/\y=.ref b/\Rd H l (.lst xs)/\Rd H b (.lst zs)/\xs.length + zs.length<=sizeLine/\∀p,H p=none->Q (.ref p) (upd H p (.lst (xs ++ zs)))
def n6:lO X (binaryOp .Add) FX:=by
 intro pins s σ H x y v u Q I rx ry h
 obtain⟨l,b,xs,zs,rfl,rfl,hH,hB,hz,q⟩:=h
 cases rx
 cases ry
 obtain⟨z,its,n,r,hl,e⟩:=I.lstR hH
 obtain⟨z2,its2,n2,r2,hl2,e2⟩:=I.lstR hB
 refine PySem.P.add_list e e2 ?_ (by rw[MW,MW];omega)
 have ea:its.toArray ++ its2.toArray=(its ++ its2).toArray:=by simp
 rw[ea]
 exact⟨.ref _,_,I.lnew (t':=s.toks) (r.append r2) (by rw[M5];omega),rfl,q _ I.fresh⟩
def jX:D->D->Option D
 | .list a,.list b=>if a.length + b.length<=sizeLine then some (.list (a ++ b)) else none
 |_,_=>none
def yY:mG K FX jX .w:=by
 intro B G H x y dx dy d Q s hB bx by' e k
 cases dx <;> cases dy <;> first | (cases e;done) |skip
 rename_i a b
 simp only[jX] at e
 split at e
 ·rename_i hz
  cases e
  obtain⟨p,xs,rfl,q1,r1⟩:=bx.list s
  obtain⟨p2,ys,rfl,q2,r2⟩:=by'.list s
  refine⟨p,p2,xs,ys,rfl,rfl,q1,q2,by rw[r1.len,r2.len];exact hz,λl hl=>?_⟩
  exact k _ _ _ (Ext.own s (o:=.lst (xs ++ ys)) hl) ⟨l,rfl,hl,s.free hl,_,aC,r1.append r2⟩
 ·cases e
def cP:D->D->Option D:=vP λi j=>.int (i + j)
def iS:mG K (vc λi j=>.int (i + j)) cP .v:=pU λdx dy d h=>by obtain⟨i,j,rfl,rfl,rfl⟩:=jz h;exact⟨i,j,rfl,rfl,λ_=>.int _⟩
def eB:D->D->Option D:=gI (λi j=>(decide (-(2 ^ 64) < i) && decide (i < 2 ^ 64)) || (decide (-(2 ^ 64) < j) && decide (j < 2 ^ 64))) λi j=>.int (i * j)
def lH:mG K (rI Dc λi j=>.int (i * j)) eB .v:=yE λdx dy d h=>by obtain⟨i,j,rfl,rfl,c,rfl⟩:=ye h;exact⟨i,j,rfl,rfl,by simpa[Dc] using c,λ_=>.int _⟩
def nW:D->D->Option D
 | .list a,.int k=>if -(2 ^ 63)<=k/\k < 2 ^ 63/\a.length * k.toNat<=sizeLine then some (.list (List.replicate k.toNat a).flatten) else none
 |_,_=>none
def xu {a b:Expr}{fa fb:VF D}{La Lb:List Nat}{mb:Md}{Γ:Fx}{E:XK}{pos:Pos}(ha:SE X Γ E a fa La .w)(hb:SE X Γ E b fb Lb mb):SE X Γ E (.BinOp a .Mult b pos) (f2 fa fb nW) (La ++ Lb) .w:=by
 refine PE.post' (qQ BB ha hb) λσ H Q ⟨env,G,B,β,I,o⟩=>?_
 refine⟨env,G,B,β,I,o.bnd.imp λd1 β1 h x G1 H1 I1 s1 m1 vx=>⟨bq La env,G1,B,β1,I1,?_⟩⟩
 rw[eQ]
 refine h.bnd.imp λd2 β2 h y G2 H2 I2 s2 m2 vy=>?_
 obtain⟨d,e,k⟩:=h.of
 rw[<-cf] at I2
 obtain⟨p,rfl,p1,p2,p3⟩:=vx
 have by':=vy.brw I1.boxThere
 cases d1 <;> cases d2 <;> first | (cases e;done) |skip
 rename_i l j
 obtain rfl:=by'.int
 simp only[nW] at e
 split at e
 ·rename_i hz
  cases e
  obtain⟨xs,q,r⟩:=p3
  obtain⟨q1,q2,q3,q4⟩:=I.fresh p1
  have r2:=r.mono s2
  refine⟨p,j,xs,rfl,rfl,m2 _ _ q q3,hz.1,hz.2.1,by rw[r.len];exact hz.2.2,λl hl=>?_⟩
  have x:=Ext.own I2.sub (o:=.lst (List.replicate j.toNat xs).flatten) hl
  exact k _ _ _ (I2.ext x) ((s1.trans s2).trans x.gg) ((m1.trans m2).trans (x.hh.mov B)) ⟨l,rfl,fq (m1.trans m2) I2.boxThere hl,I2.sub.free hl,_,aC,r2.rep⟩
 ·cases e
def Eu:D->Option D
 | .int i=>some (.int (-i))
 |_=>none
theorem Bx:AS K (rU λi=>.int (-i)) Eu .v:=by
 intro B G H x dx d Q s hB bx e k
 cases dx with
 |int i=>cases e;obtain rfl:=bx.int;exact⟨i,rfl,k _ G H (Ext.refl s) (.int _)⟩
 |_=>cases e
def Kf:D->String
 | .none=>"NoneType"
 | .bool _=>"bool"
 | .int _=>"int"
 | .str _=>"str"
 | .list _=>"list"
 | .tuple _=>"tuple"
 | .dict _=>"dict"
def DN (d:D)(T:String):Bool:=Kf d == T || (T == "int" && Kf d == "bool")
def dw:D->Bool
 | .dict ((.none,_) :: _)=>true
 |_=>false
def ik (T:String)(d:D):Option D:=if dw d=true then none else some (.bool (DN d T))
def Mc (K:Frag)(H:Hp)(x:V)(t:String):Prop:=FK K H x t\/(t="dict"/\∃a kvs,x=.ref a/\H a=some (.dT kvs))
def Jn (K:Frag):List V->Hp->VK->Prop:=λxs H Q=>∃x T t b,xs= [x,.ty T]/\Mc K H x t/\PySem.W.kitOne K (.type t) (.type T)=some b/\Q (.bl b) H
def CD:cL X (.builtin "isinstance") (Jn X.K):=by
 intro pins s σ H xs us Q I r h
 obtain⟨x,T,t,b,rfl,ty,e,q⟩:=h
 rcases ty with ty | ⟨rfl,a,kvs,rfl,hk⟩
 ·exact B4 pins s σ H _ us Q I r ⟨x,T,t,b,rfl,ty,e,q⟩
 ·obtain⟨u,c,rfl,rx,rc⟩:=vals2 r
  cases rc
  cases rx
  obtain⟨_,_,_,_,o,_,_,e2,ex,_⟩:=I.hok a _ hk
  exact Nu PySem.W.kitx_dict I.kIn ⟨o,e2,ex.1⟩ e (λz=>nomatch z) λtk=>⟨.bl b,H,I.tok tk,rfl,q⟩
theorem kZ.ty {B:Option Addr}{G H:Hp}{v:V}{d:D}(h:kZ K B G H v d)(s:au G H)(n:dw d=false):Mc K H v (Kf d):=by
 cases d with
 |none=>obtain rfl:=h.none;exact .inl .non
 |bool b=>obtain rfl:=h.bool;exact .inl (.bl b)
 |int b=>obtain rfl:=h.int;exact .inl (.int b)
 |str b=>obtain rfl:=h.str;exact .inl (.str b)
 |list b=>obtain⟨a,xs,rfl,q,_⟩:=h.list s;exact .inl (.lst (.inl q))
 |tuple b=>obtain⟨a,xs,rfl,q,_⟩:=h.tuple s;exact .inl (.tup q)
 |dict b=>
  rcases h with h | ⟨a,rfl,_,h⟩
  ·cases h with
   |scr _=>cases n
   |dK q _=>exact .inl (.dic (s _ _ q))
   |dT q _=>exact .inr ⟨rfl,_,_,rfl,s _ _ q⟩
  ·rcases h with⟨_,q,_⟩ | ⟨_,q,_⟩
   ·exact .inl (.dic q)
   ·exact .inr ⟨rfl,_,_,rfl,q⟩
theorem J8 {d:D}{T:String}(hT:T∈ ["int","bool","str","list","tuple","dict"]):PySem.W.kitOne K (.type (Kf d)) (.type T)=some (DN d T):=by
 simp only[MB,Np,Of] at hT
 cases d with
 |dict l=>rcases hT with rfl |rfl |rfl |rfl |rfl |rfl <;> rfl
 |none=>rcases hT with rfl |rfl |rfl |rfl |rfl |rfl <;> rfl
 |bool _=>rcases hT with rfl |rfl |rfl |rfl |rfl |rfl <;> rfl
 |int _=>rcases hT with rfl |rfl |rfl |rfl |rfl |rfl <;> rfl
 |str _=>rcases hT with rfl |rfl |rfl |rfl |rfl |rfl <;> rfl
 |list _=>rcases hT with rfl |rfl |rfl |rfl |rfl |rfl <;> rfl
 |tuple _=>rcases hT with rfl |rfl |rfl |rfl |rfl |rfl <;> rfl
def j4 {a:Expr}{fa:VF D}{La:List Nat}{ma:Md}{Γ:Fx}{E:XK}{pos p p2:Pos}(T:String){y:Str}(hT:T∈ ["int","bool","str","list","tuple","dict"])(hK:X.K=Γ.K)(hg:Gl X "isinstance")(hm:X.mg "isinstance"=none)(hgT:Gl X y)(hmT:X.mg y=none)(hvT:bootBuiltins y=some (.type T))(ha:SE X Γ E a fa La ma)
  (hnT:y≠"__name__":=by decide) (hdT:(y == ("__debug__":Str))=false:=by decide)
  (he:starEach [a,.Name y p2] X.env=(false,eval a X.env) :: starEach [.Name y p2] X.env:=by rfl) (he2:starEach [.Name y p2] X.env=(false,eval (.Name y p2) X.env) :: starEach [] X.env:=by rfl) (hpl:(backTo pos (starEach [.Name y p2] X.env)).any (·.1)=false:=by rfl) :
  SE X Γ E (.Call (.Name "isinstance" p) [a,.Name y p2] [] pos) (f1 fa (ik T)) La .v:=by
 refine PE.post' (jd CD hg hm (by decide +kernel) (aO ha (aO (ER hgT hmT hvT (show RelV (.ty T) _ from rfl) hnT hdT) bA he2) he) (by decide) (by decide) he hpl) λσ H Q ⟨env,G,B,β,I,o⟩=>?_
 refine gG (r:=λx H1 Q=>Jn X.K [x,.ty T] H1 Q) ?_ I o
 intro B G H x dx d Q s hB bx e k
 unfold ik at e
 split at e
 ·cases e
 ·rename_i hn
  cases e
  rw[hK]
  exact⟨x,T,Kf dx,DN dx T,rfl,bx.ty s (by simpa using hn),J8 hT,k _ G H (Ext.refl s) (.bl _)⟩
def jD (fa fb fc:VF D)(g g':D->D->Option D):VF D:=λvs β=>(fa vs β).bnd λx β1=>(fb vs β1).bnd λy β2=>match g x y with
 |some (.bool true)=>(fc vs β2).bnd λz β3=>R.of (g' y z) β3
 |some (.bool false)=>.ok (.bool false) β2
 |_=>.bad
theorem ux {a b c:Expr}{fa fb fc:VF D}{ma mb mc:Md}{Γ:Fx}{E:XK}{pos:Pos}{op op':CmpOp}{r r':R2}{g g':D->D->Option D}(ho:lO X (compareOp op) r)(ho':lO X (compareOp op') r')(pr:mG Γ.K r g .v)(pr':mG Γ.K r' g' .v)(ha:SE X Γ E a fa [] ma)(hb:SE X Γ E b fb [] mb)(hc:SE X Γ E c fc [] mc)
  (hm:lastMarks [op,op'] [b,c]=false:=by with_unfolding_all rfl):SE X Γ E (.Compare a [op,op'] [b,c] pos) (jD fa fb fc g g') [] .v:=by
 refine PE.post' (BE ho ho' ha hb hc hm) λσ H Q ⟨env,G,B,β,I,o⟩=>?_
 refine two (W:=λx y H2=>r x y H2 λz H3=>∃k,z=.bl k/\(if k=true then pT Γ E fc [] mc σ H3 λw' H4=>r' y w' H4 Q else Q (.bl false) H3)) I (o.bnd.imp λd1 β1 h=>h.bnd.imp λd2 β2 h x y G2 H2 I2 s2 m2 bx by'=>?_)
 obtain⟨cb,ec,h⟩:∃cb,g d1 d2=some (.bool cb)/\Out Γ E (if cb=true then (fc (vl env) β2).bnd λz β3=>R.of (g' d2 z) β3 else .ok (.bool false) β2) λd β'=>∀v G' H',SR Γ B G' H' σ (bq [] env) β'->au G G'->iK B H H'->VO Γ.K B H G' H' .v d v->Q v H':=by
  split at h
  ·rename_i q;exact⟨true,q,by rw[MA rfl];exact h⟩
  ·rename_i q;exact⟨false,q,by rw[MF M9];exact h⟩
  ·exact h.elim
 refine pr B G2 H2 x y d1 d2 _ _ I2.sub I2.boxThere bx by' ec λv G' H' x' vo=>?_
 cases vo
 refine⟨cb,rfl,?_⟩
 have I3:=I2.ext x'
 cases cb with
 |false=>rw[MF M9] at h;exact uV (h _ G' H' I3 (s2.trans x'.gg) (m2.trans (x'.mov B)) (.bl false))
 |true=>
  rw[MA rfl] at h
  refine vC ⟨env,G',B,β2,I3,h.bnd.imp λd3 β3 h z G4 H4 I4 s4 m4 vz=>?_⟩
  obtain⟨d,e,k⟩:=h.of
  refine pr' B G4 H4 y z d2 d3 d Q I4.sub I4.boxThere (by'.mono (x'.gg.trans s4) ((x'.mov B).trans m4)) (vz.brw I3.boxThere) e λv G5 H5 x5 vo=>?_
  exact k v G5 H5 (I4.ext x5) (((s2.trans x'.gg).trans s4).trans x5.gg) (((m2.trans (x'.mov B)).trans m4).trans (x5.mov B)) vo
end
def fI.u1 {k:Nat}{A:Around}(r:fI k A):A.units + 100 < cLine:=by have:=r.un;omega
def Mg (N:List Str)(sc:Scope)(NB:List Str)(own:Nat)(ixs:List Nat)(scope:Scope):Bool:=
 decide (scope.kind=.function) && (scope.names.all λy=>decide (y.2≠.cell)) && (scope.names.all λy=>decide (scope.names.lookup y.1=some y.2)) &&
 (scope.names.all λy=>decide (y.2=.free->(sc.names.lookup y.1=some .cell\/sc.names.lookup y.1=some .free))) && decide NB.Nodup && decide (NB.length=own + ixs.length) &&
 ((List.range ixs.length).all λk=>decide (NB[own + k]? =N[ixs.getD k 0]?) && (match NB[own + k]? with |some x=>decide ((x,NameKind.free)∈scope.names) |none=>true))
def cp {X:Cx}{NB:List Str}{own:Nat}{ixs:List Nat}{scope:Scope}(h:Mg X.N X.env.scope NB own ixs scope=true):df X NB own ixs scope:=by
 unfold Mg at h
 simp only[MP,MS,MT,MX] at h
 obtain⟨⟨⟨⟨⟨⟨h1,h2⟩,h3⟩,h4⟩,h5⟩,h6⟩,h7⟩:=h
 refine⟨h1,h2,h3,h4,h5,h6,λk hk=>⟨(h7 k hk).1,λx hx=>?_⟩⟩
 have:=(h7 k hk).2
 rw[hx] at this
 simpa using this
section
variable {X:Cx}{Γ:Fx}{E:XK}{e a b c:Expr}{f fa fb fc:VF D}{L La Lb:List Nat}{md ma mb mc:Md}{pos:Pos}{K:Frag}
theorem BX {B:Option Addr}{G H:Hp}{x:V}{dx:D}(bx:kZ K B G H x dx)(s:au G H):decide (x=.non)=kT dx:=by
 cases dx with
 |none=>obtain rfl:=bx.none;rfl
 |bool b=>obtain rfl:=bx.bool;rfl
 |int b=>obtain rfl:=bx.int;rfl
 |str b=>obtain rfl:=bx.str;rfl
 |list b=>obtain⟨a,xs,rfl,_⟩:=bx.list s;rfl
 |tuple b=>obtain⟨a,xs,rfl,_⟩:=bx.tuple s;rfl
 |dict b=>
  rcases bx with bx | ⟨a,rfl,_⟩
  ·cases bx <;> rfl
  ·rfl
def tN (fa:VF D)(neg:Bool):VF Bool:=λvs β=>(fa vs β).bnd λx β1=>.ok (if neg then !kT x else kT x) β1
def GV {j pos'}(ha:SE X Γ E a fa La ma):x9 X Γ E (.Compare a [.Is] [.Constant .none j pos'] pos) (tN fa false) La:=by
 refine PT.post (Cw (DQ ha)) λσ H Q ⟨env,G,B,β,I,o⟩=>?_
 refine⟨env,G,B,β,I,o.bnd.imp λd1 β1 h x G1 H1 I1 s1 m1 vx=>?_⟩
 refine⟨kT d1,?_,h G1 H1 I1 s1 m1⟩
 rw[BX (vx.brw I.boxThere) I1.sub]
def Fc {j pos'}(ha:SE X Γ E a fa La ma):x9 X Γ E (.Compare a [.IsNot] [.Constant .none j pos'] pos) (tN fa true) La:=by
 refine PT.post (Cw (FI ha)) λσ H Q ⟨env,G,B,β,I,o⟩=>?_
 refine⟨env,G,B,β,I,o.bnd.imp λd1 β1 h x G1 H1 I1 s1 m1 vx=>?_⟩
 refine⟨!kT d1,?_,h G1 H1 I1 s1 m1⟩
 rw[BX (vx.brw I.boxThere) I1.sub]
def oT (Γ:Fx)(E:XK)(f:VF (Option Int))(L:List Nat):TO:=λσ H Q=>∃env G B β,SR Γ B G H σ env β/\
 Out Γ E (f (vl env) β) λd β'=>∀G' H',SR Γ B G' H' σ (bq L env) β'->au G G'->iK B H H'->Q d H'
def Kx (X:Cx)(Γ:Fx)(E:XK)(e:Option Expr)(f:VF (Option Int))(L:List Nat):Prop:=PO X e (oT Γ E f L)
def Es:Kx X Γ E none (λ_ β=>.ok none β) []:=λpins s σ H Q I ⟨env,G,B,β,J,o⟩=>Fy pins s σ H Q I (o G H J (au.refl _) (iK.refl _ _))
def Jv (fa:VF D):VF (Option Int):=λvs β=>(fa vs β).bnd λx β1=>match x with
 | .int i=>.ok (some i) β1
 |_=>.bad
theorem E8 (ha:SE X Γ E a fa La ma):Kx X Γ E (some a) (Jv fa) La:=λpins s σ H Q I ⟨env,G,B,β,J,o⟩=>by
 refine xZ ha pins s σ H Q I ⟨env,G,B,β,J,o.bnd.imp λd1 β1 h x G1 H1 I1 s1 m1 vx=>?_⟩
 cases d1 with
 |int i=>exact⟨i,(vx.brw J.boxThere).int,h G1 H1 I1 s1 m1⟩
 |_=>exact h.elim
def cutD (xs:List D)(lo hi:Option Int):List D:=(xs.drop (HT.rJ xs.length 0 lo)).take (HT.rJ xs.length xs.length hi - HT.rJ xs.length 0 lo)
def EX {G:Hp}{xs:List V}{ds:List D}(r:b5 K G xs ds)(lo hi:Option Int):b5 K G (xB xs lo hi) (cutD ds lo hi):=by
 unfold xB cutD
 rw[r.len]
 exact (r.drop _).take _
def Kj (fa:VF D)(fl fh:VF (Option Int)):VF D:=λvs β=>(fa vs β).bnd λx β1=>(fl vs β1).bnd λl β2=>(fh vs β2).bnd λh β3=>match x with
 | .list ds=>.ok (.list (cutD ds l h)) β3
 |_=>.bad
theorem C2 {lo hi:Option Expr}{fl fh:VF (Option Int)}{Ll Lh:List Nat}{p2:Pos}(hK:X.K=Γ.K)(ha:SE X Γ E a fa La ma)(hl:Kx X Γ E lo fl Ll)(hh:Kx X Γ E hi fh Lh):SE X Γ E (.Subscript a (.Slice lo hi none p2) pos) (Kj fa fl fh) (La ++ Ll ++ Lh) .w:=by
 refine PE.post' (Cm EB ha hl hh) λσ H Q ⟨env,G,B,β,I,o⟩=>?_
 refine⟨env,G,B,β,I,o.bnd.imp λd1 β1 h x G1 H1 I1 s1 m1 vx=>⟨bq La env,G1,B,β1,I1,?_⟩⟩
 rw[eQ]
 refine h.bnd.imp λl β2 h G2 H2 I2 s2 m2=>⟨bq Ll (bq La env),G2,B,β2,I2,?_⟩
 rw[eQ,eQ]
 refine h.bnd.imp λu β3 h G3 H3 I3 s3 m3=>?_
 rw[<-cf,<-cf,<-Nm] at I3
 have bx:=((vx.brw I.boxThere).mono s2 m2).mono s3 m3
 cases d1 with
 |list ds=>
  obtain⟨p,xs,rfl,hq,r⟩:=bx.list I3.sub
  rw[hK]
  refine⟨p,xs,rfl,.inl hq,λq hn=>?_⟩
  have x:=Ext.own I3.sub (o:=.lst (xB xs l u)) hn
  exact h _ _ _ (I3.ext x) ((s1.trans s2).trans s3) (((m1.trans m2).trans m3).trans (x.mov B)) ⟨q,rfl,fq ((m1.trans m2).trans m3) I3.boxThere hn,I3.sub.free hn,_,aC,EX r l u⟩
 |_=>exact h.elim
def HB:mG K (λx y H Q=>∃i j,[x,y]= [.int i,.int j]/\Q (.int (if j > i then j else i)) H) (vP λi j=>.int (if j > i then j else i)) .v:=by
 intro B G H x y dx dy d Q s hB bx by' e k
 obtain⟨i,j,rfl,rfl,rfl⟩:=jz e
 obtain rfl:=bx.int
 obtain rfl:=by'.int
 exact⟨i,j,rfl,k _ G H (Ext.refl s) (.int _)⟩
def GX:mG K (λx y H Q=>∃i j,[x,y]= [.int i,.int j]/\Q (.int (if j < i then j else i)) H) (vP λi j=>.int (if j < i then j else i)) .v:=by
 intro B G H x y dx dy d Q s hB bx by' e k
 obtain⟨i,j,rfl,rfl,rfl⟩:=jz e
 obtain rfl:=bx.int
 obtain rfl:=by'.int
 exact⟨i,j,rfl,k _ G H (Ext.refl s) (.int _)⟩
end
structure jl (K:Frag)(mg:Str->Option Value)(x:Str)(st:Stmt)(ps:List Str)(f:Addr)(fd:FuncData):Prop where
 mg:mg x=some (.ref f)
 F:DV K x x st f fd
 b:Binds K fd ps []
structure Exc (K:Frag)(mg:Str->Option Value)(ca:Str->Addr)(x:Str):Prop where
 mg:mg x=some (.ref (ca x))
 ex:PySem.W.excIn K (ca x) [.type "ValueError",.type "Exception",.type "BaseException",.type "object"] "ValueError.__new__"=true
def Exc.ca {K:Frag}{mg:Str->Option Value}{ca:Str->Addr}{x:Str}(h:Exc K mg ca x):ca x=ca x:=rfl
structure jr (mg:Str->Option Value):Prop where
 len:mg "len"=none
 range:mg "range"=none
 enumerate:mg "enumerate"=none
 zip:mg "zip"=none
 min:mg "min"=none
 max:mg "max"=none
 sum:mg "sum"=none
 abs:mg "abs"=none
 sorted:mg "sorted"=none
 reversed:mg "reversed"=none
 int:mg "int"=none
 str:mg "str"=none
 bool:mg "bool"=none
 list:mg "list"=none
 tuple:mg "tuple"=none
 dict:mg "dict"=none
 set:mg "set"=none
 isinstance:mg "isinstance"=none
 repr:mg "repr"=none
 any:mg "any"=none
 all:mg "all"=none
 divmod:mg "divmod"=none
inductive FB where
 |ok (d:D) (fresh:Bool) (β:Int)
 |bad
def JG (K:Frag)(n:Nat)(F:List D->Int->FB):Sp:=λvs H Q _=>∃b rest G ds β,vs=.ref b :: rest/\H b=some (.lst [.int β])/\G b=none/\au G H/\ds.length=n/\b5 K G rest ds/\match F ds β with
 | .ok d fr β'=>∀v G' H',iK (some b) H H'->H' b=some (.lst [.int β'])->au G G'->au G' H'->(∀c,Mx H c->G c=none->G' c=none)->FV K H G' H' fr d v->Q v H'
 | .bad=>False
structure sx (P:Program)(w:World)(K:Frag)(mg:Str->Option Value)(base:Heap)(x:Str)(ps:List Str)(k:Nat)(F:List D->Int->FB):Prop where
 ex:∃f fd,mg x=some (.ref f)/\PySem.W.keepIn K (.ref f)=true/\Binds K fd ps []/\fW P w K mg base (nR P w) k f fd ps (JG K (ps.length - 1) F)
 len:∀ds β,F ds β≠.bad->ds.length=ps.length - 1
def xb (vs:List Nv)(i:Nat):Bool:=match vs[i]? with
 |some .bx=>true
 |_=>false
def mY (i:Nat)(F:List D->Int->FB)(fr:VF (List D)):VF D:=λvs β=>if xb vs i=true then (fr vs β).bnd λds β1=>match F ds β1 with
 | .ok d _ β2=>.ok d β2
 | .bad=>.bad else .bad
def Lv (i:Nat)(F:List D->Int->FB)(fr:VF (List D)):VF D:=λvs β=>if xb vs i=true then (fr vs β).bnd λds β1=>match F ds β1 with
 | .ok d true β2=>.ok d β2
 |_=>.bad else .bad
section
variable {X:Cx}{Γ:Fx}{E:XK}{e a b c:Expr}{f fa fb fc:VF D}{L La Lb:List Nat}{md ma mb mc:Md}{pos:Pos}{K:Frag}{es:List Expr}{fr:VF (List D)}
def Ft {env:En}{i:Nat}(h:xb (vl env) i=true):env[i]? =some .bx:=by
 unfold xb at h
 split at h
 ·exact JD (by assumption)
 ·cases h
def FP {env:En}{i j:Nat}{d:D}(h:(ja env i)[j]? =some (.br d)):env[j]? =some (.br d):=by
 unfold ja at h
 split at h
 ·rename_i d' e
  by_cases z:i=j
  ·subst z
   rw[MV (MJ.mp e).1] at h;cases h
  ·rw[MR z] at h;exact h
 ·exact h
theorem Iw {L:List Nat}{env:En}{j:Nat}{d:D}(h:(bq L env)[j]? =some (.br d)):env[j]? =some (.br d):=by
 unfold bq at h
 induction L generalizing env with
 |nil=>exact h
 |cons i L ih=>exact FP (ih h)
def SR.calledB {p:Addr}{β β':Int}{G1 H1 G2 H2:Hp}{σ:St}{env:En}(I1:SR Γ (some p) G1 H1 σ env β)(h:iK (some p) H1 H2)(hp:H2 p=some (.lst [.int β']))(g:au G1 G2)(s:au G2 H2)(n:∀b,Mx H1 b->G1 b=none->G2 b=none):SR Γ (some p) G2 H2 σ env β':=by
 obtain⟨b1,b2,b3⟩:=I1.box p rfl
 refine⟨s,I1.old.trans g,λb n1 n2=>n b (I1.thereM n1) (I1.new b n1 n2),λb o e np=>h b o (I1.keep b o e np) λz=>?_,λb hb=>?_,I1.fix,λb e=>?_,I1.len,λi t e=>?_,I1.sep⟩
 ·cases z
  rcases b3 with b3 |b3
  ·exact np b3
  ·rw[e] at b3;cases b3
 ·by_cases z:p=b
  ·subst z;exact Mx.lst hp
  ·exact (I1.pin b hb).same λo q=>h b o q λy=>z (Option.some.inj y)
 ·cases e
  exact⟨hp,n p (Mx.lst b1) b2,b3⟩
 ·have q:=I1.slot i t e
  cases t with
  |no=>trivial
  |fz d=>obtain⟨v,h1,h2⟩:=q;exact⟨v,h1,h2.mono g⟩
  |ow d=>
   obtain⟨c,h1,h2,h3,h4,h5⟩:=q
   exact⟨c,h1,h2,n c h5.mx h3,h4,h5.mono g λo q=>h c o q h4⟩
  |bx=>exact q
  |br d=>obtain⟨b1,c,h1,h4,hpp,h5⟩:=q;exact⟨b1,c,h1,h4,hpp,h5.mono g λo q=>h c o q h4⟩
theorem FA {F:List D->Int->FB}{ps:List Str}{Q:VK}{B:Option Addr}{G H:Hp}{σ:St}{env:En}{β:Int}{i:Nat}{p:Addr}(I:SR Γ B G H σ env β)(hK:X.K=Γ.K)(hp:B=some p){wv:Bool}
  (h:Out Γ E (fr (vl env) β) λds β1=>Out Γ E (match F ds β1 with
   | .ok d true β2=>.ok d β2
   | .ok d false β2=>if wv=true then .bad else .ok d β2
   | .bad=>.bad) λd β'=>∀v G' H',SR Γ B G' H' σ (bq L env) β'->au G G'->iK B H H'->VO Γ.K B H G' H' (if wv=true then .w else .v) d v->Q v H') (hl:∀ds β,F ds β≠.bad->ds.length=ps.length - 1) :
  aT Γ E fr L σ H λvs H1=>JG X.K (ps.length - 1) F (.ref p :: vs) H1 Q E:=by
 subst hp
 refine⟨env,G,_,β,I,h.imp λds β1 k vs G1 H1 I1 s1 m1 r=>?_⟩
 obtain⟨b1,b2,b3⟩:=I1.box p rfl
 refine⟨p,vs,G1,ds,β1,rfl,b1,b2,I1.sub,hl ds β1 λz=>by rw[z] at k;exact k,by rw[hK];exact r,?_⟩
 cases q:F ds β1 with
 |bad=>rw[q] at k;exact k
 |ok d fr' β2=>
  rw[q] at k
  intro v G' H' hh hb hg hs hn fv
  have I2:=I1.calledB hh hb hg hs hn
  cases fr' with
  |true=>
   obtain⟨c,rfl,p1,p2,p3⟩:∃a,v=.ref a/\H1 a=none/\G' a=none/\Own X.K G' H' a d:=fv
   rw[hK] at p3
   have hp:=fq m1 I1.boxThere p1
   cases wv with
   |true=>exact k _ G' H' I2 (s1.trans hg) (m1.trans hh) ⟨c,rfl,hp,p2,p3⟩
   |false=>
    obtain⟨q1,q2,q3,q4⟩:=I1.fresh p1
    obtain⟨G3,I3,s3,r3⟩:=I2.letIn q1 p2 q3 q4 p3
    exact k _ G3 H' I3 ((s1.trans hg).trans s3) (m1.trans hh) r3
  |false=>
   cases wv with
   |true=>exact k.elim
   |false=>
    have fv:Rp X.K G' v d:=fv
    rw[hK] at fv
    exact k _ G' H' I2 (s1.trans hg) (m1.trans hh) fv
theorem GO {F:List D->Int->FB}{ps:List Str}{Q:VK}{i:Nat}{σ:St}{H:Hp}(hK:X.K=Γ.K){wv:Bool}(hl:∀ds β,F ds β≠.bad->ds.length=ps.length - 1)(h:pT Γ E (if wv=true then Lv i F fr else mY i F fr) L (if wv=true then .w else .v) σ H Q) :
  Ej i σ H λx H1=>aT Γ E fr L σ H1 λvs H2=>JG X.K (ps.length - 1) F (x :: vs) H2 Q E:=by
 obtain⟨env,G,B,β,I,o⟩:=h
 have hi:xb (vl env) i=true:=by
  by_cases hi:xb (vl env) i=true
  ·exact hi
  ·exfalso
   cases wv with
   |true=>simp only[NC] at o;unfold Lv at o;rw[MF hi] at o;exact o
   |false=>simp only[MQ,Nk] at o;unfold mY at o;rw[MF hi] at o;exact o
 obtain⟨p,e1,e2⟩:=I.slot i _ (Ft hi)
 refine⟨.ref p,e1,FA (i:=i) (ps:=ps) I hK e2 (wv:=wv) ?_ hl⟩
 cases wv with
 |true=>
  simp only[NC] at o ⊢
  unfold Lv at o
  rw[MA hi] at o
  refine o.bnd.imp λds β1 h=>?_
  cases q:F ds β1 with
  |bad=>rw[q] at h;exact h
  |ok d b β2=>rw[q] at h;cases b <;> exact h
 |false=>
  simp only[MQ,Nk] at o ⊢
  unfold mY at o
  rw[MA hi] at o
  refine o.bnd.imp λds β1 h=>?_
  cases q:F ds β1 with
  |bad=>rw[q] at h;exact h
  |ok d b β2=>rw[q] at h;cases b <;> exact h
def nC {x y:Str}{ps:List Str}{k:Nat}{F:List D->Int->FB}{p np:Pos}(i:Nat)(hf:sx X.prog X.w X.K X.mg X.base x ps k F)(hr:fI k X.A)(hx:Passes (nR X.prog X.w) X E)(hK:X.K=Γ.K)(hg:Gl X x)(ha:SA X Γ E es fr L)(hN:X.N[i]? =some y:=by rfl)(hv:AW X.env.scope y:=by first |exact Or.inl rfl |exact Or.inr (Or.inl rfl) |exact Or.inr (Or.inr rfl))(hd:(y == ("__debug__":Str))=false:=by decide)
  (hcd:(y == ("__classdict__":Str))=false:=by decide) (hdb:(x == ("__debug__":Str))=false:=by decide)
  (he:starEach (.Name y np :: es) X.env=(false,eval (.Name y np) X.env) :: starEach es X.env:=by rfl) (hpl:(backTo pos (starEach es X.env)).any (·.1)=false:=by rfl):SE X Γ E (.Call (.Name x p) (.Name y np :: es) [] pos) (mY i F fr) L .v:=by
 obtain⟨f,fd,hm,hk,hb,hF⟩:=hf.ex
 refine PE.post' (oy (dvs:=[]) hF hr hg hm hk hb .nil hx (aO (jO hN hv hd hcd) ha he) hdb he hpl) λσ H Q h=>?_
 have:=GO (Q:=Q) (wv:=false) (ps:=ps) hK hf.len (by simpa using h)
 show Ej i σ H λx H1=>aT Γ E fr L σ H1 λvs H2=>JG X.K (ps.length - 1) F ((x :: vs) ++ []) H2 Q E
 simpa using this
def Dz:D->Option Int
 | .list [.int z]=>some z
 |_=>none
def Ff {d:D}{z:Int}(h:Dz d=some z):d=.list [.int z]:=by
 unfold Dz at h
 split at h
 ·cases h;rfl
 ·cases h
def Mt (f0:VF D)(F:List D->Int->FB)(n:Int):VF D:=λvs β=>(f0 vs β).bnd λd0 β1=>match Dz d0 with
 |some z=>(match F [.int n] z with
  | .ok d _ _=>.ok d β1
  | .bad=>.bad)
 |none=>.bad
def qt (env:En):En:=env.map λs=>match s with
 | .bx=>.no
 |s=>s
theorem Dj {env:En}{i:Nat}{s:Sl}(h:(qt env)[i]? =some s)(n:s≠.no):env[i]? =some s/\s≠.bx:=by
 unfold qt at h
 rw[MG] at h
 cases e:env[i]? with
 |none=>rw[e] at h;cases h
 |some t=>
  rw[e] at h
  have h:=Option.some.inj h
  cases t with
  |bx=>exact absurd h.symm n
  |no=>exact absurd h.symm n
  |fz d=>subst h;exact⟨rfl,λz=>by cases z⟩
  |ow d=>subst h;exact⟨rfl,λz=>by cases z⟩
  |br d=>subst h;exact⟨rfl,λz=>by cases z⟩
def yD (i:Nat)(L:List Nat)(f:VF D):SF:=λenv β=>toS (f (vl env) β) λd _=>match Dz d with
 |some z=>.nx ((qt (bq L env)).set i .bx) z
 |none=>.bad
theorem D0 {i:Nat}{x:Str}{pos':Pos}(hbx:Γ.bx=none)(he:SE X Γ E e f L .w)(hN:X.N.Nodup)(hi:X.N[i]? =some x:=by rfl)(hx:Loc X.env.scope x:=by first |exact Or.inl rfl |exact Or.inr rfl)(hs:swapsWith e (some (.Name x pos')) pos.line X.env=pure false:=by rfl)(hf:X.fn x=true\/X.env.scope.names.lookup x=some .local:=by first |exact .inl rfl |exact .inr rfl |assumption) :
  SS X Γ E (.Assign [.Name x pos'] e pos) (yD i L f):=by
 refine PS.post (pC hN hi hx he hs hf) λN σ H ⟨env,G,B,β,I,o⟩=>?_
 refine⟨env,G,B,β,I,cx o λd β' k v G' H' I' s' m' vo=>?_⟩
 cases q:Dz d with
 |none=>rw[q] at k;exact k.elim
 |some z=>
  rw[q] at k
  obtain rfl:=Ff q
  obtain⟨p,rfl,h1,h2,xs,h3,r⟩:=vo
  have hx2:H' p=some (.lst [.int z]):=by
   cases r with
   |cons r1 r2=>
    cases r1
    cases r2
    exact h3
  obtain⟨q1,q2,q3,q4⟩:=I.fresh h1
  refine k (some p) G' H' _ ⟨I'.sub,I'.old,I'.new,I'.keep,I'.pin,λb e=>(by rw[hbx] at e;cases e),λb e=>?_,?_,λj t e=>?_,λj j' c d1 d2 e1 e2 e3 e4=>?_⟩ s'
  ·cases e;exact⟨hx2,h2,.inr q1⟩
  ·rw[NK,NK];unfold qt;rw[MI];exact I'.len
  ·by_cases hj:j=i
   ·subst hj
    by_cases hl:j < (qt (bq L env)).length
    ·rw[MV hl] at e
     cases e
     refine⟨p,?_,rfl⟩
     rw[MV]
     rw[I'.len];unfold qt at hl;simpa using hl
    ·rw[NS (by rw[NK];omega)] at e;cases e
   ·rw[MR (Ne.symm hj)] at e ⊢
    by_cases hn:t=.no
    ·subst hn;trivial
    ·obtain⟨e1,nb⟩:=Dj e hn
     have w:=I'.slot j t e1
     cases t with
     |no=>trivial
     |fz d=>exact w
     |bx=>exact absurd rfl nb
     |ow d=>
      obtain⟨a',g1,g2,g3,g4,g5⟩:=w
      exact⟨a',g1,g2,g3,λy=>q4 j d (sU e1) (by cases y;exact g1),g5⟩
     |br d=>
      obtain⟨b1,a',g1,g4,hpp,g5⟩:=w
      have e0:env[j]? =some (.br d):=Iw e1
      obtain⟨_,a2,f1,_,_,f5⟩:=I.slot j _ e0
      rw[g1] at f1;cases f1
      obtain⟨o,ho⟩:=f5.obj
      exact⟨b1,a',g1,λy=>(by cases y;rw[h1] at ho;cases ho),hpp,g5⟩
  ·have back:∀{j:Nat} {d1:D},((qt (bq L env)).set i Sl.bx)[j]? =some (.ow d1)->j≠i/\(bq L env)[j]? =some (.ow d1):=λ{j d1} e=>by
    by_cases hj:j=i
    ·subst hj
     by_cases hl:j < (qt (bq L env)).length
     ·rw[MV hl] at e;cases e
     ·rw[NS (by rw[NK];omega)] at e;cases e
    ·rw[MR (Ne.symm hj)] at e
     exact⟨hj,(Dj e (λy=>by cases y)).1⟩
   obtain⟨n1,w1⟩:=back e1
   obtain⟨n2,w2⟩:=back e2
   rw[MR (Ne.symm n1)] at e3
   rw[MR (Ne.symm n2)] at e4
   exact I'.sep j j' c d1 d2 w1 w2 e3 e4
end
section
variable {P:Program}{w:World}{K:Frag}{mg:Str->Option Value}{base:Heap}{ca:Str->Addr}
def Fm:SO->FB
 | .nx _ β=>.ok .none false β
 | .rt d fr β=>.ok d fr β
 |_=>.bad
def xE (n:Nat)(ds:List D):En:=.bx :: ds.map Sl.fz ++ List.replicate (n - 1 - ds.length) .no
def uA (n p:Nat)(m:SF):List D->Int->FB:=λds β=>if ds.length=p then Fm (m (xE n ds) β) else .bad
abbrev Fx.fb (K:Frag)(H G:Hp)(ca:Str->Addr)(b:Addr):Fx:=⟨K,H,G,[b],ca,λ_=>false,some b⟩
def SR.startB {H G:Hp}{N:List Str}{b:Addr}{vs:List V}{ds:List D}{β:Int}(s:au G H)(hb:H b=some (.lst [.int β]))(gb:G b=none)(r:b5 K G vs ds)(hn:ds.length + 1<=N.length):SR (Fx.fb K H G ca b) (some b) G H (L2.start N (.ref b :: vs)) (xE N.length ds) β:=by
 have hl:=r.len
 refine⟨s,au.refl _,λc _ h=>h,λc o h _=>h,λc h=>?_,λc h=>h,λc h=>?_,?_,λi t e=>?_,λi j a d e h=>?_⟩
 ·have:c=b:=by simpa using h
  subst this;exact Mx.lst hb
 ·cases h;exact⟨hb,gb,.inl (by simp)⟩
 ·unfold L2.start xE;simp;omega
 ·cases i with
  |zero=>
   unfold xE at e
   cases e
   exact⟨b,rfl,rfl⟩
  |succ i=>
   unfold xE at e
   have e:(ds.map Sl.fz ++ List.replicate (N.length - 1 - ds.length) Sl.no)[i]? =some t:=by simpa using e
   by_cases hi:i < ds.length
   ·rw[Ng (by simpa using hi),MG,Mu hi] at e
    cases e
    obtain⟨x,hx,rx⟩:=r.at (Mu hi)
    refine⟨x,?_,rx⟩
    unfold L2.start
    have hi':i < vs.length:=by rw[hl];exact hi
    rw[Ng (by simp;exact hi'),MG,List.getElem?_cons_succ,hx];rfl
   ·rw[Nb (by simpa using hi),N3] at e
    split at e
    ·cases e;trivial
    ·cases e
 ·unfold xE at h
  have hm:=MO h
  rcases MB.mp hm with z |hm
  ·cases z
  rcases M1.mp hm with z |z
  ·obtain⟨_,_,z⟩:=MM.mp z;cases z
  ·have:=Pd z;cases this
def vj {x qual:Str}{st:Stmt}{f:Addr}{fd:FuncData}{N:List Str}{ps:List Str}{k:Nat}{m:SF}(F:DV K x qual st f fd)(S:aJ N ps (ay st))(hp:1<=ps.length)
  (hbody:∀(cdv:Value) (A:Around) (outer:List Env) (s:Shared) (H G:Hp) (b:Addr) (E:XK),fI k (A.deeper (envOfC qual (ay st) s.heap.objs.size f cdv))->DU (kU (nR P w) P w K mg base N qual (ay st) f cdv A outer s H E) (Fx.fb K H G ca b) E (cY st) m) :
  fW P w K mg base (nR P w) (k + 1) f fd ps (JG K (ps.length - 1) (uA N.length (ps.length - 1) m)):=by
 have hpn:ps.length<=N.length:=by have:=congrArg List.length S.pre;rw[NN] at this;omega
 refine F.uc S (λvs H Q E h=>?_) (λcdv A outer s H vs Q E hr h=>?_)
 ·obtain⟨b,rest,G,ds,β,rfl,hb,gb,sG,hl,r,_⟩:=h
  rw[MU,r.len];omega
 ·obtain⟨b,rest,G,ds,β,rfl,hb,gb,sG,hl,r,h⟩:=h
  refine⟨_,hbody cdv A outer s H G b E hr,?_⟩
  have I:=SR.startB (ca:=ca) (N:=N) sG hb gb r (by omega)
  refine⟨_,G,some b,β,I,?_⟩
  unfold uA at h
  rw[MA hl] at h
  have fin':∀{B G' H' σ env β},SR (Fx.fb K H G ca b) B G' H' σ env β->iK (some b) H H'/\H' b=some (.lst [.int β]):=λJ=>by
   have e:=J.fix b rfl
   refine⟨λc o ec n=>J.keep c o ec λz=>n ?_,(J.box b e).1⟩
   have:c=b:=by simpa using z
   rw[this]
  cases q:m (xE N.length ds) β with
  |nx env β'=>rw[q] at h;exact λB G' H' σ J s'=>h .non G' H' (fin' J).1 (fin' J).2 s' J.sub (λc h1 h2=>J.new c h1 h2) Rp.non
  |bk env β'=>rw[q] at h;exact h.elim
  |ct env β'=>rw[q] at h;exact h.elim
  |rt d fr β'=>
   rw[q] at h
   refine λB G' H' σ env v J s' rv=>h v G' H' (fin' J).1 (fin' J).2 s' J.sub (λc h1 h2=>J.new c h1 h2) ?_
   cases fr with
   |true=>exact rv
   |false=>exact rv
  |exc c=>rw[q] at h;exact h.elim
  |bad=>rw[q] at h;exact h.elim
def uM {n p:Nat}{m:SF}(ds:List D)(β:Int)(h:uA n p m ds β≠.bad):ds.length=p:=by
 unfold uA at h
 by_cases hl:ds.length=p
 ·exact hl
 ·rw[MF hl] at h;exact absurd rfl h
end
def aK (p:Pr):D:=.tuple [.int p.1,.int p.2]
def oM:D->Option Pr
 | .tuple [.int a,.int b]=>some (a,b)
 |_=>none
def uL {d:D}{p:Pr}(h:oM d=some p):d=aK p:=by
 unfold oM at h
 split at h
 ·cases h;rfl
 ·cases h
def AG (p:Pr):oM (aK p)=some p:=rfl
def fk:List D->Option (List Pr)
 | []=>some []
 |d :: ds=>match oM d,fk ds with
  |some p,some ps=>some (p :: ps)
  |_,_=>none
theorem ji:∀{ds:List D} {ps:List Pr},fk ds=some ps->ds=ps.map aK
 | [],ps,h=>by cases h;rfl
 |d :: ds,ps,h=>by
  unfold fk at h
  split at h
  ·rename_i p qs h1 h2;cases h;rw[uL h1,ji h2];rfl
  ·cases h
theorem fg:∀ps:List Pr,fk (ps.map aK)=some ps
 | []=>rfl
 |p :: ps=>by
  show (match oM (aK p),fk (ps.map aK) with
   |some p,some ps=>some (p :: ps)
   |_,_=>none)=_
  rw[AG,fg ps]
section
variable {K:Frag}{X:Cx}{G H:Hp}
theorem b5.pairs:∀{ps:List Pr} {xs:List V},b5 K G xs (ps.map aK)->aX K G xs ps
 | [],_,.nil=>.nil
 |p :: ps,_,.cons r t=>by
  cases r with
  |tup hq r=>
   cases r with
   |cons r1 r=>
    cases r with
    |cons r2 r=>cases r;cases r1;cases r2;exact .cons ⟨_,rfl,hq⟩ (b5.pairs t)
theorem aX.rps:∀{ps:List Pr} {xs:List V},aX K G xs ps->b5 K G xs (ps.map aK)
 | [],_,.nil=>.nil
 |p :: ps,_,.cons r t=>by
  obtain⟨a,rfl,q⟩:=r
  exact .cons (.tup q (.cons (.int _) (.cons (.int _) .nil))) (aX.rps t)
def IT (p:Pr):Bool:=decide (0<=p.1) && decide (p.1 < 8) && decide (0<=p.2) && decide (p.2 < 8)
def BF {p:Pr}(h:IT p=true):Sm p:=by
 unfold IT at h
 simp only[MP,MT] at h
 exact⟨⟨h.1.1.1,h.1.1.2⟩,h.1.2,h.2⟩
noncomputable def cM (d:D):Option D:=match ll d with
 |some ds=>(match fk ds with
  |some ps=>if ps.all IT=true/\(OM.cg 8 (OM.Mem ps)).length < 64 then some (.list ((OM.cg 8 (OM.Mem ps)).map aK)) else none
  |none=>none)
 |none=>none
variable {Γ:Fx}{E:XK}{e a b c:Expr}{f fa fb fc:VF D}{L La Lb:List Nat}{md ma mb mc:Md}{pos:Pos}
theorem p8 {p1 p2 pos2:Pos}(hc:X.calm=true)(hu:X.A.units + 64 < cLine)(hK:X.K=Γ.K)(hg:Gl X "sorted")(hm:X.mg "sorted"=none)(hg2:Gl X "set")(hm2:X.mg "set"=none)(ha:SE X Γ E a fa La ma)
  (he:starEach [a] X.env=(false,eval a X.env) :: starEach [] X.env:=by rfl)
  (he2:starEach [.Call (.Name "set" p2) [a] [] pos2] X.env=(false,eval (.Call (.Name "set" p2) [a] [] pos2) X.env) :: starEach [] X.env:=by rfl) :
  SE X Γ E (.Call (.Name "sorted" p1) [.Call (.Name "set" p2) [a] [] pos2] [] pos) (f1 fa cM) La .w:=by
 refine PE.post' (jd (sP hc) hg hm (by decide +kernel) (aO (gK (CM hc hu) hg2 hm2 (by decide +kernel) (aO ha bA he) (by decide) (by decide) he) bA he2) (by decide) (by decide) he2) λσ H Q ⟨env,G,B,β,I,o⟩=>?_
 refine gG (r:=λx H1 Q=>Kh X.prog X.w X.K [x] H1 λy H2=>vQ X.prog X.w X.K [y] H2 Q) ?_ I o
 intro B G H x dx d Q s hB bx e k
 rw[hK]
 unfold cM at e
 cases q:ll dx with
 |none=>rw[q] at e;cases e
 |some ds=>
  rw[q] at e
  dsimp only at e
  cases q2:fk ds with
  |none=>rw[q2] at e;cases e
  |some ps=>
   rw[q2] at e
   dsimp only at e
   split at e
   ·rename_i hh
    obtain⟨h1,h2⟩:=hh
    cases e
    obtain⟨p,xs,rfl,hq,r⟩:=bx.seq q s
    rw[ji q2] at r
    have pv:=(r.mono s).pairs
    have sm:∀p,p∈ps->Sm p:=λp hp=>BF (MS.mp h1 p hp)
    refine⟨p,xs,ps,rfl,hq,pv,sm,λS qs hS hpv nd hm=>?_⟩
    have qsl:qs.length < 64:=by
     have:(pq qs).length<=(OM.cg 8 (OM.Mem ps)).length:=OM.pe nd λx hx=>by
      have hx':=(hm x).mp hx
      have hs:=sm x hx'
      exact OM.bh.mpr ⟨⟨⟨hs.1.1,hs.1.2⟩,hs.2.1,hs.2.2⟩,hx'⟩
     simp only[MI] at this
     omega
    have xS:=Ext.own s (o:=zD X.prog X.w S qs) hS
    refine⟨S,qs,rfl,aC,hpv.grow (h9.new hS),λp hp=>sm p ((hm p).mp hp),nd,qsl,λl ws rs hl hpw hr hmem=>?_⟩
    have ers:rs=OM.cg 8 (OM.Mem ps):=OM.cX hr (OM.cN _ _) λx=>by
     rw[hmem x,hm x,OM.bh]
     constructor
     ·intro hx;have hs:=sm x hx;exact⟨⟨⟨hs.1.1,hs.1.2⟩,hs.2.1,hs.2.2⟩,hx⟩
     ·intro hx;exact hx.2
    subst ers
    have hlH:H l=none:=by
     by_cases z:l=S
     ·subst z;exact hS
     ·rw[aF z] at hl;exact hl
    have lS:l≠S:=λz=>by subst z;rw[aC] at hl;cases hl
    have hh:au H (upd (upd H S (zD X.prog X.w S qs)) l (.lst ws)):=(au.new hS).trans (au.new hl)
    have xx:=Ext.tups s hh
    refine k _ _ _ xx ⟨l,rfl,hlH,?_,ws,aC,?_⟩
    ·unfold ly
     rw[s.free hlH,aC]
     exact MF λy=>y
    ·refine aX.rps (Paired.mapP hpw λv p ⟨a,ea,qa⟩=>⟨a,ea,lP (s.trans hh) ?_⟩)
     exact qa.grow (h9.new hl)
   ·cases e
end
section
variable {K:Frag}{X:Cx}{G H:Hp}{Γ:Fx}{E:XK}{e a b c:Expr}{f fa fb fc:VF D}{L La Lb:List Nat}{md ma mb mc:Md}{pos apos cpos np:Pos}
def gX:D->Option D
 | .int n=>if 0<=n/\n<=1000 then some (.list (cZ 0 n.toNat)) else none
 |_=>none
def zG (n:Nat):b5 K G ((List.range n).map λ(i:Nat)=>V.int (i:Int)) (cZ 0 n):=by
 have key:∀l:List Nat,b5 K G (l.map λ(i:Nat)=>V.int (i:Int)) (l.map λ(k:Nat)=>int (0 + k)):=by
  intro l
  induction l with
  |nil=>exact .nil
  |cons x l ih=>exact .cons (by show Rp K G (.int (x:Int)) (.int (0 + (x:Int)));rw[Oh];exact .int _) ih
 exact key _
theorem wo {p1 p2 pos2:Pos}(hc:X.calm=true)(hg:Gl X "list")(hm:X.mg "list"=none)(hg2:Gl X "range")(hm2:X.mg "range"=none)(ha:SE X Γ E a fa La ma)
  (he:starEach [a] X.env=(false,eval a X.env) :: starEach [] X.env:=by rfl)
  (he2:starEach [.Call (.Name "range" p2) [a] [] pos2] X.env=(false,eval (.Call (.Name "range" p2) [a] [] pos2) X.env) :: starEach [] X.env:=by rfl) :
  SE X Γ E (.Call (.Name "list" p1) [.Call (.Name "range" p2) [a] [] pos2] [] pos) (f1 fa gX) La .w:=by
 refine PE.post' (gK (qB hc) hg hm (by decide +kernel) (aO (gK DF hg2 hm2 (by decide +kernel) (aO ha bA he) (by decide) (by decide) he) bA he2) (by decide) (by decide) he2) λσ H Q ⟨env,G,B,β,I,o⟩=>?_
 refine gG (r:=λx H1 Q=>∃n:Int,[x]= [.int n]/\∀p,H1 p=none->(λ(y:V) (H2:Hp)=>∃(p:Addr) (n:Int),[y]= [V.ref p]/\H2 p=some (.eS 0 n)/\0<=n/\n<=1000/\∀l,H2 l=none->Q (.ref l) (upd H2 l (.lst ((List.range n.toNat).map λ(i:Nat)=>V.int (i:Int))))) (V.ref p) (upd H1 p (.eS 0 n))) ?_ I o
 intro B G H x dx d Q s hB bx e k
 cases dx with
 |int n=>
  obtain rfl:=bx.int
  simp only[gX] at e
  split at e
  ·rename_i hh
   cases e
   refine⟨n,rfl,λp hp=>⟨p,n,rfl,aC,hh.1,hh.2,λl hl=>?_⟩⟩
   have hlp:l≠p:=λz=>by subst z;rw[aC] at hl;cases hl
   have hlH:H l=none:=by rw[aF hlp] at hl;exact hl
   have x1:=Ext.own s (o:=.eS 0 n) hp
   have x2:=Ext.own x1.gh (o:=.lst ((List.range n.toNat).map λ(i:Nat)=>V.int (i:Int))) hl
   exact k _ _ _ (x1.trans x2) ⟨l,rfl,hlH,s.free hlH,_,aC,zG _⟩
  ·cases e
 |_=>cases e
def EN:D->Option D
 | .int i=>some (.int (if i < 0 then -i else i))
 |_=>none
theorem J6:AS K (λx H Q=>∃i,[x]= [.int i]/\Q (.int (if i < 0 then -i else i)) H) EN .v:=by
 intro B G H x dx d Q s hB bx e k
 cases dx with
 |int i=>cases e;obtain rfl:=bx.int;exact⟨i,rfl,k _ G H (Ext.refl s) (.int _)⟩
 |_=>cases e
noncomputable def mV (d:D):Option D:=match d with
 | .list ds=>(match fk ds with
  |some ps=>if ps.all IT=true/\ps.Nodup/\ps.length < 64 then some (.list ((OM.cg 8 (OM.Mem ps)).map aK)) else none
  |none=>none)
 |_=>none
theorem Ec:AS K (λx=>yr K [x]) mV .w:=by
 intro B G H x dx d Q s hB bx e k
 cases dx with
 |list ds=>
  simp only[mV] at e
  cases q2:fk ds with
  |none=>rw[q2] at e;cases e
  |some ps=>
   rw[q2] at e
   dsimp only at e
   split at e
   ·rename_i hh
    obtain⟨h1,h2,h3⟩:=hh
    cases e
    obtain⟨p,xs,rfl,hq,r⟩:=bx.list s
    rw[ji q2] at r
    have pv:=(r.mono s).pairs
    have sm:∀p,p∈ps->Sm p:=λp hp=>BF (MS.mp h1 p hp)
    refine⟨p,xs,ps,rfl,.inl hq,pv,sm,h2,h3,λl ws rs hl hpw hr hmem=>?_⟩
    have ers:rs=OM.cg 8 (OM.Mem ps):=OM.cX hr (OM.cN _ _) λx=>by
     rw[hmem x,OM.bh]
     constructor
     ·intro hx;have hs:=sm x hx;exact⟨⟨⟨hs.1.1,hs.1.2⟩,hs.2.1,hs.2.2⟩,hx⟩
     ·intro hx;exact hx.2
    subst ers
    have hh:au H (upd H l (.lst ws)):=au.new hl
    refine k _ _ _ (Ext.tups s hh) ⟨l,rfl,hl,?_,ws,aC,?_⟩
    ·unfold ly
     rw[s.free hl,aC]
     exact MF λy=>y
    ·refine aX.rps (Paired.mapP hpw λv p ⟨a,ea,qa⟩=>⟨a,ea,lP (s.trans hh) ?_⟩)
     exact qa.grow (h9.new hl)
   ·cases e
 |_=>cases e
def AN (ds:List D)(k:D):Option (D×List D):=match k with
 | .int i=>if -(2 ^ 63)<=i/\i < 2 ^ 63 then (match seqIndex? i ds.length with
  |some n=>(match ds[n]? with
   |some d=>some (d,ds.eraseIdx n)
   |none=>none)
  |none=>none) else none
 |_=>none
def jM (i j:Nat)(L:List Nat)(f:VF D):SF:=λenv β=>if tQ env[i]? =true/\tQ env[j]? =true/\i≠j then toS (f (vl env) β) λk β'=>match (bq L env)[j]? with
 |some (.ow (.list es))=>(match AN es k with
  |some (d,es')=>G9 i ((bq L env).set j (.ow (.list es'))) β' λds=>if ds.length < sizeLine then some (ds ++ [d]) else none
  |none=>.bad)
 |_=>.bad else .bad
theorem b5.eraseIdx:∀{xs:List V} {ds:List D} (i:Nat),b5 K G xs ds->b5 K G (xs.eraseIdx i) (ds.eraseIdx i)
 |_,_,_,.nil=>.nil
 |_,_,0,.cons _ t=>t
 |_,_,i + 1,.cons r t=>.cons r (b5.eraseIdx i t)
theorem Ay (i j:Nat){x y:Str}{np2 apos2 cpos2:Pos}(hb:∀j,Γ.br j=false)(he:SE X Γ E e f L md)(hN:X.N[i]? =some x:=by rfl)(hv:AW X.env.scope x:=by first |exact Or.inl rfl |exact Or.inr (Or.inl rfl) |exact Or.inr (Or.inr rfl))(hd:(x == ("__debug__":Str))=false:=by decide)
  (hcd:(x == ("__classdict__":Str))=false:=by decide)
  (hN2:X.N[j]? =some y:=by rfl) (hv2:AW X.env.scope y:=by first |exact Or.inl rfl |exact Or.inr (Or.inl rfl) |exact Or.inr (Or.inr rfl)) (hd2:(y == ("__debug__":Str))=false:=by decide)
  (hcd2:(y == ("__classdict__":Str))=false:=by decide)
  (hbase:attributeBase (.Name x np) "append" X.env (eval (.Name x np) X.env)=eval (.Name x np) X.env:=by rfl)
  (hfew:((backTo cpos (starEach [.Call (.Attribute (.Name y np2) "pop" apos2) [e] [] cpos2] X.env)).all (λx=> !x.1) && (backToKw cpos (keywordEach [] X.env)).all (λx=>x.1.isSome)
   && decide ([Expr.Call (.Attribute (.Name y np2) "pop" apos2) [e] [] cpos2].length + ([]:List Keyword).length + (if ([]:List Keyword).isEmpty then 0 else 1) < 30))=true:=by rfl)
  (hline:(apos.endLine == cpos.line)=true:=by rfl) (hs:starEach [.Call (.Attribute (.Name y np2) "pop" apos2) [e] [] cpos2] X.env=(false,eval (.Call (.Attribute (.Name y np2) "pop" apos2) [e] [] cpos2) X.env) :: starEach [] X.env:=by rfl)
  (hbase2:attributeBase (.Name y np2) "pop" X.env (eval (.Name y np2) X.env)=eval (.Name y np2) X.env:=by rfl)
  (hfew2:((backTo cpos2 (starEach [e] X.env)).all (λx=> !x.1) && (backToKw cpos2 (keywordEach [] X.env)).all (λx=>x.1.isSome)
   && decide ([e].length + ([]:List Keyword).length + (if ([]:List Keyword).isEmpty then 0 else 1) < 30))=true:=by rfl)
  (hline2:(apos2.endLine == cpos2.line)=true:=by rfl) (hs2:starEach [e] X.env=(false,eval e X.env) :: starEach [] X.env:=by rfl)
  (hsw:swapsWith (.Call (.Attribute (.Name x np) "append" apos) [.Call (.Attribute (.Name y np2) "pop" apos2) [e] [] cpos2] [] cpos) none pos.line X.env=pure false:=by rfl) :
  SS X Γ E (.Expr (.Call (.Attribute (.Name x np) "append" apos) [.Call (.Attribute (.Name y np2) "pop" apos2) [e] [] cpos2] [] cpos) pos) (jM i j L f):=by
 refine PS.post (sd (Cc OV PySem.F.slot_list_append PySem.F.type_list_append mS (jO hN hv hd hcd)
  (aO (Cc OV PySem.F.slot_list_pop PySem.F.type_list_pop CT (jO hN2 hv2 hd2 hcd2) (aO he bA hs2) hbase2 hfew2 hline2 hs2 rfl) bA hs) hbase hfew hline hs rfl) hsw) λN σ H ⟨env,G,B,β,I,o⟩=>?_
 unfold jM at o
 by_cases hO:tQ env[i]? =true/\tQ env[j]? =true/\i≠j
 case neg=>rw[MF hO] at o;exact o.elim
 rw[MA hO] at o
 obtain⟨hO1,hO2,hij⟩:=hO
 obtain⟨ds0,q0⟩:=oD hO1
 obtain⟨es0,w0⟩:=oD hO2
 obtain⟨p,h1,_,_,_,xs,h5,_⟩:=I.slot i _ q0
 obtain⟨q,k1,_,_,_,ys,k5,_⟩:=I.slot j _ w0
 refine⟨_,h1,.inl ⟨rfl,xs,.inl (.inl h5)⟩,?_⟩
 refine⟨_,k1,.inl ⟨rfl,ys,.inl (.inl k5)⟩,?_⟩
 refine⟨env,G,B,β,I,cx o λkd β' k v G' H' I' s' m' vo=>?_⟩
 cases ej:(bq L env)[j]? with
 |none=>rw[ej] at k;exact k.elim
 |some sj=>
  rw[ej] at k
  cases sj with
  |ow dj=>
   cases dj with
   |list es=>
    dsimp only at k
    cases ep:AN es kd with
    |none=>rw[ep] at k;exact k.elim
    |some pr=>
     obtain⟨d,es'⟩:=pr
     rw[ep] at k
     dsimp only at k
     unfold AN at ep
     cases kd <;> first | (cases ep;done) |skip
     rename_i ii
     dsimp only at ep
     split at ep
     ·rename_i hr
      cases eI:seqIndex? ii es.length with
      |none=>rw[eI] at ep;cases ep
      |some n=>
       rw[eI] at ep
       dsimp only at ep
       cases eD:es[n]? with
       |none=>rw[eD] at ep;cases ep
       |some d0=>
        rw[eD] at ep
        cases ep
        obtain rfl:=(vo.brw I.boxThere).int
        obtain⟨q',g1,_,_,_,zs,g5,g6⟩:=I'.slot j _ ej
        rw[k1] at g1;cases g1
        obtain⟨xv,ex,rx⟩:=g6.at eD
        refine⟨q,zs,ii,n,xv,rfl,rfl,g5,hr.1,hr.2,by rw[g6.len];exact eI,ex,?_⟩
        have I2:=I'.write hb ej k1 (o:=.lst (zs.eraseIdx n)) (d':=.list (es.eraseIdx n)) λH2 e2 s2=>⟨_,e2,g6.eraseIdx n⟩
        obtain⟨ds,fs,eq,eg,k⟩:=tZ k
        by_cases hz:ds.length < sizeLine
        case neg=>rw[MF hz] at eg;cases eg
        rw[MA hz] at eg
        cases eg
        obtain⟨p',f1,_,_,_,us,f5,f6⟩:=I2.slot i _ eq
        rw[h1] at f1;cases f1
        refine⟨p,us,xv,rfl,rfl,f5,by rw[f6.len];exact hz,?_⟩
        exact k B G' _ σ (I2.write hb eq h1 λH2 e2 s2=>⟨_,e2,f6.snoc rx⟩) s'
     ·cases ep
   |_=>exact k.elim
  |_=>exact k.elim
end
def dv:List D->Int->FB
 | [.int m],β=>if 0 < m/\m < 1073741824 then .ok (.int (β % m)) false (β / m) else .bad
 |_,_=>.bad
def yb {ds:List D}{β:Int}(h:dv ds β≠.bad):∃m,ds= [.int m]/\0 < m/\m < 1073741824:=by
 unfold dv at h
 split at h
 ·rename_i m
  by_cases hh:0 < m/\m < 1073741824
  ·exact⟨m,rfl,hh.1,hh.2⟩
  ·rw[MF hh] at h;exact absurd rfl h
 ·exact absurd rfl h
def tL {m β:Int}(h0:0 < m)(h1:m < 1073741824):dv [.int m] β=.ok (.int (β % m)) false (β / m):=MA ⟨h0,h1⟩
def constsOf:List Expr->Option (List Int)
 | []=>some []
 | .Constant (.int i) _ _ :: es=>(constsOf es).map λr=>i :: r
 |_=>none
def Ma (ns:List Int):VF (List D):=λ_ β=>.ok (ns.map int) β
theorem rl {X:Cx}{Γ:Fx}{E:XK}:∀{es:List Expr} {ns:List Int},constsOf es=some ns->SA X Γ E es (Ma ns) []
 | [],ns,h=>by
  have e:ns= []:=by unfold constsOf at h;exact (Option.some.inj h).symm
  subst e
  exact ao
 |e :: es,ns,h=>by
  unfold constsOf at h
  split at h
  ·cases ‹_ :: _= []›
  ·next i a b es' heq=>
   cases heq
   cases q:constsOf es with
   |none=>rw[q] at h;cases h
   |some r=>
    rw[q] at h
    have e2:i :: r=ns:=Option.some.inj h
    subst e2
    exact ae aB (rl q) rfl
  ·cases h
section
variable {P:Program}{w:World}{K:Frag}{mg:Str->Option Value}{base:Heap}
def E1 {X:Cx}{i j:Nat}{x y:Str}{px py pos:Pos}{k:Nat}(hN:X.N.Nodup)(hi:X.N[i]? =some x)(hj:X.N[j]? =some y)(hx:X.env.scope.names.lookup x=some .local)(hy:X.env.scope.names.lookup y=some .local)(hc:X.calm=true) :
  PG X (.Tuple [.Name x px,.Name y py] k pos) (Fe X.K 2 (o4 (k6 i) (o4 (k6 j) Fb))):=
 o7 hc (dF (cV hN hi (Or.inl hx) (Or.inr hx)) (dF (cV hN hj (Or.inl hy) (Or.inr hy)) my))
def BL {b:Addr}{β m:Int}{H:Hp}{Q:VK}{G:Hp}(hb:H b=some (.lst [.int β]))(s:au G H){p:Addr}(hp:H p=none)
  (kk:∀v G' H',iK (some b) H H'->H' b=some (.lst [.int (β / m)])->au G G'->au G' H'->(∀c,Mx H c->G c=none->G' c=none)->FV K H G' H' false (.int (β % m)) v->Q v H') (gb:G b=none) :
  Q (.int (β % m)) (upd (upd H p (.tup [.int (β / m),.int (β % m)])) b (.lst [.int (β / m)])):=by
 have hbp:b≠p:=aL hb hp
 refine kk _ G _ (λc o e n=>?_) aC (au.refl _) (λc o e=>?_) (λc _ h=>h) (.int _)
 ·rw[aF (λz=>n (by rw[z])),aF (aL e hp)];exact e
 ·rw[aF (λz=>by rw[z,gb] at e;cases e),aF (aL (s c o e) hp)];exact s c o e
end
end L2
namespace L2
open PySem PySem.SeqAt PySem.Spec PyProof.Rows
def td {M:Model}{A:Around}{E:Value->Shared->Prop}{s:Shared}{β:Type}{b:Nat}(f:Nat->β->Sem (ForInStep β))(I:List Nat->β->Shared->Prop)(Q:β->Shared->Prop)
  (turn:∀x rest b s,I (x :: rest) b s->wpAny M A (f x b) (λr s'=>match r with | .yield b'=>I rest b' s' | .done b'=>Q b' s') E s)
  (fin:∀b s,I [] b s->Q b s) (c:β) (h:I (List.range' 0 b) c s):wpAny M A (forIn [0:b] c f) Q E s:=by
 rw[Std.Legacy.Range.forIn_eq_forIn_range']
 simp only[Std.Legacy.Range.size,Nat.sub_zero,Nat.add_sub_cancel,Nat.div_one]
 exact wpAny_forIn_list f I Q turn fin _ c h
def qj (l:Addr)(items:Array Value)(n:Nat)(dd:Option Addr)(sl:Array (Option Value))(x:Value)(e:Value->Bool)(j:Nat)(hj:j < items.size)
  (hit:e items[j]=true) (hno:∀m (hm:m < items.size),m < j->e items[m]=false) :
  Meets (Builtin.«tuple.index» ⟨[.ref l,x],[]⟩)
   (λA R s=>s.heap.get? l=some {cls:=.type "tuple",dict:=dd,data:=.seq items n,slots:=sl}/\(∀y,y∈items->EqAt A.in1 s y x (e y))/\R (.ok (.ret (.int j s.toks))) {s with toks:=s.toks + 1}):=
 .of_wp λprog w A R s h=>by
  obtain⟨hp,g,d,tk,os⟩:=s;obtain⟨hl,he,h⟩:=h
  wp_walk using wpAny_loadPart' hl,td _ (λrest b s'=>b.1=none/\s'=⟨hp,g,d,tk,os⟩/\∃i,i<=j/\rest=List.range' i (items.size - i)) _
  case turn=>
   rintro y rest b s' ⟨hb,rfl,i,hi,hr⟩
   obtain⟨m,hm⟩:∃m,items.size - i=m + 1:=⟨items.size - i - 1,by omega⟩
   rw[hm,List.range'_succ] at hr
   obtain⟨rfl,rfl⟩:=List.cons.inj hr
   have hlt:y < items.size:=by omega
   have e1:items[y]? =some items[y]:=by simp[hlt]
   simp only[e1]
   refine Mv (he _ (Pk hlt) prog w _ _ ?_)
   by_cases z:y=j
   ·subst z
    rw[hit]
    wp_walk
    exact⟨_,rfl,h⟩
   ·rw[hno y hlt (by omega)]
    wp_walk
    exact⟨rfl,rfl,y + 1,by omega,by congr 1;omega⟩
  case fin=>
   rintro b s' ⟨hb,rfl,i,hi,hr⟩
   obtain⟨m,hm⟩:∃m,items.size - i=m + 1:=⟨items.size - i - 1,by omega⟩
   rw[hm,List.range'_succ] at hr
   cases hr
  case h=>
   exact⟨rfl,rfl,0,Nd _,by rw[Nat.min_self];rfl⟩
section
variable {K:Frag}{X:Cx}{G H:Hp}{Γ:Fx}{E:XK}{e a b c:Expr}{f fa fb fc:VF D}{L La Lb:List Nat}{md ma mb mc:Md}{pos apos cpos np:Pos}
def wI (k:Int):Value->Bool
 | .int i _=>i == k
 |_=>false
theorem lh {k:Int}:∀{ns:List Int} {us:List Value} (i:Nat) (h:i < us.length) (h2:i < ns.length),Vals (ns.map V.int) us->wI k us[i]=(ns[i] == k)
 | [],_,_,_,h2,_=>absurd h2 (Nat.not_lt_zero _)
 |n :: ns,_,0,_,_,.cons r _=>by obtain⟨t,rfl⟩:=r;rfl
 |n :: ns,_,i + 1,h,h2,.cons _ rs=>lh i (Nat.lt_of_succ_lt_succ h) (Nat.lt_of_succ_lt_succ h2) rs
theorem vT {k:Int}{t:Tok}(A:Around)(s:Shared):∀{ns:List Int} {us:List Value},Vals (ns.map V.int) us->∀y∈us,EqAt A s y (.int k t) (wI k y)
 | [],_,.nil,y,hy=>by cases hy
 |n :: ns,_,.cons r rs,y,hy=>by
  rcases MB.mp hy with z |z
  ·subst z;obtain⟨t',rfl⟩:=r;exact EqAt.int_int n t' k t
  ·exact vT A s rs y z
def Ep (K:Frag):V->List V->Hp->VK->Prop:=λx vs H Q=>∃(a:Addr) (ns:List Int) (k:Int),x=.ref a/\vs= [.int k]/\eV K H a (ns.map V.int)/\k∈ns/\Q (.int (ns.idxOf k:Nat)) H
def zy:IY X "tuple.index" (Ep X.K):=by
 intro pins s σ H x vs v us Q I rx rv h
 obtain⟨a,ns,k,rfl,rfl,hq,hk,q⟩:=h
 cases rx
 obtain⟨u,rfl,ru⟩:=vals1 rv
 obtain⟨t,rfl⟩:=ru
 obtain⟨its,rs,pl,hz⟩:=I.tuple hq
 obtain⟨⟨cls,dd,data,sl⟩,ho,hc,n,hd⟩:=id pl
 simp only at hc hd
 subst hc hd
 have hj:ns.idxOf k < ns.length:=Nq.mpr hk
 have hlen:its.length=ns.length:=by rw[<-rs.length,MI]
 refine call_meets PySem.F.slot_tuple_index ⟨_,ho,rfl⟩ PySem.F.entry_tuple_index (PySem.F.args_tuple_index_2 _ _)
  (qj a its.toArray n dd sl (.int k t) (wI k) (ns.idxOf k) (by simpa[hlen] using hj) ?_ ?_) ⟨ho,λy hy=>vT _ _ rs y (by simpa using hy),?_⟩
 ·have:=lh (k:=k) (ns.idxOf k) (by omega) hj rs
  simpa[List.getElem_idxOf hj] using this
 ·intro m hm hlt
  have hm':m < ns.length:=by simpa[hlen] using hm
  have hne:ns[m]≠k:=λz=>by
   have:=List.not_of_lt_findIdx (p:=(· == k)) hlt
   simp[z] at this
  have:=lh (k:=k) m (by omega) hm' rs
  rw[beq_eq_false_iff_ne.mpr hne] at this;simpa using this
 ·exact⟨.int (ns.idxOf k:Nat),H,I.tok _,⟨_,rfl⟩,q⟩
def Inv.tupleP {pins:List (Addr×Obj)}{σ:St}{s:Shared}{p:Addr}{xs:List V}(I:Inv X pins σ H s)(h:eV X.K H p xs):s.TypeIs (.ref p) "tuple"/\∀a,Value.ref p=.ref a->∃ob,s.heap.get? a=some ob/\ob.dict=none:=by
 rcases h with h | ⟨o,its,n,hk,hc,hs,hz,r,hd⟩
 ·obtain⟨_,_,_,o,e,c,n,d,hd⟩:=h.ok I.hok
  exact⟨⟨o,e,c⟩,λa z=>by cases z;exact⟨o,e,hd⟩⟩
 ·exact⟨⟨o,I.kIn p o hk,hc⟩,λa z=>by cases z;exact⟨o,I.kIn p o hk,hd⟩⟩
def KW (K:Frag)(r:V->List V->Hp->VK->Prop)(to:TE)(t:TA):TE:=λσ H Q=>to σ H λx H1=>(∃p xs,x=.ref p/\eV K H1 p xs)/\t σ H1 λxs H2=>r x xs H2 Q
def Ij {o e:Expr}{es:List Expr}{to:TE}{t:TA}{name:Str}{apos cpos:Pos}{id:String}{r:V->List V->Hp->VK->Prop}(slot:Slot "tuple" name id)(hty:typeOf (.builtin id)=pure (.type "method_descriptor"))(hm:IY X id r)(ho:PE X o to)(ha:PA X (e :: es) t)
  (hbase:attributeBase o name X.env (eval o X.env)=eval o X.env:=by rfl)
  (hfew:((backTo cpos (starEach (e :: es) X.env)).all (λx=> !x.1) && (backToKw cpos (keywordEach [] X.env)).all (λx=>x.1.isSome)
   && decide ((e :: es).length + ([]:List Keyword).length + (if ([]:List Keyword).isEmpty then 0 else 1) < 30))=true:=by rfl)
  (hline:(apos.endLine == cpos.line)=true:=by rfl) (hs:starEach (e :: es) X.env=(false,eval e X.env) :: starEach es X.env:=by rfl) (hplain:(backTo cpos (starEach es X.env)).any (·.1)=false:=by rfl) :
  PE X (.Call (.Attribute o name apos) (e :: es) [] cpos) (KW X.K r to t):=by
 intro pins s σ H Q I h
 refine wpAny_Call_method_late hbase hfew hline rfl (cv (ho pins s σ H _ I h) λv s1 ⟨x,H1,I1,r1,⟨p,ys,ex,hr⟩,q1⟩=>?_)
 subst ex
 cases r1
 obtain⟨h1,h2⟩:=I1.tupleP hr
 refine⟨"tuple",id,PySem.F.plainAttrs_tuple,slot,hty,h1,h2,?_⟩
 have hA:=ha cpos pins s1 σ H1 _ I1 q1
 rw[hs] at hA ⊢
 refine Calls.callWith_builtin (by show (false || (backTo cpos (starEach es X.env)).any (·.1))=false;rw[hplain] <;> rfl) (O5 ?_)
 exact cv hA λus s2 ⟨vs,H2,I2,r2,q2⟩=>hm pins s2 σ H2 (.ref p) vs (.ref p) us Q I2 rfl r2 q2
def eZ:List D->Option (List Int)
 | []=>some []
 | .int i :: ds=>(eZ ds).map (i :: ·)
 |_=>none
theorem kf:∀{ds:List D} {ns:List Int},eZ ds=some ns->ds=ns.map int
 | [],ns,h=>by cases h;rfl
 | .int i :: ds,ns,h=>by
  unfold eZ at h
  cases q:eZ ds with
  |none=>rw[q] at h;cases h
  |some ms=>rw[q] at h;cases h;rw[kf q];rfl
 | .none :: _,_,h=>by cases h
 | .bool _ :: _,_,h=>by cases h
 | .str _ :: _,_,h=>by cases h
 | .list _ :: _,_,h=>by cases h
 | .tuple _ :: _,_,h=>by cases h
 | .dict _ :: _,_,h=>by cases h
theorem dR:∀ns:List Int,eZ (ns.map int)=some ns
 | []=>rfl
 |n :: ns=>by show (eZ (ns.map int)).map (n :: ·)=_;rw[dR ns];rfl
theorem pB:∀{ns:List Int} {xs:List V},b5 K G xs (ns.map int)->xs=ns.map V.int
 | [],_,.nil=>rfl
 |n :: ns,_,.cons r t=>by cases r;rw[pB t];rfl
def EW (d y:D):Option D:=match d,y with
 | .tuple ds,.int k=>(match eZ ds with
  |some ns=>if k∈ns then some (.int (ns.idxOf k:Nat)) else none
  |none=>none)
 |_,_=>none
def y6:D->Bool
 | .tuple _=>true
 |_=>false
def xf (fa fb:VF D):VF D:=λvs β=>(fa vs β).bnd λx β1=>if y6 x=true then (fb vs β1).bnd λy β2=>R.of (EW x y) β2 else .bad
theorem uw (hK:X.K=Γ.K)(ha:SE X Γ E a fa La ma)(hb:SE X Γ E b fb Lb mb)
  (hbase:attributeBase a "index" X.env (eval a X.env)=eval a X.env:=by rfl)
  (hfew:((backTo cpos (starEach [b] X.env)).all (λx=> !x.1) && (backToKw cpos (keywordEach [] X.env)).all (λx=>x.1.isSome)
   && decide ([b].length + ([]:List Keyword).length + (if ([]:List Keyword).isEmpty then 0 else 1) < 30))=true:=by rfl)
  (hline:(apos.endLine == cpos.line)=true:=by rfl) (hs:starEach [b] X.env=(false,eval b X.env) :: starEach [] X.env:=by rfl) :
  SE X Γ E (.Call (.Attribute a "index" apos) [b] [] cpos) (xf fa fb) (La ++ Lb) .v:=by
 refine PE.post' (Ij PySem.F.slot_tuple_index PySem.F.type_tuple_index zy ha (aO hb bA hs) hbase hfew hline hs rfl) λσ H Q ⟨env,G,B,β,I,o⟩=>?_
 refine⟨env,G,B,β,I,o.bnd.imp λd1 β1 h x G1 H1 I1 s1 m1 vx=>?_⟩
 have vx:=vx.brw I.boxThere
 cases d1 with
 |tuple ds=>
  rw[MA (show y6 (.tuple ds)=true from rfl)] at h
  obtain⟨p,xs,rfl,hq,r⟩:=vx.tuple I1.sub
  refine⟨⟨p,xs,rfl,by rw[hK];exact hq⟩,?_⟩
  refine⟨bq La env,G1,B,β1,I1,?_⟩
  rw[eQ]
  refine h.bnd.imp λd2 β2 h y G2 H2 I2 s2 m2 vy=>?_
  obtain⟨d,e,k⟩:=h.of
  have vy:=vy.brw I1.boxThere
  cases d2 with
  |int kk=>
   obtain rfl:=vy.int
   simp only[EW] at e
   cases q:eZ ds with
   |none=>rw[q] at e;cases e
   |some ns=>
    rw[q] at e
    dsimp only at e
    split at e
    ·rename_i hk
     cases e
     have eds:=kf q
     subst eds
     have exs:=pB r
     subst exs
     have hq2:eV X.K H2 p (ns.map V.int):=by
      rw[hK]
      rcases hq with hq |hq
      ·rcases vx with vx | ⟨_,_,_,vx⟩
       ·cases vx with
        |tup g1 r9=>have z9:=pB r9;subst z9;exact (g1.grow (s2.trans I2.sub).grow)
       ·exact vx.elim
      ·exact .inr hq
     exact⟨p,ns,kk,rfl,rfl,hq2,hk,k _ G2 H2 (by rw[cf];exact I2) (s1.trans s2) (m1.trans m2) (.int _)⟩
    ·cases e
  |_=>simp only[EW] at e;cases e
 |_=>exact h.elim
def yP (t:Tg)(L:List Nat)(f:VF D):SF:=λenv β=>toS (f (vl env) β) λd β'=>match du t d (bq L env) with
 |some env'=>.nx env' β'
 |none=>.bad
theorem Ik {t:Tg}{tg:Expr}(he:SE X Γ E e f L .v)(hg:SG X Γ tg t)(hs:swapsWithSole [tg] e pos.line X.env=pure false:=by rfl)(hw:swappedStores [tg] e X.env=pure none:=by rfl)
  (h1:(assignEach [tg] X.env).map (·.2)= [assign tg X.env]:=by rfl):SS X Γ E (.Assign [tg] e pos) (yP t L f):=by
 refine PS.post (mR he hg hs hw h1) λN σ H ⟨env,G,B,β,I,o⟩=>?_
 refine⟨env,G,B,β,I,cx o λd β' k v G' H' I' s' m' vo=>?_⟩
 cases q:du t d (bq L env) with
 |none=>rw[q] at k;exact k.elim
 |some env'=>
  rw[q] at k
  exact⟨_,G',B,β',d,env',I',vo,q,λσ' J=>k B G' H' σ' J s'⟩
abbrev Fx.at (Γ:Fx)(H0:Hp):Fx:=⟨Γ.K,H0,Γ.G0,Γ.par,Γ.ca,Γ.br,Γ.bx⟩
end
end L2
namespace L2
open PySem
section
variable {α γ:Type}
@[simp] theorem lM (a:α)(β:Int)(k:α->Int->R γ):(R.ok a β).bnd k=k a β:=rfl
@[simp] theorem KJ (c:Str)(k:α->Int->R γ):(R.exc c:R α).bnd k=.exc c:=rfl
@[simp] theorem KQ (k:α->Int->R γ):(R.bad:R α).bnd k=.bad:=rfl
@[simp] theorem LA (a:α)(β:Int)(k:α->Int->R γ):(R.ok a β).okb k=k a β:=rfl
@[simp] theorem tV (a:α)(β:Int):R.of (some a) β=.ok a β:=rfl
@[simp] theorem of_none (β:Int):(R.of none β:R α)=.bad:=rfl
@[simp] theorem LB (a:α)(β:Int)(k:α->Int->SO):toS (.ok a β) k=k a β:=rfl
@[simp] theorem KR (c:Str)(k:α->Int->SO):toS (.exc c:R α) k=.exc c:=rfl
@[simp] theorem KU (k:α->Int->SO):toS (.bad:R α) k=.bad:=rfl
end
section
variable (f fa fb fc:VF D)(t u:VF Bool)(m m':SF)(vs:List Nv)(β:Int)(env:En)(i j:Nat)(L:List Nat)
@[simp] theorem Cr:gv i vs β=R.of (dat vs[i]?) β:=rfl
@[simp] theorem wH (d:D):dat (some (.da d))=some d:=rfl
@[simp] theorem Lz (d:D):cst d vs β=.ok d β:=rfl
@[simp] theorem L7 (g:D->Option D):f1 fa g vs β=(fa vs β).bnd λx β1=>R.of (g x) β1:=rfl
@[simp] theorem L3 (g:D->D->Option D):f2 fa fb g vs β=(fa vs β).bnd λx β1=>(fb vs β1).bnd λy β2=>R.of (g x y) β2:=rfl
@[simp] theorem yG:ah vs β=.ok [] β:=rfl
@[simp] theorem c9 (fr:VF (List D)):aa fa fr vs β=(fa vs β).bnd λx β1=>(fr vs β1).bnd λxs β2=>.ok (x :: xs) β2:=rfl
@[simp] theorem sO:la fa vs β=(fa vs β).bnd λx β1=>R.of (Hd x) β1:=rfl
@[simp] theorem tI:nV t vs β=(t vs β).bnd λc β1=>.ok (!c) β1:=rfl
@[simp] theorem wd:DX t u vs β=(t vs β).bnd λc β1=>if c=true then u vs β1 else .ok false β1:=rfl
@[simp] theorem sY:lJ t u vs β=(t vs β).bnd λc β1=>if c=true then .ok true β1 else u vs β1:=rfl
@[simp] theorem Mf (n:Bool):tN fa n vs β=(fa vs β).bnd λx β1=>.ok (if n then !kT x else kT x) β1:=rfl
@[simp] theorem Ln:Ml t fa fb vs β=(t vs β).bnd λc β1=>if c=true then fa vs β1 else fb vs β1:=rfl
@[simp] theorem cT (c:Bool){β1:Int}(h:fa vs β=.ok (.bool c) β1):dD fa vs β=.ok c β1:=by unfold dD;rw[h];rfl
@[simp] theorem xl:vl []= []:=rfl
@[simp] theorem tD (s:Sl):vl (s :: env)=s.val :: vl env:=rfl
@[simp] theorem wL (d:D):(Sl.fz d).val=.da d:=rfl
@[simp] theorem Ls (d:D):(Sl.ow d).val=.da d:=rfl
@[simp] theorem Ld:Sl.no.val=.no:=rfl
@[simp] theorem LF:Sl.bx.val=.bx:=rfl
@[simp] theorem Ky:bq [] env=env:=rfl
@[simp] theorem Jz:bq (i :: L) env=bq L (ja env i):=rfl
@[simp] theorem KG:aH m m' env β=(match m env β with
 | .nx env' β'=>m' env' β'
 |r=>r):=rfl
@[simp] theorem LL:g8 L t m m' env β=toS (t (vl env) β) λc β'=>if c=true then m (bq L env) β' else m' (bq L env) β':=rfl
@[simp] theorem gB:bP f env β=toS (f (vl env) β) λd β'=>.rt d false β':=rfl
@[simp] theorem Ct:uo f env β=toS (f (vl env) β) λd β'=>.rt d true β':=rfl
@[simp] theorem KY:iQ env β=.nx env β:=rfl
@[simp] theorem cy:bo i L f env β=toS (f (vl env) β) λd β'=>.nx ((bq L env).set i (.fz d)) β':=rfl
@[simp] theorem ki:kW i L f env β=toS (f (vl env) β) λd β'=>.nx ((bq L env).set i (.ow d)) β':=rfl
@[simp] theorem lR:kr L f env β=toS (f (vl env) β) λ_ β'=>.nx (bq L env) β':=rfl
end
def ax {m m':SF}{env env':En}{β β':Int}(h:m env β=.nx env' β'):aH m m' env β=m' env' β':=by unfold aH;rw[h]
def iq {m m':SF}{env:En}{β β':Int}{d:D}{b:Bool}(h:m env β=.rt d b β'):aH m m' env β=.rt d b β':=by unfold aH;rw[h]
def kg {L:List Nat}{t:VF Bool}{m m':SF}{env:En}{β β':Int}(h:t (vl env) β=.ok true β'):g8 L t m m' env β=m (bq L env) β':=by unfold g8;rw[h];rfl
def fU {L:List Nat}{t:VF Bool}{m m':SF}{env:En}{β β':Int}(h:t (vl env) β=.ok false β'):g8 L t m m' env β=m' (bq L env) β':=by unfold g8;rw[h];rfl
def aq {F:List D->FR}{fr:VF (List D)}{vs:List Nv}{β β1:Int}{ds:List D}{d:D}{b:Bool}(h:fr vs β=.ok ds β1)(e:F ds=.ok d b):ak F fr vs β=.ok d β1:=by unfold ak;rw[h];dsimp only[R.bnd];rw[e]
def B6 {F:List D->FR}{fr:VF (List D)}{vs:List Nv}{β β1:Int}{ds:List D}{d:D}(h:fr vs β=.ok ds β1)(e:F ds=.ok d true):uR F fr vs β=.ok d β1:=by unfold uR;rw[h];dsimp only[R.bnd];rw[e]
def cI {fa:VF D}{g:D->Option D}{vs:List Nv}{β β1:Int}{x d:D}(h:fa vs β=.ok x β1)(e:g x=some d):f1 fa g vs β=.ok d β1:=by unfold f1;rw[h];dsimp only[R.bnd];rw[e];rfl
def aG {fa fb:VF D}{g:D->D->Option D}{vs:List Nv}{β β1 β2:Int}{x y d:D}(h:fa vs β=.ok x β1)(h':fb vs β1=.ok y β2)(e:g x y=some d):f2 fa fb g vs β=.ok d β2:=by unfold f2;rw[h];dsimp only[R.bnd];rw[h'];dsimp only[R.bnd];rw[e];rfl
def ko {i:Nat}{F:List D->Int->FB}{fr:VF (List D)}{vs:List Nv}{β β1 β2:Int}{ds:List D}{d:D}{b:Bool}(hi:xb vs i=true)(h:fr vs β=.ok ds β1)(e:F ds β1=.ok d b β2):mY i F fr vs β=.ok d β2:=by unfold mY;rw[MA hi,h];dsimp only[R.bnd];rw[e]
def sz (n:Nat)(h:n<=1000):n<=sizeLine:=by rw[Na];omega
def Js (n:Nat)(h:n<=1000):n < sizeLine:=by rw[Na];omega
def kK {fr:VF (List D)}{vs:List Nv}{β β1:Int}{ds:List D}(h:fr vs β=.ok ds β1)(hz:ds.length<=1000):fF fr vs β=.ok (.tuple ds) β1:=by unfold fF;rw[h];exact MA (sz _ hz)
def iL {fr:VF (List D)}{vs:List Nv}{β β1:Int}{ds:List D}(h:fr vs β=.ok ds β1)(hz:ds.length<=1000):cG fr vs β=.ok (.list ds) β1:=by unfold cG;rw[h];exact MA (sz _ hz)
def wm {i:Nat}{env:En}{β:Int}{g:List D->Option (List D)}{ds es:List D}(h:env[i]? =some (.ow (.list ds)))(e:g ds=some es):G9 i env β g=.nx (env.set i (.ow (.list es))) β:=by unfold G9;rw[h];dsimp only;rw[e]
def sy {i:Nat}{L:List Nat}{f:VF D}{env:En}{β β':Int}{ds:List D}{d:D}(hi:env[i]? =some (.ow (.list ds)))(hf:f (vl env) β=.ok d β')(hL:(bq L env)[i]? =some (.ow (.list ds)))(hz:ds.length<=1000):nQ i L f env β=.nx ((bq L env).set i (.ow (.list (ds ++ [d])))) β':=by
 unfold nQ
 rw[MA (by rw[hi];rfl),hf]
 exact wm hL (MA (Js _ hz))
def xT {i j:Nat}{L:List Nat}{f:VF D}{env:En}{β β':Int}{ds es es':List D}{k d:D}(hi:env[i]? =some (.ow (.list ds)))(hj:env[j]? =some (.ow (.list es)))(hij:i≠j)(hf:f (vl env) β=.ok k β')(hL:bq L env=env)(hp:AN es k=some (d,es'))(hz:ds.length<=1000):jM i j L f env β=.nx ((env.set j (.ow (.list es'))).set i (.ow (.list (ds ++ [d])))) β':=by
 unfold jM
 rw[MA ⟨by rw[hi];rfl,by rw[hj];rfl,hij⟩,hf,hL]
 dsimp only[toS]
 rw[hj]
 dsimp only
 rw[hp]
 exact wm (by rw[MR (Ne.symm hij)];exact hi) (MA (Js _ hz))
def pN {i:Nat}{Le Li:List Nat}{fe fi:VF D}{env:En}{β β1 β2:Int}{ds:List D}{d:D}{k:Int}{n:Nat}(he:fe (vl env) β=.ok d β1)(h1:(bq Le env)[i]? =some (.ow (.list ds)))(hi:fi (vl env) β1=.ok (.int k) β2)(h2:(bq (Le ++ Li) env)[i]? =some (.ow (.list ds)))(hk:ub ds.length k=some n):me i Le Li fe fi env β=.nx ((bq (Le ++ Li) env).set i (.ow (.list (ds.set n d)))) β2:=by
 unfold me
 rw[he]
 dsimp only[toS]
 rw[MA (by rw[h1];rfl),hi]
 exact wm h2 (by dsimp only;rw[hk];rfl)
theorem oW {t:Tg}{ft:VF Bool}{fe:VF D}{vs:List Nv}(g:D->Bool)(h:D->D):∀{ds:List D} {β:Int},(∀d,d∈ds->∃vs1,lb t d vs=some vs1/\ft vs1 β=.ok (g d) β/\(g d=true->fe vs1 β=.ok (h d) β))->fZ t ft fe vs ds β=.ok ((ds.filter g).map h) β
 | [],β,_=>rfl
 |d :: ds,β,hh=>by
  obtain⟨vs1,e1,e2,e3⟩:=hh d (MC ..)
  have ih:=oW (t:=t) (ft:=ft) (fe:=fe) (vs:=vs) g h (ds:=ds) (β:=β) λd' hd=>hh d' (MD _ hd)
  unfold fZ
  rw[e1]
  dsimp only
  rw[e2]
  dsimp only[R.okb]
  cases q:g d with
  |true=>
   rw[MA rfl,e3 q]
   dsimp only
   rw[ih,List.filter_cons_of_pos q];rfl
  |false=>
   rw[MF M9,ih,List.filter_cons_of_neg (by rw[q];exact M9)]
def xW {own:Nat}{ixs:List Nat}{t:Tg}{fi:VF (List D)}{ft:VF Bool}{fe:VF D}{vs:List Nv}{β β1:Int}{ds:List D}(g:D->Bool)(h:D->D)(hi:fi vs β=.ok ds β1)(hz:ds.length<=1000)
  (hh:∀d,d∈ds->∃vs1,lb t d (dS own ixs vs)=some vs1/\ft vs1 β1=.ok (g d) β1/\(g d=true->fe vs1 β1=.ok (h d) β1)):aP own ixs t fi ft fe vs β=.ok (.list ((ds.filter g).map h)) β1:=by
 unfold aP
 rw[hi]
 dsimp only[R.bnd]
 rw[MA (sz _ hz),oW g h hh];rfl
def rj {own:Nat}{ixs:List Nat}{t:Tg}{fi:VF (List D)}{fe:VF D}{vs:List Nv}{β β1:Int}{ds:List D}(h:D->D)(hi:fi vs β=.ok ds β1)(hz:ds.length<=1000)
  (hh:∀d,d∈ds->∃vs1,lb t d (dS own ixs vs)=some vs1/\fe vs1 β1=.ok (h d) β1):aP own ixs t fi ij fe vs β=.ok (.list (ds.map h)) β1:=by
 rw[xW (ft:=ij) (λ_=>true) h hi hz λd hd=>let ⟨vs1,e1,e2⟩:=hh d hd;⟨vs1,e1,rfl,λ_=>e2⟩]
 rw[List.filter_eq_self.mpr (λ_ _=>rfl)]
def bB {α:Type}{own:Nat}{ixs:List Nat}{t:Tg}{fi:VF (List D)}{fe:VF D}{vs:List Nv}{β β1:Int}{l:List α}{e:α->D}(h:α->D)(hi:fi vs β=.ok (l.map e) β1)(hz:l.length<=1000)
  (hh:∀x,x∈l->∃vs1,lb t (e x) (dS own ixs vs)=some vs1/\fe vs1 β1=.ok (h x) β1):aP own ixs t fi ij fe vs β=.ok (.list (l.map h)) β1:=by
 unfold aP
 rw[hi]
 dsimp only[R.bnd]
 rw[MA (sz _ (by rw[MI];exact hz))]
 have key:∀m:List α,(∀x,x∈m->x∈l)->fZ t ij fe (dS own ixs vs) (m.map e) β1=.ok (m.map h) β1:=by
  intro m
  induction m with
  |nil=>intro _;rfl
  |cons x m ih=>
   intro hm
   obtain⟨vs1,e1,e2⟩:=hh x (hm x (MC ..))
   rw[Nj]
   unfold fZ
   rw[e1]
   dsimp only
   show (R.ok true β1).okb _=_
   dsimp only[R.okb]
   rw[MA rfl,e2]
   dsimp only
   rw[ih λy hy=>hm y (MD _ hy)];rfl
 rw[key l λ_ h=>h];rfl
def g7 {α:Type}{own:Nat}{ixs:List Nat}{t:Tg}{fi:VF (List D)}{ft:VF Bool}{fe:VF D}{vs:List Nv}{β β1:Int}{l:List α}{e:α->D}(g:α->Bool)(h:α->D)(hi:fi vs β=.ok (l.map e) β1)(hz:l.length<=1000)
  (hh:∀x,x∈l->∃vs1,lb t (e x) (dS own ixs vs)=some vs1/\ft vs1 β1=.ok (g x) β1/\(g x=true->fe vs1 β1=.ok (h x) β1)):aP own ixs t fi ft fe vs β=.ok (.list ((l.filter g).map h)) β1:=by
 unfold aP
 rw[hi]
 dsimp only[R.bnd]
 rw[MA (sz _ (by rw[MI];exact hz))]
 have key:∀m:List α,(∀x,x∈m->x∈l)->fZ t ft fe (dS own ixs vs) (m.map e) β1=.ok ((m.filter g).map h) β1:=by
  intro m
  induction m with
  |nil=>intro _;rfl
  |cons x m ih=>
   intro hm
   obtain⟨vs1,e1,e2,e3⟩:=hh x (hm x (MC ..))
   have ih:=ih λy hy=>hm y (MD _ hy)
   rw[Nj]
   unfold fZ
   rw[e1]
   dsimp only
   rw[e2]
   dsimp only[R.okb]
   cases q:g x with
   |true=>
    rw[MA rfl,e3 q]
    dsimp only
    rw[ih,List.filter_cons_of_pos q];rfl
   |false=>
    rw[MF M9,ih,List.filter_cons_of_neg (by rw[q];exact M9)]
 rw[key l λ_ h=>h];rfl
theorem dG {t:Tg}{m:SF}(Pv:Nat->En->Int->Prop):∀{ds:List D} {k:Nat} {env:En} {β:Int},Pv k env β->
  (∀i d env β,ds[i]? =some d->Pv (k + i) env β->∃env1,du t d env=some env1/\∃env2 β2,m env1 β=.nx env2 β2/\Pv (k + i + 1) env2 β2)->∃env' β',iZ t m ds env β=.nx env' β'/\Pv (k + ds.length) env' β'
 | [],k,env,β,h0,_=>⟨env,β,rfl,h0⟩
 |d :: ds,k,env,β,h0,hs=>by
  obtain⟨env1,e1,env2,β2,e2,h1⟩:=hs 0 d env β rfl h0
  obtain⟨env',β',e3,h2⟩:=dG Pv (t:=t) (m:=m) (ds:=ds) (k:=k + 1) h1 λi d' en be hi hp=>by
   have:=hs (i + 1) d' en be (by simpa using hi) (by rw[show k + (i + 1)=k + 1 + i by omega];exact hp)
   rw[show k + (i + 1) + 1=k + 1 + i + 1 by omega] at this
   exact this
  refine⟨env',β',?_,by rw[MU,show k + (ds.length + 1)=k + 1 + ds.length by omega];exact h2⟩
  unfold iZ
  rw[e1]
  dsimp only
  rw[e2]
  exact e3
theorem jn {L:List Nat}{t:VF Bool}{m:SF}(Pv:Nat->En->Int->Prop)(Dn:En->Int->Prop):∀{n k:Nat} {env:En} {β:Int},k < n->Pv k env β->
  (∀k env β,Pv k env β->∃c β1,t (vl env) β=.ok c β1/\((c=false/\Dn (bq L env) β1)\/(c=true/\∃env2 β2 k',m (bq L env) β1=.nx env2 β2/\k' < k/\Pv k' env2 β2)))->∃env' β',iU L t m n env β=.nx env' β'/\Dn env' β'
 | 0,k,env,β,hk,_,_=>by omega
 |n + 1,k,env,β,hk,h0,hs=>by
  obtain⟨c,β1,e1,hc⟩:=hs k env β h0
  unfold iU
  rw[e1]
  dsimp only[toS]
  rcases hc with⟨rfl,hd⟩ | ⟨rfl,env2,β2,k',e2,hl,h1⟩
  ·exact⟨_,_,rfl,hd⟩
  ·rw[MA rfl,e2]
   exact jn Pv Dn (n:=n) (k:=k') (by omega) h1 hs
end L2
namespace RM
open PySem L2
def pd:SF:=(bP (ip (f1 (gv 0) (ik "int")) (f1 (f1 (gv 0) (ik "bool")) DC)))
def pY (bY:List D->FR):SF:=(bP (ip (ak bY (aa (gv 0) ah)) (jD (cst (.int 0)) (gv 0) (gv 1) Bv vU)))
def qS (bY:List D->FR):SF:=(bP (ip (ak bY (aa (gv 0) ah)) (jD (cst (.int 1)) (gv 0) (cst (.int 8)) Bv Bv)))
def rS (bg:List D->FR):SF:=(aH (g8 ([] ++ ([] ++ [])) (lJ (nV (la (f1 (gv 0) (ik "tuple")))) (dD (f2 (f1 (gv 0) c3) (cst (.int 2)) (dC true))))
 (bP (cst (.bool false)))
 iQ)
 (bP (ip (ak bg (aa (f2 (gv 0) (cst (.int 0)) bR) (aa (gv 1) ah))) (ak bg (aa (f2 (gv 0) (cst (.int 1)) bR) (aa (gv 1) ah))))))
def gx:SF:=(uo (aP 1 [0] (.nm 0) (gq (f2 (gv 0) (gv 0) eB)) ij (fF (aa (f2 (gv 0) (gv 1) AY) (aa (f2 (gv 0) (gv 1) lB) ah)))))
def oF:SF:=(bP (f1 (aP 2 [] (.two 0 1) (bu (gv 0)) ij (f2 (gv 0) (gv 1) (dC false))) (cn λbs=>bs.any id)))
def gV (cA gM jb fo:List D->FR):SF:=(aH (g8 ([] ++ ([] ++ [])) (lJ (nV (la (f1 (gv 0) (ik "tuple")))) (dD (f2 (f1 (gv 0) c3) (cst (.int 2)) (dC true))))
 (bP (cst (.bool false)))
 iQ)
 (aH (bo 1 ([] ++ []) (f2 (gv 0) (cst (.int 0)) bR))
 (aH (bo 2 ([] ++ []) (f2 (gv 0) (cst (.int 1)) bR))
 (aH (g8 (([1] ++ []) ++ []) (lJ (nV (la (ak cA (aa (gv 1) ah)))) (nV (la (f1 (gv 2) (ik "tuple")))))
 (bP (cst (.bool false)))
 iQ)
 (aH (g8 ([] ++ [1]) (nV (la (f1 (aP 1 [1] (.nm 0) (bu (gv 2)) ij (ak gM (aa (gv 0) (aa (gv 1) ah)))) (cn λbs=>bs.all id))))
 (bP (cst (.bool false)))
 iQ)
 (bP (ip (f2 (gv 2) (ak jb (aa (gv 1) (aa (gv 2) ah))) (dC false)) (f1 (ak fo (aa (gv 2) ah)) DC))))))))
def gH (fJ:List D->FR):SF:=(g8 ([0] ++ []) (nV (la (ak fJ (aa (gv 0) ah))))
 (λenv β=>toS ((aa (cst (.str "this is no order")) ah) (vl env) β) λds _=>if ds.length<=sizeLine then .exc "NoOrder" else .bad)
 iQ)
def fX:SF:=(aH (g8 ([] ++ []) (dD (f2 (gv 1) (f1 (gv 0) c3) vU))
 (bP (f2 (gv 0) (gv 1) bR))
 iQ)
 (bP (cst (.int 0))))
def jv:SF:=(aH (bo 2 [] (cG (Ma [48271,69621,16807,39373,30269,40014,40692,50021,61687,71993,83869,95561,30307]))) (aH (bo 3 ((((([] ++ []) ++ []) ++ ([] ++ ([] ++ []))) ++ ([] ++ [])) ++ ([] ++ ([] ++ []))) (f2 (f2 (f2 (f2 (f2 (gv 0) (cst (.int 2147483647)) lB) (cst (.int 12345)) cP) (f2 (gv 2) (f2 (gv 1) (cst (.int 13)) lB) bR) eB) (f2 (cst (.int 977)) (gv 1) eB) cP) (f2 (cst (.int 7919)) (f2 (gv 1) (cst (.int 13)) AY) eB) cP))
 (aH (bo 3 ([] ++ []) (f2 (gv 3) (cst (.int 1000000007)) lB))
 (bP (f2 (f2 (f2 (f2 (gv 3) (gv 3) eB) (f2 (cst (.int 48271)) (gv 1) eB) cP) (cst (.int 1000000007)) lB) (cst (.int 7)) AY)))))
def jA (dQ fj:List D->FR):SF:=(aH (bo 2 ([0] ++ ([1] ++ [])) (ak dQ (aa (gv 0) (aa (gv 1) ah))))
 (aH (g8 (([] ++ []) ++ []) (dD (f2 (f2 (gv 2) (cst (.int 2)) lB) (cst (.int 0)) (dC false)))
 (uo (cG (aa (f2 (f1 (gv 2) EN) (cst (.int 2)) AY) ah)))
 iQ)
 (aH (bo 3 [] (cst (.int 0)))
 (aH (dO (.nm 4) [] (gq (cst (.int 40)))
 (bo 3 (([] ++ []) ++ ([2] ++ ([4] ++ []))) (f2 (f2 (gv 3) (cst (.int 142857143)) eB) (ak fj (aa (gv 2) (aa (gv 4) ah))) cP)))
 (uo (cG (aa (gv 3) ah)))))))
def dJ (aW:List D->Int->FB):SF:=(aH (kW 2 [] (f1 (gv 1) Gw))
 (aH (kW 3 [] (cG ah))
 (aH (iU ([] ++ []) (dD (f2 (gv 2) (cG ah) (dC true)))
 (jM 3 2 ([] ++ []) (mY 0 aW (aa (f1 (gv 2) c3) ah))) 1000)
 (jj 3))))
noncomputable def fS:SF:=(aH (bo 1 [] (f1 (gv 0) cM))
 (aH (bo 2 [] (f1 (cst (.int 1)) Eu))
 (aH (iU ([] ++ []) (dD (f2 (gv 2) (f1 (gv 1) c3) (dC true)))
 (aH (bo 2 [] (f1 (gv 1) c3))
 (aH (bo 3 [] (cG ah))
 (aH (dO (.two 4 5) [1] (bu (gv 1))
 (bo 3 ([] ++ ([] ++ [4])) (f2 (gv 3) (aP 2 [5,4] (.two 0 1) (bu (gv 1)) (dD (f2 (gv 0) (gv 2) (dC false))) (fF (aa (gv 3) (aa (gv 1) ah)))) jX)))
 (bo 1 ([] ++ []) (f1 (f2 (gv 1) (gv 3) jX) cM))))) 1000)
 (bP (f1 (gv 1) m6)))))
def gC (cR:List D->FR)(aW b9:List D->Int->FB):SF:=(aH (bo 2 ([] ++ ([1] ++ [])) (f2 (cst (.int 1)) (mY 0 aW (aa (gv 1) ah)) cP))
 (aH (bo 3 ([] ++ []) (mY 0 b9 (aa (f1 (gv 2) gX) ah)))
 (aH (bo 4 (([] ++ ([] ++ ([] ++ ([] ++ [])))) ++ ([] ++ [])) (f2 (cG (aa (cst (.int 2)) (aa (cst (.int 3)) (aa (cst (.int 4)) (aa (cst (.int 7)) ah))))) (mY 0 aW (aa (cst (.int 4)) ah)) bR))
 (aH (kW 5 [] (cG ah))
 (aH (dO (.nm 6) [] (gq (gv 2))
 (dO (.nm 7) (([] ++ []) ++ []) (rn (f2 (gv 6) (cst (.int 1)) cP) (gv 2))
 (g8 (([4] ++ []) ++ []) (dD (f2 (mY 0 aW (aa (gv 4) ah)) (cst (.int 0)) (dC false)))
 (nQ 5 (([] ++ []) ++ (([] ++ []) ++ [])) (fF (aa (f2 (gv 3) (gv 6) bR) (aa (f2 (gv 3) (gv 7) bR) ah))))
 iQ)))
 (bP (fF (aa (gv 2) (aa (ak cR (aa (gv 5) ah)) ah)))))))))
noncomputable def qd (ar:List D->FR):SF:=(aH (kr ([0] ++ []) (ak ar (aa (gv 0) ah)))
 (bP (fF (aa (f2 (gv 0) (cst (.int 0)) bR) (aa (f1 (f1 (aP 2 [] (.two 0 1) (bu (f2 (gv 0) (cst (.int 1)) bR)) ij (fF (aa (gv 1) (aa (gv 0) ah)))) mV) m6) ah)))))
def Jr:D->Bool
 | .int _=>true
 |_=>false
def j8:List D->FR
 | [d]=>if dw d=true then .bad else .ok (.bool (Jr d)) false
 |_=>.bad
def sR {d:D}(h:dw d=false):j8 [d]=.ok (.bool (Jr d)) false:=MF (by rw[h];exact M9)
def E3 (ds:List D)(h:j8 ds≠.bad):bp 1 1 pd ds=j8 ds:=by
 unfold j8 at h
 split at h
 ·rename_i d
  cases q:dw d with
  |true=>rw[q] at h;exact absurd rfl h
  |false=>
   rw[sR q]
   have e1:ik "int" d=some (.bool (DN d "int")):=by unfold ik;rw[q];rfl
   have e2:ik "bool" d=some (.bool (DN d "bool")):=by unfold ik;rw[q];rfl
   show fin (bP (ip (f1 (gv 0) (ik "int")) (f1 (f1 (gv 0) (ik "bool")) DC)) [.fz d] 0)=_
   unfold bP ip f1 gv
   simp only[tD,xl,wL,List.getElem?_cons_zero,wH,tV,lM,e1,e2]
   cases d <;> rfl
 ·exact absurd rfl h
def iV (d:D)(n:Int):Bool:=match d with
 | .int i=>decide (0<=i/\i < n)
 |_=>false
def dM:List D->FR
 | [d,.int n]=>if dw d=true then .bad else .ok (.bool (iV d n)) false
 |_=>.bad
def sX {d:D}{n:Int}(h:dw d=false):dM [d,.int n]=.ok (.bool (iV d n)) false:=MF (by rw[h];exact M9)
def uY {i lo n:Int}{vs:List Nv}{β:Int}{fa fb fc:VF D}{g':D->D->Option D}{q:Bool}(ha:fa vs β=.ok (.int lo) β)(hb:fb vs β=.ok (.int i) β)(hc:fc vs β=.ok (.int n) β)(hq:g' (.int i) (.int n)=some (.bool q)):jD fa fb fc Bv g' vs β=.ok (.bool (decide (lo<=i) && q)) β:=by
 unfold jD
 rw[ha];dsimp only[R.bnd];rw[hb];dsimp only[R.bnd]
 show (match (some (PyData.bool (decide (lo<=i))):Option D) with
  |some (.bool true)=>_
  |some (.bool false)=>_
  |_=>_)=_
 by_cases h:lo<=i
 ·rw[ME h]
  dsimp only
  rw[hc]
  dsimp only[R.bnd]
  rw[hq];rfl
 ·rw[MK h];rfl
def EA (ds:List D)(h:dM ds≠.bad):bp 2 2 (pY j8) ds=dM ds:=by
 unfold dM at h
 split at h
 ·rename_i d n
  cases q:dw d with
  |true=>rw[q] at h;exact absurd rfl h
  |false=>
   rw[sX q]
   show fin (bP (ip (ak j8 (aa (gv 0) ah)) (jD (cst (.int 0)) (gv 0) (gv 1) Bv vU)) [.fz d,.fz (.int n)] 0)=_
   unfold bP ip ak
   simp only[tD,xl,wL,c9,yG,Cr,List.getElem?_cons_zero,wH,tV,lM,sR q]
   cases d with
   |int i=>
    show fin (toS (jD (cst (.int 0)) (gv 0) (gv 1) Bv vU [.da (.int i),.da (.int n)] 0) _)=_
    rw[uY (lo:=0) (i:=i) (n:=n) rfl rfl rfl rfl]
    show FR.ok (.bool (decide (0<=i) && decide (i < n))) false=.ok (.bool (decide (0<=i/\i < n))) false
    rw[Bool.decide_and]
   |_=>rfl
 ·exact absurd rfl h
def Gu (d:D):Bool:=match d with
 | .int i=>decide (1<=i/\i<=8)
 |_=>false
def iB:List D->FR
 | [d]=>if dw d=true then .bad else .ok (.bool (Gu d)) false
 |_=>.bad
def BZ {d:D}(h:dw d=false):iB [d]=.ok (.bool (Gu d)) false:=MF (by rw[h];exact M9)
def GR (ds:List D)(h:iB ds≠.bad):bp 1 1 (qS j8) ds=iB ds:=by
 unfold iB at h
 split at h
 ·rename_i d
  cases q:dw d with
  |true=>rw[q] at h;exact absurd rfl h
  |false=>
   rw[BZ q]
   show fin (bP (ip (ak j8 (aa (gv 0) ah)) (jD (cst (.int 1)) (gv 0) (cst (.int 8)) Bv Bv)) [.fz d] 0)=_
   unfold bP ip ak
   simp only[tD,xl,wL,c9,yG,Cr,List.getElem?_cons_zero,wH,tV,lM,sR q]
   cases d with
   |int i=>
    show fin (toS (jD (cst (.int 1)) (gv 0) (cst (.int 8)) Bv Bv [.da (.int i)] 0) _)=_
    rw[uY (lo:=1) (i:=i) (n:=8) rfl rfl rfl rfl]
    show FR.ok (.bool (decide (1<=i) && decide (i<=8))) false=.ok (.bool (decide (1<=i/\i<=8))) false
    rw[Bool.decide_and]
   |_=>rfl
 ·exact absurd rfl h
def pairF:List D->FR
 | [d,.int n]=>(match oM d with
  |some p=>.ok (.bool (decide ((0<=p.1/\p.1 < n)/\(0<=p.2/\p.2 < n)))) false
  |none=>.bad)
 |_=>.bad
def C7 (p:Pr)(n:Int):pairF [aK p,.int n]=.ok (.bool (decide ((0<=p.1/\p.1 < n)/\(0<=p.2/\p.2 < n)))) false:=rfl
def G8 (ds:List D)(h:pairF ds≠.bad):bp 2 2 (rS dM) ds=pairF ds:=by
 unfold pairF at h
 split at h
 ·rename_i d n
  cases q:oM d with
  |none=>rw[q] at h;exact absurd rfl h
  |some p=>
   obtain rfl:=uL q
   rw[C7]
   obtain⟨a,b⟩:=p
   show fin (toS (ip (ak dM (aa (f2 (gv 0) (cst (.int 0)) bR) (aa (gv 1) ah))) (ak dM (aa (f2 (gv 0) (cst (.int 1)) bR) (aa (gv 1) ah))) [.da (.tuple [.int a,.int b]),.da (.int n)] 0) λd β'=>.rt d false β')=_
   have e1:ak dM (aa (f2 (gv 0) (cst (.int 0)) bR) (aa (gv 1) ah)) [.da (.tuple [.int a,.int b]),.da (.int n)] 0=.ok (.bool (decide (0<=a/\a < n))) 0:=rfl
   have e2:ak dM (aa (f2 (gv 0) (cst (.int 1)) bR) (aa (gv 1) ah)) [.da (.tuple [.int a,.int b]),.da (.int n)] 0=.ok (.bool (decide (0<=b/\b < n))) 0:=rfl
   unfold ip
   rw[e1]
   dsimp only[R.bnd]
   by_cases c:0<=a/\a < n
   ·rw[ME c,e2]
    show FR.ok (.bool (decide (0<=b/\b < n))) false=.ok (.bool (decide ((0<=a/\a < n)/\(0<=b/\b < n)))) false
    simp[c]
   ·rw[MK c]
    show FR.ok (.bool false) false=.ok (.bool (decide ((0<=a/\a < n)/\(0<=b/\b < n)))) false
    simp[c]
 ·exact absurd rfl h
def aw (n:Nat)(l:List Pr):D:=.tuple [.int n,.tuple (l.map aK)]
open Classical in
noncomputable def qX (f:Nat->List Pr->FR):D->FR:=λd=>if h:∃nl:Nat×List Pr,d=aw nl.1 nl.2/\OM.Ord nl.1 nl.2 then f (Classical.choose h).1 (Classical.choose h).2 else .bad
def Fp {p q:Pr}(h:aK p=aK q):p=q:=by
 obtain⟨a,b⟩:=p
 obtain⟨c,d⟩:=q
 unfold aK at h
 simp at h
 rw[h.1,h.2]
theorem nH:∀{l m:List Pr},l.map aK=m.map aK->l=m
 | [],[],_=>rfl
 | [],_ :: _,h=>by cases h
 |_ :: _,[],h=>by cases h
 |p :: l,q :: m,h=>by
  simp only[Nj,List.cons.injEq] at h
  rw[Fp h.1,nH h.2]
def C0 {n m:Nat}{l k:List Pr}(h:aw n l=aw m k):n=m/\l=k:=by
 unfold aw at h
 simp only[PyData.tuple.injEq,List.cons.injEq,int.injEq,and_true] at h
 exact⟨by omega,nH h.2⟩
def uJ {f:Nat->List Pr->FR}{n:Nat}{l:List Pr}(O:OM.Ord n l):qX f (aw n l)=f n l:=by
 unfold qX
 have h:∃nl:Nat×List Pr,aw n l=aw nl.1 nl.2/\OM.Ord nl.1 nl.2:=⟨(n,l),rfl,O⟩
 rw[dif_pos h]
 obtain⟨e,_⟩:=Classical.choose_spec h
 obtain⟨e1,e2⟩:=C0 e
 rw[<-e1,<-e2]
def uP {f:Nat->List Pr->FR}{d:D}(h:qX f d≠.bad):∃n l,d=aw n l/\OM.Ord n l:=by
 unfold qX at h
 by_cases q:∃nl:Nat×List Pr,d=aw nl.1 nl.2/\OM.Ord nl.1 nl.2
 ·obtain⟨nl,e,O⟩:=q;exact⟨nl.1,nl.2,e,O⟩
 ·rw[dif_neg q] at h;exact absurd rfl h
noncomputable def dm:List D->FR
 | [.int n,d]=>(match ll d with
  |some ds=>(match fk ds with
   |some ps=>(open Classical in if 1<=n/\n<=8/\OM.Wn n.toNat ps then .ok (.tuple ((OM.cg n.toNat (OM.Tr (OM.Mem ps))).map aK)) false else .bad)
   |none=>.bad)
  |none=>.bad)
 |_=>.bad
def CA {n:Nat}{ps:List Pr}(h1:1<=n)(h8:n<=8)(w:OM.Wn n ps):dm [.int n,.tuple (ps.map aK)]=.ok (.tuple ((OM.cg n (OM.Tr (OM.Mem ps))).map aK)) false:=by
 unfold dm
 simp only[ll,fg]
 rw[MA ⟨by omega,by omega,by rw[M6];exact w⟩,M6]
def jS:List D->FR
 | [.tuple ds]=>(match fk ds with
  |some ps=>if ps.length<=1000 then .ok (.bool (ps.any λp=>decide (p.1=p.2))) false else .bad
  |none=>.bad)
 |_=>.bad
theorem gL {α:Type}(f:α->Bool):∀l:List α,ke (l.map λx=>PyData.bool (f x))=some (l.map f)
 | []=>rfl
 |x :: l=>by
  show (ke (l.map λx=>PyData.bool (f x))).map (f x :: ·)=_
  rw[gL f l];rfl
def HL (ds:List D)(h:jS ds≠.bad):bp 1 1 oF ds=jS ds:=by
 unfold jS at h
 split at h
 ·rename_i ds
  cases q:fk ds with
  |none=>rw[q] at h;exact absurd rfl h
  |some ps=>
   rw[q] at h
   dsimp only at h
   by_cases hz:ps.length<=1000
   case neg=>rw[MF hz] at h;exact absurd rfl h
   obtain rfl:=ji q
   have e:jS [.tuple (ps.map aK)]=.ok (.bool (ps.any λp=>decide (p.1=p.2))) false:=by
    unfold jS;simp only[fg];rw[MA hz]
   rw[e]
   have ec:aP 2 [] (.two 0 1) (bu (gv 0)) ij (f2 (gv 0) (gv 1) (dC false)) [.da (.tuple (ps.map aK))] 0=.ok (.list (ps.map λp=>PyData.bool (decide (p.1=p.2)))) 0:=by
    exact bB (l:=ps) (e:=aK) (λp=>PyData.bool (decide (p.1=p.2))) rfl hz λp hp=>⟨_,rfl,rfl⟩
   show fin (toS ((aP 2 [] (.two 0 1) (bu (gv 0)) ij (f2 (gv 0) (gv 1) (dC false)) [.da (.tuple (ps.map aK))] 0).bnd λx β1=>R.of (cn (λbs=>bs.any id) x) β1) λd β'=>.rt d false β')=_
   rw[ec]
   simp only[lM,cn]
   rw[gL]
   simp[fin,List.any_map]
 ·exact absurd rfl h
def rN (p:Pr):SeqAt.shaped (aK p)=true:=rfl
theorem oq:∀l:List Pr,PyData.canLayAll0 (l.map aK)=true
 | []=>rfl
 |p :: l=>by
  show ((aK p).canLay0 && PyData.canLayAll0 (l.map aK))=true
  rw[oq l];rfl
theorem og:∀l:List Pr,PyData.depthAll (l.map aK)<=1
 | []=>by show (0:Nat)<=1;omega
 |p :: l=>by
  show max (aK p).depth (PyData.depthAll (l.map aK))<=1
  have h1:(aK p).depth=1:=by simp[aK,PyData.depth,PyData.depthAll]
  have h2:=og l
  omega
def pW (l:List Pr):SeqAt.shaped (.tuple (l.map aK))=true:=by
 unfold SeqAt.shaped
 have h1:(PyData.tuple (l.map aK)).canLay0=true:=by simp only[PyData.canLay0];exact oq l
 have h2:(PyData.tuple (l.map aK)).depth<=64:=by simp only[PyData.depth];have:=og l;omega
 rw[h1,ME h2];rfl
def oG (l:List Pr):SeqAt.shaped (.list (l.map aK))=true:=by
 unfold SeqAt.shaped
 have h1:(PyData.list (l.map aK)).canLay0=true:=by simp only[PyData.canLay0];exact oq l
 have h2:(PyData.list (l.map aK)).depth<=64:=by simp only[PyData.depth];have:=og l;omega
 rw[h1,ME h2];rfl
def Cv (p q:Pr):PyData.eqv (aK p) (aK q)=decide (p=q):=by
 obtain⟨a,b⟩:=p
 obtain⟨c,d⟩:=q
 simp only[aK,PyData.eqv,PyData.eqvAll,Bool.and_true]
 rw[Nx]
 simp
theorem ou:∀l m:List Pr,PyData.eqvAll (l.map aK) (m.map aK)=decide (l=m)
 | [],[]=>rfl
 | [],_ :: _=>rfl
 |_ :: _,[]=>rfl
 |p :: l,q :: m=>by
  show (PyData.eqv (aK p) (aK q) && PyData.eqvAll (l.map aK) (m.map aK))=_
  rw[Cv,ou l m,Nx]
  simp
def lX {n:Nat}{l:List Pr}(O:OM.Ord n l):l.length < 64:=by
 have h8:=O.hi
 have e:=O.closed
 by_cases h:l.length < 64
 ·exact h
 ·exfalso
  have h1:l.length<=n * n:=by rw[<-e];exact OM.Dv _ _
  have h2:n * n<=64:=N2 h8 h8
  have hn:n=8:=by
   by_cases h7:n<=7
   ·have:n * n<=7 * 7:=N2 h7 h7
    omega
   ·omega
  have hlen:l.length=n * n:=by subst hn;omega
  have hg:l=OM.bQ n:=by
   refine OM.sub_eq O.ris (OM.eM n) (λx hx=>OM.bC.mpr (O.wn x hx)) ?_
   rw[hlen];unfold OM.bQ;simp
  have:((0:Int),(0:Int))∈l:=by rw[hg];exact OM.bC.mpr ⟨⟨by omega,by omega⟩,by omega,by omega⟩
  exact O.irr 0 this
def uK {n:Nat}(h1:1<=n)(h8:n<=8):iB [.int n]=.ok (.bool true) false:=by
 rw[BZ rfl]
 show FR.ok (.bool (decide (1<=(n:Int)/\(n:Int)<=8))) false=_
 rw[ME (by omega)]
def uE (neg:Bool)(l m:List Pr):dC neg (.tuple (l.map aK)) (.tuple (m.map aK))=some (.bool (if neg then !decide (l=m) else decide (l=m))):=by
 unfold dC
 rw[pW,pW]
 simp only[OD,NC,PyData.eqv,ou]
def CU (neg:Bool)(l m:List Pr):dC neg (.list (l.map aK)) (.list (m.map aK))=some (.bool (if neg then !decide (l=m) else decide (l=m))):=by
 unfold dC
 rw[oG,oG]
 simp only[OD,NC,PyData.eqv,ou]
def Fd {n:Nat}{l:List Pr}(O:OM.Ord n l):jS [.tuple (l.map aK)]=.ok (.bool false) false:=by
 have hl:=lX O
 unfold jS
 simp only[fg]
 rw[MA (by omega)]
 have:(l.any λp=>decide (p.1=p.2))=false:=by
  rw[List.any_eq_false]
  intro p hp
  simp only[MT]
  intro e
  obtain⟨a,b⟩:=p
  simp only at e
  subst e
  exact O.irr a hp
 rw[this]
def zW {n:Nat}{l:List Pr}(O:OM.Ord n l):bp 3 1 (gV iB pairF dm jS) [aw n l]=.ok (.bool true) false:=by
 have hl:=lX O
 show fin (gV iB pairF dm jS [.fz (aw n l),.no,.no] 0)=_
 unfold gV
 rw[ax (env':=[.fz (aw n l),.no,.no]) (β':=0) (by rfl)]
 rw[ax (env':=[.fz (aw n l),.fz (.int n),.no]) (β':=0) (by rfl)]
 rw[ax (env':=[.fz (aw n l),.fz (.int n),.fz (.tuple (l.map aK))]) (β':=0) (by rfl)]
 have e4:ak iB (aa (gv 1) ah) [.da (aw n l),.da (.int n),.da (.tuple (l.map aK))] 0=.ok (.bool true) 0:=aq rfl (uK O.lo O.hi)
 rw[ax (env':=[.fz (aw n l),.fz (.int n),.fz (.tuple (l.map aK))]) (β':=0) ?h4]
 case h4=>
  refine fU ?_
  show lJ (nV (la (ak iB (aa (gv 1) ah)))) _ [.da (aw n l),.da (.int n),.da (.tuple (l.map aK))] 0=_
  rw[sY,tI,sO,e4]
  rfl
 have e5:aP 1 [1] (.nm 0) (bu (gv 2)) ij (ak pairF (aa (gv 0) (aa (gv 1) ah))) [.da (aw n l),.da (.int n),.da (.tuple (l.map aK))] 0=.ok (.list (l.map λ_=>PyData.bool true)) 0:=by
  refine bB (l:=l) (e:=aK) (λ_=>PyData.bool true) rfl (by omega) λp hp=>⟨_,rfl,?_⟩
  refine aq (b:=false) (ds:=[aK p,.int n]) rfl ?_
  rw[C7,ME (by have:=O.wn p hp;exact this)]
 rw[ax (env':=[.fz (aw n l),.fz (.int n),.fz (.tuple (l.map aK))]) (β':=0) ?h5]
 case h5=>
  refine fU ?_
  show nV (la (f1 (aP 1 [1] (.nm 0) (bu (gv 2)) ij (ak pairF (aa (gv 0) (aa (gv 1) ah)))) (cn λbs=>bs.all id))) [.da (aw n l),.da (.int n),.da (.tuple (l.map aK))] 0=_
  rw[tI,sO,cI (d:=.bool true) e5 (by simp only[cn];rw[gL];simp)]
  rfl
 have e6:ak dm (aa (gv 1) (aa (gv 2) ah)) [.da (aw n l),.da (.int n),.da (.tuple (l.map aK))] 0=.ok (.tuple (l.map aK)) 0:=aq rfl (by rw[CA O.lo O.hi O.wn,O.closed])
 have e7:ak jS (aa (gv 2) ah) [.da (aw n l),.da (.int n),.da (.tuple (l.map aK))] 0=.ok (.bool false) 0:=aq rfl (Fd O)
 show fin (toS (ip (f2 (gv 2) (ak dm (aa (gv 1) (aa (gv 2) ah))) (dC false)) (f1 (ak jS (aa (gv 2) ah)) DC) [.da (aw n l),.da (.int n),.da (.tuple (l.map aK))] 0) _)=_
 unfold ip
 rw[aG (d:=.bool true) (x:=.tuple (l.map aK)) rfl e6 (by rw[uE];simp)]
 dsimp only[R.bnd]
 rw[cI (d:=.bool true) e7 rfl]
 rfl
noncomputable def dY:List D->FR
 | [d]=>qX (λ_ _=>.ok (.bool true) false) d
 |_=>.bad
def rH {n:Nat}{l:List Pr}(O:OM.Ord n l):dY [aw n l]=.ok (.bool true) false:=by simp only[dY];exact uJ O
def wC (ds:List D)(h:dY ds≠.bad):bp 3 1 (gV iB pairF dm jS) ds=dY ds:=by
 unfold dY at h
 split at h
 ·obtain⟨n,l,rfl,O⟩:=uP h
  rw[zW O,rH O]
 ·exact absurd rfl h
noncomputable def dZ:List D->FR
 | [d]=>qX (λ_ _=>.ok .none false) d
 |_=>.bad
def km {n:Nat}{l:List Pr}(O:OM.Ord n l):dZ [aw n l]=.ok .none false:=by simp only[dZ];exact uJ O
def FJ (ds:List D)(h:dZ ds≠.bad):bp 1 1 (gH dY) ds=dZ ds:=by
 unfold dZ at h
 split at h
 ·obtain⟨n,l,rfl,O⟩:=uP h
  rw[km O]
  have e:ak dY (aa (gv 0) ah) [.da (aw n l)] 0=.ok (.bool true) 0:=aq (ds:=[aw n l]) rfl (rH O)
  show fin (gH dY [.fz (aw n l)] 0)=_
  unfold gH
  rw[fU (β':=0)]
  ·rfl
  ·show nV (la (ak dY (aa (gv 0) ah))) [.da (aw n l)] 0=_
   rw[tI,sO,e];rfl
 ·exact absurd rfl h
abbrev dg (ns:List Int):D:=.dict [(.none,.list (ns.map int))]
def m9 {i j:Int}(h: -(2 ^ 64) < i/\i < 2 ^ 64):eB (.int i) (.int j)=some (.int (i * j)):=MA (by dsimp only;rw[ME h.1,ME h.2];rfl)
def HH {i j:Int}(h: -(2 ^ 64) < j/\j < 2 ^ 64):eB (.int i) (.int j)=some (.int (i * j)):=MA (by dsimp only;rw[ME h.1,ME h.2,OD,Bool.or_true])
def nj {i j:Int}(h:0 < j):lB (.int i) (.int j)=some (.int (i % j)):=MA (ME h)
def yp {i j:Int}(h:0 < j)(h2:j < 1073741824):AY (.int i) (.int j)=some (.int (i / j)):=MA (by dsimp only;rw[ME h,ME h2];rfl)
theorem cW {α β:Type}(f:α->β)(l:List α)(i:Int):jk (l.map f) i=(jk l i).map f:=by
 unfold jk
 rw[MI]
 cases ub l.length i with
 |none=>rfl
 |some j=>simp
def jK {α:Type}{l:List α}{k:Nat}(h:k < l.length):jk l (k:Int)=some l[k]:=fR (Mu h)
def HW {fa fb:VF D}{vs:List Nv}{β β1 β2:Int}{i j:Int}(h:fa vs β=.ok (.int i) β1)(h':fb vs β1=.ok (.int j) β2):dD (f2 fa fb vU) vs β=.ok (decide (i < j)) β2:=cT _ _ _ _ (aG h h' rfl)
def iG {neg:Bool}{fa fb:VF D}{vs:List Nv}{β β1 β2:Int}{i j:Int}(h:fa vs β=.ok (.int i) β1)(h':fb vs β1=.ok (.int j) β2):dD (f2 fa fb (dC neg)) vs β=.ok (if neg then !decide (i=j) else decide (i=j)) β2:=by
 refine cT _ _ _ _ (aG h h' ?_)
 cases neg <;> rfl
def GL (ns:List Int)(k:Nat):∃z,bp 2 2 fX [dg ns,.int k]=.ok (.int z) false:=by
 show ∃z,fin (fX [.fz (dg ns),.fz (.int k)] 0)=.ok (.int z) false
 unfold fX
 have e:dD (f2 (gv 1) (f1 (gv 0) c3) vU) [.da (dg ns),.da (.int k)] 0=.ok (decide ((k:Int) < (ns.map int).length)) 0:=HW rfl rfl
 by_cases h:k < ns.length
 ·refine⟨ns[k],?_⟩
  rw[ME (by simp;exact h)] at e
  rw[iq (d:=.int ns[k]) (b:=false) (β':=0)]
  ·rfl
  ·rw[kg e]
   show toS (f2 (gv 0) (gv 1) bR [.da (dg ns),.da (.int k)] 0) _=_
   rw[aG (x:=dg ns) (y:=.int k) (d:=.int ns[k]) (β1:=0) (β2:=0) rfl rfl]
   ·rfl
   ·show jk (ns.map int) (k:Int)=_
    rw[cW,jK h];rfl
 ·refine⟨0,?_⟩
  rw[MK (by simp;omega)] at e
  rw[ax (env':=[.fz (dg ns),.fz (.int k)]) (β':=0)]
  ·rfl
  ·rw[fU e];rfl
noncomputable def yx:List D->FR:=bp 2 2 fX
noncomputable def C3:List D->FR:=bp 4 2 jv
abbrev xa:List Int:=[48271,69621,16807,39373,30269,40014,40692,50021,61687,71993,83869,95561,30307]
def Ji (c k:Int):∃z,C3 [.int c,.int k]=.ok (.int z) false:=by
 show ∃z,fin (jv [.fz (.int c),.fz (.int k),.no,.no] 0)=.ok (.int z) false
 unfold jv
 rw[ax (env':=[.fz (.int c),.fz (.int k),.fz (.list (xa.map int)),.no]) (β':=0) (by rfl)]
 obtain⟨j,hj⟩:∃j:Nat,k % 13=j:=⟨(k % 13).toNat,by omega⟩
 have hj13:j < xa.length:=by show j < 13;omega
 have e1:f2 (f2 (f2 (f2 (f2 (gv 0) (cst (.int 2147483647)) lB) (cst (.int 12345)) cP) (f2 (gv 2) (f2 (gv 1) (cst (.int 13)) lB) bR) eB) (f2 (cst (.int 977)) (gv 1) eB) cP) (f2 (cst (.int 7919)) (f2 (gv 1) (cst (.int 13)) AY) eB) cP [.da (.int c),.da (.int k),.da (.list (xa.map int)),.no] 0
   =.ok (.int ((c % 2147483647 + 12345) * xa[j] + 977 * k + 7919 * (k / 13))) 0:=by
  refine aG (aG (aG (aG (aG (x:=.int c) (y:=.int 2147483647) rfl rfl (nj (by omega))) rfl rfl) (aG (x:=.list (xa.map int)) rfl (aG (x:=.int k) (y:=.int 13) rfl rfl (nj (by omega))) (d:=.int xa[j]) ?_) (m9 ⟨by omega,by omega⟩)) (aG (x:=.int 977) (y:=.int k) rfl rfl (m9 ⟨by omega,by omega⟩)) rfl) (aG (x:=.int 7919) rfl (aG (x:=.int k) (y:=.int 13) rfl rfl (yp (by omega) (by omega))) (m9 ⟨by omega,by omega⟩)) rfl
  show jk (xa.map int) (k % 13)=_
  rw[hj,cW,jK hj13];rfl
 generalize ((c % 2147483647 + 12345) * xa[j] + 977 * k + 7919 * (k / 13))=st at e1
 rw[ax (env':=[.fz (.int c),.fz (.int k),.fz (.list (xa.map int)),.fz (.int st)]) (β':=0) ?h]
 case h=>
  show toS (f2 _ _ cP [.da (.int c),.da (.int k),.da (.list (xa.map int)),.no] 0) _=_
  rw[e1];rfl
 have e2:f2 (gv 3) (cst (.int 1000000007)) lB [.da (.int c),.da (.int k),.da (.list (xa.map int)),.da (.int st)] 0=.ok (.int (st % 1000000007)) 0:=aG rfl rfl (nj (by omega))
 rw[ax (env':=[.fz (.int c),.fz (.int k),.fz (.list (xa.map int)),.fz (.int (st % 1000000007))]) (β':=0) ?h2]
 case h2=>
  show toS (f2 (gv 3) (cst (.int 1000000007)) lB [.da (.int c),.da (.int k),.da (.list (xa.map int)),.da (.int st)] 0) _=_
  rw[e2];rfl
 have hb: -(2 ^ 64) < st % 1000000007/\st % 1000000007 < 2 ^ 64:=⟨by omega,by omega⟩
 generalize st % 1000000007=u at hb
 have e3:f2 (f2 (f2 (f2 (gv 3) (gv 3) eB) (f2 (cst (.int 48271)) (gv 1) eB) cP) (cst (.int 1000000007)) lB) (cst (.int 7)) AY [.da (.int c),.da (.int k),.da (.list (xa.map int)),.da (.int u)] 0=.ok (.int ((u * u + 48271 * k) % 1000000007 / 7)) 0:=
  aG (aG (aG (aG (x:=.int u) (y:=.int u) rfl rfl (m9 hb)) (aG (x:=.int 48271) (y:=.int k) rfl rfl (m9 ⟨by omega,by omega⟩)) rfl) rfl (nj (by omega))) rfl (yp (by omega) (by omega))
 refine⟨(u * u + 48271 * k) % 1000000007 / 7,?_⟩
 show fin (toS (f2 _ (cst (.int 7)) AY [.da (.int c),.da (.int k),.da (.list (xa.map int)),.da (.int u)] 0) _)=_
 rw[e3];rfl
noncomputable def IA:List D->FR:=bp 5 2 (jA yx C3)
def Ku (ns:List Int)(k:Nat):∃z,IA [dg ns,.int k]=.ok (.list [.int z]) true:=by
 obtain⟨c,hc⟩:=GL ns k
 show ∃z,fin (jA yx C3 [.fz (dg ns),.fz (.int k),.no,.no,.no] 0)=.ok (.list [.int z]) true
 unfold jA
 have e0:ak yx (aa (gv 0) (aa (gv 1) ah)) [.da (dg ns),.da (.int k),.no,.no,.no] 0=.ok (.int c) 0:=aq rfl hc
 rw[ax (env':=[.fz (dg ns),.fz (.int k),.fz (.int c),.no,.no]) (β':=0) ?h]
 case h=>
  show toS (ak yx _ [.da (dg ns),.da (.int k),.no,.no,.no] 0) _=_
  rw[e0];rfl
 have e1:dD (f2 (f2 (gv 2) (cst (.int 2)) lB) (cst (.int 0)) (dC false)) [.da (dg ns),.da (.int k),.da (.int c),.no,.no] 0=.ok (decide (c % 2=0)) 0:=iG (neg:=false) (aG rfl rfl (nj (by omega))) rfl
 by_cases h:c % 2=0
 ·rw[ME h] at e1
  refine⟨(if c < 0 then -c else c) / 2,?_⟩
  rw[iq (d:=.list [.int ((if c < 0 then -c else c) / 2)]) (b:=true) (β':=0)]
  ·rfl
  ·rw[kg e1]
   show toS (cG (aa (f2 (f1 (gv 2) EN) (cst (.int 2)) AY) ah) [.da (dg ns),.da (.int k),.da (.int c),.no,.no] 0) _=_
   rw[iL (ds:=[.int ((if c < 0 then -c else c) / 2)]) (β1:=0)]
   ·rfl
   ·have e2:f2 (f1 (gv 2) EN) (cst (.int 2)) AY [.da (dg ns),.da (.int k),.da (.int c),.no,.no] 0=.ok (.int ((if c < 0 then -c else c) / 2)) 0:=aG (cI (x:=.int c) rfl rfl) rfl (yp (by omega) (by omega))
    rw[c9,e2];rfl
   ·simp
 ·rw[MK h] at e1
  rw[ax (env':=[.fz (dg ns),.fz (.int k),.fz (.int c),.no,.no]) (β':=0) (by rw[fU e1];rfl)]
  rw[ax (env':=[.fz (dg ns),.fz (.int k),.fz (.int c),.fz (.int 0),.no]) (β':=0) (by rfl)]
  obtain⟨env',β',el,z,x,rfl,rfl⟩:=dG (t:=.nm 4) (m:=bo 3 (([] ++ []) ++ ([2] ++ ([4] ++ []))) (f2 (f2 (gv 3) (cst (.int 142857143)) eB) (ak C3 (aa (gv 2) (aa (gv 4) ah))) cP)) (ds:=cZ 0 40) (k:=0)
   (λ_ env β=>∃(z:Int) (x:Sl),env= [.fz (dg ns),.fz (.int k),.fz (.int c),.fz (.int z),x]/\β=0) (env:=[.fz (dg ns),.fz (.int k),.fz (.int c),.fz (.int 0),.no]) (β:=0) ⟨0,.no,rfl,rfl⟩ (by
    rintro i d env β hi ⟨z,x,rfl,rfl⟩
    obtain⟨j,rfl⟩:∃j:Int,d=.int j:=by
     unfold cZ at hi
     rw[MG] at hi
     cases q:(List.range 40)[i]? with
     |none=>rw[q] at hi;cases hi
     |some j=>rw[q] at hi;cases hi;exact⟨_,rfl⟩
    obtain⟨y,hy⟩:=Ji c j
    refine⟨_,rfl,_,_,?_,z * 142857143 + y,.fz (.int j),rfl,rfl⟩
    show toS (f2 (f2 (gv 3) (cst (.int 142857143)) eB) (ak C3 (aa (gv 2) (aa (gv 4) ah))) cP [.da (dg ns),.da (.int k),.da (.int c),.da (.int z),.da (.int j)] 0) _=_
    rw[aG (d:=.int (z * 142857143 + y)) (aG (x:=.int z) (y:=.int 142857143) (β1:=0) (β2:=0) rfl rfl (HH ⟨by omega,by omega⟩)) (aq (ds:=[.int c,.int j]) (β1:=0) rfl hy) rfl]
    rfl)
  refine⟨z,?_⟩
  rw[ax (env':=[.fz (dg ns),.fz (.int k),.fz (.int c),.fz (.int z),x]) (β':=0) ?h2]
  case h2=>exact el
  show fin (toS (cG (aa (gv 3) ah) [.da (dg ns),.da (.int k),.da (.int c),.da (.int z),x.val] 0) _)=_
  rw[iL (ds:=[.int z]) (β1:=0) rfl (by simp)]
  rfl
noncomputable def pP:List D->Int->FB:=uA 4 1 (dJ dv)
theorem lay_ints:∀ns:List Int,PyData.canLayAll0 (ns.map int)=true
 | []=>rfl
 |n :: ns=>by
  show ((int n).canLay0 && PyData.canLayAll0 (ns.map int))=true
  rw[lay_ints ns];rfl
theorem pz:∀ns:List Int,PyData.depthAll (ns.map int)=0
 | []=>rfl
 |n :: ns=>by
  show max (int n).depth (PyData.depthAll (ns.map int))=0
  rw[pz ns];rfl
def shaped_ints (ns:List Int):SeqAt.shaped (.list (ns.map int))=true:=by
 unfold SeqAt.shaped
 have h1:(PyData.list (ns.map int)).canLay0=true:=by simp only[PyData.canLay0];exact lay_ints ns
 have h2:(PyData.list (ns.map int)).depth<=64:=by simp only[PyData.depth];rw[pz];omega
 rw[h1,ME h2];rfl
theorem oV:∀l m:List Int,PyData.eqvAll (l.map int) (m.map int)=decide (l=m)
 | [],[]=>rfl
 | [],_ :: _=>rfl
 |_ :: _,[]=>rfl
 |p :: l,q :: m=>by
  show ((p == q) && PyData.eqvAll (l.map int) (m.map int))=_
  rw[oV l m,Nx]
  simp
def DR (neg:Bool)(l m:List Int):dC neg (.list (l.map int)) (.list (m.map int))=some (.bool (if neg then !decide (l=m) else decide (l=m))):=by
 unfold dC
 rw[shaped_ints,shaped_ints]
 simp only[OD,NC,PyData.eqv,oV]
theorem g9 {α:Type}:∀{l:List α} {k:Nat} {x:α},l[k]? =some x->(x :: l.eraseIdx k).Perm l
 | [],_,_,h=>by simp at h
 |y :: l,0,x,h=>by simp at h;subst h;exact List.Perm.refl _
 |y :: l,k + 1,x,h=>by
  have h:l[k]? =some x:=by simpa using h
  have ih:=g9 h
  show (x :: y :: l.eraseIdx k).Perm (y :: l)
  exact (List.Perm.swap y x _).trans (ih.cons y)
theorem rL {α β:Type}(f:α->β):∀(l:List α) (k:Nat),(l.map f).eraseIdx k=(l.eraseIdx k).map f
 | [],_=>rfl
 |_ :: _,0=>rfl
 |x :: l,k + 1=>by simp[rL f l k]
def Fi (ns:List Int)(hz:ns.length<=100)(β:Int):∃(ms:List Int) (β':Int),pP [.list (ns.map int)] β=.ok (.list (ms.map int)) true β'/\ms.Perm ns:=by
 show ∃(ms:List Int) (β':Int),Fm (dJ dv [.bx,.fz (.list (ns.map int)),.no,.no] β)=.ok (.list (ms.map int)) true β'/\ms.Perm ns
 unfold dJ
 rw[ax (env':=[.bx,.fz (.list (ns.map int)),.ow (.list (ns.map int)),.no]) (β':=β) (by rfl)]
 have ez:cG ah [Nv.bx,.da (.list (ns.map int)),.da (.list (ns.map int)),.no] β=.ok (.list []) β:=iL rfl (by simp)
 rw[ax (env':=[.bx,.fz (.list (ns.map int)),.ow (.list (ns.map int)),.ow (.list [])]) (β':=β) ?h]
 case h=>
  show toS (cG ah [Nv.bx,.da (.list (ns.map int)),.da (.list (ns.map int)),.no] β) _=_
  rw[ez];rfl
 obtain⟨env',β',ew,ms,rfl,hp⟩:=jn (L:=[] ++ []) (t:=dD (f2 (gv 2) (cG ah) (dC true))) (m:=jM 3 2 ([] ++ []) (mY 0 dv (aa (f1 (gv 2) c3) ah)))
  (λk env β=>∃ls ms:List Int,env= [.bx,.fz (.list (ns.map int)),.ow (.list (ls.map int)),.ow (.list (ms.map int))]/\(ms ++ ls).Perm ns/\k=ls.length)
  (λenv β=>∃ms:List Int,env= [.bx,.fz (.list (ns.map int)),.ow (.list []),.ow (.list (ms.map int))]/\ms.Perm ns) (n:=1000) (k:=ns.length) (env:=[.bx,.fz (.list (ns.map int)),.ow (.list (ns.map int)),.ow (.list [])]) (β:=β) (by omega) ⟨ns,[],rfl,by simp,rfl⟩ (by
   rintro k env β ⟨ls,ms,rfl,hp,rfl⟩
   have e1:cG ah [Nv.bx,.da (.list (ns.map int)),.da (.list (ls.map int)),.da (.list (ms.map int))] β=.ok (.list (([]:List Int).map int)) β:=iL rfl (by simp)
   have et:dD (f2 (gv 2) (cG ah) (dC true)) [Nv.bx,.da (.list (ns.map int)),.da (.list (ls.map int)),.da (.list (ms.map int))] β=.ok (!decide (ls= [])) β:=
    cT _ _ _ _ (aG (x:=.list (ls.map int)) rfl e1 (by rw[DR];rfl))
   refine⟨_,_,et,?_⟩
   have hlen:=hp.length_eq
   rw[M5] at hlen
   cases ls with
   |nil=>exact .inl ⟨rfl,ms,rfl,by simpa using hp⟩
   |cons y ys=>
    refine .inr ⟨rfl,?_⟩
    have hm:(0:Int) < ((y :: ys).length:Nat)/\(((y :: ys).length:Nat):Int) < 1073741824:=by
     have:(y :: ys).length<=100:=by omega
     constructor
     ·simp
     ·omega
    obtain⟨j,hj⟩:∃j:Nat,β % (((y :: ys).length:Nat):Int)=j:=⟨(β % (((y :: ys).length:Nat):Int)).toNat,by have:=Int.emod_nonneg β (b:=(((y :: ys).length:Nat):Int)) (by omega);omega⟩
    have hj2:j < (y :: ys).length:=by have:=Int.emod_lt_of_pos β hm.1;omega
    have ef:mY 0 dv (aa (f1 (gv 2) c3) ah) [Nv.bx,.da (.list (ns.map int)),.da (.list ((y :: ys).map int)),.da (.list (ms.map int))] β=.ok (.int (j:Int)) (β / (((y :: ys).length:Nat):Int)):=by
     refine ko (ds:=[.int (((y :: ys).length:Nat):Int)]) (b:=false) (by rfl) ?_ (by rw[tL hm.1 hm.2,hj])
     show R.ok [int ((((y :: ys).map int).length:Nat):Int)] β=_
     rw[MI]
    have hpop:AN ((y :: ys).map int) (.int (j:Int))=some (.int (y :: ys)[j],((y :: ys).eraseIdx j).map int):=by
     unfold AN
     dsimp only
     rw[MA ⟨by omega,by omega⟩]
     have es:seqIndex? (j:Int) ((y :: ys).map int).length=some j:=by
      rw[MI]
      exact PySem.StrLaws.seqIndex_nonneg (by omega) (by omega)
     rw[es]
     dsimp only
     rw[MG,Mu hj2,rL];rfl
    refine⟨[.bx,.fz (.list (ns.map int)),.ow (.list (((y :: ys).eraseIdx j).map int)),.ow (.list ((ms ++ [(y :: ys)[j]]).map int))],β / (((y :: ys).length:Nat):Int),((y :: ys).eraseIdx j).length,?_,?_,(y :: ys).eraseIdx j,ms ++ [(y :: ys)[j]],rfl,?_,rfl⟩
    ·show jM 3 2 ([] ++ []) (mY 0 dv (aa (f1 (gv 2) c3) ah)) [.bx,.fz (.list (ns.map int)),.ow (.list ((y :: ys).map int)),.ow (.list (ms.map int))] β=_
     rw[xT (ds:=ms.map int) (es:=(y :: ys).map int) (by rfl) (by rfl) (by decide) ef (by rfl) hpop (by rw[MI];omega),NM]
     rfl
    ·rw[List.length_eraseIdx]
     rw[MA hj2]
     show (y :: ys).length - 1 < (y :: ys).length
     simp
    ·rw[Nm]
     exact (List.Perm.append_left ms (g9 (Mu hj2))).trans hp)
 refine⟨ms,β',?_,hp⟩
 rw[ax ew]
 rfl
def JK {n:Nat}{l:List Pr}(h8:n<=8)(w:OM.Wn n l):OM.cg 8 (OM.Mem l)=OM.cg n (OM.Mem l):=by
 refine OM.cX (OM.cN _ _) (OM.cN _ _) λx=>?_
 rw[OM.bh,OM.bh]
 constructor
 ·rintro⟨_,h⟩;exact⟨w x h,h⟩
 ·rintro⟨h1,h⟩;exact⟨⟨⟨h1.1.1,by omega⟩,h1.2.1,by omega⟩,h⟩
def zb {n:Nat}{l:List Pr}(h1:1<=n)(h8:n<=8)(w:OM.Wn n l)(nd:l.Nodup)(irr:∀a,(a,a)∉l):l.length < 64:=by
 have:=OM.pe (l:=(0,0) :: l) (m:=OM.bQ n) (Nc.mpr ⟨irr 0,nd⟩) (λx hx=>by
  rcases MB.mp hx with e |e
  ·subst e;exact OM.bC.mpr ⟨⟨by simp,by simp;omega⟩,by simp,by simp;omega⟩
  ·exact OM.bC.mpr (w x e))
 have hg:(OM.bQ n).length=n * n:=by unfold OM.bQ;simp
 have hn:n * n<=64:=N2 h8 h8
 rw[hg,MU] at this
 omega
def C5 {n:Nat}{l:List Pr}(h8:n<=8)(w:OM.Wn n l):l.all IT=true:=by
 rw[MS]
 intro p hp
 have:=w p hp
 unfold IT
 rw[ME this.1.1,ME (by omega:p.1 < 8),ME this.2.1,ME (by omega:p.2 < 8)];rfl
def nA {n:Nat}{l:List Pr}{d:D}(h8:n<=8)(w:OM.Wn n l)(hl:(OM.cg n (OM.Mem l)).length < 64)(hd:ll d=some (l.map aK)):cM d=some (.list ((OM.cg n (OM.Mem l)).map aK)):=by
 unfold cM
 rw[hd]
 simp only[fg]
 rw[JK h8 w,MA ⟨C5 h8 w,hl⟩]
def v7 (l:List Pr)(p:Pr):List Pr:=(l.filter λq=>decide (q.1=p.2)).map λq=>(p.1,q.2)
def y1 (l:List Pr)(p:Pr):(v7 l p).length<=l.length:=by unfold v7;rw[MI];exact OC ..
theorem vm (l m:List Pr):(m.flatMap (v7 l)).length<=m.length * l.length:=by
 induction m with
 |nil=>simp
 |cons p m ih=>
  rw[OG,M5,MU,Nat.succ_mul]
  have:=y1 l p
  omega
def oh {a b:List D}(h:a.length + b.length<=10000):jX (.list a) (.list b)=some (.list (a ++ b)):=MA (by rw[Na];omega)
noncomputable def jg:List D->FR:=bp 6 1 fS
def AH {n:Nat}{ps:List Pr}(h1:1<=n)(h8:n<=8)(w:OM.Wn n ps)(irr:∀a,¬OM.Tr (OM.Mem ps) a a):jg [.list (ps.map aK)]=.ok (.tuple ((OM.cg n (OM.Tr (OM.Mem ps))).map aK)) false:=by
 have blen:∀{l:List Pr},OM.Gb n ps l->l.length < 64:=λ{l} B=>zb h1 h8 B.wn (OM.gQ B.ris) λa ha=>irr a (B.sup _ ha)
 show fin (fS [.fz (.list (ps.map aK)),.no,.no,.no,.no,.no] 0)=_
 unfold fS
 have B0:=OM.An (ps:=ps) w
 have e0:f1 (gv 0) cM [.da (.list (ps.map aK)),.no,.no,.no,.no,.no] 0=.ok (.list ((OM.cg n (OM.Mem ps)).map aK)) 0:=cI rfl (nA h8 w (blen B0) rfl)
 rw[ax (env':=[.fz (.list (ps.map aK)),.fz (.list ((OM.cg n (OM.Mem ps)).map aK)),.no,.no,.no,.no]) (β':=0) ?h0]
 case h0=>
  show toS (f1 (gv 0) cM [.da (.list (ps.map aK)),.no,.no,.no,.no,.no] 0) _=_
  rw[e0];rfl
 rw[ax (env':=[.fz (.list (ps.map aK)),.fz (.list ((OM.cg n (OM.Mem ps)).map aK)),.fz (.int (-1)),.no,.no,.no]) (β':=0) (by rfl)]
 obtain⟨env',β',ew,rfl,x,sz,a,b,rfl⟩:=jn (L:=[] ++ []) (t:=dD (f2 (gv 2) (f1 (gv 1) c3) (dC true)))
  (m:=aH (bo 2 [] (f1 (gv 1) c3)) (aH (bo 3 [] (cG ah)) (aH (dO (.two 4 5) [1] (bu (gv 1)) (bo 3 ([] ++ ([] ++ [4])) (f2 (gv 3) (aP 2 [5,4] (.two 0 1) (bu (gv 1)) (dD (f2 (gv 0) (gv 2) (dC false))) (fF (aa (gv 3) (aa (gv 1) ah)))) jX))) (bo 1 ([] ++ []) (f1 (f2 (gv 1) (gv 3) jX) cM)))))
  (λk env β=>β=0/\∃(l:List Pr) (sz:Int) (x a b:Sl),env= [.fz (.list (ps.map aK)),.fz (.list (l.map aK)),.fz (.int sz),x,a,b]/\OM.Gb n ps l/\(sz= -1\/∃lp,OM.Gb n ps lp/\l=OM.kn n lp/\sz=lp.length)/\k=2 * (64 - l.length) + (if sz=l.length then 0 else 1))
  (λenv β=>β=0/\∃(x sz a b:Sl),env= [.fz (.list (ps.map aK)),.fz (.list ((OM.cg n (OM.Tr (OM.Mem ps))).map aK)),sz,x,a,b])
  (n:=1000) (k:=2 * (64 - (OM.cg n (OM.Mem ps)).length) + (if (-1:Int)=(OM.cg n (OM.Mem ps)).length then 0 else 1)) (env:=[.fz (.list (ps.map aK)),.fz (.list ((OM.cg n (OM.Mem ps)).map aK)),.fz (.int (-1)),.no,.no,.no]) (β:=0)
  (by split <;> omega) ⟨rfl,_,_,_,_,_,rfl,B0,.inl rfl,rfl⟩ (by
   rintro k env β ⟨rfl,l,sz,x,a,b,rfl,B,hsz,rfl⟩
   have hl:=blen B
   have et:dD (f2 (gv 2) (f1 (gv 1) c3) (dC true)) [.da (.list (ps.map aK)),.da (.list (l.map aK)),.da (.int sz),x.val,a.val,b.val] 0=.ok (!decide (sz=((l.map aK).length:Nat))) 0:=iG (neg:=true) rfl rfl
   rw[MI] at et
   refine⟨_,_,et,?_⟩
   by_cases c:sz=(l.length:Nat)
   ·refine .inl ⟨by rw[ME c];rfl,rfl,x,.fz (.int sz),a,b,?_⟩
    rcases hsz with h | ⟨lp,Bp,rfl,h⟩
    ·omega
    ·show [Sl.fz (.list (ps.map aK)),.fz (.list ((OM.kn n lp).map aK)),.fz (.int sz),x,a,b]=_
     rw[OM.A1 Bp (by omega)]
   ·refine .inr ⟨by rw[MK c];rfl,?_⟩
    obtain⟨B2,hs⟩:=OM.uT B
    have hl2:=blen B2
    have hge:l.length<=(OM.kn n l).length:=OM.pe (OM.gQ B.ris) hs
    have eturn:∃x' a' b':Sl,aH (bo 2 [] (f1 (gv 1) c3)) (aH (bo 3 [] (cG ah)) (aH (dO (.two 4 5) [1] (bu (gv 1)) (bo 3 ([] ++ ([] ++ [4])) (f2 (gv 3) (aP 2 [5,4] (.two 0 1) (bu (gv 1)) (dD (f2 (gv 0) (gv 2) (dC false))) (fF (aa (gv 3) (aa (gv 1) ah)))) jX))) (bo 1 ([] ++ []) (f1 (f2 (gv 1) (gv 3) jX) cM)))) [.fz (.list (ps.map aK)),.fz (.list (l.map aK)),.fz (.int sz),x,a,b] 0
      =.nx [.fz (.list (ps.map aK)),.fz (.list ((OM.kn n l).map aK)),.fz (.int (l.length:Nat)),x',a',b'] 0:=by
     rw[ax (env':=[.fz (.list (ps.map aK)),.fz (.list (l.map aK)),.fz (.int (l.length:Nat)),x,a,b]) (β':=0) ?g1]
     case g1=>
      show SO.nx [.fz (.list (ps.map aK)),.fz (.list (l.map aK)),.fz (.int ((l.map aK).length:Nat)),x,a,b] 0=_
      rw[MI]
     have e3:cG ah [.da (.list (ps.map aK)),.da (.list (l.map aK)),.da (.int (l.length:Nat)),x.val,a.val,b.val] 0=.ok (.list []) 0:=iL rfl (by simp)
     rw[ax (env':=[.fz (.list (ps.map aK)),.fz (.list (l.map aK)),.fz (.int (l.length:Nat)),.fz (.list []),a,b]) (β':=0) ?g2]
     case g2=>
      show toS (cG ah [.da (.list (ps.map aK)),.da (.list (l.map aK)),.da (.int (l.length:Nat)),x.val,a.val,b.val] 0) _=_
      rw[e3];rfl
     obtain⟨env2,β2,ef,rfl,a2,b2,rfl⟩:=dG (t:=.two 4 5) (m:=bo 3 ([] ++ ([] ++ [4])) (f2 (gv 3) (aP 2 [5,4] (.two 0 1) (bu (gv 1)) (dD (f2 (gv 0) (gv 2) (dC false))) (fF (aa (gv 3) (aa (gv 1) ah)))) jX)) (ds:=l.map aK) (k:=0)
      (λi env β=>β=0/\∃a b:Sl,env= [.fz (.list (ps.map aK)),.fz (.list (l.map aK)),.fz (.int (l.length:Nat)),.fz (.list (((l.take i).flatMap (v7 l)).map aK)),a,b]) (env:=[.fz (.list (ps.map aK)),.fz (.list (l.map aK)),.fz (.int (l.length:Nat)),.fz (.list []),a,b]) (β:=0) ⟨rfl,a,b,rfl⟩ (by
       rintro i d env β hi ⟨rfl,a,b,rfl⟩
       rw[MG] at hi
       cases q:l[i]? with
       |none=>rw[q] at hi;cases hi
       |some p=>
        rw[q] at hi
        cases hi
        have hil:i < l.length:=(MJ.mp q).1
        refine⟨[.fz (.list (ps.map aK)),.fz (.list (l.map aK)),.fz (.int (l.length:Nat)),.fz (.list (((l.take (0 + i)).flatMap (v7 l)).map aK)),.fz (.int p.1),.fz (.int p.2)],rfl,[.fz (.list (ps.map aK)),.fz (.list (l.map aK)),.fz (.int (l.length:Nat)),.fz (.list (((l.take (0 + i + 1)).flatMap (v7 l)).map aK)),.fz (.int p.1),.fz (.int p.2)],0,?_,rfl,_,_,rfl⟩
        have ec:aP 2 [5,4] (.two 0 1) (bu (gv 1)) (dD (f2 (gv 0) (gv 2) (dC false))) (fF (aa (gv 3) (aa (gv 1) ah))) [.da (.list (ps.map aK)),.da (.list (l.map aK)),.da (.int (l.length:Nat)),.da (.list (((l.take (0 + i)).flatMap (v7 l)).map aK)),.da (.int p.1),.da (.int p.2)] 0=.ok (.list ((v7 l p).map aK)) 0:=by
         rw[g7 (l:=l) (e:=aK) (λq=>decide (q.1=p.2)) (λq=>aK (p.1,q.2)) rfl (by omega) (β1:=0)]
         ·unfold v7;rw[Oe];rfl
         ·intro q hq
          refine⟨_,rfl,iG (neg:=false) (i:=q.1) (j:=p.2) rfl rfl,λ_=>?_⟩
          exact kK (ds:=[.int p.1,.int q.2]) rfl (by simp)
        have hk:(l.take (0 + i)).length<=63:=by rw[NN];omega
        have hfl:=vm l (l.take (0 + i))
        have hfl2:(l.take (0 + i)).length * l.length<=63 * 63:=N2 hk (by omega)
        have hm1:=y1 l p
        have e5:f2 (gv 3) (aP 2 [5,4] (.two 0 1) (bu (gv 1)) (dD (f2 (gv 0) (gv 2) (dC false))) (fF (aa (gv 3) (aa (gv 1) ah)))) jX [.da (.list (ps.map aK)),.da (.list (l.map aK)),.da (.int (l.length:Nat)),.da (.list (((l.take (0 + i)).flatMap (v7 l)).map aK)),.da (.int p.1),.da (.int p.2)] 0=.ok (.list (((l.take (0 + i + 1)).flatMap (v7 l)).map aK)) 0:=by
         refine aG rfl ec ?_
         rw[oh (by rw[MI,MI];omega),<-NM]
         have:l.take (0 + i + 1)=l.take (0 + i) ++ [p]:=by rw[Nt,Ol,q];rfl
         rw[this,List.flatMap_append,OG,List.flatMap_nil,Oc]
        show toS (f2 (gv 3) (aP 2 [5,4] (.two 0 1) (bu (gv 1)) (dD (f2 (gv 0) (gv 2) (dC false))) (fF (aa (gv 3) (aa (gv 1) ah)))) jX [.da (.list (ps.map aK)),.da (.list (l.map aK)),.da (.int (l.length:Nat)),.da (.list (((l.take (0 + i)).flatMap (v7 l)).map aK)),.da (.int p.1),.da (.int p.2)] 0) _=_
        rw[e5];rfl)
     rw[Nt,MI,N8 (My _)] at ef
     rw[ax (env':=[.fz (.list (ps.map aK)),.fz (.list (l.map aK)),.fz (.int (l.length:Nat)),.fz (.list ((l.flatMap (v7 l)).map aK)),a2,b2]) (β':=0) ?g3]
     case g3=>exact ef
     have hfl:=vm l l
     have hfl2:l.length * l.length<=63 * 63:=N2 (by omega) (by omega)
     have e6:f1 (f2 (gv 1) (gv 3) jX) cM [.da (.list (ps.map aK)),.da (.list (l.map aK)),.da (.int (l.length:Nat)),.da (.list ((l.flatMap (v7 l)).map aK)),a2.val,b2.val] 0=.ok (.list ((OM.kn n l).map aK)) 0:=by
      refine cI (x:=.list ((l ++ OM.more l).map aK)) (aG rfl rfl ?_) (nA h8 (OM.CF B) hl2 rfl)
      rw[oh (by rw[MI,MI];omega),<-NM];rfl
     refine⟨.fz (.list ((l.flatMap (v7 l)).map aK)),a2,b2,?_⟩
     show toS (f1 (f2 (gv 1) (gv 3) jX) cM [.da (.list (ps.map aK)),.da (.list (l.map aK)),.da (.int (l.length:Nat)),.da (.list ((l.flatMap (v7 l)).map aK)),a2.val,b2.val] 0) _=_
     rw[e6];rfl
    obtain⟨x',a',b',et2⟩:=eturn
    refine⟨_,_,_,et2,?_,rfl,_,_,_,_,_,rfl,B2,.inr ⟨l,B,rfl,rfl⟩,rfl⟩
    rw[MF c]
    split <;> omega)
 rw[ax ew]
 rfl
def vG (ms:List Int)(ps:List Pr):Prop:=∀p,p∈ps->∃i j:Nat,i < j/\ms[i]? =some p.1/\ms[j]? =some p.2
theorem pA {α:Type}:∀{l:List α} {i j:Nat} {x:α},l.Nodup->l[i]? =some x->l[j]? =some x->i=j
 | [],_,_,_,_,h,_=>by simp at h
 |y :: l,0,0,_,_,_,_=>rfl
 |y :: l,0,j + 1,x,nd,h1,h2=>by
  simp at h1
  subst h1
  exact absurd (MO (by simpa using h2)) (Nc.mp nd).1
 |y :: l,i + 1,0,x,nd,h1,h2=>by
  simp at h2
  subst h2
  exact absurd (MO (by simpa using h1)) (Nc.mp nd).1
 |y :: l,i + 1,j + 1,x,nd,h1,h2=>by
  rw[pA (l:=l) (i:=i) (j:=j) (Nc.mp nd).2 (by simpa using h1) (by simpa using h2)]
def Cz {ms:List Int}{ps:List Pr}(nd:ms.Nodup)(h:vG ms ps){a b:Int}(t:OM.Tr (OM.Mem ps) a b):∃i j:Nat,i < j/\ms[i]? =some a/\ms[j]? =some b:=by
 refine t.least (S:=λa b=>∃i j:Nat,i < j/\ms[i]? =some a/\ms[j]? =some b) (λa b r=>h _ r) ?_
 rintro a b c ⟨i,j,hij,h1,h2⟩ ⟨k,l,hkl,h3,h4⟩
 have:=pA nd h2 h3
 exact⟨i,l,by omega,h1,h4⟩
def AL {ms:List Int}{ps:List Pr}(nd:ms.Nodup)(h:vG ms ps)(a:Int):¬OM.Tr (OM.Mem ps) a a:=λt=>by
 obtain⟨i,j,hij,h1,h2⟩:=Cz nd h t
 have:=pA nd h1 h2
 omega
def eS (n:Nat):List Int:=(List.range n).map λ(k:Nat)=>(k:Int)
def bV (n:Nat):(eS n).length=n:=by unfold eS;simp
def a8 {n:Nat}{x:Int}:x∈eS n↔0<=x/\x < n:=by
 unfold eS
 rw[MM]
 constructor
 ·rintro⟨k,hk,rfl⟩
  have:=MX.mp hk
  omega
 ·intro h
  exact⟨x.toNat,MX.mpr (by omega),by omega⟩
def cQ (n:Nat):(eS n).Nodup:=by
 unfold eS
 rw[OE,NQ]
 exact (OE.mp OP).imp λ{a b} h e=>h (by omega)
def Aa (n:Nat):cZ 0 n=(eS n).map int:=by
 unfold cZ eS
 rw[Oe]
 refine NH λk _=>?_
 show int (0 + (k:Int))=_
 rw[Oh];rfl
theorem mq {lo:Int}{n i:Nat}{d:D}(h:(cZ lo n)[i]? =some d):i < n/\d=.int (lo + i):=by
 unfold cZ at h
 rw[MG] at h
 cases q:(List.range n)[i]? with
 |none=>rw[q] at h;cases h
 |some j=>
  rw[q] at h
  cases h
  obtain⟨hi,ej⟩:=MJ.mp q
  rw[Om] at hi
  rw[Pb] at ej
  subst ej
  exact⟨hi,rfl⟩
def vX {n:Nat}(h:n<=1000):gX (.int n)=some (.list ((eS n).map int)):=by
 unfold gX
 dsimp only
 rw[MA ⟨by omega,by omega⟩,M6,Aa]
def hV {fa:VF D}{vs:List Nv}{β β1:Int}{n:Nat}(h:fa vs β=.ok (.int n) β1)(hn:n<=1000):gq fa vs β=.ok (cZ 0 n) β1:=by
 unfold gq
 rw[h]
 simp only[lM]
 rw[MA (kQ (by omega) (by omega)),M6]
def Cg {fa fb:VF D}{vs:List Nv}{β β1 β2:Int}{i j:Int}(h:fa vs β=.ok (.int i) β1)(h':fb vs β1=.ok (.int j) β2)(hi:0<=i/\i<=1000)(hj:0<=j/\j<=1000):rn fa fb vs β=.ok (cZ i (j - i).toNat) β2:=by
 unfold rn
 rw[h]
 simp only[lM]
 rw[h']
 simp only[lM]
 rw[MA (by rw[kQ (by omega) (by omega),kQ (by omega) (by omega)];rfl)]
def c6 {t:Tg}{L:List Nat}{fi:VF (List D)}{m:SF}{env:En}{β β1:Int}{ds:List D}(h:fi (vl env) β=.ok ds β1):dO t L fi m env β=iZ t m ds (bq L env) β1:=by unfold dO;rw[h];rfl
noncomputable def tG:List D->Int->FB:=uA 8 1 (gC jg dv pP)
def zU {n:Nat}{ms:List Int}{ps:List Pr}(h1:1<=n)(h8:n<=8)(hp:ms.Perm (eS n))(ha:vG ms ps):OM.Wn n ps/\(∀a,¬OM.Tr (OM.Mem ps) a a)/\OM.Ord n (OM.cg n (OM.Tr (OM.Mem ps))):=by
 have nd:ms.Nodup:=hp.nodup_iff.mpr (cQ n)
 have w:OM.Wn n ps:=λp hm=>by
  obtain⟨i,j,_,e1,e2⟩:=ha p hm
  have m1:=a8.mp (hp.mem_iff.mp (MO e1))
  have m2:=a8.mp (hp.mem_iff.mp (MO e2))
  exact⟨m1,m2⟩
 have ir:=λa=>AL nd ha a
 exact⟨w,ir,OM.GZ h1 h8 w ir⟩
def kc {m:Nat}(h:1<=m)(h2:m<=1000)(β:Int):∃j:Nat,j < m/\dv [.int m] β=.ok (.int (j:Int)) false (β / m):=by
 refine⟨(β % m).toNat,?_,?_⟩
 ·have h0:=Int.emod_nonneg β (b:=(m:Int)) (by omega)
  have h3:=Int.emod_lt_of_pos β (b:=(m:Int)) (by omega)
  omega
 ·rw[tL (by omega) (by omega)]
  have h0:=Int.emod_nonneg β (b:=(m:Int)) (by omega)
  rw[show ((β % m).toNat:Int)=β % m by omega]
def Bc {most:Nat}(hm1:1<=most)(hm8:most<=8)(β:Int):∃(n:Nat) (l:List Pr) (β':Int),tG [.int most] β=.ok (aw n l) false β'/\OM.Ord n l/\n<=most:=by
 obtain⟨j,hj,ej⟩:=kc hm1 (by omega) β
 show ∃(n:Nat) (l:List Pr) (β':Int),Fm (gC jg dv pP [.bx,.fz (.int most),.no,.no,.no,.no,.no,.no] β)=.ok (aw n l) false β'/\OM.Ord n l/\n<=most
 unfold gC
 generalize hβ1:β / (most:Int)=β1 at ej
 have n8:1 + j<=8:=by omega
 have e1:f2 (cst (.int 1)) (mY 0 dv (aa (gv 1) ah)) cP [Nv.bx,.da (.int most),.no,.no,.no,.no,.no,.no] β=.ok (.int ((1 + j:Nat):Int)) β1:=by
  refine aG (x:=.int 1) rfl (ko (by rfl) rfl ej) ?_
  show some (int (1 + (j:Int)))=_
  rw[show ((1 + j:Nat):Int)=1 + (j:Int) by omega]
 rw[ax (env':=[.bx,.fz (.int most),.fz (.int ((1 + j:Nat):Int)),.no,.no,.no,.no,.no]) (β':=β1) ?g1]
 case g1=>
  show toS (f2 (cst (.int 1)) (mY 0 dv (aa (gv 1) ah)) cP [Nv.bx,.da (.int most),.no,.no,.no,.no,.no,.no] β) _=_
  rw[e1];rfl
 generalize hn:1 + j=n at n8
 have n1:1<=n:=by omega
 obtain⟨ms,β2,em,hp⟩:=Fi (eS n) (by rw[bV];omega) β1
 have hml:ms.length=n:=by rw[hp.length_eq,bV]
 have e2:mY 0 pP (aa (f1 (gv 2) gX) ah) [Nv.bx,.da (.int most),.da (.int n),.no,.no,.no,.no,.no] β1=.ok (.list (ms.map int)) β2:=by
  refine ko (ds:=[.list ((eS n).map int)]) (b:=true) (β1:=β1) (by rfl) ?_ em
  rw[c9,cI (x:=.int n) (d:=.list ((eS n).map int)) (β1:=β1) rfl (vX (by omega))];rfl
 rw[ax (env':=[.bx,.fz (.int most),.fz (.int n),.fz (.list (ms.map int)),.no,.no,.no,.no]) (β':=β2) ?g2]
 case g2=>
  show toS (mY 0 pP (aa (f1 (gv 2) gX) ah) [Nv.bx,.da (.int most),.da (.int n),.no,.no,.no,.no,.no] β1) _=_
  rw[e2];rfl
 obtain⟨q,hq,eq⟩:=kc (m:=4) (by omega) (by omega) β2
 obtain⟨th,hth,hthv⟩:∃th:Nat,([2,3,4,7]:List Nat)[q]? =some th/\1<=th/\th<=7:=by
  rcases (show q=0\/q=1\/q=2\/q=3 by omega) with rfl |rfl |rfl |rfl
  ·exact⟨2,rfl,by omega,by omega⟩
  ·exact⟨3,rfl,by omega,by omega⟩
  ·exact⟨4,rfl,by omega,by omega⟩
  ·exact⟨7,rfl,by omega,by omega⟩
 generalize hβ3:β2 / ((4:Nat):Int)=β3 at eq
 have e3:f2 (cG (aa (cst (.int 2)) (aa (cst (.int 3)) (aa (cst (.int 4)) (aa (cst (.int 7)) ah))))) (mY 0 dv (aa (cst (.int 4)) ah)) bR [Nv.bx,.da (.int most),.da (.int n),.da (.list (ms.map int)),.no,.no,.no,.no] β2=.ok (.int th) β3:=by
  refine aG (x:=.list (([2,3,4,7]:List Nat).map λ(k:Nat)=>int (k:Int))) (y:=.int q) (iL rfl (by simp)) (ko (ds:=[.int 4]) (by rfl) rfl eq) ?_
  show jk (([2,3,4,7]:List Nat).map λ(k:Nat)=>int (k:Int)) (q:Int)=_
  rw[cW,fR hth];rfl
 rw[ax (env':=[.bx,.fz (.int most),.fz (.int n),.fz (.list (ms.map int)),.fz (.int th),.no,.no,.no]) (β':=β3) ?g3]
 case g3=>
  show toS (f2 (cG (aa (cst (.int 2)) (aa (cst (.int 3)) (aa (cst (.int 4)) (aa (cst (.int 7)) ah))))) (mY 0 dv (aa (cst (.int 4)) ah)) bR [Nv.bx,.da (.int most),.da (.int n),.da (.list (ms.map int)),.no,.no,.no,.no] β2) _=_
  rw[e3];rfl
 have e4:cG ah [Nv.bx,.da (.int most),.da (.int n),.da (.list (ms.map int)),.da (.int th),.no,.no,.no] β3=.ok (.list []) β3:=iL rfl (by simp)
 rw[ax (env':=[.bx,.fz (.int most),.fz (.int n),.fz (.list (ms.map int)),.fz (.int th),.ow (.list []),.no,.no]) (β':=β3) ?g4]
 case g4=>
  show toS (cG ah [Nv.bx,.da (.int most),.da (.int n),.da (.list (ms.map int)),.da (.int th),.no,.no,.no] β3) _=_
  rw[e4];rfl
 obtain⟨env',β',ef,ps,a,b,rfl,hal,hpl⟩:=dG (t:=.nm 6) (m:=dO (.nm 7) (([] ++ []) ++ []) (rn (f2 (gv 6) (cst (.int 1)) cP) (gv 2))
   (g8 (([4] ++ []) ++ []) (dD (f2 (mY 0 dv (aa (gv 4) ah)) (cst (.int 0)) (dC false)))
   (nQ 5 (([] ++ []) ++ (([] ++ []) ++ [])) (fF (aa (f2 (gv 3) (gv 6) bR) (aa (f2 (gv 3) (gv 7) bR) ah)))) iQ)) (ds:=cZ 0 n) (k:=0)
  (λi env β=>∃(ps:List Pr) (a b:Sl),env= [.bx,.fz (.int most),.fz (.int n),.fz (.list (ms.map int)),.fz (.int th),.ow (.list (ps.map aK)),a,b]/\vG ms ps/\ps.length<=8 * i)
  (env:=[.bx,.fz (.int most),.fz (.int n),.fz (.list (ms.map int)),.fz (.int th),.ow (.list []),.no,.no]) (β:=β3) ⟨[],.no,.no,rfl,λp hp=>(by cases hp),by simp⟩ (by
   rintro i d env β hi ⟨ps,a,b,rfl,hal,hpl⟩
   obtain⟨hin,rfl⟩:=mq hi
   refine⟨[.bx,.fz (.int most),.fz (.int n),.fz (.list (ms.map int)),.fz (.int th),.ow (.list (ps.map aK)),.fz (.int (0 + (i:Int))),b],rfl,?_⟩
   have er:rn (f2 (gv 6) (cst (.int 1)) cP) (gv 2) [Nv.bx,.da (.int most),.da (.int n),.da (.list (ms.map int)),.da (.int th),.da (.list (ps.map aK)),.da (.int (0 + (i:Int))),b.val] β=.ok (cZ (0 + (i:Int) + 1) ((n:Int) - (0 + (i:Int) + 1)).toNat) β:=Cg rfl rfl ⟨by omega,by omega⟩ ⟨by omega,by omega⟩
   rw[c6 (env:=[.bx,.fz (.int most),.fz (.int n),.fz (.list (ms.map int)),.fz (.int th),.ow (.list (ps.map aK)),.fz (.int (0 + (i:Int))),b]) er]
   obtain⟨env',β',ef,qs,b,rfl,hal2,hql⟩:=dG (t:=.nm 7) (m:=g8 (([4] ++ []) ++ []) (dD (f2 (mY 0 dv (aa (gv 4) ah)) (cst (.int 0)) (dC false)))
     (nQ 5 (([] ++ []) ++ (([] ++ []) ++ [])) (fF (aa (f2 (gv 3) (gv 6) bR) (aa (f2 (gv 3) (gv 7) bR) ah)))) iQ) (ds:=cZ (0 + (i:Int) + 1) ((n:Int) - (0 + (i:Int) + 1)).toNat) (k:=0)
    (λk env β=>∃(qs:List Pr) (b:Sl),env= [.bx,.fz (.int most),.fz (.int n),.fz (.list (ms.map int)),.fz (.int th),.ow (.list (qs.map aK)),.fz (.int (0 + (i:Int))),b]/\vG ms qs/\qs.length<=8 * i + k)
    (env:=[.bx,.fz (.int most),.fz (.int n),.fz (.list (ms.map int)),.fz (.int th),.ow (.list (ps.map aK)),.fz (.int (0 + (i:Int))),b]) (β:=β) ⟨ps,b,rfl,hal,by omega⟩ (by
     rintro k d env β hk ⟨qs,b,rfl,hal,hql⟩
     obtain⟨hkn,rfl⟩:=mq hk
     have hkn:i + 1 + k < n:=by omega
     refine⟨[.bx,.fz (.int most),.fz (.int n),.fz (.list (ms.map int)),.fz (.int th),.ow (.list (qs.map aK)),.fz (.int (0 + (i:Int))),.fz (.int (0 + (i:Int) + 1 + (k:Int)))],rfl,?_⟩
     obtain⟨z,hz,ez⟩:=kc hthv.1 (by omega) β
     have et:dD (f2 (mY 0 dv (aa (gv 4) ah)) (cst (.int 0)) (dC false)) [Nv.bx,.da (.int most),.da (.int n),.da (.list (ms.map int)),.da (.int th),.da (.list (qs.map aK)),.da (.int (0 + (i:Int))),.da (.int (0 + (i:Int) + 1 + (k:Int)))] β=.ok (decide ((z:Int)=0)) (β / th):=iG (neg:=false) (ko (ds:=[.int th]) (by rfl) rfl ez) rfl
     by_cases c:(z:Int)=0
     ·rw[ME c] at et
      have h1:i < ms.length:=by omega
      have h2:i + 1 + k < ms.length:=by omega
      refine⟨[.bx,.fz (.int most),.fz (.int n),.fz (.list (ms.map int)),.fz (.int th),.ow (.list ((qs ++ [(ms[i],ms[i + 1 + k])]).map aK)),.fz (.int (0 + (i:Int))),.fz (.int (0 + (i:Int) + 1 + (k:Int)))],β / th,?_,qs ++ [(ms[i],ms[i + 1 + k])],_,rfl,?_,?_⟩
      ·rw[kg et]
       have ep:fF (aa (f2 (gv 3) (gv 6) bR) (aa (f2 (gv 3) (gv 7) bR) ah)) [Nv.bx,.da (.int most),.da (.int n),.da (.list (ms.map int)),.da (.int th),.da (.list (qs.map aK)),.da (.int (0 + (i:Int))),.da (.int (0 + (i:Int) + 1 + (k:Int)))] (β / th)=.ok (aK (ms[i],ms[i + 1 + k])) (β / th):=by
        refine kK (ds:=[.int ms[i],.int ms[i + 1 + k]]) ?_ (by simp)
        have a1:f2 (gv 3) (gv 6) bR [Nv.bx,.da (.int most),.da (.int n),.da (.list (ms.map int)),.da (.int th),.da (.list (qs.map aK)),.da (.int (0 + (i:Int))),.da (.int (0 + (i:Int) + 1 + (k:Int)))] (β / th)=.ok (.int ms[i]) (β / th):=by
         refine aG rfl rfl ?_
         show jk (ms.map int) (0 + (i:Int))=_
         rw[Oh,cW,jK h1];rfl
        have a2:f2 (gv 3) (gv 7) bR [Nv.bx,.da (.int most),.da (.int n),.da (.list (ms.map int)),.da (.int th),.da (.list (qs.map aK)),.da (.int (0 + (i:Int))),.da (.int (0 + (i:Int) + 1 + (k:Int)))] (β / th)=.ok (.int ms[i + 1 + k]) (β / th):=by
         refine aG rfl rfl ?_
         show jk (ms.map int) (0 + (i:Int) + 1 + (k:Int))=_
         rw[show (0 + (i:Int) + 1 + (k:Int))=((i + 1 + k:Nat):Int) by omega,cW,jK h2];rfl
        rw[c9,a1]
        dsimp only[R.bnd]
        rw[c9,a2];rfl
       have:=sy (i:=5) (L:=([] ++ []) ++ (([] ++ []) ++ [])) (env:=[.bx,.fz (.int most),.fz (.int n),.fz (.list (ms.map int)),.fz (.int th),.ow (.list (qs.map aK)),.fz (.int (0 + (i:Int))),.fz (.int (0 + (i:Int) + 1 + (k:Int)))]) (ds:=qs.map aK) (by rfl) ep (by rfl) (by rw[MI];omega)
       rw[NM]
       exact this
      ·intro p hp
       rcases M1.mp hp with hp |hp
       ·exact hal p hp
       ·have:p=(ms[i],ms[i + 1 + k]):=by simpa using hp
        subst this
        exact⟨i,i + 1 + k,by omega,Mu h1,Mu h2⟩
      ·rw[M5];simp;omega
     ·rw[MK c] at et
      refine⟨_,_,by rw[fU et];rfl,qs,_,rfl,hal,by omega⟩)
   have hlen:(cZ (0 + (i:Int) + 1) ((n:Int) - (0 + (i:Int) + 1)).toNat).length<=7:=by rw[i8];omega
   exact⟨_,_,ef,qs,_,b,rfl,hal2,by omega⟩)
 rw[ax (env':=[.bx,.fz (.int most),.fz (.int n),.fz (.list (ms.map int)),.fz (.int th),.ow (.list (ps.map aK)),a,b]) (β':=β') ?g5]
 case g5=>
  rw[c6 (env:=[.bx,.fz (.int most),.fz (.int n),.fz (.list (ms.map int)),.fz (.int th),.ow (.list []),.no,.no]) (hV (n:=n) rfl (by omega))]
  exact ef
 obtain⟨w,ir,O⟩:=zU n1 n8 hp hal
 refine⟨n,OM.cg n (OM.Tr (OM.Mem ps)),β',?_,O,by omega⟩
 have e9:fF (aa (gv 2) (aa (ak jg (aa (gv 5) ah)) ah)) [Nv.bx,.da (.int most),.da (.int n),.da (.list (ms.map int)),.da (.int th),.da (.list (ps.map aK)),a.val,b.val] β'=.ok (aw n (OM.cg n (OM.Tr (OM.Mem ps)))) β':=by
  refine kK (ds:=[.int n,.tuple ((OM.cg n (OM.Tr (OM.Mem ps))).map aK)]) ?_ (by simp)
  have a1:ak jg (aa (gv 5) ah) [Nv.bx,.da (.int most),.da (.int n),.da (.list (ms.map int)),.da (.int th),.da (.list (ps.map aK)),a.val,b.val] β'=.ok (.tuple ((OM.cg n (OM.Tr (OM.Mem ps))).map aK)) β':=aq rfl (AH n1 n8 w ir)
  rw[c9]
  show (R.ok (int n) β').bnd _=_
  dsimp only[R.bnd]
  rw[c9,a1];rfl
 show Fm (toS (fF (aa (gv 2) (aa (ak jg (aa (gv 5) ah)) ah)) [Nv.bx,.da (.int most),.da (.int n),.da (.list (ms.map int)),.da (.int th),.da (.list (ps.map aK)),a.val,b.val] β') _)=_
 rw[e9];rfl
theorem y2 (p:Pr):∀l:List Pr,((l.map aK).any λe=>PyData.eqv e (aK p))=decide (p∈l)
 | []=>rfl
 |q :: l=>by
  rw[Nj,Oo,y2 p l,Cv,Nx]
  simp only[O0,MT,MB]
  exact⟨λh=>h.imp Eq.symm id,λh=>h.imp Eq.symm id⟩
def ET (l:List Pr):(l.map aK).all SeqAt.shaped=true:=by
 rw[MS]
 intro d hd
 obtain⟨p,_,rfl⟩:=MM.mp hd
 exact rN p
def yK (neg:Bool)(p:Pr)(l:List Pr):Dx neg (aK p) (.tuple (l.map aK))=some (.bool (if neg then !decide (p∈l) else decide (p∈l))):=by
 unfold Dx
 simp only[ll,rN,ET,OD,NC,y2]
def oz (neg:Bool)(i j:Int):dC neg (.int i) (.int j)=some (.bool (if neg then !decide (i=j) else decide (i=j))):=rfl
def pZ {fa fb:VF D}{vs:List Nv}{β:Int}{a b:Int}(h:fa vs β=.ok (.int a) β)(h':fb vs β=.ok (.int b) β):fF (aa fa (aa fb ah)) vs β=.ok (aK (a,b)) β:=by
 refine kK (ds:=[.int a,.int b]) ?_ (by simp)
 rw[c9,h]
 dsimp only[R.bnd]
 rw[c9,h'];rfl
def Kc (l:List Pr)(p:Pr):Bool:= !decide (p.1=p.2) && (!decide ((p.1,p.2)∈l) && !decide ((p.2,p.1)∈l))
def IZ {n:Nat}{l:List Pr}{fa:VF D}{vs:List Nv}{β:Int}(h:fa vs β=.ok (aw n l) β):f2 fa (cst (.int 1)) bR vs β=.ok (.tuple (l.map aK)) β:=aG h rfl rfl
def Ha {n:Nat}{l:List Pr}{fa:VF D}{vs:List Nv}{β:Int}(h:fa vs β=.ok (aw n l) β):f2 fa (cst (.int 0)) bR vs β=.ok (.int n) β:=aG h rfl rfl
def tS:List D->FR:=bp 1 1 gx
def EI {n:Nat}(h1:1<=n)(h8:n<=8):tS [.int n]=.ok (.list ((OM.bQ n).map aK)) true:=by
 have hm:n * n<=64:=N2 h8 h8
 have e:aP 1 [0] (.nm 0) (gq (f2 (gv 0) (gv 0) eB)) ij (fF (aa (f2 (gv 0) (gv 1) AY) (aa (f2 (gv 0) (gv 1) lB) ah))) [.da (.int n)] 0=.ok (.list ((OM.bQ n).map aK)) 0:=by
  have hi:gq (f2 (gv 0) (gv 0) eB) [.da (.int n)] 0=.ok ((List.range (n * n)).map λ(k:Nat)=>int (0 + (k:Int))) 0:=by
   refine hV (n:=n * n) (aG (x:=.int n) (y:=.int n) rfl rfl ?_) (by omega)
   rw[m9 ⟨by omega,by omega⟩];rfl
  rw[bB (l:=List.range (n * n)) (e:=λ(k:Nat)=>int (0 + (k:Int))) (λk=>aK (((k / n:Nat):Int),((k % n:Nat):Int))) hi (by rw[Om];omega) λk hk=>⟨_,rfl,?_⟩]
  ·unfold OM.bQ;rw[Oe];rfl
  ·refine pZ (aG (x:=.int (0 + (k:Int))) (y:=.int n) rfl rfl ?_) (aG (x:=.int (0 + (k:Int))) (y:=.int n) rfl rfl ?_)
   ·rw[yp (by omega) (by omega),Oh];rfl
   ·rw[nj (by omega),Oh];rfl
 show fin (gx [.fz (.int n)] 0)=_
 unfold gx
 rw[Ct,show vl [Sl.fz (.int n)]= [.da (.int n)] from rfl,e];rfl
def Kk (n:Nat)(l:List Pr):List Pr:=(OM.bQ n).filter (Kc l)
def i4 (n:Nat):(OM.bQ n).length=n * n:=by unfold OM.bQ;simp
def oo {n:Nat}{l:List Pr}{p:Pr}:p∈Kk n l↔((0<=p.1/\p.1 < n)/\(0<=p.2/\p.2 < n))/\Kc l p=true:=by
 unfold Kk;rw[ML,OM.bC]
def ie {fa:VF D}{vs:List Nv}{β:Int}{c:Bool}(h:fa vs β=.ok (.bool c) β):la fa vs β=.ok c β:=by rw[sO,h];rfl
end RM
namespace L2
open PySem PySem.Spec PyProof.Rows
section
variable {X:Cx}{pins:List (Addr×Obj)}{σ:St}{H:Hp}{s:Shared}
def Inv.turnedL {t':Nat}{ch:List Addr}{h':Heap}(I:Inv X pins σ H s)(k:∀b o,b∉ch->s.heap.get? b=some o->h'.get? b=some o)(hf:∀b∈ch,mT X pins H b):Inv X pins σ H {s with heap:=h',toks:=t'}:=by
 have nit:∀b u,H b=some u->b∉ch:=λb u e z=>by rw[(hf b z).1] at e;cases e
 have nL:X.env.locals∉ch:=λz=>(hf _ z).2.1 rfl
 refine I.step (g':=s.gens) (d':=s.drawn) (ch:=ch) (λb hb=>?_) (λb o _ _ hc e _=>k b o hc e) (λb o _ _ hc e _=>⟨o.slots,k b o hc e⟩) (λ_ _ _ _ n=>n)
  (λb o hc e=>⟨o,k b o hc e⟩) (λ_ _ e=>e) (λ_ _ _ e=>e) (λb ps e=>⟨#[],by rw[e];simp⟩) (λm hm=>?_) (λb u e=>?_) I.bare
 ·obtain⟨f0,f1,f2,f3,f4,f5⟩:=hf b hb
  exact⟨f3,f1,f4,f5⟩
 ·obtain⟨o,es,ep,ho,r⟩:=hm
  exact⟨o,es,ep,k _ o nL ho,r⟩
 ·refine (I.hok b u e).stay (λc v hc q=>k c v ?_ q) (λ_ q=>q) λ_ _ q=>q
  rcases hc with z |z
  ·rw[z];exact nit b u e
  ·exact nit c _ z
end
def IX {n:Nat}(i j:Nat)(h:(i == j)=false):(n + i:Nat)≠n + j:=by
 have:i≠j:=by simpa using h
 omega
section
variable {κ:Type}[DecidableEq κ]
def Ef (kvs:List (κ×V))(k:κ):Option V:=(kvs.find? λkv=>decide (kv.1=k)).map (·.2)
def putK (kvs:List (κ×V))(k:κ)(v:V):List (κ×V):=
 if (kvs.any λkv=>decide (kv.1=k))=true then kvs.map (λkv=>if kv.1=k then (kv.1,v) else kv) else kvs ++ [(k,v)]
theorem KV.any {kvs:List (κ×V)}{vs:List (κ×Value)}(r:KV kvs vs)(k:κ):(kvs.any λkv=>decide (kv.1=k))=vs.any λkv=>decide (kv.1=k):=by
 unfold KV at r
 induction r with
 |nil=>rfl
 |cons h t ih=>rw[Oo,Oo,ih,h.1]
end
def FO (H:Hp)(a:Addr)(y:V)(r:Option V):Prop:=
 (∃kvs k,Rd H a (.dK kvs)/\y=kV k/\r=Ef kvs k)\/∃kvs k b,Rd H a (.dT kvs)/\y=.ref b/\Rd H b (.tup (k.map kV))/\r=Ef kvs k
def E6 (H:Hp)(a:Addr)(y v:V)(H':Hp):Prop:=
 (∃kvs k,H a=some (.dK kvs)/\y=kV k/\kvs.length < sizeLine/\H'=upd H a (.dK (putK kvs k v)))\/
 ∃kvs k b,H a=some (.dT kvs)/\y=.ref b/\Rd H b (.tup (k.map kV))/\kvs.length < sizeLine/\H'=upd H a (.dT (putK kvs k v))
def FO.k {H:Hp}{a:Addr}{kvs:List (Key×V)}{k:Key}(e:H a=some (.dK kvs)):FO H a (kV k) (Ef kvs k):=.inl ⟨kvs,k,.inl e,rfl,rfl⟩
def FO.t {H:Hp}{a b:Addr}{kvs:List (List Key×V)}{k:List Key}(e:H a=some (.dT kvs))(eb:Rd H b (.tup (k.map kV))):FO H a (.ref b) (Ef kvs k):=.inr ⟨kvs,k,b,.inl e,rfl,eb,rfl⟩
def E6.k {H:Hp}{a:Addr}{kvs:List (Key×V)}{k:Key}{v:V}(e:H a=some (.dK kvs))(hl:kvs.length < sizeLine):E6 H a (kV k) v (upd H a (.dK (putK kvs k v))):=.inl ⟨kvs,k,e,rfl,hl,rfl⟩
def E6.t {H:Hp}{a b:Addr}{kvs:List (List Key×V)}{k:List Key}{v:V}(e:H a=some (.dT kvs))(eb:Rd H b (.tup (k.map kV)))(hl:kvs.length < sizeLine) :
  E6 H a (.ref b) v (upd H a (.dT (putK kvs k v))):=.inr ⟨kvs,k,b,e,rfl,eb,hl,rfl⟩
section
variable {X:Cx}{pos:Pos}
end
mutual
def IW:D->Bool
 | .list ds=>Dr ds
 | .tuple ds=>Dr ds
 | .dict kvs=> !kvs.isEmpty && kvs.all λkv=>match kv.1,kv.2 with
  | .str _,.int _=>true
  |_,_=>false
 |_=>true
def Dr:List D->Bool
 | []=>true
 |d :: ds=>IW d && Dr ds
end
section
variable {prog:Program}{w:World}{A:Around}{E:Value->Shared->Prop}{s:Shared}{it t:Addr}{i:Nat}{xs:Array Value}{Q:Value->Shared->Prop}
theorem LI (hi:s.heap.IsTupleIter it t i)(ht:s.heap.IsTuple t xs)
  (k1:∀x,xs[i]? =some x->∀h',h'.IsTupleIter it t (i + 1)->Heap.SameBut it s.heap h'->Q x {s with heap:=h'})
  (k2:xs[i]? =none->A.handled=none/\∀h' e,Heap.ExtBut it s.heap h'->(∃o,h'.get? e=some o/\o.cls=.type "StopIteration")->E (.ref e) {s with heap:=h'}) :
  wpAny (model prog w) A (Builtin.SmallTypes.nextOf (.ref it)) Q E s:=by
 obtain⟨o,ho,hc,hd⟩:=id hi
 obtain⟨ol,hol, -,nl,hdl⟩:=ht
 refine Mv (OU (name:=Str.ofString "__next__") hi.typeIs F.slot_tuple_iterator_next (N9 F.slot_tuple_iterator_next hi.typeIs F.entry_tuple_iterator_next ?_ (F.args_tuple_iterator_next_1 _)))
 refine (show wpAny _ _ (field (.ref it) 0 >>= _) _ _ s from Mv (OL ho hd (x:=.ref t) rfl ?_))
 refine (show wpAny _ _ (if (Value.ref t == Value.none)=true then _ else _) _ _ s from ?_)
 rw[MF (by exact M9)]
 refine (show wpAny _ _ (field (.ref it) 1 >>= _) _ _ s from Mv (OL ho hd (x:=.int i 0) rfl ?_))
 refine (show wpAny _ _ (seqItems? (.ref t) >>= _) _ _ s from Mv (wpAny_seqItems hol hdl ?_))
 cases hx:xs[i]? with
 |some x=>
  simp only[M6,hx]
  refine Mv (Ov ho hd (by simp) (Mz ⟨x,rfl,Mz (k1 x hx _ ?_ (Heap.SameBut.update ..))⟩))
  refine⟨_,Nw _ ho (Obj.isFreed_of_fields (Pc hd _)),(Obj.cls_mapFields ..).trans hc,?_⟩
  rw[Pc hd]
  simp[rawInt]
 |none=>
  obtain⟨hh,hE⟩:=k2 hx
  simp only[M6,hx]
  refine Mv (wpAny_rule (Mv (Ov ho hd (by simp) (show wpAny _ _ (newExc (.type "StopIteration") [] >>= _) _ _ _ from Mv ?_))))
  simp only[newExc,newTuple]
  refine Mv (NI (Mv (m:=firstArgMember _ _) (wpAny_of_eq (a:=Value.none) (by first |rfl | (simp only[firstArgMember];rfl)) (NI ?_ (by size_fits)))) (by size_fits))
  simp only[raiseNew]
  refine Mv (wpAny_handled ?_)
  have hh':A.in1.handled=none:=hh
  first |rw[hh'] |rw[hh]
  exact Mv (Mz (wpAny_throw (hE _ _ (((Heap.SameBut.update ..).extBut.push _).push _) ⟨_,MN _ rfl,rfl⟩)))
def GP (hh:A.handled=none)(hne:t≠it)(xs:Array Value):Draws prog w A it [it,t] xs.size (λi v=>xs[i]? =some v) (λi h=>h.IsTupleIter it t i/\h.IsTuple t xs) where
 live:=λ_ _ st=>let ⟨o,ho,_⟩:=st.1;⟨o,ho⟩
 frame:=λ_ _ _ st hk=>⟨st.1.at λo e=>hk it (by simp) o e,st.2.at λo e=>hk t (by simp) o e⟩
 item:=λi s Q E hi st k=>LI st.1 st.2 (λx hx h' q1 q2=>k x h' s.toks hx ⟨q1,st.2.extBut q2.extBut hne⟩ q2) λz=>by simp at z;omega
 done:=λs Q E st k=>LI st.1 st.2 (λx hx=>by simp at hx) λ_=>⟨hh,k⟩
end
abbrev Hg (t:Addr):Obj:={cls:=.type "tuple_iterator",data:=.fields #[.ref t,.int 0 0]}
abbrev KH (it:Addr):Obj:={cls:=.type "enumerate",data:=.fields #[.none,.bool false,.ref it,rawInt 0,.none,.none]}
def Cy (t:Addr)(xs:Array Value)(n:Nat)(dc:Option Addr)(sl:Array (Option Value)) :
  Meets (Builtin.«enumerate.__new__» ⟨[.type "enumerate",.ref t],[]⟩) (λ_ R s=>s.heap.get? t=some ⟨.type "tuple",dc,.seq xs n,sl⟩/\
   R (.ok (.ret (.ref (s.heap.push (Hg t)).objs.size))) {s with heap:=(s.heap.push (Hg t)).push (KH s.heap.objs.size)}):=by
 refine .of_wp λprog w A R s h=>?_
 obtain⟨hp,g,d,tk,os⟩:=s
 obtain⟨hl,h⟩:=h
 have sb:=sub_enumerate
 have hT:Heap.IsTuple (Shared.heap ⟨hp,g,d,tk,os⟩) t xs:=⟨_,hl,rfl,n,rfl⟩
 wp_walk using Pe hl
 refine wpAny_stack_any λst=>Mz ?_
 split
 ·rename_i c _ _ _ _ _
  cases (c == Value.type "enumerate") <;> (wp_walk using Pe hl,OZ hT;exact⟨_,rfl,h⟩)
 ·wp_walk using Pe hl,OZ hT
  exact⟨_,rfl,h⟩
section
variable {prog:Program}{w:World}{A:Around}{E:Value->Shared->Prop}{s:Shared}
def xK {t:Addr}{xs:Array Value}{Q:Value->Shared->Prop}(hT:s.heap.IsTuple t xs)
  (k:∀h',IsEnum h' (s.heap.objs.size + 1) s.heap.objs.size 0 .none->h'.IsTupleIter s.heap.objs.size t 0->(∀b o,s.heap.get? b=some o->h'.get? b=some o)->Q (.ref (s.heap.objs.size + 1)) {s with heap:=h'}) :
  wpAny (model prog w) A (call (.type "enumerate") [.ref t]) Q E s:=by
 obtain⟨⟨c,dc,dt,sl⟩,hl,hc,n,hd⟩:=hT
 have hc:c=.type "tuple":=hc
 have hd:dt=.seq xs n:=hd
 subst hc hd
 refine callType_new F.called_enumerate (by decide) (F.typeCall_enumerate_1 _) (F.newCall_enumerate_1 _) (λob=>F.args_object_init_2 ob _) F.entry_enumerate_new (Cy t xs n dc sl) ⟨hl,?_⟩
 have hz:(s.heap.push (Hg t)).objs.size=s.heap.objs.size + 1:=N1 ..
 have g2:((s.heap.push (Hg t)).push (KH s.heap.objs.size)).get? (s.heap.push (Hg t)).objs.size=some (KH s.heap.objs.size):=MN _ rfl
 have g1:((s.heap.push (Hg t)).push (KH s.heap.objs.size)).get? s.heap.objs.size=some (Hg t):=Mw _ (MN _ rfl)
 rw[hz] at g2
 show _/\_
 rw[hz]
 exact⟨⟨_,g2,rfl⟩,k _ g2 ⟨_,g1,rfl,rfl⟩ λb o e=>Mw _ (Mw _ e)⟩
end
def IB {prog:Program}{w:World}{A:Around}{it t:Addr}{xs:Array Value}(hh:A.handled=none)(i:Nat)(hx:xs[i]? =none):Draws prog w A it [it,t] i (λ_ _=>False) (λj h=>j=i/\h.IsTupleIter it t i/\h.IsTuple t xs) where
 live:=λ_ _ st=>let ⟨o,ho,_⟩:=st.2.1;⟨o,ho⟩
 frame:=λ_ _ _ st hk=>⟨st.1,st.2.1.at λo e=>hk it (by simp) o e,st.2.2.at λo e=>hk t (by simp) o e⟩
 item:=λj s Q E hi st k=>absurd st.1 (by omega)
 done:=λs Q E st k=>LI st.2.1 st.2.2 (λx h=>by rw[hx] at h;cases h) λ_=>⟨hh,k⟩
def K4 (K:Frag)(a:Addr):It:=
 ⟨λi H=>∃xs x,eV K H a xs/\xs[i]? =some x,
  λi H v H'=>∃x t,H t=none/\(∀xs,eV K H a xs->xs[i]? =some x)/\v=.ref t/\H'=upd H t (.tup [.int i,x]),
  λi H=>∃xs,eV K H a xs/\xs.length<=i⟩
abbrev qV (n:Nat):List Nat:=[n + 1,n]
def Ab {h:Heap}{a n:Addr}{i:Nat}{its:Array Value}{b:Addr}(p:h.IsTuple a its)(q:h.IsTupleIter n b i):a≠n:=λz=>by
 subst z
 obtain⟨o,e,c,_⟩:=p
 obtain⟨o',e',c',_⟩:=q
 rw[e] at e';cases e'
 rw[c] at c'
 simp at c'
def AB {h:Heap}{a n it:Addr}{i:Int}{its:Array Value}{old:Value}(p:h.IsTuple a its)(q:IsEnum h n it i old):n≠a:=λz=>by
 subst z
 obtain⟨o,e,c,_⟩:=p
 rw[q] at e;cases e
 simp at c
def wO {P:Program}{w:World}{K:Frag}{elts:List Expr}{x1}{pos:Pos}(a:Addr)(n:Nat):Turn P w K (.Tuple elts x1 pos) (K4 K a) (qV n) (n + 1)
  (λi h=>(∃old,IsEnum h (n + 1) n i old)/\h.IsTupleIter n a i) where
 mem:=by simp
 obj:=λi h st c hc=>by
  obtain⟨⟨old,z1⟩,⟨o2,z2,_,d2⟩⟩:=st
  simp only[qV,MB,Np,Of] at hc
  rcases hc with rfl |rfl
  ·exact⟨_,z1,λv z=>by
    have z':Data.fields _=Data.cell v:=z
    cases z'⟩
  ·exact⟨o2,z2,λv z=>by rw[d2] at z;cases z⟩
 keep:=λi h h' st k=>by
  obtain⟨⟨old,z1⟩,z2⟩:=st
  exact⟨⟨old,k _ (by simp) _ z1⟩,z2.at λo e=>k _ (by simp) o e⟩
 item:=by
  intro X hP hw hK hc i pins s σ H E I hf st hg
  subst hP hw hK
  obtain⟨xs,x,ha,hx⟩:=hg
  obtain⟨its,rv,p,hz⟩:=I.tuple ha
  have p:s.heap.IsTuple a its.toArray:=p
  obtain⟨u0,hu0,ru0⟩:=rv.get hx
  obtain⟨⟨old,z1⟩,z2⟩:=st
  have hh:X.A.in1.handled=none:=I.ok.hd hc
  have hlt:i < its.toArray.size:=by
   have:=MJ.mp hu0
   simpa using this.1
  refine wpAny_pyNext_enum_itemD (GP hh (Ab p z2) its.toArray) z1 ⟨z2,p⟩ hlt (IX 1 0 rfl) (by
   simp only[MB,Np,Of,not_or]
   exact⟨IX 1 0 rfl,AB p z1⟩) λu h' tk hu q1 q2 q3 q4 q5=>?_
  have eu:u0=u:=by
   have hu:its.toArray[i]? =some u:=hu
   rw[OA,hu0] at hu
   exact Option.some.inj hu
  subst eu
  refine⟨_,rfl,wpAny_letOwnedTupleGo_enum (s:={s with heap:=h',toks:=tk + 1}) q1 λh2 r1 r2=>?_⟩
  have r2:∀c,c≠n + 1->h2.get? c=h'.get? c:=r2.2
  have lz:n + 1 < s.heap.objs.size:=MH z1
  have hT:H s.heap.objs.size=none:=I.hok.fresh (My _)
  have I1:Inv X pins σ (upd H s.heap.objs.size (.tup [.int i,x])) {s with heap:=s.heap.push {cls:=.type "tuple",data:=.seq #[.int i tk,u0]},toks:=s.toks}:=
   I.laid (λb o e=>Mw _ e) (My _) ⟨by show 2<=sizeLine;rw[Na];omega,[.int i tk,u0],.cons ⟨tk,rfl⟩ (.cons ru0 .nil),qK.new _ _⟩
  have hf':∀c∈qV n,mT X pins (upd H s.heap.objs.size (.tup [.int i,x])) c:=λc hc=>⟨by
   rw[aF (λz=>?_)]
   ·exact (hf c hc).1
   ·subst z
    simp only[qV,MB,Np,Of] at hc
    omega,(hf c hc).2⟩
  have I2:Inv X pins σ (upd H s.heap.objs.size (.tup [.int i,x])) {s with heap:=h2,toks:=tk + 1}:=by
   refine I1.turnedL (ch:=qV n) (λc o hc e=>?_) hf'
   have e:(s.heap.push {cls:=.type "tuple",data:=.seq #[.int i tk,u0]}).get? c=some o:=e
   simp only[qV,MB,Np,Of,not_or] at hc
   rw[r2 c hc.1]
   by_cases z:c=s.heap.objs.size
   ·subst z
    rw[MN _ rfl] at e
    rw[<-e];exact q3
   ·refine q5 c o hc.1 hc.2 ?_
    rw[Pl _ _ _ z] at e
    exact e
  refine⟨.ref s.heap.objs.size,_,I2,rfl,⟨x,_,hT,λxs' h'=>?_,rfl,rfl⟩,⟨⟨u0,r1⟩,q2.1.at λo e=>(r2 _ (IX 0 1 rfl)).trans e⟩,λc hc=>(hf' c hc).1⟩
  rw[I.tuple_inj h' ha];exact hx
 done:=by
  intro X hP hw hK hc i pins s σ H E I hf st hg
  subst hP hw hK
  obtain⟨xs,ha,hl⟩:=hg
  obtain⟨its,rv,p,hz⟩:=I.tuple ha
  obtain⟨⟨old,z1⟩,z2⟩:=st
  have hh:X.A.in1.handled=none:=I.ok.hd hc
  have l1:=rv.length
  refine wpAny_pyNext_enum_endD (IB hh i (xs:=its.toArray) (by simp;omega)) z1 ⟨rfl,z2,p⟩ λh' q=>⟨rfl,?_⟩
  refine I.turnedL (t':=s.toks) (ch:=qV n) (λc o hc e=>?_) hf
  simp only[qV,MB,Np,Of,not_or] at hc
  exact q c o hc.2 e
 self:=λ_ _ _ _ _ st h=>by
  obtain⟨⟨old,z1⟩,_⟩:=st
  exact Pn z1 h
def Mp (K:Frag)(ta:TA):TI:=λσ H R=>ta σ H λvs H2=>∃a xs,vs= [.ref a]/\eV K H2 a xs/\R (K4 K a) H2
def qU:bootBuiltins "enumerate"=some (.type "enumerate"):=by decide +kernel
section
variable {X:Cx}
theorem HS {a:Expr}{ta:TA}{p pos pt:Pos}{elts:List Expr}{x1}(hg:Gl X "enumerate")(hm:X.mg "enumerate"=none)(ha:PA X [a] ta)(hs:starEach [a] X.env= [(false,eval a X.env)]:=by rfl) :
  PI X (.Tuple elts x1 pt) (.Call (.Name "enumerate" p) [a] [] pos) (Mp X.K ta):=by
 intro pins s σ H R I h
 refine Call_ (kj I hg hm qU (NT (cv (ha pos pins s σ H _ I h) λus s1 ⟨vs,H1,I1,r1,q1⟩=>?_) hs rfl))
 obtain⟨a,xs,e,h1,q⟩:=q1
 subst e
 cases r1 with
 |cons r rr=>
  cases rr
  cases r
  obtain⟨its,rv,p1,hz⟩:=I1.tuple h1
  refine xK (show s1.heap.IsTuple a its.toArray from p1) λh' z1 z2 z3=>?_
  refine Pn z1 ⟨_,qV s1.heap.objs.size,_,_,H1,rfl,I1.kept (t':=s1.toks) z3,wO a s1.heap.objs.size,⟨⟨_,z1⟩,z2⟩,λc hc=>?_,q⟩
  have:s1.heap.objs.size<=c:=by
   simp only[qV,MB,Np,Of] at hc
   rcases hc with rfl |rfl <;> first |exact My _ |exact Nat.le_add_right _ _
  exact I1.fpOk this (I1.hok.fresh this)
end
section
variable {X:Cx}{Γ:Fx}{E:XK}{e a b c:Expr}{f fa fb:VF D}{L La Lb:List Nat}{md ma mb:Md}{pos:Pos}
def dE (ds:List D):List D:=ds.mapIdx λi d=>.tuple [.int i,d]
def Dd (fa:VF D):VF (List D):=λvs β=>(fa vs β).bnd λx β1=>match x with
 | .tuple ds=>.ok (dE ds) β1
 |_=>.bad
def Ds {K:Frag}{B:Option Addr}{G H1:Hp}{p:Addr}{xs:List V}{ds:List D}(hp:eV K G p xs)(r:b5 K G xs ds):Walk K B G H1 (dE ds) (K4 K p):=λGc H i s1 s2 m=>by
 have hp':=hp.grow (s1.trans s2).grow
 have l1:=r.len
 have lz:(dE ds).length=ds.length:=by unfold dE;rw[List.length_mapIdx]
 refine⟨λhi=>⟨?_,λx H' y=>?_⟩,λhi=>⟨xs,hp',by omega⟩⟩
 ·have h1:i < xs.length:=by omega
  exact⟨xs,xs[i],hp',by simp[h1]⟩
 ·obtain⟨x,t,ht,hx,rfl,rfl⟩:=y
  obtain⟨d,ed,rd⟩:=r.at' (hx xs hp')
  have xn:=Ext.new s2 (o:=.tup [.int i,x]) ht
  refine⟨upd Gc t (.tup [.int i,x]),.tuple [.int i,d],xn,?_,.tup (.inl (.inl aC)) (.cons (.int i) (.cons (rd.mono (s1.trans xn.gg)) .nil))⟩
  unfold dE
  rw[O8,ed];rfl
theorem A2 {p pt:Pos}{elts:List Expr}{x1}(hK:X.K=Γ.K)(hg:Gl X "enumerate")(hm:X.mg "enumerate"=none)(ha:SE X Γ E a fa La ma)(hs:starEach [a] X.env= [(false,eval a X.env)]:=by rfl)(hs':starEach [a] X.env=(false,eval a X.env) :: starEach [] X.env:=by rfl) :
  SI X Γ E (.Tuple elts x1 pt) (.Call (.Name "enumerate" p) [a] [] pos) (Dd fa) La md:=by
 refine PI.post (HS hg hm (aO ha bA hs') hs) ?_
 rintro σ H Q ⟨env,G,B,β,I,o⟩
 refine⟨env,G,B,β,I,o.bnd.imp λd1 β1 h x G1 H1 I1 s1 m1 vx=>?_⟩
 have vx:=vx.brw I.boxThere
 rw[hK]
 cases d1 with
 |tuple ds=>
  rcases vx with vx | ⟨p,rfl,hb,q⟩
  ·cases vx with
   | @tup p xs _ hq r=>exact⟨p,xs,rfl,hq.grow I1.sub.grow,h _ G1 H1 I1 s1 m1 (Ds hq r)⟩
  ·exact q.elim
 |_=>exact h.elim
end
end L2
section
namespace HT
open PySem PyProof.Rows PySem.Builtin PyProof
theorem uH {α β:Type}{f g:α->Option β}:∀{l:List α},(∀m,m∈l->f m=g m)->l.filterMap f=l.filterMap g
 | [],_=>rfl
 |x :: l,h=>by rw[Ot,Ot,h x (MC ..),uH λm hm=>h m (MD _ hm)]
def zk {α:Type}(xs:Array α):((List.range xs.size).filterMap λ(m:Nat)=>xs[(((xs.size:Int) - 1) + (m:Int) * (-1)).toNat]?)=xs.toList.reverse:=by
 have e:∀m,m∈List.range xs.size->xs[(((xs.size:Int) - 1) + (m:Int) * (-1)).toNat]? =xs.toList.reverse[m]?:=λm hm=>by
  have hm:=MX.mp hm
  rw[List.getElem?_reverse (by simpa using hm)]
  have:(((xs.size:Int) - 1) + (m:Int) * (-1)).toNat=xs.toList.length - 1 - m:=by simp;omega
  rw[this]
  simp
 have e2:((List.range xs.size).filterMap λ(m:Nat)=>xs[(((xs.size:Int) - 1) + (m:Int) * (-1)).toNat]?)=(List.range xs.toList.reverse.length).filterMap λm=>xs.toList.reverse[m]?:=by
  rw[List.length_reverse,OR]
  exact uH e
 rw[e2]
 generalize xs.toList.reverse=l
 clear e e2
 apply OF
 intro i
 have key:∀n,n<=l.length->(List.range n).filterMap (λm=>l[m]?)=l.take n:=by
  intro n
  induction n with
  |zero=>intro _;simp
  |succ n ih=>
   intro hn
   rw[List.range_succ,List.filterMap_append,ih (by omega),List.take_succ,Mu (by omega)]
   simp[Mu (show n < l.length by omega)]
 rw[key l.length (My _),List.take_length]
section
variable {prog:Program}{w:World}{A:Around}{E:Value->Shared->Prop}{s:Shared}
def rX {sl:Addr}{vs:Value}{n:Nat}{Q:Int×Int×Nat->Shared->Prop}(hs:s.heap.IsSliceOf sl .none .none vs)(ps:IsPart vs (some (-1)))(h:Q (((n:Int) - 1), -1,n) s):wpAny (model prog w) A (Builtin.Slice.sliceApplied (.ref sl) (pure (n:Int))) Q E s:=by
 obtain⟨os,hos,hcs,hds⟩:=id hs
 unfold Builtin.Slice.sliceApplied Builtin.Slice.sliceFields
 refine Mv (Mv (OL hos hds (x:=.none) rfl (Mv (OL hos hds (x:=.none) rfl (Mv (OL hos hds (x:=vs) rfl (Mz ?_)))))))
 refine Mv (wG ps ?_)
 show wpAny _ _ (if ((-1:Int) == 0)=true then _ else _) _ _ s
 rw[MF (by decide)]
 refine Mv (slicePart_none (Mv (slicePart_none (Mv (Mz ?_)))))
 show wpAny _ _ (pure (((n:Int) - 1),(-1:Int),Builtin.Slice.slicePlaces ((n:Int) - 1) (-1) (-1))) _ _ s
 have e:Builtin.Slice.slicePlaces ((n:Int) - 1) (-1) (-1)=n:=by
  unfold Builtin.Slice.slicePlaces
  have h1:¬((-1:Int) > 0):=by omega
  simp only[h1,Nk]
  rw[show (- (-1:Int))=1 by rfl,Int.ediv_one]
  split <;> omega
 rw[e]
 exact Mz h
def lx {t sl:Addr}{items:Array Value}{vs:Value}{Q:Value->Shared->Prop}(ht:IsTup s.heap t items)(hs:s.heap.IsSliceOf sl .none .none vs)(ps:IsPart vs (some (-1)))
  (h:Q (.ref s.heap.objs.size) {s with heap:=s.heap.push {cls:=.type "tuple",data:=.seq items.toList.reverse.toArray}})
  (hsz:items.size<=sizeLine):wpAny (model prog w) A (getItem (.ref t) (.ref sl)) Q E s:=by
 have htake:sizeOk (.seq items.toList.reverse.toArray):=by
  show items.toList.reverse.toArray.size<=sizeLine
  simpa using hsz
 obtain⟨os,hos,hcs,hds⟩:=id hs
 have hTs:s.TypeIs (.ref sl) "slice":=⟨os,hos,hcs⟩
 unfold getItem
 try with_reducible refine NR ?_
 first |refine Mv (Mz ?_) |skip
 refine Mv (wpAny_sequenceKey ht.typeIs (by decide) ?_)
 refine Mv (OU (name:=Str.ofString "__getitem__") ht.typeIs OT
  (N9 OT ht.typeIs entry_tuple_getitem ?_ (args_tuple_getitem _ _)))
 show wpAny _ _ (Builtin.Tuple.tupleItemsOf (.ref t) >>= _) _ _ s
 refine Mv (tupleItemsOf_ ht ?_)
 refine Mv (wpAny_typeOf hTs ?_)
 rw[MA (by decide)]
 refine Mv (rX hs ps ?_)
 have hno:¬(((((items.size:Nat):Int) - 1) == 0 && (-1:Int) == 1 && items.size == items.size)=true):=by
  intro q
  rw[MP,MP] at q
  exact absurd q.1.2 (by decide)
 show wpAny _ _ (if ((((items.size:Nat):Int) - 1) == 0 && (-1:Int) == 1 && items.size == items.size)=true then _ else _) _ _ s
 rw[MF hno,zk]
 first
  |exact Mv (m:=Builtin.Tuple.tupleExact _) (NI (Mz ⟨_,rfl,Mz h⟩) htake)
  |exact Mv (m:=Builtin.Tuple.tupleExact _) (NI (Mv (Mz (Mz ⟨_,rfl,Mz h⟩))) htake)
  |exact Mv (Mv (m:=Builtin.Tuple.tupleExact _) (NI (Mz (Mz ⟨_,rfl,Mz h⟩)) htake))
  |exact Mv (Mv (m:=Builtin.Tuple.tupleExact _) (NI (Mz ⟨_,rfl,Mz h⟩) htake))
end
end HT
namespace L2
open PySem PySem.Spec PyProof.Rows
section
variable {X:Cx}{Γ:Fx}{E:XK}{e a:Expr}{te:TE}{fa:VF D}{La:List Nat}{ma:Md}{pos p2 p3 p4:Pos}{j:Nat}
def EM (he:PE X e te):PE X (.Subscript e (.Slice none none (some (.UnaryOp .USub (.Constant (.int 1) j p3) p4)) p2) pos) (λσ H Q=>te σ H λx H1=>∃a xs,x=.ref a/\eV X.K H1 a xs/\∀l,H1 l=none->Q (.ref l) (upd H1 l (.tup xs.reverse))):=by
 intro pins s σ H Q I h
 refine Subscript_ (cv (he pins s σ H _ I h) λv s1 ⟨x,H1,I1,r1,q1⟩=>?_)
 obtain⟨a,xs,rfl,hx,q⟩:=q1
 cases r1
 refine wpAny_Slice ?_
 rw[evalPart_none]
 refine Mz (Mz ?_)
 refine cv (xZ (Gg tR rZ) pins s1 σ H1 (λo H2=>o=some (-1)/\H2=H1) I1 ⟨1,rfl, -1,rfl,rfl,rfl⟩) λvs s2 ⟨o,H2,I2,ps,q2,q3⟩=>?_
 subst q2 q3
 have I3:Inv X pins σ H2 {s2 with heap:=s2.heap.push {cls:=.type "slice",data:=.fields #[.none,.none,vs]}}:=I2.kept (t':=s2.toks) λb ob q=>Mw _ q
 obtain⟨its,r,ht,hz⟩:=I3.tuple hx
 have hlen:its.toArray.size=xs.length:=by rw[MW];exact r.length.symm
 show wpAny (model X.prog X.w) X.A (subscriptTail e (.Slice none none (some (.UnaryOp .USub (.Constant (.int 1) j p3) p4)) p2) (.ref a) (.ref s2.heap.objs.size)) (EP X pins σ Q) X.xe {s2 with heap:=s2.heap.push {cls:=.type "slice",data:=.fields #[.none,.none,vs]}}
 refine tail_any (ops:=[.ref a,.ref s2.heap.objs.size]) ht.typeIs OT.lookup ?_ (by with_unfolding_all rfl)
 refine HT.lx ht (Heap.IsSliceOf.new ..) ps ?_ (by rw[hlen];exact hz)
 refine⟨.ref _,_,I3.laid (t':=s2.toks) (o:=.tup xs.reverse) (λb ob q=>Mw _ q) (My _) ?_,rfl,q _ (I3.hok.fresh (My _))⟩
 exact⟨by rw[List.length_reverse];exact hz,_,r.reverse,qK.new _ _⟩
theorem b5.reverse {K:Frag}{G:Hp}:∀{xs:List V} {ds:List D},b5 K G xs ds->b5 K G xs.reverse ds.reverse
 |_,_,.nil=>.nil
 |_,_,.cons h hs=>by rw[Pg,Pg];exact (b5.reverse hs).snoc h
def AM:D->Option D
 | .tuple ds=>some (.tuple ds.reverse)
 |_=>none
theorem Ez (hK:X.K=Γ.K)(ha:SE X Γ E a fa La ma):SE X Γ E (.Subscript a (.Slice none none (some (.UnaryOp .USub (.Constant (.int 1) j p3) p4)) p2) pos) (f1 fa AM) La .v:=by
 refine PE.post' (EM ha) ?_
 rintro σ H Q ⟨env,G,B,β,I,o⟩
 refine⟨env,G,B,β,I,o.bnd.imp λd1 β1 h x G1 H1 I1 s1 m1 vx=>?_⟩
 have bx:=vx.brw I.boxThere
 obtain⟨d,e,k⟩:=h.of
 cases d1 with
 |tuple ds=>
  cases e
  obtain⟨p,xs,rfl,hq,r⟩:=bx.tuple I1.sub
  rw[hK]
  refine⟨p,xs,rfl,hq,λl hl=>?_⟩
  have x:=Ext.new I1.sub (o:=.tup xs.reverse) hl
  exact k _ _ _ (I1.ext x) (s1.trans x.gg) (m1.trans (x.hh.mov B)) (.tup (.inl (.inl aC)) ((r.reverse).mono x.gg))
 |_=>cases e
end
end L2
end
namespace L2.ST
open PySem PySem.SetTable
section
variable {prog:Program}{w:World}{A:Around}{E:Value->Shared->Prop}{s:Shared}
set_option maxHeartbeats 3200000 in
theorem qE {l:Addr}{vs:List Value}{ns:List Int}{T:String}{itO:Obj}{St:Addr->Nat->Heap->Prop}{Q:Value->Shared->Prop}(X:Src prog w s.heap l vs T itO St)(hh:A.handled=none)(hi:PyProof.Rows.IntsAre vs ns)(hb:vs.length + 1 < scanBound)
  (h:∀(h':Heap) (tk:Nat),h'.SetOf (intKind prog w) s.heap.objs.size (λk'=>(PyProof.Rows.firstMet (λi=>ns.getD i 0) vs.length).any (· == k')) (PyProof.Rows.firstMet (λi=>ns.getD i 0) vs.length).length->(∀b o,s.heap.get? b=some o->h'.get? b=some o)->Q (.ref s.heap.objs.size) {s with heap:=h',toks:=tk}) :
  wpAny (model prog w) A (call (.type "set") [.ref l]) Q E s:=by
 obtain⟨c0,tl0,hmro0⟩:=NG.mro
 have hmade0:=NG.made
 have hsub0:=NG.sub
 refine wpAny_call (codeAny_of_tree ?_)
 show wpAny _ _ (callAny (.type "set") ⟨[.ref l],[]⟩) _ _ _
 refine Mz ⟨Code.quiet_builtin _ (by decide +kernel),OB F.entry_type_call ?_⟩
 (rw[Around.under_plain (weight_type_call_type "set" [.ref l] []) rfl])
 have g1:=NG.notType
 have g2:=NG.canCreate
 have g3:=F.typeCall_set_1 (.ref l)
 repeat (any_goals (first |assumption |wp_step))
 refine OO (nG (.ref l) (E:=E) (Q1:=λobj s1=>obj=.ref s.heap.objs.size/\s1={s with heap:=s.heap.push {cls:=.type "set",dict:=none,data:=.set #[] 0 (.fresh 0 0 (fV w))}}) ⟨rfl,rfl⟩) λr s1 hr=>?_
 cases r with
 |error e=>exact hr
 |ok fl=>
  cases fl with
  |ret obj=>
   obtain⟨rfl,rfl⟩:=hr
   generalize hO:({cls:=.type "set",dict:=none,data:=.set #[] 0 (.fresh 0 0 (fV w))}:Obj)=O
   have hS0:(s.heap.push O).get? s.heap.objs.size=some O:=MN _ (by rw[<-hO];rfl)
   have hT0:Shared.TypeIs {s with heap:=s.heap.push O} (.ref s.heap.objs.size) "set":=⟨_,hS0,by rw[<-hO]⟩
   have g4:=NG.init.lookup
   have g5:=NG.init.bind (.ref s.heap.objs.size)
   repeat (any_goals (first |assumption |wp_step))
   refine OO (codeAny_call_builtin (R:=wants (λr s2=>r=.none/\∃h' tk,s2={s with heap:=h',toks:=tk}/\h'.SetOf (intKind prog w) s.heap.objs.size (λk'=>(PyProof.Rows.firstMet (λi=>ns.getD i 0) vs.length).any (· == k')) (PyProof.Rows.firstMet (λi=>ns.getD i 0) vs.length).length/\(∀b o,s.heap.get? b=some o->h'.get? b=some o)) E)
    NG.init.plain F.entry_set_init (check_set_init_1 hT0 ?_)) λr2 s2 hr2=>?_
   ·obtain⟨ol,hol,hcl⟩:=X.ty
    have hol':(s.heap.push O).get? l=some ol:=Mw _ hol
    have e1:=X.ns
    have e2:=X.nf
    have e3:=X.nd
    have hTl:Shared.TypeIs {s with heap:=s.heap.push O} (.ref l) T:=⟨ol,hol',hcl⟩
    have hdat:O.data=.set #[] 0 (.fresh 0 0 (fV w)):=by rw[<-hO]
    (unfold Builtin.«set.__init__» noKeywords Builtin.Frozenset.updateFrom)
    subst hO
    obtain⟨oc,od,odt,osl⟩:=ol
    simp only at hcl
    subst hcl
    (generalize hPI0:pyIter=PI0)
    wp_walk
    subst hPI0
    have kp:∀b o,s.heap.get? b=some o->(s.heap.push {cls:=.type "set",dict:=none,data:=.set #[] 0 (.fresh 0 0 (fV w))}).get? b=some o:=λb o e=>Mw _ e
    refine X.it _ _ _ _ kp ?_
    refine Mv (wpAny_runValue ?_)
    have hlS:l < s.heap.objs.size:=MH hol
    have hh3:A.in1.in1.in1.handled=none:=by simp[hh]
    have hneI:l≠(s.heap.push {cls:=.type "set",dict:=none,data:=.set #[] 0 (.fresh 0 0 (fV w))}).objs.size:=by
     rw[N1];exact M7 (Nat.lt_succ_of_lt hlS)
    have hSf:s.heap.objs.size∉ [(s.heap.push {cls:=.type "set",dict:=none,data:=.set #[] 0 (.fresh 0 0 (fV w))}).objs.size,l]:=by
     rw[N1]
     intro z
     rcases MB.mp z with e |z
     ·exact absurd e (M7 (Nat.lt_succ_self _))
     ·exact absurd (MZ.mp z) (Nat.ne_of_gt hlS)
    refine PyProof.Rows.codeAny_set_update_loopS ((X.wk _ _ hh3 hneI).toS) s.heap.objs.size hSf (λi=>ns.getD i 0) (λi v e=>PyProof.Rows.IntsAre.int_at hi i v e) hb (vs.length - 0) 0 _ (by omega) (Nd _) (X.st _ kp) ?_ ?_
    ·exact PyProof.Rows.SetOf_congr ((PyProof.Rows.setObjOf_fresh (knd:=intKind prog w) (fV w)).setOf (Mw _ hS0) (by unfold scanBound;omega)) (λ_=>rfl) rfl
    ·intro s' hm F'
     obtain⟨h',g',d',tk,os'⟩:=s'
     have eg:g'=s.gens:=hm.gens
     have ed:d'=s.drawn:=hm.drawn
     have eo:os'=s.os:=hm.os
     subst eg;subst ed;subst eo
     show wpAny _ _ _ _ _ _
     refine Mz ?_
     show wpAny _ _ (ret Value.none) _ _ _
     refine Mz ⟨rfl,h',tk,rfl,F',λb o e=>hm.heap b o (λz=>?_) (Mw _ (kp b o e))⟩
     have hlt:=MH e
     rw[N1] at z
     rcases MB.mp z with z |z
     ·exact absurd hlt (by rw[z];exact Nh _)
     ·rw[MZ.mp z] at hlt
      exact absurd hlt (Nat.not_lt.mpr (Nat.le_succ _))
   ·cases r2 with
    |error e=>exact hr2
    |ok fl2=>
     cases fl2 with
     |ret r=>
      obtain⟨rfl,h',tk,rfl,hF,hk⟩:=hr2
      repeat (any_goals (first |assumption |wp_step))
      exact h _ _ hF hk
     |_=>exact hr2.elim
  |_=>exact hr.elim
end
end L2.ST
namespace L2
open PySem PyProof.Rows
section
variable {X:Cx}{K:Frag}{pins:List V}{σ:St}{H:Hp}{s:Shared}{E:XK}
def Ka (ns:List Int)(k:Int):Bool:=(firstMet (λi=>ns.getD i 0) ns.length).any (· == k)
def qi (ns:List Int):Nat:=(firstMet (λi=>ns.getD i 0) ns.length).length
def Ga (K:Frag):List V->Hp->VK->Prop:=λxs H Q=>∃a ns,xs= [.ref a]/\(eY K H a (ns.map V.int)\/eV K H a (ns.map V.int))/\ns.length<=1000/\∀S,H S=none->Q (.ref S) (upd H S (.set (Ka ns) (qi ns)))
def Ae (hc:X.calm=true):cL X (.type "set") (Ga X.K):=by
 intro pins s σ H xs us Q I r h
 obtain⟨a,ns,rfl,hq,hz,q⟩:=h
 obtain⟨u,rfl,rx⟩:=vals1 r
 cases rx
 have hh:=I.ok.hd hc
 have core:∀{its:List Value} {T:String} {itO:Obj} {St:Addr->Nat->Heap->Prop},Vals (ns.map V.int) its->L2.ST.Src X.prog X.w s.heap a its T itO St->wpAny (model X.prog X.w) X.A (call (.type "set") [.ref a]) (EP X pins σ Q) X.xe s:=λ{its T itO St} rv src=>by
  have hl:its.length=ns.length:=by rw[<-rv.length,MI]
  refine L2.ST.qE src hh (intsAre_of rv) (by unfold scanBound;omega) λh' tk F k=>?_
  rw[hl] at F
  exact⟨.ref _,_,I.laid (t':=tk) (o:=.set (Ka ns) (qi ns)) k (My _) F,rfl,q _ (I.hok.fresh (My _))⟩
 rcases hq with hq |hq
 ·obtain⟨its,rv,pl,hz⟩:=I.list hq
  exact core rv (L2.ST.Src.list pl.isList)
 ·obtain⟨its,rv,pl,hz⟩:=I.tuple hq
  exact core rv (L2.ST.Src.tuple pl)
def Ak:cL X (.builtin "len") (λxs H Q=>∃S f n,xs= [.ref S]/\H S=some (.set f n)/\Q (.int n) H):=by
 intro pins s σ H xs us Q I r h
 obtain⟨S,f,n,rfl,hS,q⟩:=h
 obtain⟨u,rfl,rx⟩:=vals1 r
 cases rx
 obtain⟨o,es,ep,t,ho,hex,hd,_,_,hb,hf,e⟩:s.heap.SetOf (intKind X.prog X.w) S f n:=I.hok _ _ hS
 refine call_len_set ho hex hd hf (by unfold scanBound at hb;omega) ⟨.int n,H,I.tok _,⟨_,by rw[e]⟩,q⟩
def ot (d:D):Option D:=match ll d with
 |some ds=>(match eZ ds with
  |some ns=>if ns.length<=1000 then some (.int (qi ns)) else none
  |none=>none)
 |none=>none
theorem b5.intsB {G:Hp}:∀{ns:List Int} {xs:List V},b5 K G xs (ns.map int)->xs=ns.map V.int
 | [],_,.nil=>rfl
 |n :: ns,_,.cons r t=>by cases r;rw[b5.intsB t];rfl
variable {Γ:Fx}{e a b c:Expr}{f fa fb fc:VF D}{L La Lb:List Nat}{md ma mb mc:Md}{pos:Pos}
theorem AI {p1 p2 pos2:Pos}(hc:X.calm=true)(hK:X.K=Γ.K)(hg:Gl X "len")(hm:X.mg "len"=none)(hg2:Gl X "set")(hm2:X.mg "set"=none)(ha:SE X Γ E a fa La ma)
  (he:starEach [a] X.env=(false,eval a X.env) :: starEach [] X.env:=by rfl)
  (he2:starEach [.Call (.Name "set" p2) [a] [] pos2] X.env=(false,eval (.Call (.Name "set" p2) [a] [] pos2) X.env) :: starEach [] X.env:=by rfl) :
  SE X Γ E (.Call (.Name "len" p1) [.Call (.Name "set" p2) [a] [] pos2] [] pos) (f1 fa ot) La .v:=by
 refine PE.post' (jd Ak hg hm (by decide +kernel) (aO (gK (Ae hc) hg2 hm2 (by decide +kernel) (aO ha bA he) (by decide) (by decide) he) bA he2) (by decide) (by decide) he2) λσ H Q ⟨env,G,B,β,I,o⟩=>?_
 refine gG (r:=λx H1 Q=>Ga X.K [x] H1 λy H2=>∃S f n,[y]= [V.ref S]/\H2 S=some (.set f n)/\Q (.int n) H2) ?_ I o
 intro B G H x dx d Q s hB bx e k
 rw[hK]
 unfold ot at e
 cases q:ll dx with
 |none=>rw[q] at e;cases e
 |some ds=>
  rw[q] at e
  dsimp only at e
  cases q2:eZ ds with
  |none=>rw[q2] at e;cases e
  |some ns=>
   rw[q2] at e
   dsimp only at e
   split at e
   ·rename_i hz
    cases e
    obtain⟨p,xs,rfl,hq,r⟩:=bx.seq q s
    rw[kf q2] at r
    have r:=r.intsB
    subst r
    exact⟨p,ns,rfl,hq,hz,λS hS=>⟨S,_,_,rfl,aC,k _ _ _ (Ext.own s hS) (.int _)⟩⟩
   ·cases e
end
end L2
namespace L2
open PySem
section
variable {K:Frag}{h:Heap}{mg:Str->Option Value}
theorem Az {α:Type}{P:List α->Prop}(q:∀a,P [a]):∀us:List α,us.length=1->P us
 | [a],_=>q a
theorem ln2 {α:Type}{P:List α->Prop}(q:∀a b,P [a,b]):∀us:List α,us.length=2->P us
 | [a,b],_=>q a b
theorem Mq {α:Type}{P:List α->Prop}(q:∀a b c,P [a,b,c]):∀us:List α,us.length=3->P us
 | [a,b,c],_=>q a b c
theorem Mn {α:Type}{P:List α->Prop}(q:∀a b c d,P [a,b,c,d]):∀us:List α,us.length=4->P us
 | [a,b,c,d],_=>q a b c d
def bc (x:Str)(st:Stmt)(ps:List Str):Prop:=∀(kV doc pm:Value) (an:Option Addr) (cdv ct:Value) (us:List Value),us.length=ps.length->bindArgs (PySem.W.fnOf x x (iF st) (cY st) (ay st) .none kV doc pm an cdv ct) ⟨us,[]⟩=pure (ps.zip us)
structure Fo (K:Frag)(mg:Str->Option Value)(x:Str)(st:Stmt)(ps:List Str):Prop where
 ex:∃f fd,jl K mg x st ps f fd
def bN {x:Str}{st:Stmt}{ps:List Str}{f:Addr}{oc:Value}{od an:Option Addr}{sl:Array (Option Value)}{kV doc pm cdv ct:Value}(X:K.In h)(G:h.Ns mainGlobals mg)(b:bc x st ps)(a:PySem.W.nsIn K mainGlobals x=some (some (.ref f)))
  (l:K.lookup f=some ⟨oc,od,.func (PySem.W.fnOf x x (iF st) (cY st) (ay st) .none kV doc pm an cdv ct),sl⟩) (c:PySem.W.codeIn K cdv x=true) (k:PySem.W.keepIn K (.ref f)=true):Fo K mg x st ps:=
 ⟨⟨f,_,Oq X G a,xV l c k,(xV l c k).binds b⟩⟩
def K1:List Str:=["len","range","enumerate","zip","min","max","sum","abs","sorted","reversed","int","str","bool","list","tuple","dict","set","isinstance","repr","any","all","divmod"]
def LK (K:Frag):Bool:=K1.all λx=>match PySem.W.nsIn K mainGlobals x with
 |some none=>true
 |_=>false
def HN (q:LK K=true){x:Str}(hx:x∈K1):PySem.W.nsIn K mainGlobals x=some none:=by
 have:=MS.mp q x hx
 split at this
 ·assumption
 ·cases this
def Kr (X:K.In h)(G:h.Ns mainGlobals mg)(q:LK K=true):jr mg:=by
 have key:∀{x:Str},x∈K1->mg x=none:=λhx=>PySem.W.mg_none_of X G (HN q hx)
 constructor <;> exact key (by decide)
end
section
variable {X:Cx}{P:Program}{w:World}{K:Frag}{mg:Str->Option Value}{base:Heap}{ca:Str->Addr}
def Ao:lO X (compareOp .IsNot) (λx y H Q=>∃a b,x=.bl a/\y=.bl b/\Q (.bl (!(a == b))) H):=by
 intro pins s σ H x y v u Q I rx ry h
 obtain⟨a,b,rfl,rfl,q⟩:=h
 cases rx;cases ry
 refine wpAny_isNot_plain rfl (Hf I q ?_)
 cases a <;> cases b <;> rfl
def Gx:D->D->Option D
 | .bool a,.bool b=>some (.bool (!(a == b)))
 |_,_=>none
theorem Bd:mG K (λx y H Q=>∃a b,x=.bl a/\y=.bl b/\Q (.bl (!(a == b))) H) Gx .v:=by
 intro B G H x y dx dy d Q s hB bx bv e k
 cases dx with
 |bool a=>
  cases dy with
  |bool b=>cases e;obtain rfl:=bx.bool;obtain rfl:=bv.bool;exact⟨a,b,rfl,rfl,k _ G H (Ext.refl s) (.bl _)⟩
  |_=>cases e
 |_=>cases e
end
end L2
namespace L2
open PySem PySem.Spec PyProof.Rows
def Fw {prog:Program}{w:World}{A:Around}{it t:Addr}{xs:Array Value}(hh:A.handled=none)(i:Nat)(hx:xs[i]? =none):Draws prog w A it [it,t] i (λ_ _=>False) (λj h=>j=i/\h.IsListIter it t i/\h.IsList t xs) where
 live:=λ_ _ st=>let ⟨o,ho,_⟩:=st.2.1;⟨o,ho⟩
 frame:=λ_ _ _ st hk=>⟨st.1,st.2.1.at λo e=>hk it (by simp) o e,st.2.2.at λo e=>hk t (by simp) o e⟩
 item:=λj s Q E hi st k=>absurd st.1 (by omega)
 done:=λs Q E st k=>wpAny_nextOf_list_end hh st.2.1 st.2.2 hx k
def Ic (K:Frag)(a:Addr):It:=
 ⟨λi H=>∃xs x,eY K H a xs/\xs[i]? =some x,
  λi H v H'=>∃x t,H t=none/\(∀xs,eY K H a xs->xs[i]? =some x)/\v=.ref t/\H'=upd H t (.tup [.int i,x]),
  λi H=>∃xs,eY K H a xs/\xs.length<=i⟩
def Ai {h:Heap}{a n:Addr}{i:Nat}{its:Array Value}{b:Addr}(p:h.IsList a its)(q:h.IsListIter n b i):a≠n:=λz=>by
 subst z
 obtain⟨o,e,c,_⟩:=p
 obtain⟨o',e',c',_⟩:=q
 rw[e] at e';cases e'
 rw[c] at c'
 simp at c'
def Ag {h:Heap}{a n it:Addr}{i:Int}{its:Array Value}{old:Value}(p:h.IsList a its)(q:IsEnum h n it i old):n≠a:=λz=>by
 subst z
 obtain⟨o,e,c,_⟩:=p
 rw[q] at e;cases e
 simp at c
def xk {P:Program}{w:World}{K:Frag}{elts:List Expr}{x1}{pos:Pos}(a:Addr)(n:Nat):Turn P w K (.Tuple elts x1 pos) (Ic K a) (qV n) (n + 1)
  (λi h=>(∃old,IsEnum h (n + 1) n i old)/\h.IsListIter n a i) where
 mem:=by simp
 obj:=λi h st c hc=>by
  obtain⟨⟨old,z1⟩,⟨o2,z2,_,d2⟩⟩:=st
  simp only[qV,MB,Np,Of] at hc
  rcases hc with rfl |rfl
  ·exact⟨_,z1,λv z=>by
    have z':Data.fields _=Data.cell v:=z
    cases z'⟩
  ·exact⟨o2,z2,λv z=>by rw[d2] at z;cases z⟩
 keep:=λi h h' st k=>by
  obtain⟨⟨old,z1⟩,z2⟩:=st
  exact⟨⟨old,k _ (by simp) _ z1⟩,z2.at λo e=>k _ (by simp) o e⟩
 item:=by
  intro X hP hw hK hc i pins s σ H E I hf st hg
  subst hP hw hK
  obtain⟨xs,x,ha,hx⟩:=hg
  obtain⟨its,rv,p,hz⟩:=I.list ha
  have p:s.heap.IsList a its.toArray:=p.isList
  obtain⟨u0,hu0,ru0⟩:=rv.get hx
  obtain⟨⟨old,z1⟩,z2⟩:=st
  have hh:X.A.in1.handled=none:=I.ok.hd hc
  have hlt:i < its.toArray.size:=by
   have:=MJ.mp hu0
   simpa using this.1
  refine wpAny_pyNext_enum_itemD (Draws.list hh n a (Ai p z2) its.toArray) z1 ⟨z2,p⟩ hlt (IX 1 0 rfl) (by
   simp only[MB,Np,Of,not_or]
   exact⟨IX 1 0 rfl,Ag p z1⟩) λu h' tk hu q1 q2 q3 q4 q5=>?_
  have eu:u0=u:=by
   have hu:its.toArray[i]? =some u:=hu
   rw[OA,hu0] at hu
   exact Option.some.inj hu
  subst eu
  refine⟨_,rfl,wpAny_letOwnedTupleGo_enum (s:={s with heap:=h',toks:=tk + 1}) q1 λh2 r1 r2=>?_⟩
  have r2:∀c,c≠n + 1->h2.get? c=h'.get? c:=r2.2
  have lz:n + 1 < s.heap.objs.size:=MH z1
  have hT:H s.heap.objs.size=none:=I.hok.fresh (My _)
  have I1:Inv X pins σ (upd H s.heap.objs.size (.tup [.int i,x])) {s with heap:=s.heap.push {cls:=.type "tuple",data:=.seq #[.int i tk,u0]},toks:=s.toks}:=
   I.laid (λb o e=>Mw _ e) (My _) ⟨by show 2<=sizeLine;rw[Na];omega,[.int i tk,u0],.cons ⟨tk,rfl⟩ (.cons ru0 .nil),qK.new _ _⟩
  have hf':∀c∈qV n,mT X pins (upd H s.heap.objs.size (.tup [.int i,x])) c:=λc hc=>⟨by
   rw[aF (λz=>?_)]
   ·exact (hf c hc).1
   ·subst z
    simp only[qV,MB,Np,Of] at hc
    omega,(hf c hc).2⟩
  have I2:Inv X pins σ (upd H s.heap.objs.size (.tup [.int i,x])) {s with heap:=h2,toks:=tk + 1}:=by
   refine I1.turnedL (ch:=qV n) (λc o hc e=>?_) hf'
   have e:(s.heap.push {cls:=.type "tuple",data:=.seq #[.int i tk,u0]}).get? c=some o:=e
   simp only[qV,MB,Np,Of,not_or] at hc
   rw[r2 c hc.1]
   by_cases z:c=s.heap.objs.size
   ·subst z
    rw[MN _ rfl] at e
    rw[<-e];exact q3
   ·refine q5 c o hc.1 hc.2 ?_
    rw[Pl _ _ _ z] at e
    exact e
  refine⟨.ref s.heap.objs.size,_,I2,rfl,⟨x,_,hT,λxs' h'=>?_,rfl,rfl⟩,⟨⟨u0,r1⟩,q2.1.at λo e=>(r2 _ (IX 0 1 rfl)).trans e⟩,λc hc=>(hf' c hc).1⟩
  rw[I.list_inj h' ha];exact hx
 done:=by
  intro X hP hw hK hc i pins s σ H E I hf st hg
  subst hP hw hK
  obtain⟨xs,ha,hl⟩:=hg
  obtain⟨its,rv,p,hz⟩:=I.list ha
  obtain⟨⟨old,z1⟩,z2⟩:=st
  have hh:X.A.in1.handled=none:=I.ok.hd hc
  have l1:=rv.length
  refine wpAny_pyNext_enum_endD (Fw hh i (xs:=its.toArray) (by simp;omega)) z1 ⟨rfl,z2,p.isList⟩ λh' q=>⟨rfl,?_⟩
  refine I.turnedL (t':=s.toks) (ch:=qV n) (λc o hc e=>?_) hf
  simp only[qV,MB,Np,Of,not_or] at hc
  exact q c o hc.2 e
 self:=λ_ _ _ _ _ st h=>by
  obtain⟨⟨old,z1⟩,_⟩:=st
  exact Pn z1 h
def KZ (K:Frag)(ta:TA):TI:=λσ H R=>ta σ H λvs H2=>∃a xs,vs= [.ref a]/\eY K H2 a xs/\R (Ic K a) H2
section
variable {X:Cx}
theorem HA {a:Expr}{ta:TA}{p pos pt:Pos}{elts:List Expr}{x1}(hg:Gl X "enumerate")(hm:X.mg "enumerate"=none)(ha:PA X [a] ta)(hs:starEach [a] X.env= [(false,eval a X.env)]:=by rfl) :
  PI X (.Tuple elts x1 pt) (.Call (.Name "enumerate" p) [a] [] pos) (KZ X.K ta):=by
 intro pins s σ H R I h
 refine Call_ (kj I hg hm qU (NT (cv (ha pos pins s σ H _ I h) λus s1 ⟨vs,H1,I1,r1,q1⟩=>?_) hs rfl))
 obtain⟨a,xs,e,h1,q⟩:=q1
 subst e
 cases r1 with
 |cons r rr=>
  cases rr
  cases r
  obtain⟨its,rv,p1,hz⟩:=I1.list h1
  refine call_enumerate_list p1.isList λh' z1 z2 _ z3=>?_
  refine Pn z1 ⟨_,qV s1.heap.objs.size,_,_,H1,rfl,I1.kept (t':=s1.toks) z3,xk a s1.heap.objs.size,⟨⟨_,z1⟩,z2⟩,λc hc=>?_,q⟩
  have:s1.heap.objs.size<=c:=by
   simp only[qV,MB,Np,Of] at hc
   rcases hc with rfl |rfl <;> first |exact My _ |exact Nat.le_add_right _ _
  exact I1.fpOk this (I1.hok.fresh this)
end
section
variable {X:Cx}{Γ:Fx}{E:XK}{e a b c:Expr}{f fa fb:VF D}{L La Lb:List Nat}{md ma mb:Md}{pos:Pos}
def JE (fa:VF D):VF (List D):=λvs β=>(fa vs β).bnd λx β1=>match x with
 | .list ds=>.ok (dE ds) β1
 |_=>.bad
def CC {K:Frag}{B:Option Addr}{G H1:Hp}{p:Addr}{xs:List V}{ds:List D}(hp:∀Gc H,au G Gc->au Gc H->iK B H1 H->eY K H p xs)(r:b5 K G xs ds):Walk K B G H1 (dE ds) (Ic K p):=λGc H i s1 s2 m=>by
 have hp':=hp Gc H s1 s2 m
 have l1:=r.len
 have lz:(dE ds).length=ds.length:=by unfold dE;rw[List.length_mapIdx]
 refine⟨λhi=>⟨?_,λx H' y=>?_⟩,λhi=>⟨xs,hp',by omega⟩⟩
 ·have h1:i < xs.length:=by omega
  exact⟨xs,xs[i],hp',by simp[h1]⟩
 ·obtain⟨x,t,ht,hx,rfl,rfl⟩:=y
  obtain⟨d,ed,rd⟩:=r.at' (hx xs hp')
  have xn:=Ext.new s2 (o:=.tup [.int i,x]) ht
  refine⟨upd Gc t (.tup [.int i,x]),.tuple [.int i,d],xn,?_,.tup (.inl (.inl aC)) (.cons (.int i) (.cons (rd.mono (s1.trans xn.gg)) .nil))⟩
  unfold dE
  rw[O8,ed];rfl
theorem CG {p pt:Pos}{elts:List Expr}{x1}(hK:X.K=Γ.K)(hg:Gl X "enumerate")(hm:X.mg "enumerate"=none)(ha:SE X Γ E a fa La .v)(hs:starEach [a] X.env= [(false,eval a X.env)]:=by rfl)(hs':starEach [a] X.env=(false,eval a X.env) :: starEach [] X.env:=by rfl) :
  SI X Γ E (.Tuple elts x1 pt) (.Call (.Name "enumerate" p) [a] [] pos) (JE fa) La .v:=by
 refine PI.post (HA hg hm (aO ha bA hs') hs) ?_
 rintro σ H Q ⟨env,G,B,β,I,o⟩
 refine⟨env,G,B,β,I,o.bnd.imp λd1 β1 h x G1 H1 I1 s1 m1 vx=>?_⟩
 have vx:Rp Γ.K G1 x d1:=vx
 rw[hK]
 cases d1 with
 |list ds=>
  cases vx with
  | @lst p xs _ hq r=>exact⟨p,xs,rfl,.inl (Rd.mono (.inl hq) I1.sub),h _ G1 H1 I1 s1 m1 (CC (λGc H t1 t2 _=>.inl (Rd.mono (.inl hq) (t1.trans t2))) r)⟩
 |_=>exact h.elim
end
end L2
namespace L2
open PySem PyProof.Rows
section
variable {X:Cx}{K:Frag}{pins:List V}{σ:St}{H:Hp}{s:Shared}{E:XK}
theorem pG:∀{us:List Value} {ns:List Int},IntsAre us ns->∃xs:List (Int×Tok),us=xs.map (λp=>Value.int p.1 p.2)/\xs.map (·.1)=ns
 |_,_,.nil=>⟨[],rfl,rfl⟩
 |_,_,.cons n t hr=>by
  obtain⟨xs,e1,e2⟩:=pG hr
  exact⟨(n,t) :: xs,by rw[e1];rfl,by rw[<-e2];rfl⟩
def BI {us:List Value}{ns:List Int}(h:IntsAre us ns):∃xs:Array (Int×Tok),us.toArray=intItems xs/\(∀i,numAt xs i=ns.getD i 0)/\xs.size=ns.length:=by
 obtain⟨xs,e1,e2⟩:=pG h
 refine⟨xs.toArray,?_,λi=>?_,?_⟩
 ·rw[e1,intItems,List.map_toArray]
 ·rw[numAt_eq];show ((xs.map (·.1)).getD i 0)=_;rw[e2]
 ·rw[<-e2];simp
end
end L2
namespace RM
open PySem L2
def kS (bg:List D->FR):SF:=(aH (g8 ([] ++ ([] ++ [])) (lJ (nV (la (f1 (gv 0) (ik "tuple")))) (dD (f2 (f1 (gv 0) c3) (gv 1) (dC true))))
 (bP (cst (.bool false)))
 iQ)
 (bP (ip (f1 (aP 1 [1] (.nm 0) (bu (gv 0)) ij (ak bg (aa (gv 0) (aa (gv 1) ah)))) (cn λbs=>bs.all id)) (f2 (f1 (gv 0) ot) (gv 1) (dC false)))))
def mE:SF:=(aH (kW 1 (([] ++ []) ++ []) (f2 (cG (aa (cst (.int 0)) ah)) (f1 (gv 0) c3) nW))
 (aH (dO (.two 2 3) [] (Dd (gv 0))
 (me 1 [2] [] (gv 2) (gv 3)))
 (jj 1)))
def fM (cD c8:List D->FR):SF:=(aH (g8 ([0] ++ (([] ++ []) ++ [])) (nV (la (ak cD (aa (gv 0) (aa (f2 (gv 1) (cst (.int 0)) bR) ah)))))
 (bP (cst (.bool false)))
 iQ)
 (aH (bo 2 ([0] ++ []) (ak c8 (aa (gv 0) ah)))
 (bP (f1 (aP 2 [2] (.two 0 1) (bu (f2 (gv 1) (cst (.int 1)) bR)) ij (f2 (f2 (gv 2) (gv 0) bR) (f2 (gv 2) (gv 1) bR) vU)) (cn λbs=>bs.all id)))))
def pM (ar aS:List D->FR):SF:=(aH (kr ([1] ++ []) (ak ar (aa (gv 1) ah)))
 (bP (ak aS (aa (gv 0) (aa (gv 1) ah)))))
def eH:SF:=(bP (f1 (aP 1 [1,2] (.nm 0) (bu (gv 0)) ij (f2 (f2 (gv 0) (gv 1) bR) (f2 (gv 0) (gv 2) bR) vU)) (cn λbs=>bs.all id)))
def eN (c8 cK cz:List D->FR):SF:=(aH (bo 2 ([] ++ []) (aP 1 [] (.nm 0) (bu (gv 1)) ij (ak c8 (aa (gv 0) ah))))
 (bP (f1 (aP 2 [2] (.two 0 1) (bu (ak cK (aa (gv 0) ah))) (la (ak cz (aa (gv 2) (aa (gv 0) (aa (gv 1) ah))))) (fF (aa (gv 0) (aa (gv 1) ah)))) m6)))
def fu (aS:List D->FR):SF:=(aH (g8 ([] ++ ([] ++ [])) (lJ (nV (la (f1 (gv 0) (ik "list")))) (dD (f2 (f1 (gv 0) c3) (cst (.int 0)) (dC false))))
 (bP (cst (.bool false)))
 iQ)
 (bP (f1 (aP 1 [1] (.nm 0) (bu (gv 0)) ij (ak aS (aa (gv 0) (aa (gv 1) ah)))) (cn λbs=>bs.all id))))
def gA (ar bZ aN:List D->FR):SF:=(aH (kr ([0] ++ []) (ak ar (aa (gv 0) ah)))
 (aH (g8 ([1] ++ ([0] ++ [])) (nV (la (ak bZ (aa (gv 1) (aa (gv 0) ah)))))
 (λenv β=>toS ((aa (cst (.str "this is no list of one row of the order or more")) ah) (vl env) β) λds _=>if ds.length<=sizeLine then .exc "NoRows" else .bad)
 iQ)
 (aH (dO (.nm 2) (([] ++ []) ++ ([1] ++ [])) (bu (ak aN (aa (f2 (gv 0) (cst (.int 0)) bR) (aa (gv 1) ah))))
 (g8 ([] ++ ([] ++ [])) (dD (f2 (gv 2) (f2 (gv 0) (cst (.int 1)) bR) (Dx true)))
 (jj 2)
 iQ))
 (bP (cst .none)))))
def xG (ar bZ aN:List D->FR):SF:=(aH (kr ([1] ++ []) (ak ar (aa (gv 1) ah)))
 (bP (ip (ak bZ (aa (gv 0) (aa (gv 1) ah))) (f2 (ak aN (aa (f2 (gv 1) (cst (.int 0)) bR) (aa (gv 0) ah))) (f2 (gv 1) (cst (.int 1)) bR) (dC false)))))
def gE:SF:=(bP (f2 (gv 0) (f2 (cst (.int 1)) (gv 1) xF) L4))
def fL (az:List D->FR):SF:=(aH (kW 1 (([] ++ []) ++ ([] ++ [])) (f2 (cG (aa (cst (.int 0)) ah)) (f2 (gv 0) (cst (.int 0)) bR) nW))
 (aH (dO (.two 2 3) ([] ++ []) (bu (f2 (gv 0) (cst (.int 1)) bR))
 (me 1 (([] ++ []) ++ ([2] ++ [])) [] (ak az (aa (f2 (gv 1) (gv 3) bR) (aa (gv 2) ah))) (gv 3)))
 (jj 1)))
def fK (az:List D->FR):SF:=(aH (kW 2 [] (cG ah))
 (aH (dO (.two 3 4) [0] (JE (gv 0))
 (g8 ((([1] ++ ([3] ++ [])) ++ []) ++ (([] ++ []) ++ [])) (DX (dD (f2 (ak az (aa (gv 1) (aa (gv 3) ah))) (gv 1) (dC true))) (dD (f2 (f2 (gv 1) (gv 4) Bo) (gv 4) (dC false))))
 (nQ 2 [3] (gv 3))
 iQ))
 (jj 2)))
end RM
namespace L2
open PySem PySem.Spec PyProof.Rows
section
variable {X:Cx}{tg:Expr}
def Je (lo:Int)(n:Nat):It:=⟨λi _=>i < n,λi H x H'=>H'=H/\x=.int (lo - i),λi _=>n<=i⟩
def ur {P:Program}{w:World}{K:Frag}{tg:Expr}(it:Addr)(lo:Int)(n:Nat):Turn P w K tg (Je lo n) [it] it (λi h=>IsRangeIter h it (lo + (i:Nat) * (-1)) ((n:Int) - (i:Nat)) (-1)) where
 mem:=by simp
 obj:=λi h st b hb=>by
  have e:b=it:=by simpa using hb
  subst e
  exact⟨_,st,λv z=>by
   have z':Data.fields _=Data.cell v:=z
   cases z'⟩
 keep:=λi h h' st k=>k it (by simp) _ st
 item:=by
  intro X hP hw hK hc i pins s σ H E I hf st hg
  subst hP hw hK
  obtain⟨f0,f1,f2,f3,f4,f5⟩:=hf it (by simp)
  have W:=Walks.range (prog:=X.prog) (w:=X.w) (I.ok.hd hc) it lo (-1) n
  refine W.item i s _ _ hg st λv h' tk hv st' kk=>?_
  obtain⟨t,rfl⟩:=hv
  have I1:Inv X pins σ H {s with heap:=h',toks:=tk}:=I.turned (λb o hb e=>kk b o (by simpa using hb) e) f0 f1 f3 f4 f5
  refine⟨_,rfl,yM (s:={s with heap:=h',toks:=tk}) (n:="range_iterator") st' rfl rfl (by decide) ⟨.int (lo - i),H,I1,⟨t,?_⟩,⟨rfl,rfl⟩,st',λb hb=>(hf b hb).1⟩⟩
  rw[show lo + (i:Int) * (-1)=lo - i by omega]
 done:=by
  intro X hP hw hK hc i pins s σ H E I hf st hg
  subst hP hw hK
  obtain⟨f0,f1,f2,f3,f4,f5⟩:=hf it (by simp)
  exact wpAny_pyNext_range_end (I.ok.hd hc) st (by have:n<=i:=hg;omega) λh' eb=>⟨rfl,I.turned (t':=s.toks) (λb o hb e=>eb b o hb e) f0 f1 f3 f4 f5⟩
 self:=λ_ _ _ _ _ st h=>wpAny_pyIter_rangeiter st h
def Ax {pins:List (Addr×Obj)}{σ:St}{H:Hp}{s:Shared}{R:It->Hp->Prop}{E:Value->Shared->Prop}{lo hi:Int}{t u v:Tok}{tk:Nat}(I:Inv X pins σ H s)(h1: -(2 ^ 62)<=lo)(h2:lo < 2 ^ 62)(h3: -(2 ^ 62)<=hi)(h4:hi < 2 ^ 62)
  (q:R (Je lo (lo - hi).toNat) H):wpAny (model X.prog X.w) X.A (pyIter (.ref s.heap.objs.size)) (K7 X pins σ tg R) E {s with heap:=s.heap.push {cls:=.type "range",data:=.fields #[.int lo t,.int hi u,.int (-1) v]},toks:=tk}:=by
 refine wpAny_pyIter_range (IsRange.new ..) (PySem.W.small_down h1 h2 h3 h4) ?_
 have I1:Inv X pins σ H {s with heap:=s.heap.push {cls:=.type "range",data:=.fields #[.int lo t,.int hi u,.int (-1) v]},toks:=tk}:=I.kept λb o e=>Mw _ e
 refine⟨(s.heap.push {cls:=.type "range",data:=.fields #[.int lo t,.int hi u,.int (-1) v]}).objs.size,[(s.heap.push {cls:=.type "range",data:=.fields #[.int lo t,.int hi u,.int (-1) v]}).objs.size],_,_,H,rfl,
  I1.kept (t':=tk) λb o e=>Mw _ e,ur _ lo (lo - hi).toNat,?_,λb hb=>?_,q⟩
 ·have e1:lo + ((0:Nat):Int) * (-1)=lo:=by simp
  have e2:(((lo - hi).toNat:Nat):Int) - ((0:Nat):Int)=Builtin.Range.rangeSize lo hi (-1):=by rw[PySem.W.rangeSize_downNat];omega
  show IsRangeIter _ _ (lo + ((0:Nat):Int) * (-1)) ((((lo - hi).toNat:Nat):Int) - ((0:Nat):Int)) (-1)
  rw[e1,e2]
  exact MN _ rfl
 ·have e:b=(s.heap.push {cls:=.type "range",data:=.fields #[.int lo t,.int hi u,.int (-1) v]}).objs.size:=by simpa using hb
  subst e
  exact I1.fpOk (My _) (I1.hok.fresh (My _))
def J2 (ta:TA):TI:=λσ H R=>ta σ H λvs H1=>∃i j:Int,vs= [.int i,.int j,.int (-1)]/\(-(2 ^ 62)<=i/\i < 2 ^ 62/\ -(2 ^ 62)<=j/\j < 2 ^ 62)/\R (Je i (i - j).toNat) H1
theorem zr {a b c:Expr}{ta:TA}{p pos:Pos}(hg:Gl X "range")(hm:X.mg "range"=none)(ha:PA X [a,b,c] ta)(hs:starEach [a,b,c] X.env= [(false,eval a X.env),(false,eval b X.env),(false,eval c X.env)]:=by rfl)(hs2:starEach [b,c] X.env= [(false,eval b X.env),(false,eval c X.env)]:=by rfl) :
  PI X tg (.Call (.Name "range" p) [a,b,c] [] pos) (J2 ta):=by
 intro pins s σ H R I h
 refine Call_ (kj I hg hm boot_range (NT (cv (ha pos pins s σ H _ I h) λus s1 ⟨vs,H1,I1,r1,q1⟩=>?_) (by rw[hs,hs2]) (by rw[hs2];rfl)))
 obtain⟨i,j,e,⟨q1,q2,q3,q4⟩,q⟩:=q1
 subst e
 cases r1 with
 |cons r rr=>
  cases rr with
  |cons r' rr=>
   cases rr with
   |cons r'' rr=>
    cases rr
    obtain⟨t,rfl⟩:=r
    obtain⟨t',rfl⟩:=r'
    obtain⟨t'',rfl⟩:=r''
    exact call_range_3 (by decide) (Ax I1 q1 q2 q3 q4 q) (.inl (PyProof.noPylong_small (by omega)))
end
def ml (lo:Int)(n:Nat):List D:=(List.range n).map λ(k:Nat)=>int (lo - k)
def nh (lo:Int)(n:Nat):(ml lo n).length=n:=by unfold ml;simp
def zP {K:Frag}{B:Option Addr}{G H1:Hp}(lo:Int)(n:Nat):Walk K B G H1 (ml lo n) (Je lo n):=λGc H i s1 s2 m=>by
 rw[nh]
 refine⟨λhi=>⟨hi,λx H' y=>?_⟩,λhi=>hi⟩
 obtain⟨rfl,rfl⟩:=y
 refine⟨Gc,.int (lo - i),Ext.refl s2,?_,.int _⟩
 unfold ml
 rw[MG,NP hi];rfl
def F0 (fa fb fc:VF D):VF (List D):=λvs β=>(fa vs β).bnd λx β1=>(fb vs β1).bnd λy β2=>(fc vs β2).bnd λz β3=>match x,y,z with
 | .int i,.int j,.int k=>if (uc i && uc j && k == -1)=true then .ok (ml i (i - j).toNat) β3 else .bad
 |_,_,_=>.bad
section
variable {X:Cx}{Γ:Fx}{tg:Expr}{a b c:Expr}{fa fb fc:VF D}{La Lb Lc:List Nat}{md ma mb mc:Md}{pos:Pos}{E:XK}
def J3 {p:Pos}(hg:Gl X "range")(hm:X.mg "range"=none)(ha:SE X Γ E a fa La ma)(hb:SE X Γ E b fb Lb mb)(hc:SE X Γ E c fc Lc mc)(hs:starEach [a,b,c] X.env= [(false,eval a X.env),(false,eval b X.env),(false,eval c X.env)]:=by rfl)(hs2:starEach [b,c] X.env= [(false,eval b X.env),(false,eval c X.env)]:=by rfl)(hs':starEach [a,b,c] X.env=(false,eval a X.env) :: starEach [b,c] X.env:=by rfl)(hs3:starEach [b,c] X.env=(false,eval b X.env) :: starEach [c] X.env:=by rfl)(hs4:starEach [c] X.env=(false,eval c X.env) :: starEach [] X.env:=by rfl):SI X Γ E tg (.Call (.Name "range" p) [a,b,c] [] pos) (F0 fa fb fc) (La ++ Lb ++ Lc) md:=by
 refine PI.post (zr hg hm (aO ha (aO hb (aO hc bA hs4) hs3) hs') hs hs2) λσ H Q ⟨env,G,B,β,I,o⟩=>?_
 refine two (W:=λx y H2=>pT Γ E fc Lc mc σ H2 λz H3=>∃i j:Int,[x,y,z]= [.int i,.int j,.int (-1)]/\(-(2 ^ 62)<=i/\i < 2 ^ 62/\ -(2 ^ 62)<=j/\j < 2 ^ 62)/\Q (Je i (i - j).toNat) H3) I (o.bnd.imp λd1 β1 h=>h.bnd.imp λd2 β2 h x y G2 H2 I2 s2 m2 bx by'=>?_)
 refine⟨_,G2,B,β2,I2,?_⟩
 rw[eQ]
 refine h.bnd.imp λd3 β3 h z G3 H3 I3 s3 m3 bz=>?_
 have bz:=bz.brw I2.boxThere
 obtain⟨i,j,k,rfl,rfl,rfl⟩:∃i j k,d1=.int i/\d2=.int j/\d3=.int k:=by
  cases d1 <;> cases d2 <;> cases d3 <;> first |exact h.elim |exact⟨_,_,_,rfl,rfl,rfl⟩
 obtain rfl:=bx.int
 obtain rfl:=by'.int
 obtain rfl:=bz.int
 dsimp only at h
 by_cases hj:(uc i && uc j && k == -1)=true
 ·rw[MA hj] at h
  rw[MP,MP,beq_iff_eq] at hj
  obtain⟨⟨hi,hj⟩,rfl⟩:=hj
  exact⟨i,j,rfl,⟨(iP hi).1,(iP hi).2,(iP hj).1,(iP hj).2⟩,h _ G3 H3 (by rw[cf];exact I3) (s2.trans s3) (m2.trans m3) (zP i _)⟩
 ·rw[MF hj] at h;exact h.elim
end
end L2
namespace L2
open PySem PyProof.Rows
section
variable {X:Cx}{K:Frag}{pins:List V}{σ:St}{H:Hp}{s:Shared}{E:XK}
def Jf (K:Frag):List V->Hp->VK->Prop:=λxs H Q=>∃(a:Addr) (ns:List Int),xs= [.ref a]/\eY K H a (ns.map V.int)/\Q (.int ns.sum) H
def vZ (hc:X.calm=true):cL X (.builtin "sum") (Jf X.K):=by
 intro pins s σ H xs us Q I r h
 obtain⟨a,ns,rfl,hq,q⟩:=h
 obtain⟨u,rfl,rx⟩:=vals1 r
 cases rx
 have hh:=I.ok.hd hc
 obtain⟨its,rv,pl,_⟩:=I.list hq
 obtain⟨xs,e,hx,hs⟩:=BI (intsAre_of rv)
 refine sum_intListG (xs:=xs) hh (e▸pl.isList) λh' tk t' k=>⟨.int ns.sum,H,I.kept k,⟨t',?_⟩,q⟩
 have:preSum (numAt xs) xs.size=ns.sum:=by
  rw[show numAt xs=λi=>ns.getD i 0 from funext hx,preSum_getD,hs,N8 (My _)]
 rw[this]
def qq (d:D):Option D:=match d with
 | .list ds=>(eZ ds).map λns=>.int ns.sum
 |_=>none
def FU:AS K (λx=>Jf K [x]) qq .v:=by
 intro B G H x dx d Q s hB bx e k
 unfold qq at e
 split at e
 ·rename_i ds
  cases q2:eZ ds with
  |none=>rw[q2] at e;cases e
  |some ns=>
   rw[q2] at e
   cases e
   obtain⟨p,xs,rfl,hq,r⟩:=bx.list s
   rw[kf q2] at r
   have r:=r.intsB
   subst r
   exact⟨p,ns,rfl,.inl hq,k _ G H (Ext.refl s) (.int _)⟩
 ·cases e
end
end L2
namespace RM
open PySem L2
def ky (aU az:List D->FR):SF:=(aH (bo 1 (([] ++ []) ++ []) (f2 (f2 (cst (.int 1)) (f1 (gv 0) c3) xF) (cst (.int 1)) rA))
 (aH (kW 2 ((([] ++ []) ++ []) ++ ([] ++ [])) (f2 (f2 (cG (aa (cst (.int 0)) ah)) (gv 1) nW) (cG (aa (cst (.int 1)) ah)) jX))
 (aH (dO (.nm 3) ((([] ++ []) ++ []) ++ []) (F0 (f2 (gv 1) (cst (.int 1)) rA) (f1 (cst (.int 1)) Eu) (f1 (cst (.int 1)) Eu))
 (me 2 (([0] ++ ([3] ++ [])) ++ [3]) [] (f1 (aP 1 [2,3] (.nm 0) (bu (ak aU (aa (gv 0) (aa (gv 3) ah)))) ij (f2 (gv 1) (ak az (aa (gv 2) (aa (gv 0) ah))) bR)) qq) (gv 3)))
 (jj 2))))
def iy (ar bF aV:List D->FR):SF:=(aH (kr ([0] ++ []) (ak ar (aa (gv 0) ah)))
 (bP (f2 (ak bF (aa (ak aV (aa (gv 0) ah)) ah)) (cst (.int 0)) bR)))
def lU (aU az:List D->FR):SF:=(aH (bo 4 ([0] ++ ([2] ++ [])) (ak aU (aa (gv 0) (aa (gv 2) ah))))
 (aH (bo 5 [] (cst (.int 0)))
 (aH (iU ([] ++ ([] ++ ([2] ++ (([] ++ []) ++ [])))) (dD (f2 (gv 3) (f2 (gv 1) (ak az (aa (gv 2) (aa (f2 (gv 4) (gv 5) bR) ah))) bR) K2))
 (aH (bo 3 ([] ++ ([] ++ ([2] ++ (([] ++ []) ++ [])))) (f2 (gv 3) (f2 (gv 1) (ak az (aa (gv 2) (aa (f2 (gv 4) (gv 5) bR) ah))) bR) rA))
 (bo 5 ([] ++ []) (f2 (gv 5) (cst (.int 1)) cP))) 1000)
 (bP (fF (aa (f2 (gv 4) (gv 5) bR) (aa (gv 3) ah)))))))
def kE (ar aV bF bg i5 az:List D->FR):SF:=(aH (kr ([0] ++ []) (ak ar (aa (gv 0) ah)))
 (aH (bo 2 ([0] ++ []) (ak aV (aa (gv 0) ah)))
 (aH (bo 3 ([2] ++ []) (ak bF (aa (gv 2) ah)))
 (aH (g8 ([1] ++ (([] ++ []) ++ [])) (nV (la (ak bg (aa (gv 1) (aa (f2 (gv 3) (cst (.int 0)) bR) ah)))))
 (λenv β=>toS ((aa (cst (.str "this is no number of a row of the order")) ah) (vl env) β) λds _=>if ds.length<=sizeLine then .exc "NoNumber" else .bad)
 iQ)
 (aH (kW 4 [] (cG ah))
 (aH (bo 5 [] (cst (.int 0)))
 (aH (bo 6 [1] (gv 1))
 (aH (dO (.nm 7) ([] ++ []) (gq (f2 (gv 0) (cst (.int 0)) bR))
 (aH (bo 8 ([2] ++ ([3] ++ ([5] ++ ([6] ++ [])))) (ak i5 (aa (gv 2) (aa (gv 3) (aa (gv 5) (aa (gv 6) ah))))))
 (aH (nQ 4 ([] ++ []) (f2 (gv 8) (cst (.int 0)) bR))
 (aH (bo 5 ([5] ++ (([] ++ []) ++ [])) (ak az (aa (gv 5) (aa (f2 (gv 8) (cst (.int 0)) bR) ah))))
 (bo 6 ([] ++ []) (f2 (gv 8) (cst (.int 1)) bR))))))
 (bP (f1 (gv 4) m6))))))))))
def kN (ar aS aV bF aU az:List D->FR):SF:=(aH (kr ([0] ++ []) (ak ar (aa (gv 0) ah)))
 (aH (g8 ([1] ++ ([0] ++ [])) (nV (la (ak aS (aa (gv 1) (aa (gv 0) ah)))))
 (λenv β=>toS ((aa (cst (.str "this is no row of the order")) ah) (vl env) β) λds _=>if ds.length<=sizeLine then .exc "NoRow" else .bad)
 iQ)
 (aH (bo 2 ([0] ++ []) (ak aV (aa (gv 0) ah)))
 (aH (bo 3 ([2] ++ []) (ak bF (aa (gv 2) ah)))
 (aH (bo 4 [] (cst (.int 0)))
 (aH (bo 5 [] (cst (.int 0)))
 (aH (dO (.nm 6) [1] (bu (gv 1))
 (aH (bo 7 (([2] ++ ([5] ++ [])) ++ []) (aP 1 [6] (.nm 0) (bu (ak aU (aa (gv 2) (aa (gv 5) ah)))) (dD (f2 (gv 0) (gv 1) vU)) (gv 0)))
 (aH (bo 4 ([] ++ ([] ++ [5])) (f2 (gv 4) (f1 (aP 1 [3,5] (.nm 0) (bu (gv 7)) ij (f2 (gv 1) (ak az (aa (gv 2) (aa (gv 0) ah))) bR)) qq) cP))
 (bo 5 ([5] ++ ([6] ++ [])) (ak az (aa (gv 5) (aa (gv 6) ah)))))))
 (jj 4))))))))
end RM
namespace L2.SO
open PySem PySem.W PyProof.Rows
theorem rb:∀(f n r:Nat),r<=1->minRun' f n r<=n + r
 | 0,n,r,_=>My (n + r)
 |f + 1,n,r,h=>by
  rw[minRun'_succ]
  split
  ·exact My _
  ·have:=rb f (n / 2) (max r (n % 2)) (by have:=O6 n (show 0 < 2 by omega);omega)
   have:=O6 n (show 0 < 2 by omega)
   omega
section
variable {prog:Program}{w:World}{A:Around}{E:Value->Shared->Prop}{κ:SortKind}{it:Array Keyed}{s:Shared}
def zC {n:Nat}{Q:Unit->SortSt->Shared->Prop}{G:Array Nat->Shared->Prop}(h2:2<=n)
  (hG:∀p' st' s',p'.size=n->arrOf st'=p'.map (kas_item it)->failedOf st'=none->G p' s'->Q () st' s') (h:(kas_count n (List.toArray (List.range n))).kasWp (kas_cmp prog w A κ it) (λr s'=>r.1=n/\G r.2 s') s) :
  kasC (model prog w) A E sortRuns' Q (kas_st κ it (List.toArray (List.range n))) s:=by
 obtain⟨r,rfl⟩:∃r,n=r + 2:=⟨n - 2,by omega⟩
 have hrs:(List.toArray (List.range (r + 2))).size=r + 2:=by simp
 rw[sortRuns'_eq]
 refine kasC_bind (kasC_get ?_)
 dsimp only
 have hsz:(arrOf (kas_st κ it (List.toArray (List.range (r + 2))))).size=r + 2:=by
  show ((List.toArray (List.range (r + 2))).map (kas_item it)).size=_
  rw[Array.size_map,hrs]
 have hmr:minRun' (r + 2) (r + 2) 0<=r + 2:=rb _ _ 0 (by omega)
 simp only[hsz]
 refine kasC_bind (kasC_range ?_)
 show kasC _ _ _ (forIn (0 :: 1 :: List.range' 2 r) _ _) _ _ _
 refine kasC_cons ?_
 dsimp only
 rw[MF (by omega)]
 simp only[Nat.sub_zero,Nt]
 refine kasC_bind (kas_count_ (by omega) (by rw[hrs];exact My _) (λm p' s' hm1 hm2 hp hg=>?_) h)
 have hps:p'.size=r + 2:=hp.trans hrs
 dsimp only
 obtain⟨hm,hg'⟩:=hg
 dsimp only at hm hg'
 subst hm
 rw[MF (by omega)]
 refine kasC_bind (kasC_get ?_)
 rw[show (pendingOf (kas_st κ it p')).back? =none from rfl]
 dsimp only
 refine kasC_bind (kasC_modify (kasC_pure ?_))
 show kasC _ _ _ (forIn (1 :: List.range' 2 r) _ _) _ _ _
 refine kasC_cons ?_
 dsimp only
 rw[MA (My _)]
 refine kasC_pure ?_
 dsimp only
 refine kasC_bind (kasC_range ?_)
 show kasC _ _ _ (forIn (0 :: 1 :: List.range' 2 r) _ _) _ _ _
 refine kasC_cons ?_
 refine kasC_bind (kasC_get ?_)
 rw[MA (show (pendingOf (setPending (kas_st κ it p') ((pendingOf (kas_st κ it p')).push (0,r + 2,0)))).size<=1 from My 1)]
 refine kasC_pure ?_
 dsimp only
 exact kasC_pure (hG p' _ _ hps rfl rfl hg')
theorem CI {cmp:Nat->Nat->(Bool->Shared->Prop)->Shared->Prop}{n:Nat}{Q:Nat->Shared->Prop}(hc:∀k C,1<=k->k < n->C false s->cmp k (k - 1) C s):∀(f k:Nat),1<=k->k + f=n->Q n s->(kas_asc (List.toArray (List.range n)) f k).kasWp cmp Q s
 | 0,k,_,e,h=>by rw[Nat.add_zero] at e;subst e;exact h
 |f + 1,k,h1,e,h=>by
  show cmp ((List.toArray (List.range n)).getD k 0) ((List.toArray (List.range n)).getD (k - 1) 0) (λb s'=>(if b=true then KasT.ret k else kas_asc (List.toArray (List.range n)) f (k + 1)).kasWp cmp Q s') s
  rw[show (List.toArray (List.range n)).getD k 0=k by simp[show k < n by omega],show (List.toArray (List.range n)).getD (k - 1) 0=k - 1 by simp[show k - 1 < n by omega]]
  refine hc k _ h1 (by omega) ?_
  rw[MF M9]
  exact CI hc f (k + 1) (by omega) (by omega) h
def Aq {cmp:Nat->Nat->(Bool->Shared->Prop)->Shared->Prop}{n:Nat}{Q:Nat×Array Nat->Shared->Prop}(h1:1<=n)(hc:∀k C,1<=k->k < n->C false s->cmp k (k - 1) C s)(h:Q (n,List.toArray (List.range n)) s):(kas_count n (List.toArray (List.range n))).kasWp cmp Q s:=by
 unfold kas_count
 rw[KasT.kasWp_bind]
 refine CI hc (n - 1) 1 (My _) (by omega) ?_
 rw[MA (by simp)]
 exact h
def Bi {vs:List Value}{Q:SortSt->Shared->Prop}(h2:2<=vs.length)(hc:∀k C,1<=k->k < vs.length->C false s->kas_ask prog w A κ vs k (k - 1) C s)
  (hQ:∀st',arrOf st'=(List.toArray (List.range vs.length)).map (kas_item (vs.toArray.zip vs.toArray))->failedOf st'=none->Q st' s) :
  wpAny (model prog w) A ((sortRuns').run (SortSt.mk' κ (vs.toArray.zip vs.toArray) #[] 7 none)) (λr s'=>Q r.2 s') E s:=by
 have e:=kat_ask_eq (prog:=prog) (w:=w) (A:=A) (κ:=κ) (ks:=vs) (vs:=vs) rfl
 rw[e] at hc
 have run:=zC (E:=E) (Q:=λ_ st' s'=>Q st' s') (G:=λp s'=>p=List.toArray (List.range vs.length)/\s'=s) h2 (λp' st' s' _ a2 a3 a4=>by obtain⟨rfl,rfl⟩:=a4;exact hQ st' a2 a3) (Aq (by omega) hc ⟨rfl,rfl,rfl⟩)
 have est:SortSt.mk' κ (vs.toArray.zip vs.toArray) #[] 7 none=kas_st κ (vs.toArray.zip vs.toArray) (List.toArray (List.range vs.length)):=by
  have e:=kas_range (vs.toArray.zip vs.toArray)
  rw[show (vs.toArray.zip vs.toArray).size=vs.length by simp] at e
  show SortSt.mk' κ (vs.toArray.zip vs.toArray) #[] 7 none=SortSt.mk' κ ((List.toArray (List.range vs.length)).map (kas_item (vs.toArray.zip vs.toArray))) #[] 7 none
  rw[e]
 rw[est]
 exact run
end
end L2.SO
namespace L2.ST
open PySem PySem.W PyProof.Rows
def lF:List Int->List Int->Bool
 |x :: xs,y :: ys=>if x=y then lF xs ys else decide (x < y)
 |_,_=>false
def Bz (h:Heap)(r:List Int)(a:Addr):Prop:=∃o items n,h.get? a=some o/\o.cls=.type "tuple"/\o.data=.seq items n/\IntsAre items.toList r
def mK (h:Heap)(vs:List Value)(rs:List (List Int)):Prop:=vs.length=rs.length/\∀(i:Nat) (v:Value) (r:List Int),vs[i]? =some v->rs[i]? =some r->∃a,v=.ref a/\Bz h r a
section
variable {prog:Program}{w:World}{A:Around}{E:Value->Shared->Prop}{s:Shared}
theorem Ca {Q:Bool->Shared->Prop}:∀{r q:List Int} {vs us:List Value} (i:Nat),IntsAre vs r->IntsAre us q->r.length=q.length->Q (lF r q) s->KatLex prog w A true false Q (vs.zip us) i s
 |_,_,_,_,i,.nil,.nil,_,h=>h
 |_,_,_,_,i,.cons x t hv,.cons y u hu,e,h=>by
  rw[List.zip_cons_cons]
  refine kat_cons (wpAny_eqBool_int ?_)
  unfold lF at h
  by_cases c:x=y
  ·rw[MA c] at h
   rw[show (x == y)=true by simpa using c]
   exact kat_yes (Ca (i + 1) hv hu (by simpa using e) h)
  ·rw[MF c] at h
   rw[show (x == y)=false by simpa using c]
   refine kat_no ?_
   cases i with
   |zero=>exact oneLt_int h
   |succ i=>exact kat_one _ _ (lt_int h)
def Im {a b:Addr}{r q:List Int}{Q:Bool->Shared->Prop}(ha:Bz s.heap r a)(hb:Bz s.heap q b)(hl:r.length=q.length)(h:Q (lF r q) s):wpAny (model prog w) A (keyLt' (tuples' true) (.ref a) (.ref b)) Q E s:=by
 obtain⟨oa,ia,na,hoa,hca,hda,hia⟩:=ha
 obtain⟨ob,ib,nb,hob,hcb,hdb,hib⟩:=hb
 refine kat_lt hoa hda hob hdb ?_
 have z1:ia.size=r.length:=by rw[<-hia.length];simp
 have z2:ib.size=q.length:=by rw[<-hib.length];simp
 rw[show decide (ia.size < ib.size)=false from MK (by omega)]
 exact Ca 0 hia hib hl h
theorem uN:∀{vs:List Value} {rs:List (List Int)},mK s.heap vs rs->(∀r,r∈rs->r≠ [])->∃fs,KatTups s.heap vs fs/\fs.length=vs.length/\∀v∈fs,∃(i:Int) (t:Tok),v=.int i t
 | [],ps,_,_=>⟨[],KatTups.nil,rfl,λv hv=>by cases hv⟩
 |v :: vs,[],h,_=>by have:=h.1;simp at this
 |v :: vs,p :: ps,h,hne=>by
  obtain⟨a,rfl,o,items,n,ho,hc,hd,hi⟩:=h.2 0 v p rfl rfl
  obtain⟨fs,k,e,f⟩:=uN (vs:=vs) (rs:=ps) ⟨by simpa using h.1,λi v p h1 h2=>h.2 (i + 1) v p (by simpa using h1) (by simpa using h2)⟩ λr hr=>hne r (MD _ hr)
  obtain⟨l1,rfl⟩:∃l,items=List.toArray l:=⟨items.toList,by simp⟩
  simp only[NY] at hi
  cases hi with
  |nil=>exact absurd rfl (hne [] (MC ..))
  |cons x t hi=>
   exact⟨_ :: fs,KatTups.cons ho hc hd rfl k,by simp[e],λv hv=>by
    rcases MB.mp hv with z |z
    ·exact⟨_,_,z⟩
    ·exact f v z⟩
def wy {a:Addr}{vs:List Value}{rs:List (List Int)}{n m:Nat}{P:PySem.Fin->Shared->Prop}(ho:s.heap.get? a=some (seqObj "list" vs.toArray n))(hps:mK s.heap vs rs)(hm:∀r,r∈rs->r.length=m/\r≠ [])(hasc:∀k r q,rs[k]? =some q->rs[k + 1]? =some r->lF r q=false)(hz:vs.length<=sizeLine)
  (h:∀(h':Heap) (c:Nat),(∀b o,b≠a->s.heap.get? b=some o->h'.get? b=some o)->h'.get? a=some (seqObj "list" vs.toArray c)->P (.done (.ret .none)) {s with heap:=h'}) :
  wpAny (model prog w) A (Builtin.«list.sort» ⟨[.ref a],[]⟩) P E s:=by
 have ha:a < s.heap.objs.size:=MH ho
 obtain⟨e1,ho1⟩:∃e1,(s.heap.update a (Obj.mapSeq λ_=>(#[]:Array Value))).get? a=some (seqObj "list" #[] e1):=⟨_,get?_update_seq ho λ_=>#[]⟩
 generalize hH1:(s.heap.update a (Obj.mapSeq λ_=>(#[]:Array Value)))=H1 at ho1
 have sb1:Heap.SameBut a s.heap H1:=by rw[<-hH1];exact Heap.SameBut.update ..
 have kp2:∀b o,H1.get? b=some o->((H1.push (seqObj "tuple" vs.toArray 0)).push (seqObj "list" #[] 0)).get? b=some o:=λb o e=>Mw _ (Mw _ e)
 generalize hH2:((H1.push (seqObj "tuple" vs.toArray 0)).push (seqObj "list" #[] 0))=H2 at kp2
 have kp:∀b o,b≠a->s.heap.get? b=some o->H2.get? b=some o:=λb o hb e=>kp2 b o ((sb1.2 b hb).trans e)
 have ho2:=kp2 _ _ ho1
 have hps2:mK H2 vs rs:=⟨hps.1,λi v p h1 h2=>by
  obtain⟨b,e,o,it,k,hb,hc,hd,r⟩:=hps.2 i v p h1 h2
  refine⟨b,e,o,it,k,kp b o (λz=>?_) hb,hc,hd,r⟩
  subst z
  rw[ho] at hb;cases hb
  exact absurd hc (by simp[seqObj])⟩
 rw[list_sort_plain]
 refine Mv (listItems_at ho rfl (Mv (listUpdate_at ho rfl ?_ (by simpa using hz) (Nd _))))
 rw[hH1]
 refine Mv (seqEpoch_at (s:={s with heap:=H1}) ho1 rfl (Mv (wpAny_newTuple ?_ (by simpa using hz))))
 refine Mv (wpAny_newList ?_ (Nd _))
 refine NR ?_
 show wpAny (model prog w) A _ P E {s with heap:=(H1.push (seqObj "tuple" vs.toArray 0)).push (seqObj "list" #[] 0)}
 rw[hH2]
 have fin:∀(st:SortSt),(arrOf st).map (·.2)=List.toArray vs->failedOf st=none->
   wpAny (model prog w) A (do
    let sorted:=(arrOf st).map (·.2)
    let touched:=(<-seqEpoch a) != e1
    Builtin.List.listUpdate (.ref a) λ_=>sorted
    if let some e:=failedOf st then rule "list.sort.comparison-raised";throw e
    if touched then rule "list.sort.modified";raiseError "ValueError" "list modified during sort"
    ret .none) P E {s with heap:=H2}:=λst hout hf=>by
  dsimp only
  rw[hout]
  refine Mv (seqEpoch_at (s:={s with heap:=H2}) ho2 rfl ?_)
  refine Mv (listUpdate_at (s:={s with heap:=H2}) ho2 rfl ?_ (Nd _) (Nat.le_succ_of_le (by simpa using hz)))
  rw[hf]
  simp only[bne_self_eq_false,MQ,Nk]
  obtain⟨c2,hc2⟩:∃c2,(H2.update a (Obj.mapSeq λ_=>List.toArray vs)).get? a=some (seqObj "list" (List.toArray vs) c2):=⟨_,get?_update_seq ho2 λ_=>List.toArray vs⟩
  exact Mz (h _ c2 (λb o hb e=>((Heap.SameBut.update H2 a _).2 b hb).trans (kp b o hb e)) hc2)
 have hout:∀l:List Value,(List.range l.length).map (λi=>l.getD i Value.none)=l:=λl=>by
  refine OQ (by simp) λi h1 h2=>by simp[h2]
 by_cases h2:vs.length < 2
 ·have h2':vs.toArray.size < 2:=by simpa using h2
  dsimp only
  rw[MA h2',MA h2']
  refine Mv (Mz ?_)
  rw[StateT.run_pure]
  refine Mv (Mz ?_)
  refine fin (SortSt.mk' general' (vs.toArray.zip vs.toArray) #[] 7 none) ?_ rfl
  have:∀{l:List Value},l.length < 2->((l.toArray.zip l.toArray).map (·.2))=List.toArray l:=λ{l} hl=>by
   match l,hl with
   | [],_=>simp
   | [x],_=>simp
  exact this h2
 ·have h2':¬vs.toArray.size < 2:=by simpa using h2
  dsimp only
  rw[MF h2',MF h2']
  obtain⟨fs,kt,fl,ff⟩:=uN (s:={s with heap:=H2}) hps2 λr hr=>(hm r hr).2
  refine Mv (kat_kind (s:={s with heap:=H2}) (T:=.type "int") kt (by omega) (λv hv=>?_) (by decide) ?_)
  ·obtain⟨i,t,rfl⟩:=ff v hv
   exact .now
  ·rw[show ((Value.type "int" != Value.type "tuple"):Bool)=true by decide]
   refine Mv (N0 (L2.SO.Bi (s:={s with heap:=H2}) (κ:=tuples' true) (vs:=vs) (Q:=λst s'=>s'={s with heap:=H2}/\arrOf st=(List.toArray (List.range vs.length)).map (kas_item (vs.toArray.zip vs.toArray))/\failedOf st=none) (by omega) (λk C hk1 hk hC=>?_) λst a2 a3=>⟨rfl,a2,a3⟩) ?_ λ_ _ x=>x)
   ·unfold kas_ask
    have hj:k - 1 < vs.length:=by omega
    have hi':k < rs.length:=by rw[<-hps.1];exact hk
    have hj':k - 1 < rs.length:=by omega
    obtain⟨b1,eb1,hb1⟩:=hps2.2 k vs[k] rs[k] (Mu hk) (Mu hi')
    obtain⟨b2,eb2,hb2⟩:=hps2.2 (k - 1) vs[k - 1] rs[k - 1] (Mu hj) (Mu hj')
    have e1:vs.getD k Value.none=.ref b1:=by rw[<-eb1];simp[hk]
    have e2:vs.getD (k - 1) Value.none=.ref b2:=by rw[<-eb2];simp[hj]
    rw[e1,e2]
    refine Im (s:={s with heap:=H2}) hb1 hb2 (by rw[(hm _ (NF hi')).1,(hm _ (NF hj')).1]) ?_
    have:lF rs[k] rs[k - 1]=false:=hasc (k - 1) _ _ (Mu hj') (by rw[show k - 1 + 1=k by omega];exact Mu hi')
    rw[this];exact hC
   ·rintro⟨⟨⟩,st⟩ s' ⟨rfl,har,hf⟩
    exact fin st ((kat_snds rfl har).trans (by rw[show (List.toArray (List.range vs.length)).toList=List.range vs.length by simp,hout])) hf
end
end L2.ST
namespace L2
open PySem PyProof.Rows
section
variable {X:Cx}{K:Frag}{σ:St}{G H:Hp}{s:Shared}{E:XK}
def kP (p:Int×Int):List Key:=[.inl p.1,.inl p.2]
def Il {p q:Int×Int}:kP p=kP q↔p=q:=by
 unfold kP
 constructor
 ·intro h
  simp at h
  exact Prod.ext h.1 h.2
 ·intro h;rw[h]
abbrev KP (K:Frag)(G:Hp):List (List Key×V)->List ((Int×Int)×D)->Prop:=Paired λa b=>a.1=kP b.1/\Rp K G a.2 b.2
theorem KP.any {kvs:List (List Key×V)}{acc:List ((Int×Int)×D)}(h:KP K G kvs acc)(p:Int×Int):(kvs.any λkv=>decide (kv.1=kP p))=acc.any λkv=>decide (kv.1=p):=by
 induction h with
 |nil=>rfl
 |cons h _ ih=>
  rw[Oo,Oo,ih,h.1]
  congr 1
  rw[NV];exact Il
end
end L2
section
namespace L2.ST
open PySem PySem.W PyProof.Rows
section
variable {prog:Program}{w:World}{A:Around}{E:Value->Shared->Prop}{s:Shared}
def uC {v:Value}{vs:List Value}{rs:List (List Int)}{m:Nat}{Q:Value->Shared->Prop}(hps:mK s.heap vs rs)(hm:∀r,r∈rs->r.length=m/\r≠ [])(hasc:∀k r q,rs[k]? =some q->rs[k + 1]? =some r->lF r q=false)(hz:vs.length<=sizeLine)
  (hcol:∀(Q':List Value->Shared->Prop),(∀h' tk,(∀b o,s.heap.get? b=some o->h'.get? b=some o)->Q' vs {s with heap:=h',toks:=tk})->wpAny (model prog w) A.in1 (collect v) Q' (λe s'=>E e s') s)
  (h:∀(h1 h':Heap) (tk:Nat) (D:Addr) (c:Nat),(∀b o,s.heap.get? b=some o->h1.get? b=some o)->D=h1.objs.size->(∀b o,h1.get? b=some o->h'.get? b=some o)->h'.get? D=some (seqObj "list" vs.toArray c)->Q (.ref D) {s with heap:=h',toks:=tk}):wpAny (model prog w) A (call (.builtin "sorted") [v]) Q E s:=by
 refine Calls.call_function_entry kind_sorted plain_sorted entry_sorted (args_sorted1 _) ?_
 unfold Builtin.«sorted»
 refine Mv (m:=checkCount "sorted" 1 1 ([v]:List Value).length) (Mz ?_)
 refine Mv (hcol _ λh1 tk1 k1=>?_)
 refine Mv (wpAny_newList ?_ hz)
 show wpAny _ _ _ _ _ {s with heap:=h1.push (seqObj "list" vs.toArray 0),toks:=tk1}
 have hoL:(h1.push (seqObj "list" vs.toArray 0)).get? h1.objs.size=some (seqObj "list" vs.toArray 0):=MN _ rfl
 have kp:∀b o,s.heap.get? b=some o->(h1.push (seqObj "list" vs.toArray 0)).get? b=some o:=λb o e=>Mw _ (k1 b o e)
 have hp1:mK (h1.push (seqObj "list" vs.toArray 0)) vs rs:=⟨hps.1,λi v p a b=>by
  obtain⟨c,e,o,it,n,ho,r⟩:=hps.2 i v p a b
  exact⟨c,e,o,it,n,kp _ _ ho,r⟩⟩
 refine Mv (NR (N9 slot_list_sort ⟨_,hoL,rfl⟩ entry_list_sort ?_ (args_list_sort _)))
 refine wy (s:={s with heap:=h1.push (seqObj "list" vs.toArray 0),toks:=tk1}) hoL hp1 hm hasc hz λh' c hk ho=>?_
 refine⟨_,rfl,Mz ⟨_,rfl,?_⟩⟩
 exact h h1 h' tk1 h1.objs.size c k1 rfl (λb o e=>hk b o (M7 (MH e)) (Mw _ e)) ho
end
end L2.ST
namespace L2
open PySem PyProof.Rows
section
variable {X:Cx}{K:Frag}{σ:St}{G H:Hp}{s:Shared}{E:XK}
def nN (K:Frag)(H:Hp):List V->List (List Int)->Prop:=Paired λv r=>∃b,v=.ref b/\eV K H b (r.map V.int)
def CZ (K:Frag):List V->Hp->VK->Prop:=λxs H Q=>∃a vs rs m,xs= [.ref a]/\eY K H a vs/\nN K H vs rs/\(∀r,r∈rs->r.length=m/\r≠ [])/\(∀k r q,rs[k]? =some q->rs[k + 1]? =some r->ST.lF r q=false)/\∀l,H l=none->Q (.ref l) (upd H l (.lst vs))
theorem yX {pins:List (Addr×Obj)}(I:Inv X pins σ H s):∀{vs:List V} {us:List Value} {rs:List (List Int)},Vals vs us->nN X.K H vs rs->ST.mK s.heap us rs
 |_,_,_,.nil,.nil=>⟨rfl,λi v r h _=>by simp at h⟩
 |_,_,_,.cons hv tv,.cons hr tr=>by
  obtain⟨e,f⟩:=yX I tv tr
  refine⟨by simp[e],λi v r h1 h2=>?_⟩
  cases i with
  |zero=>
   simp at h1 h2
   subst h1 h2
   obtain⟨b,rfl,hq⟩:=hr
   cases hv
   obtain⟨its,rv,tp,_⟩:=I.tuple hq
   obtain⟨o,ho,hc,n,hd⟩:=tp
   exact⟨b,rfl,o,its.toArray,n,ho,hc,hd,intsAre_of rv⟩
  |succ i=>exact f i v r (by simpa using h1) (by simpa using h2)
def wF:cL X (.builtin "sorted") (CZ X.K):=by
 intro pins s σ H xs us Q I r h
 obtain⟨a,vs,rs,m,rfl,hq,hp,hm,hasc,q⟩:=h
 obtain⟨u,rfl,rx⟩:=vals1 r
 cases rx
 obtain⟨its,rv,pl,hz⟩:=I.list hq
 have hz':its.length<=sizeLine:=by rw[<-rv.length];exact hz
 refine ST.uC (v:=.ref a) (yX I rv hp) hm hasc hz' (λQ' hQ'=>collect_list pl.isList ?_ hz') λh1 h' tk D c k1 eD k2 ho=>?_
 ·exact hQ' _ s.toks λb o e=>by
   rw[Heap.get?_update_ne _ _ _ _ (M7 (MH e)),Pl _ _ _ (M7 (MH e))];exact e
 ·have I1:Inv X pins σ H {s with heap:=h1,toks:=tk}:=I.kept k1
  have hf:H D=none:=by rw[eD];exact I1.hok.fresh (My _)
  have I2:Inv X pins σ (upd H D (.lst vs)) {s with heap:=h',toks:=tk}:=I1.laid (t':=tk) k2 (by rw[eD];exact My _) (show cH X.prog X.w _ h' _ (.lst vs) from⟨hz,its,c,rv,ho⟩)
  exact⟨.ref D,_,I2,rfl,q D hf⟩
def kY:List D->Option (List (List Int))
 | []=>some []
 | .tuple ds :: es=>match eZ ds,kY es with
  |some r,some rs=>some (r :: rs)
  |_,_=>none
 |_=>none
def qu:List (List Int)->Bool
 |r :: q :: rs=>decide (r.length=q.length) && !r.isEmpty && !ST.lF q r && qu (q :: rs)
 | [r]=> !r.isEmpty
 | []=>true
theorem uj:∀{rs:List (List Int)},qu rs=true->∃m,∀r,r∈rs->r.length=m/\r≠ []
 | [],_=>⟨0,λr hr=>by cases hr⟩
 | [r],h=>⟨r.length,λq hq=>by
  rw[MZ] at hq
  subst hq
  refine⟨rfl,λe=>?_⟩
  rw[e] at h;cases h⟩
 |r :: q :: rs,h=>by
  unfold qu at h
  simp only[MP,MT,NX] at h
  obtain⟨m,hm⟩:=uj h.2
  refine⟨m,λx hx=>?_⟩
  rcases MB.mp hx with rfl |hx
  ·exact⟨h.1.1.1.trans (hm q (MC ..)).1,λe=>by rw[e] at h;cases h.1.1.2⟩
  ·exact hm x hx
theorem yo:∀{rs:List (List Int)},qu rs=true->∀k r q,rs[k]? =some q->rs[k + 1]? =some r->ST.lF r q=false
 | [],_,k,r,q,h1,_=>by simp at h1
 | [x],_,k,r,q,_,h2=>by simp at h2
 |x :: y :: rs,h,k,r,q,h1,h2=>by
  unfold qu at h
  simp only[MP,MT,NX] at h
  cases k with
  |zero=>simp at h1 h2;subst h1 h2;exact h.1.2
  |succ k=>exact yo h.2 k r q (by simpa using h1) (by simpa using h2)
theorem Bw:∀{ds:List D} {xs:List V} {rs:List (List Int)},b5 K G xs ds->kY ds=some rs->nN K G xs rs
 | [],_,_,.nil,e=>by cases e;exact .nil
 |d :: ds,_,rs,.cons h t,e=>by
  unfold kY at e
  split at e
  ·rename_i z;cases z
  ·rename_i ts es z
   cases z
   cases e1:eZ ts with
   |none=>rw[e1] at e;cases e
   |some r=>
    cases e2:kY ds with
    |none=>rw[e1,e2] at e;cases e
    |some qs=>
     rw[e1,e2] at e
     cases e
     cases h with
     |tup hq r'=>
      rw[kf e1] at r'
      have:=r'.intsB
      subst this
      exact .cons ⟨_,rfl,hq⟩ (Bw t e2)
  ·cases e
def rW:D->Option D
 | .list ds=>match kY ds with
  |some rs=>if qu rs=true then some (.list ds) else none
  |none=>none
 |_=>none
theorem nN.grow {G H:Hp}(s:au G H):∀{vs:List V} {rs:List (List Int)},nN K G vs rs->nN K H vs rs
 |_,_,.nil=>.nil
 |_,_,.cons ⟨b,e,q⟩ t=>.cons ⟨b,e,q.grow s.grow⟩ (nN.grow s t)
theorem Ed:AS K (λx=>CZ K [x]) rW .w:=by
 intro B G H x dx d Q s hB bx e k
 cases dx with
 |list ds=>
  unfold rW at e
  dsimp only at e
  cases e1:kY ds with
  |none=>rw[e1] at e;cases e
  |some rs=>
   rw[e1] at e
   dsimp only at e
   split at e
   ·rename_i hz
    cases e
    obtain⟨p,xs,rfl,hq,r⟩:=bx.list s
    obtain⟨m,hm⟩:=uj hz
    refine⟨p,xs,rs,m,rfl,.inl hq,nN.grow s (Bw r e1),hm,yo hz,λl hl=>?_⟩
    have hh:au H (upd H l (.lst xs)):=au.new hl
    refine k _ _ _ (Ext.tups s hh) ⟨l,rfl,hl,?_,xs,aC,r.mono (Ext.tups s hh).gg⟩
    unfold ly
    rw[s.free hl,aC]
    exact MF λy=>y
   ·cases e
 |_=>cases e
end
end L2
end
namespace L2
open PySem PyProof.Rows
section
variable {X:Cx}{K:Frag}{Γ:Fx}{E:XK}{a b:Expr}{fa fb:VF D}{La Lb:List Nat}{ma mb:Md}{apos cpos:Pos}{H:Hp}
def D8 (K:Frag):V->List V->Hp->VK->Prop:=λx vs H Q=>∃(a:Addr) (xs:List V) (v:V) (d:PyData) (ds:List PyData) (j:Nat) (e:PyData),x=.ref a/\vs= [v]/\eY K H a xs/\il K H xs ds/\Rep K H v d/\SeqAt.shaped d=true/\(∀e,e∈ds->SeqAt.shaped e=true)/\
 ds[j]? =some e/\PyData.eqv e d=true/\(∀m e,m < j->ds[m]? =some e->PyData.eqv e d=false)/\Q (.int (j:Nat)) H
def zl (hu:X.A.units + 100 < cLine):IY X "list.index" (D8 X.K):=by
 intro pins s σ H x vs v us Q I rx rv h
 obtain⟨a,xs,w,d,ds,j,e0,rfl,rfl,hq,hs,hx,s1,s2,hj,he0,hno,q⟩:=h
 cases rx
 obtain⟨u,rfl,ru⟩:=vals1 rv
 obtain⟨bs,r2⟩:=hx.reads I ru
 obtain⟨its,rs,pl,hz⟩:=I.list hq
 obtain⟨f,e1,e2⟩:=pI I d rs hs s2
 have hf:∀m e y,ds[m]? =some e->its[m]? =some y->f y=PyData.eqv e d:=λm e y h1 h2=>by
  obtain⟨e',as,hm,rd,ef⟩:=e2 y (MO h2)
  have hml:m < xs.length:=by rw[rs.length];exact (MJ.mp h2).1
  obtain⟨y',hy,ry⟩:=Vals.get rs (Mu hml)
  rw[h2] at hy
  cases hy
  obtain⟨e'',ee,re⟩:=il.at' hs (Mu hml)
  rw[h1] at ee
  cases ee
  obtain⟨as',q'⟩:=re.reads I ry
  rw[ef,SeqAt.Reads.unique _ _ _ _ _ (NW (s2 _ hm)) rd q']
 obtain⟨⟨cls,dd,data,sl⟩,ho,hc,n,hd⟩:=id pl.isList
 simp only at hc hd
 subst hc hd
 have hjl:j < ds.length:=(MJ.mp hj).1
 have hil:its.length=ds.length:=by rw[<-rs.length,hs.len]
 have hsz:(sizeLine:Int) < 2 ^ 63 - 1:=by decide +kernel
 have hz':ds.length<=sizeLine:=by rw[<-hs.len];exact hz
 refine call_meets PySem.F.slot_list_index ⟨_,ho,rfl⟩ PySem.F.entry_list_index (PySem.F.args_list_index_2 _ _)
  (SeqAt.list_indexAt a its.toArray n dd sl u f j (by simpa using (by omega:j < its.length)) (by omega) ?_ ?_) ⟨ho,λy hy=>?_,?_⟩
 ·have hji:j < its.length:=by omega
  rw[hf j e0 its.toArray[j] hj (by simp[hji]),he0]
 ·intro m hm hlt
  have hm':m < its.length:=by simpa using hm
  rw[hf m ds[m] its.toArray[m] (Mu (by omega)) (by simp[hm']),hno m _ hlt (Mu (by omega))]
 ·obtain⟨e,as,hm,rd,ef⟩:=e2 y (by simpa using hy)
  rw[ef]
  refine SeqAt.eqAt_reads _ _ _ _ _ _ _ _ rd r2 (NW (s2 e hm)) (NW s1) ?_
  have:=SeqAt.depth_of_shaped (s2 e hm)
  show X.A.units + 1 + _ < _
  omega
 ·exact⟨.int (j:Nat),H,I.tok _,⟨_,rfl⟩,q⟩
def L1 (K:Frag)(r:V->List V->Hp->VK->Prop)(to:TE)(t:TA):TE:=λσ H Q=>to σ H λx H1=>(∃p xs,x=.ref p/\eY K H1 p xs)/\t σ H1 λxs H2=>r x xs H2 Q
def HJ {o e:Expr}{es:List Expr}{to:TE}{t:TA}{name:Str}{apos cpos:Pos}{id:String}{r:V->List V->Hp->VK->Prop}(slot:Slot "list" name id)(hty:typeOf (.builtin id)=pure (.type "method_descriptor"))(hm:IY X id r)(ho:PE X o to)(ha:PA X (e :: es) t)
  (hbase:attributeBase o name X.env (eval o X.env)=eval o X.env:=by rfl)
  (hfew:((backTo cpos (starEach (e :: es) X.env)).all (λx=> !x.1) && (backToKw cpos (keywordEach [] X.env)).all (λx=>x.1.isSome)
   && decide ((e :: es).length + ([]:List Keyword).length + (if ([]:List Keyword).isEmpty then 0 else 1) < 30))=true:=by rfl)
  (hline:(apos.endLine == cpos.line)=true:=by rfl) (hs:starEach (e :: es) X.env=(false,eval e X.env) :: starEach es X.env:=by rfl) (hplain:(backTo cpos (starEach es X.env)).any (·.1)=false:=by rfl) :
  PE X (.Call (.Attribute o name apos) (e :: es) [] cpos) (L1 X.K r to t):=by
 intro pins s σ H Q I h
 refine wpAny_Call_method_late hbase hfew hline rfl (cv (ho pins s σ H _ I h) λv s1 ⟨x,H1,I1,r1,⟨p,ys,ex,hr⟩,q1⟩=>?_)
 subst ex
 cases r1
 obtain⟨its,_,⟨ob,n,e0,c0,d0,_⟩,_⟩:=I1.list hr
 refine⟨"list",id,OV,slot,hty,⟨ob,e0,c0⟩,λa z=>by cases z;exact⟨ob,e0,d0⟩,?_⟩
 have hA:=ha cpos pins s1 σ H1 _ I1 q1
 rw[hs] at hA ⊢
 refine Calls.callWith_builtin (by show (false || (backTo cpos (starEach es X.env)).any (·.1))=false;rw[hplain] <;> rfl) (O5 ?_)
 exact cv hA λus s2 ⟨vs,H2,I2,r2,q2⟩=>hm pins s2 σ H2 (.ref p) vs (.ref p) us Q I2 rfl r2 q2
def KD (ds:List D)(y:D):Option D:=match ds.findIdx? λe=>PyData.eqv e y with
 |some j=>if (SeqAt.shaped y && ds.all SeqAt.shaped)=true then some (.int (j:Nat)) else none
 |none=>none
def sS:D->Bool
 | .list _=>true
 |_=>false
def uF (fa fb:VF D):VF D:=λvs β=>(fa vs β).bnd λx β1=>if sS x=true then (fb vs β1).bnd λy β2=>R.of (match x with | .list ds=>KD ds y |_=>none) β2 else .bad
theorem zi (hu:X.A.units + 100 < cLine)(hK:X.K=Γ.K)(ha:SE X Γ E a fa La .v)(hb:SE X Γ E b fb Lb mb)
  (hbase:attributeBase a "index" X.env (eval a X.env)=eval a X.env:=by rfl)
  (hfew:((backTo cpos (starEach [b] X.env)).all (λx=> !x.1) && (backToKw cpos (keywordEach [] X.env)).all (λx=>x.1.isSome)
   && decide ([b].length + ([]:List Keyword).length + (if ([]:List Keyword).isEmpty then 0 else 1) < 30))=true:=by rfl)
  (hline:(apos.endLine == cpos.line)=true:=by rfl) (hs:starEach [b] X.env=(false,eval b X.env) :: starEach [] X.env:=by rfl) :
  SE X Γ E (.Call (.Attribute a "index" apos) [b] [] cpos) (uF fa fb) (La ++ Lb) .v:=by
 refine PE.post' (HJ PySem.F.slot_list_index PySem.F.type_list_index (zl hu) ha (aO hb bA hs) hbase hfew hline hs rfl) λσ H Q ⟨env,G,B,β,I,o⟩=>?_
 refine⟨env,G,B,β,I,o.bnd.imp λd1 β1 h x G1 H1 I1 s1 m1 vx=>?_⟩
 have vx:Rp Γ.K G1 x d1:=vx
 cases d1 with
 |list ds=>
  rw[MA (show sS (.list ds)=true from rfl)] at h
  cases vx with
  | @lst p xs _ hp r=>
   have hq:eY X.K H1 p xs:=.inl (.inl (I1.sub _ _ hp))
   refine⟨⟨p,xs,rfl,hq⟩,?_⟩
   refine⟨bq La env,G1,B,β1,I1,?_⟩
   rw[eQ]
   refine h.bnd.imp λd2 β2 h y G2 H2 I2 s2 m2 vy=>?_
   obtain⟨d,e,k⟩:=h.of
   have vy:=vy.brw I1.boxThere
   dsimp only at e
   unfold KD at e
   cases hj:ds.findIdx? λe=>PyData.eqv e d2 with
   |none=>rw[hj] at e;cases e
   |some j=>
    rw[hj] at e
    dsimp only at e
    split at e
    ·rename_i hsh
     cases e
     rw[MP] at hsh
     obtain⟨hjl,h1,h2⟩:=List.findIdx?_eq_some_iff_getElem.mp hj
     have r2:b5 Γ.K H2 xs ds:=r.mono (s2.trans I2.sub)
     refine⟨p,xs,y,d2,ds,j,ds[j],rfl,rfl,.inl (.inl (I2.sub _ _ (s2 _ _ hp))),by rw[hK];exact r2.reps (sN hsh.2),by rw[hK];exact (vy.rpH I2.sub).rep (pL hsh.1),hsh.1,λe he=>MS.mp hsh.2 e he,Mu hjl,h1,λm e hm he=>?_,k _ G2 H2 (by rw[cf];exact I2) (s1.trans s2) (m1.trans m2) (.int _)⟩
     obtain⟨hml,rfl⟩:=MJ.mp he
     simpa using h2 m hm
    ·cases e
 |_=>exact h.elim
end
end L2
namespace RM
open PySem L2
def kC (cA cD aN:List D->FR):SF:=(aH (g8 ([0] ++ []) (nV (la (ak cA (aa (gv 0) ah))))
 (λenv β=>toS ((aa (cst (.str "this is no number of things")) ah) (vl env) β) λds _=>if ds.length<=sizeLine then .exc "NoMany" else .bad)
 iQ)
 (aH (g8 ([] ++ ([] ++ [])) (lJ (nV (la (f1 (gv 1) (ik "list")))) (dD (f2 (f1 (gv 1) c3) (cst (.int 0)) (dC false))))
 (λenv β=>toS ((aa (cst (.str "this is no list of one row or more")) ah) (vl env) β) λds _=>if ds.length<=sizeLine then .exc "NoRows" else .bad)
 iQ)
 (aH (g8 ([] ++ [0]) (nV (la (f1 (aP 1 [0] (.nm 0) (bu (gv 1)) ij (ak cD (aa (gv 0) (aa (gv 1) ah)))) (cn λbs=>bs.all id))))
 (λenv β=>toS ((aa (cst (.str "not each of these is a row of all things")) ah) (vl env) β) λds _=>if ds.length<=sizeLine then .exc "NoRows" else .bad)
 iQ)
 (bP (fF (aa (gv 0) (aa (ak aN (aa (gv 0) (aa (gv 1) ah))) ah)))))))
noncomputable def zf (fD dP gR jE dq gS hU je gP:List D->FR)(dh aW:List D->Int->FB):SF:=(aH (dO (.nm 1) ([] ++ ([] ++ [])) (gq (f2 (cst (.int 1)) (f2 (f1 (gv 0) c3) (cst (.int 2)) (vP λi j=>.int (if j < i then j else i))) (vP λi j=>.int (if j > i then j else i))))
 (aH (yD 2 ([0] ++ ([1] ++ [])) (uR fD (aa (gv 0) (aa (gv 1) ah))))
 (aH (bo 3 ([] ++ []) (mY 2 dh (aa (cst (.int 5)) ah)))
 (aH (bo 4 (([3] ++ []) ++ [3]) (aP 1 [3] (.nm 0) (gq (ak dP (aa (gv 3) ah))) ij (ak gR (aa (gv 1) (aa (gv 0) ah)))))
 (aH (g8 ((([4] ++ ([3] ++ [])) ++ []) ++ ([] ++ [])) (lJ (dD (f2 (ak jE (aa (gv 4) (aa (gv 3) ah))) (cst (.bool true)) Gx)) (dD (f2 (gv 4) (f1 (gv 4) rW) (dC true))))
 (bP (cst (.bool false)))
 iQ)
 (dO (.nm 5) [] (gq (cst (.int 3)))
 (aH (bo 6 ([] ++ ([] ++ [])) (f2 (cst (.int 1)) (mY 2 aW (aa (cst (.int 3)) ah)) cP))
 (aH (bo 7 ([] ++ []) (aP 1 [4,2] (.nm 0) (gq (gv 6)) ij (f2 (gv 1) (mY 2 aW (aa (f1 (gv 1) c3) ah)) bR)))
 (aH (bo 8 ([3] ++ ([7] ++ [])) (ak dq (aa (gv 3) (aa (gv 7) ah))))
 (aH (bo 9 (([] ++ []) ++ ([7] ++ [])) (ak gS (aa (f2 (gv 3) (cst (.int 0)) bR) (aa (gv 7) ah))))
 (aH (g8 (([] ++ ([] ++ [])) ++ (([7] ++ ([3] ++ [])) ++ [])) (lJ (dD (f2 (f1 (gv 8) λd=>some (.bool (kT d))) (f2 (gv 9) (gv 3) (dC false)) (dC true))) (dD (f2 (ak jE (aa (gv 7) (aa (gv 3) ah))) (f1 (gv 8) λd=>some (.bool (kT d))) (dC true))))
 (bP (cst (.bool false)))
 iQ)
 (aH (g8 ((([] ++ []) ++ []) ++ []) (dD (f2 (aP 1 [9] (.nm 0) (bu (f2 (gv 3) (cst (.int 1)) bR)) (dD (f2 (gv 0) (f2 (gv 1) (cst (.int 1)) bR) (Dx true))) (gv 0)) (cG ah) (dC true)))
 (bP (cst (.bool false)))
 iQ)
 (aH (g8 ([] ++ (([] ++ (([] ++ []) ++ [])) ++ ([3] ++ []))) (DX (tN (gv 8) false) (nV (la (ak jE (aa (f2 (gv 7) (Kj (gv 4) (λ_ β=>.ok none β) (Jv (cst (.int 1)))) jX) (aa (gv 3) ah))))))
 (bP (cst (.bool false)))
 iQ)
 (aH (g8 [] (tN (gv 8) true)
 (aH (yP (.two 10 11) [8] (gv 8))
 (g8 (([] ++ []) ++ []) (dD (f2 (aP 1 [11,10] (.nm 0) (bu (gv 4)) (dD (f2 (xf (gv 0) (gv 1)) (xf (gv 0) (gv 2)) vU)) (gv 0)) (cG ah) (dC false)))
 (bP (cst (.bool false)))
 iQ))
 iQ)
 (aH (bo 12 ([] ++ []) (aP 1 [] (.nm 0) (bu (gv 7)) ij (f1 (gv 0) AM)))
 (aH (g8 ((([12] ++ (([3] ++ []) ++ [])) ++ []) ++ ([] ++ [3])) (lJ (dD (f2 (ak jE (aa (gv 12) (aa (ak hU (aa (gv 3) ah)) ah))) (f1 (gv 8) λd=>some (.bool (kT d))) (dC true))) (nV (la (f1 (aP 1 [3] (.nm 0) (bu (gv 12)) ij (ak je (aa (gv 0) (aa (ak hU (aa (gv 1) ah)) ah)))) (cn λbs=>bs.all id)))))
 (bP (cst (.bool false)))
 iQ)
 (g8 (([3] ++ (([] ++ []) ++ [])) ++ ([4] ++ ([] ++ []))) (dD (f2 (ak gP (aa (gv 3) (aa (f2 (gv 7) (cst (.int 0)) bR) ah))) (uF (gv 4) (f2 (gv 7) (cst (.int 0)) bR)) (dC true)))
 (bP (cst (.bool false)))
 iQ)))))))))))))))))
 (bP (cst (.bool true))))
end RM
section
set_option maxHeartbeats 0
namespace RQ
open PySem L2 RM
def top (i:Nat):Stmt:=PySem.Challenge.pw_rowsorder_k14_whole_rows_tell.main.body.getD i (.Pass ⟨0,0,0,0⟩)
section
variable {P:Program}{w:World}{K:Frag}{mg:Str->Option Value}{base:Heap}{ca:Str->Addr}
abbrev jx:Stmt:=top 2
def uO:aJ ["thing"] ["thing"] (ay jx):=⟨rfl,rfl,rfl,by decide +kernel,rfl,by decide +kernel,by decide +kernel⟩
def rY {f:Addr}{fd:FuncData}(F:jl K mg "is_whole" jx ["thing"] f fd)(B:jr mg):bX P w K mg base ca "is_whole" ["thing"] 1 (bp 1 1 (pd)):=
 ⟨⟨f,fd,F.mg,F.F.kp,F.b,a9 (N:=["thing"]) (k:=0) F.F uO λcdv A outer s H G E hr=>
  (aE (ba (lr (j4 "int" (by decide) rfl rfl B.isinstance rfl B.int (by decide +kernel) (af 0)) (lG (A5 (j4 "bool" (by decide) rfl rfl B.isinstance rfl B.bool (by decide +kernel) (af 0)))) (λ_ _=>rfl))))⟩,λds h=>aQ ds h⟩
abbrev jm:Stmt:=top 3
def vv:aJ ["thing","bound"] ["thing","bound"] (ay jm):=⟨rfl,rfl,rfl,by decide +kernel,rfl,by decide +kernel,by decide +kernel⟩
def sE {f:Addr}{fd:FuncData}{bY:List D->FR}(F:jl K mg "is_below" jm ["thing","bound"] f fd)(B:jr mg)(fB:bX P w K mg base ca "is_whole" ["thing"] 1 bY):bX P w K mg base ca "is_below" ["thing","bound"] 2 (bp 2 2 (pY bY)):=
 ⟨⟨f,fd,F.mg,F.F.kp,F.b,a9 (N:=["thing","bound"]) (k:=1) F.F vv λcdv A outer s H G E hr=>
  (aE (ba (lr (aA fB (hr.mono (by decide)) aR rfl rfl (ae (av 0 rfl) ao)) (lG (ux BR qR GJ Ad aB (af 0) (af 1))) (λ_ _=>rfl))))⟩,λds h=>aQ ds h⟩
abbrev kz:Stmt:=top 4
def wR:aJ ["thing"] ["thing"] (ay kz):=⟨rfl,rfl,rfl,by decide +kernel,rfl,by decide +kernel,by decide +kernel⟩
def ui {f:Addr}{fd:FuncData}{bY:List D->FR}(F:jl K mg "is_many" kz ["thing"] f fd)(B:jr mg)(fB:bX P w K mg base ca "is_whole" ["thing"] 1 bY){qy:Tok}(iR:mg "MOST_THINGS"=some (.int 8 qy)):bX P w K mg base ca "is_many" ["thing"] 2 (bp 1 1 (qS bY)):=
 ⟨⟨f,fd,F.mg,F.F.kp,F.b,a9 (N:=["thing"]) (k:=1) F.F wR λcdv A outer s H G E hr=>
  (aE (ba (lr (aA fB (hr.mono (by decide)) aR rfl rfl (ae (av 0 rfl) ao)) (lG (ux BR BR GJ GJ aB (af 0) (Fs (by rfl) iR))) (λ_ _=>rfl))))⟩,λds h=>aQ ds h⟩
abbrev kM:Stmt:=top 5
def wM:aJ ["thing","many"] ["thing","many"] (ay kM):=⟨rfl,rfl,rfl,by decide +kernel,rfl,by decide +kernel,by decide +kernel⟩
def vL {f:Addr}{fd:FuncData}{bg:List D->FR}(F:jl K mg "is_pair" kM ["thing","many"] f fd)(B:jr mg)(cq:bX P w K mg base ca "is_below" ["thing","bound"] 2 bg):bX P w K mg base ca "is_pair" ["thing","many"] 3 (bp 2 2 (rS bg)):=
 ⟨⟨f,fd,F.mg,F.F.kp,F.b,a9 (N:=["thing","many"]) (k:=2) F.F wM λcdv A outer s H G E hr=>
  (ag (cB (tY.t (lV (c7 (cU rfl (j4 "tuple" (by decide) rfl rfl B.isinstance rfl B.tuple (by decide +kernel) (af 0)))) (js (bM (gj hr.units) gr (bb cF i9 rfl B.len NJ (af 0)) aB (bw _))) (λ_ _=>rfl)))
  (aE (ba gp))
  bI)
  (aE (ba (lr (aA cq (hr.mono (by decide)) aR rfl rfl (ae (bt aZ cm (af 0) aB (λ_ _=>rfl)) (ae (av 1 rfl) ao))) (lG (aA cq (hr.mono (by decide)) aR rfl rfl (ae (bt aZ cm (af 0) aB (λ_ _=>rfl)) (ae (av 1 rfl) ao)))) (λ_ _=>rfl)))))⟩,λds h=>aQ ds h⟩
abbrev kA:Stmt:=top 6
def xm:aJ ["thing","many"] ["thing","many"] (ay kA):=⟨rfl,rfl,rfl,by decide +kernel,rfl,by decide +kernel,by decide +kernel⟩
def u5 {f:Addr}{fd:FuncData}{bg:List D->FR}(F:jl K mg "is_line" kA ["thing","many"] f fd)(B:jr mg)(cq:bX P w K mg base ca "is_below" ["thing","bound"] 2 bg):bX P w K mg base ca "is_line" ["thing","many"] 3 (bp 2 2 (kS bg)):=
 ⟨⟨f,fd,F.mg,F.F.kp,F.b,a9 (N:=["thing","many"]) (k:=2) F.F xm λcdv A outer s H G E hr=>
  (ag (cB (tY.t (lV (c7 (cU rfl (j4 "tuple" (by decide) rfl rfl B.isinstance rfl B.tuple (by decide +kernel) (af 0)))) (js (bM (gj hr.units) gr (bb cF i9 rfl B.len NJ (af 0)) (af 1) (bw _))) (λ_ _=>rfl)))
  (aE (ba gp))
  bI)
  (aE (ba (lr (bb (gW rfl) iH rfl B.all (by decide +kernel) (b4 (NB:=["one","many"]) (own:=1) (ixs:=[1]) [1] rfl (cp (by kernel_rfl)) (λ_ _=>rfl) (jY rfl (af 0)) (λH0 G0 par br bx C ex s3 H3 pn=>(cO (i:=0) (show (["one","many"]:List Str).Nodup by decide +kernel))) (λH0 G0 par br bx C ex s3 H3 pn hB1=>cw) (λH0 G0 par br bx C ex s3 H3 pn hB1=>(aA cq (hr.mono (by decide)) jU rfl rfl (ae (av 0 (hB1 0 (by decide))) (ae (av 1 (hB1 1 (by decide))) ao)))))) (lG (lC (gk hr.units) gr (AI rfl rfl rfl B.len rfl B.set (af 0)) (af 1) (bw _))) (λ_ _=>rfl)))))⟩,λds h=>aQ ds h⟩
abbrev eO:Stmt:=top 7
def qH:aJ ["many"] ["many"] (ay eO):=⟨rfl,rfl,rfl,by decide +kernel,rfl,by decide +kernel,by decide +kernel⟩
def p7 {f:Addr}{fd:FuncData}(F:jl K mg "every_pair" eO ["many"] f fd)(B:jr mg):bX P w K mg base ca "every_pair" ["many"] 1 (bp 1 1 (gx)):=
 ⟨⟨f,fd,F.mg,F.F.kp,F.b,a9 (N:=["many"]) (k:=0) F.F qH λcdv A outer s H G E hr=>
  (aE (si (b4 (NB:=["number","many"]) (own:=1) (ixs:=[0]) [] rfl (cp (by kernel_rfl)) (λ_ _=>rfl) (nK rfl B.range (bH kq lH (af 0) (af 0))) (λH0 G0 par br bx C ex s3 H3 pn=>(cO (i:=0) (show (["number","many"]:List Str).Nodup by decide +kernel))) (λH0 G0 par br bx C ex s3 H3 pn hB1=>cw) (λH0 G0 par br bx C ex s3 H3 pn hB1=>(jH (ae (bH lZ E4 (af 0) (af 1)) (ae (bH lI qW (af 0) (af 1)) ao)))))))⟩,λds h=>aQ ds h⟩
abbrev jQ:Stmt:=top 18
def vg:aJ ["pairs"] ["pairs"] (ay jQ):=⟨rfl,rfl,rfl,by decide +kernel,rfl,by decide +kernel,by decide +kernel⟩
def sv {f:Addr}{fd:FuncData}(F:jl K mg "has_ring" jQ ["pairs"] f fd)(B:jr mg):bX P w K mg base ca "has_ring" ["pairs"] 1 (bp 1 1 (oF)):=
 ⟨⟨f,fd,F.mg,F.F.kp,F.b,a9 (N:=["pairs"]) (k:=0) F.F vg λcdv A outer s H G E hr=>
  (aE (ba (bb (CW rfl) iH rfl B.any (by decide +kernel) (b4 (NB:=["a","b"]) (own:=2) (ixs:=[]) [] rfl (cp (by kernel_rfl)) (λ_ _=>rfl) (jY rfl (af 0)) (λH0 G0 par br bx C ex s3 H3 pn=>(iW (i:=0) (j:=1) (show (["a","b"]:List Str).Nodup by decide +kernel))) (λH0 G0 par br bx C ex s3 H3 pn hB1=>cw) (λH0 G0 par br bx C ex s3 H3 pn hB1=>(lC (gk hr.units) gr (af 0) (af 1) (bw _)))))))⟩,λds h=>aQ ds h⟩
abbrev jG:Stmt:=top 16
def j5:aJ ["thing","many","pairs"] ["thing"] (ay jG):=⟨rfl,rfl,rfl,by decide +kernel,rfl,by decide +kernel,by decide +kernel⟩
def tX {f:Addr}{fd:FuncData}{cA gM jb fo:List D->FR}(F:jl K mg "is_order" jG ["thing"] f fd)(B:jr mg)(gN:bX P w K mg base ca "is_many" ["thing"] 2 cA)(mO:bX P w K mg base ca "is_pair" ["thing","many"] 3 gM)(pS:bX P w K mg base ca "closed" ["many","pairs"] 3 jb)(lL:bX P w K mg base ca "has_ring" ["pairs"] 1 fo):bX P w K mg base ca "is_order" ["thing"] 4 (bp 3 1 (gV cA gM jb fo)):=
 ⟨⟨f,fd,F.mg,F.F.kp,F.b,a9 (N:=["thing","many","pairs"]) (k:=3) F.F j5 λcdv A outer s H G E hr=>
  (ag (cB (tY.t (lV (c7 (cU rfl (j4 "tuple" (by decide) rfl rfl B.isinstance rfl B.tuple (by decide +kernel) (af 0)))) (js (bM (gj hr.units) gr (bb cF i9 rfl B.len NJ (af 0)) aB (bw _))) (λ_ _=>rfl)))
  (aE (ba gp))
  bI)
  (ag (a7 (i:=1) (bt aZ cm (af 0) aB (λ_ _=>rfl)) j5.nd)
  (ag (a7 (i:=2) (bt aZ cm (af 0) aB (λ_ _=>rfl)) j5.nd)
  (ag (cB (tY.t (lV (c7 (cU rfl (aA gN (hr.mono (by decide)) aR rfl rfl (ae (av 1 rfl) ao)))) (js (c7 (cU rfl (j4 "tuple" (by decide) rfl rfl B.isinstance rfl B.tuple (by decide +kernel) (af 2))))) (λ_ _=>rfl)))
  (aE (ba gp))
  bI)
  (ag (cB (c7 (cU rfl (bb (gW rfl) iH rfl B.all (by decide +kernel) (b4 (NB:=["pair","many"]) (own:=1) (ixs:=[1]) [1] rfl (cp (by kernel_rfl)) (λ_ _=>rfl) (jY rfl (af 2)) (λH0 G0 par br bx C ex s3 H3 pn=>(cO (i:=0) (show (["pair","many"]:List Str).Nodup by decide +kernel))) (λH0 G0 par br bx C ex s3 H3 pn hB1=>cw) (λH0 G0 par br bx C ex s3 H3 pn hB1=>(aA mO (hr.mono (by decide)) jU rfl rfl (ae (av 0 (hB1 0 (by decide))) (ae (av 1 (hB1 1 (by decide))) ao))))))))
  (aE (ba gp))
  bI)
  (aE (ba (lr (lC (gk hr.units) gr (af 2) (aA pS (hr.mono (by decide)) aR rfl rfl (ae (av 1 rfl) (ae (av 2 rfl) ao))) (bw _)) (lG (A5 (aA lL (hr.mono (by decide)) aR rfl rfl (ae (av 2 rfl) ao)))) (λ_ _=>rfl)))))))))⟩,λds h=>aQ ds h⟩
abbrev gz:Stmt:=top 19
def qC:aJ ["thing"] ["thing"] (ay gz):=⟨rfl,rfl,rfl,by decide +kernel,rfl,by decide +kernel,by decide +kernel⟩
def pJ {f:Addr}{fd:FuncData}{fJ:List D->FR}(F:jl K mg "need_order" gz ["thing"] f fd)(B:jr mg)(lj:bX P w K mg base ca "is_order" ["thing"] 4 fJ)(jc:Exc K mg ca "NoOrder"):bX P w K mg base ca "need_order" ["thing"] 5 (bp 1 1 (gH fJ)):=
 ⟨⟨f,fd,F.mg,F.F.kp,F.b,a9 (N:=["thing"]) (k:=4) F.F qC λcdv A outer s H G E hr=>
  (aE (cB (c7 (cU rfl (aA lj (hr.mono (by decide)) aR rfl rfl (ae (av 0 rfl) ao))))
  (aE (gZ jc.ex jc.ca rfl jc.mg (ae lq ao)))
  bI))⟩,λds h=>aQ ds h⟩
abbrev l8:Stmt:=top 20
def As:aJ ["order"] ["order"] (ay l8):=⟨rfl,rfl,rfl,by decide +kernel,rfl,by decide +kernel,by decide +kernel⟩
def xY {f:Addr}{fd:FuncData}{ar:List D->FR}(F:jl K mg "turned" l8 ["order"] f fd)(B:jr mg)(aI:bX P w K mg base ca "need_order" ["thing"] 5 ar):bX P w K mg base ca "turned" ["order"] 6 (bp 1 1 (qd ar)):=
 ⟨⟨f,fd,F.mg,F.F.kp,F.b,a9 (N:=["order"]) (k:=5) F.F As λcdv A outer s H G E hr=>
  (ag (jN (aA aI (hr.mono (by decide)) aR rfl rfl (ae (av 0 rfl) ao)))
  (aE (ba (jH (ae (bt aZ cm (af 0) aB (λ_ _=>rfl)) (ae (ku dH oC rfl B.tuple (by decide +kernel) (bb uU Ec rfl B.sorted (by decide +kernel) (b4 (NB:=["a","b"]) (own:=2) (ixs:=[]) [] rfl (cp (by kernel_rfl)) (λ_ _=>rfl) (jY rfl (bt aZ cm (af 0) aB (λ_ _=>rfl))) (λH0 G0 par br bx C ex s3 H3 pn=>(iW (i:=0) (j:=1) (show (["a","b"]:List Str).Nodup by decide +kernel))) (λH0 G0 par br bx C ex s3 H3 pn hB1=>cw) (λH0 G0 par br bx C ex s3 H3 pn hB1=>(jH (ae (av 1 (hB1 1 (by decide))) (ae (av 0 (hB1 0 (by decide))) ao))))))) ao))))))⟩,λds h=>aQ ds h⟩
abbrev mF:Stmt:=top 24
def mM:aJ ["row","found","place","thing"] ["row"] (ay mF):=⟨rfl,rfl,rfl,by decide +kernel,rfl,by decide +kernel,by decide +kernel⟩
def we {f:Addr}{fd:FuncData}(F:jl K mg "places" mF ["row"] f fd)(B:jr mg):bX P w K mg base ca "places" ["row"] 1 (bp 4 1 (mE)):=
 ⟨⟨f,fd,F.mg,F.F.kp,F.b,a9 (N:=["row","found","place","thing"]) (k:=0) F.F mM λcdv A outer s H G E hr=>
  (ag (iw (i:=1) (xu (dA (ae aB ao)) (bb cF i9 rfl B.len NJ (af 0))) mM.nd)
  (ag (fG PassesOwn.leaving rfl (A2 rfl rfl B.enumerate (af 0)) (iW (i:=2) (j:=3) mM.nd)
  (aE (sh 1 (λ_=>rfl) (av 2 rfl) (af 3))))
  (aE (jF 1))))⟩,λds h=>aQ ds h⟩
abbrev fP:Stmt:=top 23
def kh:aJ ["thing","order","place"] ["thing","order"] (ay fP):=⟨rfl,rfl,rfl,by decide +kernel,rfl,by decide +kernel,by decide +kernel⟩
def n5 {f:Addr}{fd:FuncData}{cD c8:List D->FR}(F:jl K mg "keeps_order" fP ["thing","order"] f fd)(B:jr mg)(gO:bX P w K mg base ca "is_line" ["thing","many"] 3 cD)(i3:bX P w K mg base ca "places" ["row"] 1 c8):bX P w K mg base ca "keeps_order" ["thing","order"] 4 (bp 3 2 (fM cD c8)):=
 ⟨⟨f,fd,F.mg,F.F.kp,F.b,a9 (N:=["thing","order","place"]) (k:=3) F.F kh λcdv A outer s H G E hr=>
  (ag (cB (c7 (cU rfl (aA gO (hr.mono (by decide)) aR rfl rfl (ae (av 0 rfl) (ae (bt aZ cm (af 1) aB (λ_ _=>rfl)) ao)))))
  (aE (ba gp))
  bI)
  (ag (a7 (i:=2) (aA i3 (hr.mono (by decide)) aR rfl rfl (ae (av 0 rfl) ao)) kh.nd)
  (aE (ba (bb (gW rfl) iH rfl B.all (by decide +kernel) (b4 (NB:=["a","b","place"]) (own:=2) (ixs:=[2]) [] rfl (cp (by kernel_rfl)) (λ_ _=>rfl) (jY rfl (bt aZ cm (af 1) aB (λ_ _=>rfl))) (λH0 G0 par br bx C ex s3 H3 pn=>(iW (i:=0) (j:=1) (show (["a","b","place"]:List Str).Nodup by decide +kernel))) (λH0 G0 par br bx C ex s3 H3 pn hB1=>cw) (λH0 G0 par br bx C ex s3 H3 pn hB1=>(lC qR Ad (bt aZ cm (af 2) (af 0) (λ_ _=>rfl)) (bt aZ cm (af 2) (af 1) (λ_ _=>rfl)) (bw _)))))))))⟩,λds h=>aQ ds h⟩
abbrev l7:Stmt:=top 22
def zz:aJ ["thing","order"] ["thing","order"] (ay l7):=⟨rfl,rfl,rfl,by decide +kernel,rfl,by decide +kernel,by decide +kernel⟩
def xq {f:Addr}{fd:FuncData}{ar aS:List D->FR}(F:jl K mg "is_row" l7 ["thing","order"] f fd)(B:jr mg)(aI:bX P w K mg base ca "need_order" ["thing"] 5 ar)(bJ:bX P w K mg base ca "keeps_order" ["thing","order"] 4 aS):bX P w K mg base ca "is_row" ["thing","order"] 6 (bp 2 2 (pM ar aS)):=
 ⟨⟨f,fd,F.mg,F.F.kp,F.b,a9 (N:=["thing","order"]) (k:=5) F.F zz λcdv A outer s H G E hr=>
  (ag (jN (aA aI (hr.mono (by decide)) aR rfl rfl (ae (av 1 rfl) ao)))
  (aE (ba (aA bJ (hr.mono (by decide)) aR rfl rfl (ae (av 0 rfl) (ae (av 1 rfl) ao))))))⟩,λds h=>aQ ds h⟩
abbrev gF:Stmt:=top 28
def qe:aJ ["placed","thing"] ["placed","thing"] (ay gF):=⟨rfl,rfl,rfl,by decide +kernel,rfl,by decide +kernel,by decide +kernel⟩
def qc {f:Addr}{fd:FuncData}(F:jl K mg "with_thing" gF ["placed","thing"] f fd)(B:jr mg):bX P w K mg base ca "with_thing" ["placed","thing"] 1 (bp 2 2 (gE)):=
 ⟨⟨f,fd,F.mg,F.F.kp,F.b,a9 (N:=["placed","thing"]) (k:=0) F.F qe λcdv A outer s H G E hr=>
  (aE (ba (bH Ko Lw (af 0) (bH By FW aB (af 1)))))⟩,λds h=>aQ ds h⟩
abbrev fN:Stmt:=top 31
def ic:aJ ["masks","placed","free","thing","mask"] ["masks","placed"] (ay fN):=⟨rfl,rfl,rfl,by decide +kernel,rfl,by decide +kernel,by decide +kernel⟩
def nX {f:Addr}{fd:FuncData}{az:List D->FR}(F:jl K mg "free_things" fN ["masks","placed"] f fd)(B:jr mg)(aM:bX P w K mg base ca "with_thing" ["placed","thing"] 1 az):bX P w K mg base ca "free_things" ["masks","placed"] 2 (bp 5 2 (fK az)):=
 ⟨⟨f,fd,F.mg,F.F.kp,F.b,a9 (N:=["masks","placed","free","thing","mask"]) (k:=1) F.F ic λcdv A outer s H G E hr=>
  (ag (iw (i:=2) (dA ao) ic.nd)
  (ag (fG PassesOwn.leaving rfl (CG rfl rfl B.enumerate (av 0 rfl)) (iW (i:=3) (j:=4) ic.nd)
  (aE (cB (tY.t (Dl (bM (gj hr.units) gr (aA aM (hr.mono (by decide)) aR rfl rfl (ae (av 1 rfl) (ae (av 3 rfl) ao))) (af 1) (bw _)) (ym (bM (gk hr.units) gr (bH Ir Jo (af 1) (af 4)) (af 4) (bw _))) (λ_ _=>rfl)))
  (aE (mH 2 (λ_=>rfl) (av 3 rfl)))
  bI)))
  (aE (jF 2))))⟩,λds h=>aQ ds h⟩
abbrev kJ:Stmt:=top 32
def jB:aJ ["masks","full","ways","placed"] ["masks"] (ay kJ):=⟨rfl,rfl,rfl,by decide +kernel,rfl,by decide +kernel,by decide +kernel⟩
def vh {f:Addr}{fd:FuncData}{aU az:List D->FR}(F:jl K mg "ways_on" kJ ["masks"] f fd)(B:jr mg)(bL:bX P w K mg base ca "free_things" ["masks","placed"] 2 aU)(aM:bX P w K mg base ca "with_thing" ["placed","thing"] 1 az):bX P w K mg base ca "ways_on" ["masks"] 3 (bp 4 1 (ky aU az)):=
 ⟨⟨f,fd,F.mg,F.F.kp,F.b,a9 (N:=["masks","full","ways","placed"]) (k:=2) F.F jB λcdv A outer s H G E hr=>
  (ag (a7 (i:=1) (bH xw BU (bH By FW aB (bb cF i9 rfl B.len NJ (af 0))) aB) jB.nd)
  (ag (iw (i:=2) (bH n6 yY (xu (dA (ae aB ao)) (af 1)) (dA (ae aB ao))) jB.nd)
  (ag (fG PassesOwn.leaving rfl (J3 rfl B.range (bH xw BU (af 1) aB) (BN tR Bx aB) (BN tR Bx aB)) (cO (i:=3) jB.nd)
  (aE (sh 2 (λ_=>rfl) (bb (vZ rfl) FU rfl B.sum (by decide +kernel) (b4 (NB:=["thing","ways","placed"]) (own:=1) (ixs:=[2,3]) [3] rfl (cp (by kernel_rfl)) (λ_ _=>rfl) (jY rfl (aA bL (hr.mono (by decide)) aR rfl rfl (ae (av 0 rfl) (ae (av 3 rfl) ao)))) (λH0 G0 par br bx C ex s3 H3 pn=>(cO (i:=0) (show (["thing","ways","placed"]:List Str).Nodup by decide +kernel))) (λH0 G0 par br bx C ex s3 H3 pn hB1=>cw) (λH0 G0 par br bx C ex s3 H3 pn hB1=>(bt aZ cm (af 1) (aA aM (hr.mono (by decide)) jU rfl rfl (ae (av 2 (hB1 2 (by decide))) (ae (av 0 (hB1 0 (by decide))) ao))) (λ_ _=>rfl))))) (af 3))))
  (aE (jF 2)))))⟩,λds h=>aQ ds h⟩
abbrev fQ:Stmt:=top 30
def hW:aJ ["order","masks","a","b"] ["order"] (ay fQ):=⟨rfl,rfl,rfl,by decide +kernel,rfl,by decide +kernel,by decide +kernel⟩
def nU {f:Addr}{fd:FuncData}{az:List D->FR}(F:jl K mg "masks_ahead" fQ ["order"] f fd)(B:jr mg)(aM:bX P w K mg base ca "with_thing" ["placed","thing"] 1 az):bX P w K mg base ca "masks_ahead" ["order"] 2 (bp 4 1 (fL az)):=
 ⟨⟨f,fd,F.mg,F.F.kp,F.b,a9 (N:=["order","masks","a","b"]) (k:=1) F.F hW λcdv A outer s H G E hr=>
  (ag (iw (i:=1) (xu (dA (ae aB ao)) (bt aZ cm (af 0) aB (λ_ _=>rfl))) hW.nd)
  (ag (fG PassesOwn.leaving rfl (EU rfl (bt aZ cm (af 0) aB (λ_ _=>rfl))) (iW (i:=2) (j:=3) hW.nd)
  (aE (sh 1 (λ_=>rfl) (aA aM (hr.mono (by decide)) aR rfl rfl (ae (bt aZ cm (af 1) (af 3) (λ_ _=>rfl)) (ae (av 2 rfl) ao))) (af 3))))
  (aE (jF 1))))⟩,λds h=>aQ ds h⟩
abbrev iz:Stmt:=top 25
def tW:aJ ["order"] ["order"] (ay iz):=⟨rfl,rfl,rfl,by decide +kernel,rfl,by decide +kernel,by decide +kernel⟩
def qJ {f:Addr}{fd:FuncData}{ar bF aV:List D->FR}(F:jl K mg "rows_many" iz ["order"] f fd)(B:jr mg)(aI:bX P w K mg base ca "need_order" ["thing"] 5 ar)(di:bX P w K mg base ca "ways_on" ["masks"] 3 bF)(bK:bX P w K mg base ca "masks_ahead" ["order"] 2 aV):bX P w K mg base ca "rows_many" ["order"] 6 (bp 1 1 (iy ar bF aV)):=
 ⟨⟨f,fd,F.mg,F.F.kp,F.b,a9 (N:=["order"]) (k:=5) F.F tW λcdv A outer s H G E hr=>
  (ag (jN (aA aI (hr.mono (by decide)) aR rfl rfl (ae (av 0 rfl) ao)))
  (aE (ba (bt aZ cm (aA di (hr.mono (by decide)) aR rfl rfl (ae (aA bK (hr.mono (by decide)) aR rfl rfl (ae (av 0 rfl) ao)) ao)) aB (λ_ _=>rfl)))))⟩,λds h=>aQ ds h⟩
abbrev mB:Stmt:=top 27
def i6:aJ ["masks","ways","placed","left","free","at"] ["masks","ways","placed","left"] (ay mB):=⟨rfl,rfl,rfl,by decide +kernel,rfl,by decide +kernel,by decide +kernel⟩
def xc {f:Addr}{fd:FuncData}{aU az:List D->FR}(F:jl K mg "choose" mB ["masks","ways","placed","left"] f fd)(B:jr mg)(bL:bX P w K mg base ca "free_things" ["masks","placed"] 2 aU)(aM:bX P w K mg base ca "with_thing" ["placed","thing"] 1 az):bX P w K mg base ca "choose" ["masks","ways","placed","left"] 3 (bp 6 4 (lU aU az)):=
 ⟨⟨f,fd,F.mg,F.F.kp,F.b,a9 (N:=["masks","ways","placed","left","free","at"]) (k:=2) F.F i6 λcdv A outer s H G E hr=>
  (ag (a7 (i:=4) (aA bL (hr.mono (by decide)) aR rfl rfl (ae (av 0 rfl) (ae (av 2 rfl) ao))) i6.nd)
  (ag (a7 (i:=5) aB i6.nd)
  (ag (oU 1000 PassesOwn.leaving (bM J9 K5 (af 3) (bt aZ cm (af 1) (aA aM (hr.mono (by decide)) aR rfl rfl (ae (av 2 rfl) (ae (bt aZ cm (af 4) (af 5) (λ_ _=>rfl)) ao))) (λ_ _=>rfl)) (bw _))
  (ag (a7 (i:=3) (bH xw BU (af 3) (bt aZ cm (af 1) (aA aM (hr.mono (by decide)) aR rfl rfl (ae (av 2 rfl) (ae (bt aZ cm (af 4) (af 5) (λ_ _=>rfl)) ao))) (λ_ _=>rfl))) i6.nd)
  (aE (a7 (i:=5) (bH iX iS (af 5) aB) i6.nd))))
  (aE (ba (jH (ae (bt aZ cm (af 4) (af 5) (λ_ _=>rfl)) (ae (av 3 rfl) ao))))))))⟩,λds h=>aQ ds h⟩
abbrev kG:Stmt:=top 26
def cj:aJ ["order","number","masks","ways","row","placed","left","step","choice"] ["order","number"] (ay kG):=⟨rfl,rfl,rfl,by decide +kernel,rfl,by decide +kernel,by decide +kernel⟩
def vb {f:Addr}{fd:FuncData}{ar aV bF bg i5 az:List D->FR}(F:jl K mg "nth_row" kG ["order","number"] f fd)(B:jr mg)(aI:bX P w K mg base ca "need_order" ["thing"] 5 ar)(bK:bX P w K mg base ca "masks_ahead" ["order"] 2 aV)(di:bX P w K mg base ca "ways_on" ["masks"] 3 bF)(cq:bX P w K mg base ca "is_below" ["thing","bound"] 2 bg)(pD:bX P w K mg base ca "choose" ["masks","ways","placed","left"] 3 i5)(aM:bX P w K mg base ca "with_thing" ["placed","thing"] 1 az)(gY:Exc K mg ca "NoNumber"):bX P w K mg base ca "nth_row" ["order","number"] 6 (bp 9 2 (kE ar aV bF bg i5 az)):=
 ⟨⟨f,fd,F.mg,F.F.kp,F.b,a9 (N:=["order","number","masks","ways","row","placed","left","step","choice"]) (k:=5) F.F cj λcdv A outer s H G E hr=>
  (ag (jN (aA aI (hr.mono (by decide)) aR rfl rfl (ae (av 0 rfl) ao)))
  (ag (a7 (i:=2) (aA bK (hr.mono (by decide)) aR rfl rfl (ae (av 0 rfl) ao)) cj.nd)
  (ag (a7 (i:=3) (aA di (hr.mono (by decide)) aR rfl rfl (ae (av 2 rfl) ao)) cj.nd)
  (ag (cB (c7 (cU rfl (aA cq (hr.mono (by decide)) aR rfl rfl (ae (av 1 rfl) (ae (bt aZ cm (af 3) aB (λ_ _=>rfl)) ao)))))
  (aE (gZ gY.ex gY.ca rfl gY.mg (ae lq ao)))
  bI)
  (ag (iw (i:=4) (dA ao) cj.nd)
  (ag (a7 (i:=5) aB cj.nd)
  (ag (a7 (i:=6) (av 1 rfl) cj.nd)
  (ag (fG PassesOwn.leaving rfl (nK rfl B.range (bt aZ cm (af 0) aB (λ_ _=>rfl))) (cO (i:=7) cj.nd)
  (ag (a7 (i:=8) (aA pD (hr.mono (by decide)) aR rfl rfl (ae (av 2 rfl) (ae (av 3 rfl) (ae (av 5 rfl) (ae (av 6 rfl) ao))))) cj.nd)
  (ag (mH 4 (λ_=>rfl) (bt aZ cm (af 8) aB (λ_ _=>rfl)))
  (ag (a7 (i:=5) (aA aM (hr.mono (by decide)) aR rfl rfl (ae (av 5 rfl) (ae (bt aZ cm (af 8) aB (λ_ _=>rfl)) ao))) cj.nd)
  (aE (a7 (i:=6) (bt aZ cm (af 8) aB (λ_ _=>rfl)) cj.nd))))))
  (aE (ba (ku dH oC rfl B.tuple (by decide +kernel) (af 4))))))))))))⟩,λds h=>aQ ds h⟩
abbrev kH:Stmt:=top 29
def cJ:aJ ["order","row","masks","ways","rank","placed","thing","lesser"] ["order","row"] (ay kH):=⟨rfl,rfl,rfl,by decide +kernel,rfl,by decide +kernel,by decide +kernel⟩
def uz {f:Addr}{fd:FuncData}{ar aS aV bF aU az:List D->FR}(F:jl K mg "rank_of" kH ["order","row"] f fd)(B:jr mg)(aI:bX P w K mg base ca "need_order" ["thing"] 5 ar)(bJ:bX P w K mg base ca "keeps_order" ["thing","order"] 4 aS)(bK:bX P w K mg base ca "masks_ahead" ["order"] 2 aV)(di:bX P w K mg base ca "ways_on" ["masks"] 3 bF)(bL:bX P w K mg base ca "free_things" ["masks","placed"] 2 aU)(aM:bX P w K mg base ca "with_thing" ["placed","thing"] 1 az)(l4:Exc K mg ca "NoRow"):bX P w K mg base ca "rank_of" ["order","row"] 6 (bp 8 2 (kN ar aS aV bF aU az)):=
 ⟨⟨f,fd,F.mg,F.F.kp,F.b,a9 (N:=["order","row","masks","ways","rank","placed","thing","lesser"]) (k:=5) F.F cJ λcdv A outer s H G E hr=>
  (ag (jN (aA aI (hr.mono (by decide)) aR rfl rfl (ae (av 0 rfl) ao)))
  (ag (cB (c7 (cU rfl (aA bJ (hr.mono (by decide)) aR rfl rfl (ae (av 1 rfl) (ae (av 0 rfl) ao)))))
  (aE (gZ l4.ex l4.ca rfl l4.mg (ae lq ao)))
  bI)
  (ag (a7 (i:=2) (aA bK (hr.mono (by decide)) aR rfl rfl (ae (av 0 rfl) ao)) cJ.nd)
  (ag (a7 (i:=3) (aA di (hr.mono (by decide)) aR rfl rfl (ae (av 2 rfl) ao)) cJ.nd)
  (ag (a7 (i:=4) aB cJ.nd)
  (ag (a7 (i:=5) aB cJ.nd)
  (ag (fG PassesOwn.leaving rfl (EU rfl (av 1 rfl)) (cO (i:=6) cJ.nd)
  (ag (tM (i:=7) (NB:=["other","thing"]) (own:=1) (ixs:=[6]) [] rfl (cp (by kernel_rfl)) (λ_ _=>rfl) (jY rfl (aA bL (hr.mono (by decide)) aR rfl rfl (ae (av 2 rfl) (ae (av 5 rfl) ao)))) (λH0 G0 par br bx C ex s3 H3 pn=>(cO (i:=0) (show (["other","thing"]:List Str).Nodup by decide +kernel))) (λH0 G0 par br bx C ex s3 H3 pn hB1=>(mi (bM qR Ad (af 0) (af 1) (bw _)))) (λH0 G0 par br bx C ex s3 H3 pn hB1=>(av 0 (hB1 0 (by decide)))) cJ.nd)
  (ag (a7 (i:=4) (bH iX iS (af 4) (bb (vZ rfl) FU rfl B.sum (by decide +kernel) (b4 (NB:=["other","ways","placed"]) (own:=1) (ixs:=[3,5]) [5] rfl (cp (by kernel_rfl)) (λ_ _=>rfl) (jY rfl (af 7)) (λH0 G0 par br bx C ex s3 H3 pn=>(cO (i:=0) (show (["other","ways","placed"]:List Str).Nodup by decide +kernel))) (λH0 G0 par br bx C ex s3 H3 pn hB2=>cw) (λH0 G0 par br bx C ex s3 H3 pn hB2=>(bt aZ cm (af 1) (aA aM (hr.mono (by decide)) jU rfl rfl (ae (av 2 (hB2 2 (by decide))) (ae (av 0 (hB2 0 (by decide))) ao))) (λ_ _=>rfl)))))) cJ.nd)
  (aE (a7 (i:=5) (aA aM (hr.mono (by decide)) aR rfl rfl (ae (av 5 rfl) (ae (av 6 rfl) ao))) cJ.nd)))))
  (aE (jF 4)))))))))⟩,λds h=>aQ ds h⟩
abbrev eG:Stmt:=top 35
def nO:aJ ["tables","a","b"] ["tables","a","b"] (ay eG):=⟨rfl,rfl,rfl,by decide +kernel,rfl,by decide +kernel,by decide +kernel⟩
def mZ {f:Addr}{fd:FuncData}(F:jl K mg "stands_ahead" eG ["tables","a","b"] f fd)(B:jr mg):bX P w K mg base ca "stands_ahead" ["tables","a","b"] 1 (bp 3 3 (eH)):=
 ⟨⟨f,fd,F.mg,F.F.kp,F.b,a9 (N:=["tables","a","b"]) (k:=0) F.F nO λcdv A outer s H G E hr=>
  (aE (ba (bb (gW rfl) iH rfl B.all (by decide +kernel) (b4 (NB:=["place","a","b"]) (own:=1) (ixs:=[1,2]) [] rfl (cp (by kernel_rfl)) (λ_ _=>rfl) (jY rfl (af 0)) (λH0 G0 par br bx C ex s3 H3 pn=>(cO (i:=0) (show (["place","a","b"]:List Str).Nodup by decide +kernel))) (λH0 G0 par br bx C ex s3 H3 pn hB1=>cw) (λH0 G0 par br bx C ex s3 H3 pn hB1=>(lC qR Ad (bt aZ cm (af 0) (af 1) (λ_ _=>rfl)) (bt aZ cm (af 0) (af 2) (λ_ _=>rfl)) (bw _)))))))⟩,λds h=>aQ ds h⟩
abbrev dW:Stmt:=top 34
def jR:aJ ["many","rows","tables"] ["many","rows"] (ay dW):=⟨rfl,rfl,rfl,by decide +kernel,rfl,by decide +kernel,by decide +kernel⟩
def nk {f:Addr}{fd:FuncData}{c8 cK cz:List D->FR}(F:jl K mg "shared_pairs" dW ["many","rows"] f fd)(B:jr mg)(i3:bX P w K mg base ca "places" ["row"] 1 c8)(jJ:bX P w K mg base ca "every_pair" ["many"] 1 cK)(hJ:bX P w K mg base ca "stands_ahead" ["tables","a","b"] 1 cz):bX P w K mg base ca "shared_pairs" ["many","rows"] 2 (bp 3 2 (eN c8 cK cz)):=
 ⟨⟨f,fd,F.mg,F.F.kp,F.b,a9 (N:=["many","rows","tables"]) (k:=1) F.F jR λcdv A outer s H G E hr=>
  (ag (a7 (i:=2) (SE.wv (b4 (NB:=["row"]) (own:=1) (ixs:=[]) [] rfl (cp (by kernel_rfl)) (λ_ _=>rfl) (jY rfl (af 1)) (λH0 G0 par br bx C ex s3 H3 pn=>(cO (i:=0) (show (["row"]:List Str).Nodup by decide +kernel))) (λH0 G0 par br bx C ex s3 H3 pn hB1=>cw) (λH0 G0 par br bx C ex s3 H3 pn hB1=>(aA i3 (hr.mono (by decide)) jU rfl rfl (ae (av 0 (hB1 0 (by decide))) ao))))) jR.nd)
  (aE (ba (ku dH oC rfl B.tuple (by decide +kernel) (b4 (NB:=["a","b","tables"]) (own:=2) (ixs:=[2]) [2] rfl (cp (by kernel_rfl)) (λ_ _=>rfl) (jY rfl (aA jJ (hr.mono (by decide)) aR rfl rfl (ae (av 0 rfl) ao))) (λH0 G0 par br bx C ex s3 H3 pn=>(iW (i:=0) (j:=1) (show (["a","b","tables"]:List Str).Nodup by decide +kernel))) (λH0 G0 par br bx C ex s3 H3 pn hB2=>(mi (cU rfl (aA hJ (hr.mono (by decide)) jU rfl rfl (ae (av 2 (hB2 2 (by decide))) (ae (av 0 (hB2 0 (by decide))) (ae (av 1 (hB2 1 (by decide))) ao))))))) (λH0 G0 par br bx C ex s3 H3 pn hB2=>(jH (ae (av 0 (hB2 0 (by decide))) (ae (av 1 (hB2 1 (by decide))) ao)))))))))⟩,λds h=>aQ ds h⟩
abbrev kx:Stmt:=top 33
def wx:aJ ["many","rows"] ["many","rows"] (ay kx):=⟨rfl,rfl,rfl,by decide +kernel,rfl,by decide +kernel,by decide +kernel⟩
def uf {f:Addr}{fd:FuncData}{cA cD aN:List D->FR}(F:jl K mg "told_by" kx ["many","rows"] f fd)(B:jr mg)(gN:bX P w K mg base ca "is_many" ["thing"] 2 cA)(gO:bX P w K mg base ca "is_line" ["thing","many"] 3 cD)(bD:bX P w K mg base ca "shared_pairs" ["many","rows"] 2 aN)(j3:Exc K mg ca "NoMany")(cC:Exc K mg ca "NoRows"):bX P w K mg base ca "told_by" ["many","rows"] 4 (bp 2 2 (kC cA cD aN)):=
 ⟨⟨f,fd,F.mg,F.F.kp,F.b,a9 (N:=["many","rows"]) (k:=3) F.F wx λcdv A outer s H G E hr=>
  (ag (cB (c7 (cU rfl (aA gN (hr.mono (by decide)) aR rfl rfl (ae (av 0 rfl) ao))))
  (aE (gZ j3.ex j3.ca rfl j3.mg (ae lq ao)))
  bI)
  (ag (cB (tY.t (lV (c7 (cU rfl (j4 "list" (by decide) rfl rfl B.isinstance rfl B.list (by decide +kernel) (af 1)))) (js (bM (gk hr.units) gr (bb cF i9 rfl B.len NJ (af 1)) aB (bw _))) (λ_ _=>rfl)))
  (aE (gZ cC.ex cC.ca rfl cC.mg (ae lq ao)))
  bI)
  (ag (cB (c7 (cU rfl (bb (gW rfl) iH rfl B.all (by decide +kernel) (b4 (NB:=["row","many"]) (own:=1) (ixs:=[0]) [0] rfl (cp (by kernel_rfl)) (λ_ _=>rfl) (jY rfl (af 1)) (λH0 G0 par br bx C ex s3 H3 pn=>(cO (i:=0) (show (["row","many"]:List Str).Nodup by decide +kernel))) (λH0 G0 par br bx C ex s3 H3 pn hB1=>cw) (λH0 G0 par br bx C ex s3 H3 pn hB1=>(aA gO (hr.mono (by decide)) jU rfl rfl (ae (av 0 (hB1 0 (by decide))) (ae (av 1 (hB1 1 (by decide))) ao))))))))
  (aE (gZ cC.ex cC.ca rfl cC.mg (ae lq ao)))
  bI)
  (aE (ba (jH (ae (av 0 rfl) (ae (aA bD (hr.mono (by decide)) aR rfl rfl (ae (av 0 rfl) (ae (av 1 rfl) ao))) ao))))))))⟩,λds h=>aQ ds h⟩
abbrev jP:Stmt:=top 36
def vH:aJ ["thing","order"] ["thing","order"] (ay jP):=⟨rfl,rfl,rfl,by decide +kernel,rfl,by decide +kernel,by decide +kernel⟩
def tK {f:Addr}{fd:FuncData}{aS:List D->FR}(F:jl K mg "are_rows" jP ["thing","order"] f fd)(B:jr mg)(bJ:bX P w K mg base ca "keeps_order" ["thing","order"] 4 aS):bX P w K mg base ca "are_rows" ["thing","order"] 5 (bp 2 2 (fu aS)):=
 ⟨⟨f,fd,F.mg,F.F.kp,F.b,a9 (N:=["thing","order"]) (k:=4) F.F vH λcdv A outer s H G E hr=>
  (ag (cB (tY.t (lV (c7 (cU rfl (j4 "list" (by decide) rfl rfl B.isinstance rfl B.list (by decide +kernel) (af 0)))) (js (bM (gk hr.units) gr (bb cF i9 rfl B.len NJ (af 0)) aB (bw _))) (λ_ _=>rfl)))
  (aE (ba gp))
  bI)
  (aE (ba (bb (gW rfl) iH rfl B.all (by decide +kernel) (b4 (NB:=["row","order"]) (own:=1) (ixs:=[1]) [1] rfl (cp (by kernel_rfl)) (λ_ _=>rfl) (jY rfl (af 0)) (λH0 G0 par br bx C ex s3 H3 pn=>(cO (i:=0) (show (["row","order"]:List Str).Nodup by decide +kernel))) (λH0 G0 par br bx C ex s3 H3 pn hB1=>cw) (λH0 G0 par br bx C ex s3 H3 pn hB1=>(aA bJ (hr.mono (by decide)) jU rfl rfl (ae (av 0 (hB1 0 (by decide))) (ae (av 1 (hB1 1 (by decide))) ao)))))))))⟩,λds h=>aQ ds h⟩
abbrev sZ:Stmt:=top 37
def D7:aJ ["thing","order"] ["thing","order"] (ay sZ):=⟨rfl,rfl,rfl,by decide +kernel,rfl,by decide +kernel,by decide +kernel⟩
def Cs {f:Addr}{fd:FuncData}{ar bZ aN:List D->FR}(F:jl K mg "tell" sZ ["thing","order"] f fd)(B:jr mg)(aI:bX P w K mg base ca "need_order" ["thing"] 5 ar)(fy:bX P w K mg base ca "are_rows" ["thing","order"] 5 bZ)(bD:bX P w K mg base ca "shared_pairs" ["many","rows"] 2 aN):bX P w K mg base ca "tell" ["thing","order"] 6 (bp 2 2 (xG ar bZ aN)):=
 ⟨⟨f,fd,F.mg,F.F.kp,F.b,a9 (N:=["thing","order"]) (k:=5) F.F D7 λcdv A outer s H G E hr=>
  (ag (jN (aA aI (hr.mono (by decide)) aR rfl rfl (ae (av 1 rfl) ao)))
  (aE (ba (lr (aA fy (hr.mono (by decide)) aR rfl rfl (ae (av 0 rfl) (ae (av 1 rfl) ao))) (lG (lC (gk hr.units) gr (aA bD (hr.mono (by decide)) aR rfl rfl (ae (bt aZ cm (af 1) aB (λ_ _=>rfl)) (ae (av 0 rfl) ao))) (bt aZ cm (af 1) aB (λ_ _=>rfl)) (bw _))) (λ_ _=>rfl)))))⟩,λds h=>aQ ds h⟩
abbrev gy:Stmt:=top 38
def lg:aJ ["order","rows","pair"] ["order","rows"] (ay gy):=⟨rfl,rfl,rfl,by decide +kernel,rfl,by decide +kernel,by decide +kernel⟩
def pF {f:Addr}{fd:FuncData}{ar bZ aN:List D->FR}(F:jl K mg "first_left" gy ["order","rows"] f fd)(B:jr mg)(aI:bX P w K mg base ca "need_order" ["thing"] 5 ar)(fy:bX P w K mg base ca "are_rows" ["thing","order"] 5 bZ)(bD:bX P w K mg base ca "shared_pairs" ["many","rows"] 2 aN)(cC:Exc K mg ca "NoRows"):bX P w K mg base ca "first_left" ["order","rows"] 6 (bp 3 2 (gA ar bZ aN)):=
 ⟨⟨f,fd,F.mg,F.F.kp,F.b,a9 (N:=["order","rows","pair"]) (k:=5) F.F lg λcdv A outer s H G E hr=>
  (ag (jN (aA aI (hr.mono (by decide)) aR rfl rfl (ae (av 0 rfl) ao)))
  (ag (cB (c7 (cU rfl (aA fy (hr.mono (by decide)) aR rfl rfl (ae (av 1 rfl) (ae (av 0 rfl) ao)))))
  (aE (gZ cC.ex cC.ca rfl cC.mg (ae lq ao)))
  bI)
  (ag (fG PassesOwn.leaving rfl (EU rfl (aA bD (hr.mono (by decide)) aR rfl rfl (ae (bt aZ cm (af 0) aB (λ_ _=>rfl)) (ae (av 1 rfl) ao)))) (cO (i:=2) lg.nd)
  (aE (cB (bM (rk hr.u1) Jc (af 2) (bt aZ cm (af 0) aB (λ_ _=>rfl)) (by with_unfolding_all rfl))
  (aE (jF 2))
  bI)))
  (aE (ba Hb)))))⟩,λds h=>aQ ds h⟩
abbrev iJ:Stmt:=top 40
def sL:aJ ["script","k"] ["script","k"] (ay iJ):=⟨rfl,rfl,rfl,by decide +kernel,rfl,by decide +kernel,by decide +kernel⟩
def qD {f:Addr}{fd:FuncData}(F:jl K mg "_law_cell" iJ ["script","k"] f fd)(B:jr mg):bX P w K mg base ca "_law_cell" ["script","k"] 1 (bp 2 2 (fX)):=
 ⟨⟨f,fd,F.mg,F.F.kp,F.b,a9 (N:=["script","k"]) (k:=0) F.F sL λcdv A outer s H G E hr=>
  (ag (cB (bM qR Ad (af 1) (bb cF i9 rfl B.len NJ (af 0)) (bw _))
  (aE (ba (bt aZ cm (af 0) (af 1) (λ_ _=>rfl))))
  bI)
  (aE (ba aB)))⟩,λds h=>aQ ds h⟩
abbrev fC:Stmt:=top 41
def iA:aJ ["cell","k","some","stir"] ["cell","k"] (ay fC):=⟨rfl,rfl,rfl,by decide +kernel,rfl,by decide +kernel,by decide +kernel⟩
def sF:∃(es:List Expr) (p1 p2 p3:Pos),cY fC=.Assign [.Name "some" p1] (.List es p2) p3 :: (cY fC).drop 1/\constsOf es=some [48271,69621,16807,39373,30269,40014,40692,50021,61687,71993,83869,95561,30307]:=⟨_,_,_,_,rfl,by kernel_rfl⟩
def su {f:Addr}{fd:FuncData}(F:jl K mg "_law_mix" fC ["cell","k"] f fd)(B:jr mg):bX P w K mg base ca "_law_mix" ["cell","k"] 1 (bp 4 2 (jv)):=by
 obtain⟨es,p1,p2,p3,hb,hes⟩:=sF
 refine⟨⟨f,fd,F.mg,F.F.kp,F.b,a9 (N:=["cell","k","some","stir"]) (k:=0) F.F iA λcdv A outer s H G E hr=>?_⟩,λds h=>aQ ds h⟩
 rw[hb]
 exact (ag (a7 (i:=2) (SE.wv (dA (rl hes))) iA.nd) (ag (a7 (i:=3) (bH iX iS (bH iX iS (bH kq lH (bH iX iS (bH lI qW (af 0) aB) aB) (bt aZ cm (af 2) (bH lI qW (af 1) aB) (λ_ _=>rfl))) (bH kq lH aB (af 1))) (bH kq lH aB (bH lZ E4 (af 1) aB))) iA.nd)
  (ag (a7 (i:=3) (bH lI qW (af 3) aB) iA.nd)
  (aE (ba (bH lZ E4 (bH lI qW (bH iX iS (bH kq lH (af 3) (af 3)) (bH kq lH aB (af 1))) aB) aB))))))
abbrev jq:Stmt:=top 42
def gf:aJ ["script","k","cell","number","j"] ["script","k"] (ay jq):=⟨rfl,rfl,rfl,by decide +kernel,rfl,by decide +kernel,by decide +kernel⟩
def tT {f:Addr}{fd:FuncData}{dQ fj:List D->FR}(F:jl K mg "_law_box" jq ["script","k"] f fd)(B:jr mg)(jZ:bX P w K mg base ca "_law_cell" ["script","k"] 1 dQ)(lK:bX P w K mg base ca "_law_mix" ["cell","k"] 1 fj):bX P w K mg base ca "_law_box" ["script","k"] 2 (bp 5 2 (jA dQ fj)):=
 ⟨⟨f,fd,F.mg,F.F.kp,F.b,a9 (N:=["script","k","cell","number","j"]) (k:=1) F.F gf λcdv A outer s H G E hr=>
  (ag (a7 (i:=2) (aA jZ (hr.mono (by decide)) aR rfl rfl (ae (av 0 rfl) (ae (av 1 rfl) ao))) gf.nd)
  (ag (cB (bM (gk hr.units) gr (bH lI qW (af 2) aB) aB (bw _))
  (aE (si (dA (ae (bH lZ E4 (bb Bg J6 rfl B.abs (by decide +kernel) (af 2)) aB) ao))))
  bI)
  (ag (a7 (i:=3) aB gf.nd)
  (ag (fG PassesOwn.leaving rfl (nK rfl B.range aB) (cO (i:=4) gf.nd)
  (aE (a7 (i:=3) (bH iX iS (bH kq lH (af 3) aB) (aA lK (hr.mono (by decide)) aR rfl rfl (ae (av 2 rfl) (ae (av 4 rfl) ao)))) gf.nd)))
  (aE (si (dA (ae (av 3 rfl) ao))))))))⟩,λds h=>aQ ds h⟩
abbrev iu:Stmt:=top 43
def lW:aJ ["box","many","left","digit"] ["box","many"] (ay iu):=⟨rfl,rfl,rfl,by decide +kernel,rfl,by decide +kernel,by decide +kernel⟩
def qL {f:Addr}{fd:FuncData}(F:jl K mg "_law_take" iu ["box","many"] f fd)(B:jr mg):sx P w K mg base "_law_take" ["box","many"] 1 dv:=by
 refine⟨⟨f,fd,F.mg,F.F.kp,F.b,?_⟩,λds β h=>?_⟩
 ·refine F.F.uc lW (λvs H Q E h=>?_) (λcdv A outer s H vs Q E hr h=>?_)
  ·obtain⟨b,rest,G,ds,β,rfl,hb,gb,sG,hl,r,_⟩:=h
   rw[MU,r.len,hl];rfl
  ·obtain⟨b,rest,G,ds,β,rfl,hb,gb,sG,hl,r,h⟩:=h
   obtain⟨m,rfl,h0,h1⟩:=yb (λz=>by rw[z] at h;exact h)
   rw[tL h0 h1] at h
   have kk:∀v G' H',iK (some b) H H'->H' b=some (.lst [.int (β / m)])->au G G'->au G' H'->(∀c,Mx H c->G c=none->G' c=none)->FV K H G' H' false (.int (β % m)) v->Q v H':=h
   cases r with
   |cons r1 r2=>
    cases r1
    cases r2
    refine⟨_,hZ (mR (jd vV rfl B.divmod (by decide +kernel) (aO (k7 gu (pv 0) rZ (λ_ _=>rfl)) (aO (pv 1) bA))) (E1 (i:=2) (j:=3) lW.nd rfl rfl rfl rfl rfl))
     (hZ (mR (pv 2) (sk (pv 0) rZ set_list)) (iI (mQ (pv 3)))),?_⟩
    refine⟨_,rfl,b,_,0,.int β,rfl,rfl,.inl (.inl hb),rfl,_,rfl,β,m,rfl,⟨h0,h1⟩,λp hp=>⟨p,_,rfl,.inl (.inl aC),rfl,_,_,rfl,_,_,rfl,rfl,?_⟩⟩
    have hbp:b≠p:=aL hb hp
    exact⟨_,rfl,_,rfl,b,[.int β],0,0,rfl,rfl,by rw[aF hbp];exact hb,rfl,_,rfl,BL hb sG hp kk gb⟩
 ·obtain⟨m,rfl,_⟩:=yb h
  rfl
abbrev dI:Stmt:=top 44
def fE:aJ ["box","some","left","found"] ["box","some"] (ay dI):=⟨rfl,rfl,rfl,by decide +kernel,rfl,by decide +kernel,by decide +kernel⟩
def l0 {f:Addr}{fd:FuncData}{aW:List D->Int->FB}(F:jl K mg "_law_mixed_up" dI ["box","some"] f fd)(B:jr mg)(bG:sx P w K mg base "_law_take" ["box","many"] 1 aW):sx P w K mg base "_law_mixed_up" ["box","some"] 2 (uA 4 1 (dJ aW)):=
 ⟨⟨f,fd,F.mg,F.F.kp,F.b,vj (ca:=λ_=>0) (N:=["box","some","left","found"]) (k:=1) F.F fE (by decide) λcdv A outer s H G b E hr=>
  (ag (iw (i:=2) (ku sQ Iv rfl B.list (by decide +kernel) (af 1)) fE.nd)
  (ag (iw (i:=3) (dA ao) fE.nd)
  (ag (oU 1000 PassesOwn.leaving (bM (gj hr.units) gr (af 2) (dA ao) (bw _))
  (aE (Ay 3 2 (λ_=>rfl) (nC 0 bG (hr.mono (by decide)) aR rfl rfl (ae (bb cF i9 rfl B.len NJ (af 2)) ao)))))
  (aE (jF 3)))))⟩,λds β h=>uM ds β h⟩
abbrev fO:Stmt:=top 45
def bO:aJ ["pairs","found","size","more","a","b"] ["pairs"] (ay fO):=⟨rfl,rfl,rfl,by decide +kernel,rfl,by decide +kernel,by decide +kernel⟩
def nP {f:Addr}{fd:FuncData}(F:jl K mg "_law_closed" fO ["pairs"] f fd)(B:jr mg):bX P w K mg base ca "_law_closed" ["pairs"] 1 (bp 6 1 (fS)):=
 ⟨⟨f,fd,F.mg,F.F.kp,F.b,a9 (N:=["pairs","found","size","more","a","b"]) (k:=0) F.F bO λcdv A outer s H G E hr=>
  (ag (a7 (i:=1) (SE.wv (p8 rfl hr.units rfl rfl B.sorted rfl B.set (af 0))) bO.nd)
  (ag (a7 (i:=2) (BN tR Bx aB) bO.nd)
  (ag (oU 1000 PassesOwn.leaving (bM (gj hr.units) gr (af 2) (bb cF i9 rfl B.len NJ (af 1)) (bw _))
  (ag (a7 (i:=2) (bb cF i9 rfl B.len NJ (af 1)) bO.nd)
  (ag (a7 (i:=3) (SE.wv (dA ao)) bO.nd)
  (ag (fG PassesOwn.leaving rfl (EU rfl (av 1 rfl)) (iW (i:=4) (j:=5) bO.nd)
  (aE (a7 (i:=3) (SE.wv (bH n6 yY (af 3) (b4 (NB:=["c","d","b","a"]) (own:=2) (ixs:=[5,4]) [4] rfl (cp (by kernel_rfl)) (λ_ _=>rfl) (jY rfl (af 1)) (λH0 G0 par br bx C ex s3 H3 pn=>(iW (i:=0) (j:=1) (show (["c","d","b","a"]:List Str).Nodup by decide +kernel))) (λH0 G0 par br bx C ex s3 H3 pn hB1=>(mi (bM (gk hr.units) gr (af 0) (af 2) (bw _)))) (λH0 G0 par br bx C ex s3 H3 pn hB1=>(jH (ae (av 3 (hB1 3 (by decide))) (ae (av 1 (hB1 1 (by decide))) ao))))))) bO.nd)))
  (aE (a7 (i:=1) (SE.wv (p8 rfl hr.units rfl rfl B.sorted rfl B.set (bH n6 yY (af 1) (af 3)))) bO.nd))))))
  (aE (ba (ku dH oC rfl B.tuple (by decide +kernel) (af 1)))))))⟩,λds h=>aQ ds h⟩
abbrev gJ:Stmt:=top 46
def cu:aJ ["box","most","many","names","thin","pairs","i","j"] ["box","most"] (ay gJ):=⟨rfl,rfl,rfl,by decide +kernel,rfl,by decide +kernel,by decide +kernel⟩
def pH {f:Addr}{fd:FuncData}{cR:List D->FR}{aW b9:List D->Int->FB}(F:jl K mg "_law_order" gJ ["box","most"] f fd)(B:jr mg)(iO:bX P w K mg base ca "_law_closed" ["pairs"] 1 cR)(bG:sx P w K mg base "_law_take" ["box","many"] 1 aW)(gm:sx P w K mg base "_law_mixed_up" ["box","some"] 2 b9):sx P w K mg base "_law_order" ["box","most"] 3 (uA 8 1 (gC cR aW b9)):=
 ⟨⟨f,fd,F.mg,F.F.kp,F.b,vj (ca:=ca) (N:=["box","most","many","names","thin","pairs","i","j"]) (k:=2) F.F cu (by decide) λcdv A outer s H G b E hr=>
  (ag (a7 (i:=2) (bH iX iS aB (nC 0 bG (hr.mono (by decide)) aR rfl rfl (ae (av 1 rfl) ao))) cu.nd)
  (ag (a7 (i:=3) (nC 0 gm (hr.mono (by decide)) aR rfl rfl (ae (SE.wv (wo rfl rfl B.list rfl B.range (af 2))) ao)) cu.nd)
  (ag (a7 (i:=4) (bt aZ cm (dA (ae aB (ae aB (ae aB (ae aB ao))))) (nC 0 bG (hr.mono (by decide)) aR rfl rfl (ae aB ao)) (λ_ _=>rfl)) cu.nd)
  (ag (iw (i:=5) (dA ao) cu.nd)
  (ag (fG PassesOwn.leaving rfl (nK rfl B.range (af 2)) (cO (i:=6) cu.nd)
  (aE (fG PassesOwn.leaving rfl (Jg rfl B.range (bH iX iS (af 6) aB) (af 2)) (cO (i:=7) cu.nd)
  (aE (cB (bM (gk hr.units) gr (nC 0 bG (hr.mono (by decide)) aR rfl rfl (ae (av 4 rfl) ao)) aB (bw _))
  (aE (mH 5 (λ_=>rfl) (jH (ae (bt aZ cm (af 3) (af 6) (λ_ _=>rfl)) (ae (bt aZ cm (af 3) (af 7) (λ_ _=>rfl)) ao)))))
  bI)))))
  (aE (ba (jH (ae (av 2 rfl) (ae (aA iO (hr.mono (by decide)) aR rfl rfl (ae (av 5 rfl) ao)) ao))))))))))⟩,λds β h=>uM ds β h⟩
abbrev kX:Stmt:=top 47
def gn:aJ ["script","k","box","order","all_rows","turn","many","rows","left","other","a","b","about"] ["script"] (ay kX):=⟨rfl,rfl,rfl,by decide +kernel,rfl,by decide +kernel,by decide +kernel⟩
def D6 {f:Addr}{fd:FuncData}{fD dP gR jE dq gS hU je gP:List D->FR}{dh aW:List D->Int->FB}(F:jl K mg "law" kX ["script"] f fd)(B:jr mg)(lA:bX P w K mg base ca "_law_box" ["script","k"] 2 fD)(j7:bX P w K mg base ca "rows_many" ["order"] 6 dP)(mW:bX P w K mg base ca "nth_row" ["order","number"] 6 gR)(nv:bX P w K mg base ca "tell" ["thing","order"] 6 jE)(jw:bX P w K mg base ca "first_left" ["order","rows"] 6 dq)(m8:bX P w K mg base ca "told_by" ["many","rows"] 4 gS)(mC:bX P w K mg base ca "turned" ["order"] 6 hU)(pf:bX P w K mg base ca "is_row" ["thing","order"] 6 je)(mJ:bX P w K mg base ca "rank_of" ["order","row"] 6 gP)(jt:sx P w K mg base "_law_order" ["box","most"] 3 dh)(bG:sx P w K mg base "_law_take" ["box","many"] 1 aW):fW P w K mg base (nR P w) 7 f fd ["script"] (DW K ca 1 (bp 13 1 (zf fD dP gR jE dq gS hU je gP dh aW))):=
 a9 (N:=["script","k","box","order","all_rows","turn","many","rows","left","other","a","b","about"]) (k:=6) F.F gn λcdv A outer s H G E hr=>
  (ag (fG PassesOwn.leaving rfl (nK rfl B.range (vE (zT rfl) HB rfl B.max (by decide +kernel) aB (vE (Ah rfl) GX rfl B.min (by decide +kernel) (bb cF i9 rfl B.len NJ (af 0)) aB))) (cO (i:=1) gn.nd)
  (ag (D0 (i:=2) rfl (DL lA (hr.mono (by decide)) aR rfl rfl (ae (av 0 rfl) (ae (av 1 rfl) ao))) gn.nd)
  (ag (a7 (i:=3) (nC 2 jt (hr.mono (by decide)) aR rfl rfl (ae aB ao)) gn.nd)
  (ag (a7 (i:=4) (SE.wv (b4 (NB:=["number","order"]) (own:=1) (ixs:=[3]) [3] rfl (cp (by kernel_rfl)) (λ_ _=>rfl) (nK rfl B.range (aA j7 (hr.mono (by decide)) aR rfl rfl (ae (av 3 rfl) ao))) (λH0 G0 par br bx C ex s3 H3 pn=>(cO (i:=0) (show (["number","order"]:List Str).Nodup by decide +kernel))) (λH0 G0 par br bx C ex s3 H3 pn hB1=>cw) (λH0 G0 par br bx C ex s3 H3 pn hB1=>(aA mW (hr.mono (by decide)) jU rfl rfl (ae (av 1 (hB1 1 (by decide))) (ae (av 0 (hB1 0 (by decide))) ao)))))) gn.nd)
  (ag (cB (tY.t (lV (bM Ao Bd (aA nv (hr.mono (by decide)) aR rfl rfl (ae (av 4 rfl) (ae (av 3 rfl) ao))) gp (bw _)) (js (bM (gj hr.units) gr (af 4) (bb wF Ed rfl B.sorted (by decide +kernel) (af 4)) (bw _))) (λ_ _=>rfl)))
  (aE (ba gp))
  bI)
  (aE (fG PassesOwn.leaving rfl (nK rfl B.range aB) (cO (i:=5) gn.nd)
  (ag (a7 (i:=6) (bH iX iS aB (nC 2 bG (hr.mono (by decide)) aR rfl rfl (ae aB ao))) gn.nd)
  (ag (tM (i:=7) (NB:=["some","all_rows","box"]) (own:=1) (ixs:=[4,2]) [] rfl (cp (by kernel_rfl)) (λ_ _=>rfl) (nK rfl B.range (af 6)) (λH0 G0 par br bx C ex s3 H3 pn=>(cO (i:=0) (show (["some","all_rows","box"]:List Str).Nodup by decide +kernel))) (λH0 G0 par br bx C ex s3 H3 pn hB2=>cw) (λH0 G0 par br bx C ex s3 H3 pn hB2=>(bt aZ cm (af 1) (nC 2 bG (hr.mono (by decide)) jU rfl rfl (ae (bb cF i9 rfl B.len NJ (af 1)) ao)) (λ_ _=>rfl))) gn.nd)
  (ag (a7 (i:=8) (aA jw (hr.mono (by decide)) aR rfl rfl (ae (av 3 rfl) (ae (av 7 rfl) ao))) gn.nd)
  (ag (a7 (i:=9) (aA m8 (hr.mono (by decide)) aR rfl rfl (ae (bt aZ cm (af 3) aB (λ_ _=>rfl)) (ae (av 7 rfl) ao))) gn.nd)
  (ag (cB (tY.t (lV (bM (gj hr.units) gr (xg (af 8)) (lC (gk hr.units) gr (af 9) (af 3) (bw _)) (bw _)) (js (bM (gj hr.units) gr (aA nv (hr.mono (by decide)) aR rfl rfl (ae (av 7 rfl) (ae (av 3 rfl) ao))) (xg (af 8)) (bw _))) (λ_ _=>rfl)))
  (aE (ba gp))
  bI)
  (ag (cB (bM (gj hr.units) gr (b4 (NB:=["pair","other"]) (own:=1) (ixs:=[9]) [] rfl (cp (by kernel_rfl)) (λ_ _=>rfl) (jY rfl (bt aZ cm (af 3) aB (λ_ _=>rfl))) (λH0 G0 par br bx C ex s3 H3 pn=>(cO (i:=0) (show (["pair","other"]:List Str).Nodup by decide +kernel))) (λH0 G0 par br bx C ex s3 H3 pn hB3=>(mi (bM (rk hr.u1) Jc (af 0) (bt aZ cm (af 1) aB (λ_ _=>rfl)) (by with_unfolding_all rfl)))) (λH0 G0 par br bx C ex s3 H3 pn hB3=>(av 0 (hB3 0 (by decide))))) (dA ao) (bw _))
  (aE (ba gp))
  bI)
  (ag (cB (tY.t (Dl (GV (af 8)) (ym (c7 (cU rfl (aA nv (hr.mono (by decide)) aR rfl rfl (ae (SE.wv (bH n6 yY (af 7) (C2 rfl (af 4) Es (E8 aB)))) (ae (av 3 rfl) ao)))))) (λ_ _=>rfl)))
  (aE (ba gp))
  bI)
  (ag (cB (Fc (af 8))
  (ag (Ik (av 8 rfl) (iW (i:=10) (j:=11) gn.nd))
  (aE (cB (bM (gk hr.units) gr (b4 (NB:=["row","b","a"]) (own:=1) (ixs:=[11,10]) [] rfl (cp (by kernel_rfl)) (λ_ _=>rfl) (jY rfl (af 4)) (λH0 G0 par br bx C ex s3 H3 pn=>(cO (i:=0) (show (["row","b","a"]:List Str).Nodup by decide +kernel))) (λH0 G0 par br bx C ex s3 H3 pn hB4=>(mi (bM qR Ad (uw rfl (af 0) (af 1)) (uw rfl (af 0) (af 2)) (bw _)))) (λH0 G0 par br bx C ex s3 H3 pn hB4=>(av 0 (hB4 0 (by decide))))) (dA ao) (bw _))
  (aE (ba gp))
  bI)))
  bI)
  (ag (tM (i:=12) (NB:=["row"]) (own:=1) (ixs:=[]) [] rfl (cp (by kernel_rfl)) (λ_ _=>rfl) (jY rfl (af 7)) (λH0 G0 par br bx C ex s3 H3 pn=>(cO (i:=0) (show (["row"]:List Str).Nodup by decide +kernel))) (λH0 G0 par br bx C ex s3 H3 pn hB5=>cw) (λH0 G0 par br bx C ex s3 H3 pn hB5=>(Ez rfl (af 0))) gn.nd)
  (ag (cB (tY.t (lV (bM (gj hr.units) gr (aA nv (hr.mono (by decide)) aR rfl rfl (ae (av 12 rfl) (ae (aA mC (hr.mono (by decide)) aR rfl rfl (ae (av 3 rfl) ao)) ao))) (xg (af 8)) (bw _)) (js (c7 (cU rfl (bb (gW rfl) iH rfl B.all (by decide +kernel) (b4 (NB:=["row","order"]) (own:=1) (ixs:=[3]) [3] rfl (cp (by kernel_rfl)) (λ_ _=>rfl) (jY rfl (af 12)) (λH0 G0 par br bx C ex s3 H3 pn=>(cO (i:=0) (show (["row","order"]:List Str).Nodup by decide +kernel))) (λH0 G0 par br bx C ex s3 H3 pn hB6=>cw) (λH0 G0 par br bx C ex s3 H3 pn hB6=>(aA pf (hr.mono (by decide)) jU rfl rfl (ae (av 0 (hB6 0 (by decide))) (ae (aA mC (hr.mono (by decide)) jU rfl rfl (ae (av 1 (hB6 1 (by decide))) ao)) ao))))))))) (λ_ _=>rfl)))
  (aE (ba gp))
  bI)
  (aE (cB (bM (gj hr.units) gr (aA mJ (hr.mono (by decide)) aR rfl rfl (ae (av 3 rfl) (ae (bt aZ cm (af 7) aB (λ_ _=>rfl)) ao))) (zi hr.u1 rfl (av 4 rfl) (bt aZ cm (af 7) aB (λ_ _=>rfl))) (bw _))
  (aE (ba gp))
  bI)))))))))))))))))))
  (aE (ba gp)))
end
end RQ
end
namespace RM
open PySem L2
theorem HP {t u:VF Bool}{vs:List Nv}{β:Int}{a b:Bool}(h:t vs β=.ok a β)(h':u vs β=.ok b β):DX t u vs β=.ok (a && b) β:=by
 rw[wd,h];dsimp only[R.bnd]
 cases a with
 |true=>rw[MA rfl,h'];rfl
 |false=>rfl
def c5 {t:VF Bool}{vs:List Nv}{β:Int}{a:Bool}(h:t vs β=.ok a β):nV t vs β=.ok (!a) β:=by rw[tI,h];rfl
def GY {fa:VF D}{vs:List Nv}{β:Int}{l:List Pr}{f:Pr->Bool}(h:fa vs β=.ok (.list (l.map λq=>PyData.bool (f q))) β):f1 fa (cn λbs=>bs.all id) vs β=.ok (.bool (l.all f)) β:=by
 refine cI h ?_
 simp only[cn]
 rw[gL]
 simp[O4]
def tupI (r:List Int):D:=.tuple (r.map int)
def yw {fa fb:VF D}{vs:List Nv}{β:Int}{r:List Int}{k:Int}(h:fa vs β=.ok (tupI r) β)(h':fb vs β=.ok (.int k) β)(hk:k∈r):xf fa fb vs β=.ok (.int (r.idxOf k:Nat)) β:=by
 unfold xf
 rw[h]
 dsimp only[R.bnd]
 rw[MA (by rfl),h']
 dsimp only[R.bnd,EW,tupI]
 rw[dR]
 dsimp only
 rw[MA hk];rfl
theorem ph {α:Type}{t:Tg}{fe:VF D}{vs:List Nv}(e:α->D)(P:α->Prop):∀{ds:List D} {β:Int},(∀d,d∈ds->∃vs1,lb t d vs=some vs1/\∀β,∃a β',fe vs1 β=.ok (e a) β'/\P a)->
  ∃(as:List α) (β':Int),fZ t ij fe vs ds β=.ok (as.map e) β'/\as.length=ds.length/\∀a,a∈as->P a
 | [],β,_=>⟨[],β,rfl,rfl,λa h=>(by cases h)⟩
 |d :: ds,β,h=>by
  obtain⟨vs1,hb,hf⟩:=h d (MC ..)
  obtain⟨a,β1,ef,pa⟩:=hf β
  obtain⟨as,β2,ec,hl,hP⟩:=ph e P (ds:=ds) (β:=β1) λd' hd=>h d' (MD _ hd)
  refine⟨a :: as,β2,?_,by rw[MU,MU,hl],λx hx=>?_⟩
  ·unfold fZ
   rw[hb]
   dsimp only[ij,R.okb]
   rw[MA rfl,ef]
   dsimp only
   rw[ec];rfl
  ·rcases MB.mp hx with z |z
   ·rw[z];exact pa
   ·exact hP x z
def z5 {N:Nat}{l:List Pr}(h1:1<=N)(h8:N<=8)(w:OM.Wn N l)(nd:l.Nodup)(irr:∀a,(a,a)∉l):mV (.list (l.map aK))=some (.list ((OM.cg 8 (OM.Mem l)).map aK)):=by
 simp only[mV,fg]
 rw[MA ⟨C5 h8 w,nd,zb h1 h8 w nd irr⟩]
def oP (n:Nat)(l:List Pr):SeqAt.shaped (aw n l)=true:=by
 unfold SeqAt.shaped
 have h1:(aw n l).canLay0=true:=by
  simp only[aw,PyData.canLay0,PyData.canLayAll0,oq];rfl
 have h2:(aw n l).depth<=64:=by
  have:=og l
  simp only[aw,PyData.depth,PyData.depthAll];omega
 rw[h1,ME h2];rfl
def E2:D->Bool
 | .tuple _=>true
 |_=>false
theorem D4 {d:D}(h:E2 d=true):∃ds,d=.tuple ds:=by
 cases d with
 |tuple ds=>exact⟨ds,rfl⟩
 |_=>cases h
def BA {d:D}(h:dw d=false):ik "tuple" d=some (.bool (E2 d)):=by
 unfold ik;rw[h];cases d <;> rfl
section
variable {fa fb:VF D}{vs:List Nv}{β:Int}
def JB {d:D}(ha:fa vs β=.ok d β)(h:dw d=false):la (f1 fa (ik "tuple")) vs β=.ok (E2 d) β:=ie (cI ha (BA h))
def yI {l:List D}{f:D->Bool}(h:fa vs β=.ok (.list (l.map λq=>PyData.bool (f q))) β):f1 fa (cn λbs=>bs.all id) vs β=.ok (.bool (l.all f)) β:=by
 refine cI h ?_
 simp only[cn]
 rw[gL]
 simp[O4]
def Gj {ds:List D}(ha:fa vs β=.ok (.tuple ds) β):f1 fa c3 vs β=.ok (.int ds.length) β:=cI ha rfl
def FT {t u:VF Bool}(h:t vs β=.ok true β):lJ t u vs β=.ok true β:=by rw[sY,h];rfl
def mf {t u:VF Bool}{c:Bool}(h:t vs β=.ok false β)(h':u vs β=.ok c β):lJ t u vs β=.ok c β:=by rw[sY,h];exact h'
def Kn (h:fa vs β=.ok (.bool false) β):ip fa fb vs β=.ok (.bool false) β:=by unfold ip;rw[h];rfl
def Gf {d:D}(h:fa vs β=.ok (.bool true) β)(h':fb vs β=.ok d β):ip fa fb vs β=.ok d β:=by unfold ip;rw[h];exact h'
end
def Sq (c k:Nat)(d:D):Prop:=d.showable=true/\d.depth<=k/\d.shown.length<=c
def Sq.mono {c k c' k':Nat}{d:D}(h:Sq c k d)(h1:c<=c')(h2:k<=k'):Sq c' k' d:=⟨h.1,ND h.2.1 h2,ND h.2.2 h1⟩
theorem C8 {c k:Nat}:∀{ds:List D},(∀d,d∈ds->Sq c k d)->PyData.showableAll ds=true/\PyData.depthAll ds<=k/\(∀t,t∈PyData.shownAll ds->t.length<=c)/\(PyData.shownAll ds).length=ds.length
 | [],_=>⟨by simp[PyData.showableAll],by simp[PyData.depthAll],λt h=>by simp[PyData.shownAll] at h,by simp[PyData.shownAll]⟩
 |d :: ds,h=>by
  obtain⟨h1,h2,h3,h4⟩:=C8 λx hx=>h x (MD _ hx)
  obtain⟨q1,q2,q3⟩:=h d (MC ..)
  refine⟨?_,?_,λt ht=>?_,?_⟩
  ·rw[PyData.showableAll,q1,h1];rfl
  ·rw[PyData.depthAll];omega
  ·rw[PyData.shownAll] at ht
   rcases MB.mp ht with rfl |ht
   ·exact q3
   ·exact h3 t ht
  ·rw[PyData.shownAll,MU,MU,h4]
theorem uX {c:Nat}:∀{ts:List Str},(∀t,t∈ts->t.length<=c)->(Str.join ", " ts).length<=(c + 2) * ts.length
 | [],_=>by show (Str.join ", " []).length<=_;exact Nd _
 | [x],h=>by
  have:=h x (MC ..)
  show x.length<=(c + 2) * 1
  omega
 |x :: y :: r,h=>by
  have ih:=uX (ts:=y :: r) λt ht=>h t (MD _ ht)
  have:=h x (MC ..)
  show (x ++ ", " ++ Str.join ", " (y :: r)).length<=_
  rw[strLen_append,strLen_append]
  have e2:((", ":String):Str).length=2:=rfl
  rw[e2]
  have e:(c + 2) * (x :: y :: r).length=(c + 2) * (y :: r).length + (c + 2):=by rw[MU,Nat.mul_succ]
  omega
def Bs {c k:Nat}{ds:List D}(h:∀d,d∈ds->Sq c k d):Sq (3 + (c + 2) * ds.length) (k + 1) (.tuple ds):=by
 obtain⟨h1,h2,h3,h4⟩:=C8 h
 refine⟨by rw[PyData.showable];exact h1,by rw[PyData.depth];omega,?_⟩
 rw[PyData.shown]
 unfold tupleText
 rw[strLen_append,strLen_append]
 have j:=uX h3
 rw[h4] at j
 have e1:((("(":String):Str)).length=1:=rfl
 have e3:((if (PyData.shownAll ds).length == 1 then ",)" else ")":String):Str).length<=2:=by split <;> exact by decide
 rw[e1]
 omega
def Bf (d:D):Prop:=IW d=true
theorem Br:∀{ds:List D},(∀d,d∈ds->Bf d)->Dr ds=true
 | [],_=>rfl
 |d :: ds,h=>by
  have h1:=Br λx hx=>h x (MD _ hx)
  have q1:IW d=true:=h d (MC ..)
  rw[Dr,q1,h1];rfl
def BQ {ds:List D}(h:∀d,d∈ds->Bf d):Bf (.tuple ds):=by show IW (.tuple ds)=true;rw[IW];exact Br h
def Lq:List Int:=[-1,0,1,2,3,4,5,6,7,8,9]
def Bk:∀i∈Lq,(int i).showable=true/\(int i).shown.length<=20:=by decide +kernel
def yO {i:Int}(h: -1<=i/\i<=9):i∈Lq:=by
 simp only[Lq,MB,Np,Of]
 omega
def DS (d:D):Prop:=d=.none\/(∃b,d=.bool b)\/∃i:Int,d=.int i/\ -1<=i/\i<=9
def DS.sq {d:D}(h:DS d):Sq 20 0 d:=by
 rcases h with rfl | ⟨b,rfl⟩ | ⟨i,rfl,h⟩
 ·exact⟨by simp[PyData.showable],by simp[PyData.depth],by rw[PyData.shown];decide⟩
 ·exact⟨by simp[PyData.showable],by simp[PyData.depth],by rw[PyData.shown];cases b <;> decide⟩
 ·exact⟨(Bk i (yO h)).1,by simp[PyData.depth],(Bk i (yO h)).2⟩
def DS.bf {d:D}(h:DS d):Bf d:=by
 rcases h with rfl | ⟨b,rfl⟩ | ⟨i,rfl,h⟩ <;> exact by simp[Bf,IW]
def DS.scr {d:D}(h:DS d):dw d=false:=by
 rcases h with rfl | ⟨b,rfl⟩ | ⟨i,rfl,h⟩ <;> rfl
section
variable {vs:List Nv}{β β1 β2:Int}{fa:VF D}{fr:VF (List D)}{d:D}{ds:List D}
def ac {fa:VF D}{fr:VF (List D)}(h:fa vs β=.ok d β)(h':fr vs β=.ok ds β):aa fa fr vs β=.ok (d :: ds) β:=by rw[c9,h];dsimp only[R.bnd];rw[h']
def an:ah vs β=.ok [] β:=rfl
def tp (h:fr vs β=.ok ds β)(hz:ds.length<=1000:=by simp):fF fr vs β=.ok (.tuple ds) β:=kK h hz
def lp (h:fr vs β=.ok ds β)(hz:ds.length<=1000:=by simp):cG fr vs β=.ok (.list ds) β:=iL h hz
def ck (d:D):cst d vs β=.ok d β:=rfl
end
def yi {i:Int}(h: -1<=i/\i<=9):DS (.int i):=.inr (.inr ⟨i,rfl,h⟩)
def CK {d:D}(h:dw d=false):ik "list" d=some (.bool (match d with | .list _=>true |_=>false)):=by
 unfold ik;rw[h];cases d <;> rfl
def Ip:D->Bool
 | .list _=>true
 |_=>false
theorem E5 {d:D}(h:Ip d=true):∃ds,d=.list ds:=by
 cases d with
 |list ds=>exact⟨ds,rfl⟩
 |_=>cases h
def FQ {fa:VF D}{vs:List Nv}{β:Int}{d:D}(ha:fa vs β=.ok d β)(h:dw d=false):f1 fa (ik "list") vs β=.ok (.bool (Ip d)) β:=cI ha (by rw[CK h];cases d <;> rfl)
def tf {fa:VF D}{vs:List Nv}{β:Int}{ds:List D}(ha:fa vs β=.ok (.list ds) β):f1 fa c3 vs β=.ok (.int ds.length) β:=cI ha rfl
def Ge (e:D):Prop:=dw e=false/\∀es,e=.tuple es->es.length<=100/\∀x,x∈es->dw x=false
def Sp (p:Pr):Prop:=(0<=p.1/\p.1<=8)/\(0<=p.2/\p.2<=8)
def wB {es:List D}(hl:es.length<=100)(h:∀x,x∈es->dw x=false):Ge (.tuple es):=⟨rfl,λes' e=>by cases e;exact⟨hl,h⟩⟩
def CQ {fa fb:VF D}{vs:List Nv}{β:Int}{ds:List D}{i:Nat}(ha:fa vs β=.ok (.list ds) β)(hb:fb vs β=.ok (.int ((i:Nat):Int)) β):Kj fa (λ_ β=>.ok none β) (Jv fb) vs β=.ok (.list (ds.take i)) β:=by
 unfold Kj Jv
 rw[ha];dsimp only[R.bnd]
 rw[hb];dsimp only[R.bnd]
 congr 2
 unfold cutD
 rw[HT.Dy,HT.Ew]
 by_cases h:i<=ds.length
 ·rw[Nat.min_eq_left h];rfl
 ·rw[Nat.min_eq_right (by omega),N8 (show ds.length<=i by omega)];simp
end RM
namespace RM
open PySem PySem.Spec L2 PyProof.Rows
theorem o9:∀(ns acc:List Int),acc.Nodup->(ns.foldl step_dedup acc).length<=acc.length + ns.length/\((ns.foldl step_dedup acc).length=acc.length + ns.length↔(ns.Nodup/\∀x,x∈ns->x∉acc))
 | [],acc,_=>by simp
 |n :: ns,acc,hn=>by
  rw[O9]
  by_cases h:n∈acc
  ·have e:step_dedup acc n=acc:=by unfold step_dedup;rw[MA (by simpa using h)]
   rw[e]
   obtain⟨h1,h2⟩:=o9 ns acc hn
   refine⟨by rw[MU];omega,⟨λz=>?_,λz=>absurd h (z.2 n (MC ..))⟩⟩
   rw[MU] at z;omega
  ·have e:step_dedup acc n=acc ++ [n]:=by unfold step_dedup;rw[MF (by simpa using h)]
   have hn':(acc ++ [n]).Nodup:=by
    rw[Po]
    refine⟨hn,Nc.mpr ⟨by simp,ON⟩,λa ha b hb=>?_⟩
    rw[MZ] at hb
    subst hb
    exact λq=>h (q▸ha)
   rw[e]
   obtain⟨h1,h2⟩:=o9 ns (acc ++ [n]) hn'
   rw[M5,Oz] at h1 h2
   refine⟨by rw[MU];omega,?_⟩
   rw[MU,show acc.length + (ns.length + 1)=acc.length + 1 + ns.length by omega,h2,Nc]
   constructor
   ·rintro⟨z1,z2⟩
    refine⟨⟨λq=>z2 n q (by simp),z1⟩,λx hx=>?_⟩
    rcases MB.mp hx with rfl |hx
    ·exact h
    ·exact λq=>z2 x hx (NU _ q)
   ·rintro⟨⟨z1,z2⟩,z3⟩
    refine⟨z2,λx hx q=>?_⟩
    rcases M1.mp q with q |q
    ·exact z3 x (MD _ hx) q
    ·rw[MZ] at q;subst q;exact z1 hx
def u9 (ns:List Int):qi ns=ns.length↔ns.Nodup:=by
 have e:firstMet (λi=>ns.getD i 0) ns.length=ns.foldl step_dedup []:=by
  unfold firstMet
  congr 1
  refine OQ (by simp) λi h1 h2=>?_
  simp[MY,h2]
 unfold qi
 rw[e]
 have:=(o9 ns [] ON).2
 simpa using this
theorem nF:∀{l m:List Int},l.Nodup->(∀x,x∈l->x∈m)->m.length<=l.length->l.Perm m
 | [],m,_,_,h=>by
  have:m= []:=List.length_eq_zero_iff.mp (by simpa using h)
  rw[this]
 |x :: l,m,nd,hs,h=>by
  obtain⟨h1,h2⟩:=Nc.mp nd
  have hx:x∈m:=hs x (MC ..)
  have pm:m.Perm (x :: m.erase x):=List.perm_cons_erase hx
  refine (List.Perm.cons x (nF (m:=m.erase x) h2 (λy hy=>?_) ?_)).trans pm.symm
  ·have hy':=pm.mem_iff.mp (hs y (MD _ hy))
   rcases MB.mp hy' with rfl |q
   ·exact absurd hy h1
   ·exact q
  ·have:=pm.length_eq
   rw[MU] at this h
   omega
def oO {n:Nat}{r:List Int}(hl:r.length=n)(hb:∀x,x∈r->0<=x/\x < n)(nd:r.Nodup):r.Perm (eS n):=nF nd (λx hx=>a8.mpr (hb x hx)) (by rw[bV];omega)
noncomputable def mn (n:Nat)(d:D):Bool:=@decide (∃r:List Int,d=tupI r/\r.Perm (eS n)) (Classical.propDecidable _)
def IE {n:Nat}{d:D}(h:mn n d=true):∃r:List Int,d=tupI r/\r.Perm (eS n):=@NA _ (Classical.propDecidable _) h
def pR {n:Nat}{r:List Int}(h:r.Perm (eS n)):mn n (tupI r)=true:=@ME _ (Classical.propDecidable _) ⟨r,rfl,h⟩
def tx {n:Nat}{d:D}(h:∀r:List Int,d=tupI r->¬r.Perm (eS n)):mn n d=false:=@MK _ (Classical.propDecidable _) λ⟨r,e,p⟩=>h r e p
def l5 {r q:List Int}(h:tupI r=tupI q):r=q:=by
 unfold tupI at h
 have h:=PyData.tuple.inj h
 exact List.map_inj_right (λa b e=>int.inj e) |>.mp h
theorem zv {d:D}{n:Int}(h:iV d n=true):∃i:Int,d=.int i/\0<=i/\i < n:=by
 cases d with
 |int i=>exact⟨i,rfl,NA h⟩
 |_=>cases h
theorem q8 {n:Int}:∀{ds:List D},(ds.all λe=>iV e n)=true->∃r:List Int,ds=r.map int/\∀x,x∈r->0<=x/\x < n
 | [],_=>⟨[],rfl,λx hx=>by cases hx⟩
 |d :: ds,h=>by
  rw[all_cons,MP] at h
  obtain⟨i,rfl,hi⟩:=zv h.1
  obtain⟨r,rfl,hr⟩:=q8 h.2
  refine⟨i :: r,rfl,λx hx=>?_⟩
  rcases MB.mp hx with rfl |hx
  ·exact hi
  ·exact hr x hx
def zK {n:Nat}{r:List Int}(h:∀x,x∈r->0<=x/\x < (n:Int)):((r.map int).all λe=>iV e n)=true:=by
 rw[O4,MS]
 intro x hx
 exact ME (h x hx)
theorem dR:∀r:List Int,eZ (r.map int)=some r
 | []=>rfl
 |x :: r=>by
  have:=dR r
  simp only[Nj,eZ,this]
  try rfl
def p5:List D->FR:=bp 2 2 (kS dM)
theorem B8 {n:Nat}{d:D}(h8:n<=100)(h:Ge d):p5 [d,.int n]=.ok (.bool (mn n d)) false:=by
 show fin (kS dM [.fz d,.fz (.int n)] 0)=_
 unfold kS
 have g0:gv 0 (vl [.fz d,.fz (.int n)]) 0=.ok d 0:=rfl
 have t1:=JB g0 h.1
 cases hy:E2 d with
 |false=>
  rw[hy] at t1
  rw[iq (d:=.bool false) (b:=false) (β':=0) (by rw[kg (FT (c5 t1))];rfl),tx]
  ·rfl
  ·intro r e;subst e;cases hy
 |true=>
  obtain⟨es,rfl⟩:=D4 hy
  rw[hy] at t1
  have t2:dD (f2 (f1 (gv 0) c3) (gv 1) (dC true)) (vl [.fz (.tuple es),.fz (.int n)]) 0=.ok (!decide ((es.length:Int)=n)) 0:=iG (neg:=true) (Gj g0) rfl
  by_cases hl:es.length=n
  ·rw[ME (show (es.length:Int)=n by omega)] at t2
   rw[ax (env':=[.fz (.tuple es),.fz (.int n)]) (β':=0) (by rw[fU (mf (c5 t1) t2)];rfl)]
   have hs:=(h.2 _ rfl).2
   have ec:aP 1 [1] (.nm 0) (bu (gv 0)) ij (ak dM (aa (gv 0) (aa (gv 1) ah))) (vl [.fz (.tuple es),.fz (.int n)]) 0=.ok (.list (es.map λe=>PyData.bool (iV e n))) 0:=
    rj (λe=>PyData.bool (iV e n)) rfl (by omega) λe he=>⟨_,rfl,aq (ds:=[e,.int n]) rfl (sX (hs e he))⟩
   have ea:=yI ec
   rw[gB]
   cases hb:(es.all λe=>iV e n) with
   |false=>
    rw[hb] at ea
    rw[Kn ea,tx]
    ·rfl
    ·intro r e pm
     have e:=PyData.tuple.inj e
     subst e
     rw[zK λx hx=>a8.mp (pm.mem_iff.mp hx)] at hb
     cases hb
   |true=>
    rw[hb] at ea
    obtain⟨r,rfl,hr⟩:=q8 hb
    have hrl:r.length=n:=by rw[MI] at hl;exact hl
    have es:f1 (gv 0) ot (vl [.fz (.tuple (r.map int)),.fz (.int n)]) 0=.ok (.int (qi r)) 0:=by
     refine cI g0 ?_
     show (match eZ (r.map int) with |some ns=>if ns.length<=1000 then some (int (qi ns)) else none |none=>none)=_
     rw[dR]
     exact MA (by omega)
    rw[Gf ea (aG es rfl (oz false (qi r) n))]
    show FR.ok (.bool (decide ((qi r:Int)=(n:Int)))) false=_
    by_cases nd:r.Nodup
    ·have:=(u9 r).mpr nd
     rw[ME (by omega),show mn n (.tuple (r.map int))=true from pR (oO hrl hr nd)]
    ·have:qi r≠r.length:=λq=>nd ((u9 r).mp q)
     rw[MK (by omega),tx]
     intro q e pm
     have e:=l5 (r:=r) e
     subst e
     exact nd (pm.nodup_iff.mpr (cQ n))
  ·rw[MK (show ¬(es.length:Int)=n by omega)] at t2
   rw[iq (d:=.bool false) (b:=false) (β':=0) (by rw[kg (mf (c5 t1) t2)];rfl),tx]
   ·rfl
   ·intro r e pm
    have e:=PyData.tuple.inj e
    subst e
    have:=pm.length_eq
    rw[bV] at this
    rw[MI] at hl
    exact hl this
end RM
namespace RM
open PySem L2
def qp (r:List Int):List Int:=(List.range r.length).map λ(a:Nat)=>((r.idxOf (a:Int):Nat):Int)
def gc (r:List Int)(k:Nat):List Int:=(List.range r.length).map λ(a:Nat)=>if r.idxOf (a:Int) < k then ((r.idxOf (a:Int):Nat):Int) else 0
def zm {n:Nat}{r:List Int}(h:r.Perm (eS n)):gc r r.length=qp r:=by
 unfold gc qp
 refine NH λa ha=>?_
 have hl:=h.length_eq
 rw[bV] at hl
 have:=MX.mp ha
 rw[MA (Nq.mpr (h.mem_iff.mpr (a8.mpr ⟨by omega,by omega⟩)))]
def wD (r:List Int):gc r 0=List.replicate r.length 0:=by
 unfold gc
 refine OQ (by simp) λi h1 h2=>by simp
def xC {n:Nat}{r:List Int}(h:r.Perm (eS n)){k:Nat}{x:Int}(hk:r[k]? =some x):(gc r k).set x.toNat (k:Int)=gc r (k + 1):=by
 have hl:=h.length_eq
 rw[bV] at hl
 have hx:=a8.mp (h.mem_iff.mp (MO hk))
 have nd:r.Nodup:=h.nodup_iff.mpr (cQ n)
 obtain⟨hkl,hke⟩:=MJ.mp hk
 have hix:r.idxOf x=k:=by rw[<-hke];exact nd.idxOf_getElem k hkl
 unfold gc
 refine OQ (by simp) λi h1 h2=>?_
 have hi:i < r.length:=by simpa using h2
 rw[List.getElem_set]
 simp only[List.getElem_map,Pb]
 by_cases e:x.toNat=i
 ·rw[MA e]
  have ex:(i:Int)=x:=by omega
  rw[ex,hix,MA (by omega)]
 ·rw[MF e]
  have:r.idxOf (i:Int)≠k:=λq=>by
   have hm:(i:Int)∈r:=h.mem_iff.mpr (a8.mpr ⟨by omega,by omega⟩)
   have h3:=List.getElem_idxOf (Nq.mpr hm)
   simp only[q] at h3
   rw[hke] at h3
   omega
  by_cases z:r.idxOf (i:Int) < k
  ·rw[MA z,MA (by omega)]
  ·rw[MF z,MF (by omega)]
def Ci {n:Nat}{r:List Int}(h:r.Perm (eS n)){a:Int}(ha:0<=a/\a < n):jk (qp r) a=some ((r.idxOf a:Nat):Int):=by
 have hl:=h.length_eq
 rw[bV] at hl
 have e:(a.toNat:Int)=a:=by omega
 have:=fR (xs:=qp r) (j:=a.toNat) (v:=((r.idxOf a:Nat):Int)) (by
  unfold qp
  rw[MG,NP (by omega)]
  simp only[Option.map_some,e])
 rw[e] at this
 exact this
def IV:List D->FR:=bp 4 1 mE
def Ks {n:Nat}{r:List Int}(h100:n<=100)(h:r.Perm (eS n)):IV [tupI r]=.ok (.list ((qp r).map int)) true:=by
 have hl:=h.length_eq
 rw[bV] at hl
 show fin (mE [.fz (tupI r),.no,.no,.no] 0)=_
 unfold mE
 rw[ax (env':=[.fz (tupI r),.ow (.list ((gc r 0).map int)),.no,.no]) (β':=0) ?a]
 case a=>
  have e:f2 (cG (aa (cst (.int 0)) ah)) (f1 (gv 0) c3) nW (vl [.fz (tupI r),.no,.no,.no]) 0=.ok (.list ((gc r 0).map int)) 0:=by
   refine aG (lp (ac (ck _) an)) (Gj (ds:=r.map int) rfl) ?_
   rw[MI,wD,List.map_replicate]
   simp only[nW]
   rw[MA ?q]
   ·congr 2
    rw[M6]
    induction r.length with
    |zero=>rfl
    |succ m ih=>first |rw[Nr,Nr,N6,ih];rfl | (simp[Nr] at ih ⊢;try exact ih)
   case q=>first | (constructor <;> first |omega | (show _<=_;simp;try omega)) | (rw[Na];simp;omega)
  rw[ki,e];rfl
 have ee:Dd (gv 0) (vl [.fz (tupI r),.ow (.list ((gc r 0).map int)),.no,.no]) 0=.ok (dE (r.map int)) 0:=rfl
 obtain⟨env',β',ef,s,t,rfl,rfl⟩:=dG (t:=.two 2 3) (m:=me 1 [2] [] (gv 2) (gv 3)) (ds:=dE (r.map int)) (k:=0)
  (λk env β=>∃s t:Sl,env= [.fz (tupI r),.ow (.list ((gc r k).map int)),s,t]/\β=0)
  (env:=[.fz (tupI r),.ow (.list ((gc r 0).map int)),.no,.no]) (β:=0) ⟨.no,.no,rfl,rfl⟩ (by
   rintro k d env β hk ⟨s,t,rfl,rfl⟩
   unfold dE at hk
   rw[O8,MG] at hk
   cases hx:r[k]? with
   |none=>rw[hx] at hk;cases hk
   |some x=>
    rw[hx] at hk
    cases hk
    have hxm:=a8.mp (h.mem_iff.mp (MO hx))
    refine⟨[.fz (tupI r),.ow (.list ((gc r (0 + k)).map int)),.fz (.int k),.fz (.int x)],rfl,?_⟩
    rw[Nt]
    refine⟨[.fz (tupI r),.ow (.list ((gc r (k + 1)).map int)),.fz (.int k),.fz (.int x)],0,?_,_,_,rfl,rfl⟩
    rw[pN (ds:=(gc r k).map int) (d:=.int k) (k:=x) (n:=x.toNat) (β1:=0) (β2:=0) rfl (by rfl) rfl (by rfl) ?b]
    ·rw[<-xC h hx,List.map_set];rfl
    case b=>
     unfold ub
     rw[MA hxm.1,MA (by rw[MI];unfold gc;simp;omega)])
 have hle:(dE (r.map int)).length=r.length:=by unfold dE;simp
 rw[Nt,hle,zm h] at ef
 rw[ax (env':=[.fz (tupI r),.ow (.list ((qp r).map int)),s,t]) (β':=0) (by
  rw[c6 (env:=[.fz (tupI r),.ow (.list ((gc r 0).map int)),.no,.no]) ee]
  exact ef)]
 rfl
def qk (l:List Pr)(r:List Int):Bool:=l.all λp=>decide (r.idxOf p.1 < r.idxOf p.2)
def Row (n:Nat)(l:List Pr)(r:List Int):Prop:=r.Perm (eS n)/\qk l r=true
noncomputable def o8 (n:Nat)(l:List Pr)(d:D):Bool:=@decide (∃r:List Int,d=tupI r/\Row n l r) (Classical.propDecidable _)
def JY {n:Nat}{l:List Pr}{d:D}(h:o8 n l d=true):∃r:List Int,d=tupI r/\Row n l r:=@NA _ (Classical.propDecidable _) h
def mD {n:Nat}{l:List Pr}{r:List Int}(h:Row n l r):o8 n l (tupI r)=true:=@ME _ (Classical.propDecidable _) ⟨r,rfl,h⟩
def GF {n:Nat}{l:List Pr}{d:D}(h:∀r:List Int,d=tupI r->¬Row n l r):o8 n l d=false:=@MK _ (Classical.propDecidable _) λ⟨r,e,p⟩=>h r e p
noncomputable def A0:List D->FR:=bp 3 2 (fM p5 IV)
def BV {n:Nat}{r:List Int}(h:r.Perm (eS n)){a b:Int}(ha:0<=a/\a < n)(hb:0<=b/\b < n){fp fa fb:VF D}{vs:List Nv}{β:Int}(hp:fp vs β=.ok (.list ((qp r).map int)) β)(h1:fa vs β=.ok (.int a) β)(h2:fb vs β=.ok (.int b) β) :
  f2 (f2 fp fa bR) (f2 fp fb bR) vU vs β=.ok (.bool (decide (r.idxOf a < r.idxOf b))) β:=by
 refine aG (aG hp h1 (show jk ((qp r).map int) a=_ by rw[cW,Ci h ha];rfl)) (aG hp h2 (show jk ((qp r).map int) b=_ by rw[cW,Ci h hb];rfl)) ?_
 show some (PyData.bool (decide (((r.idxOf a:Nat):Int) < ((r.idxOf b:Nat):Int))))=_
 congr 2
 rw[Nx,MT,MT]
 omega
theorem EJ {n:Nat}{l:List Pr}{d:D}(O:OM.Ord n l)(h:Ge d):A0 [d,aw n l]=.ok (.bool (o8 n l d)) false:=by
 have h8:=O.hi
 show fin (fM p5 IV [.fz d,.fz (aw n l),.no] 0)=_
 unfold fM
 have t:la (ak p5 (aa (gv 0) (aa (f2 (gv 1) (cst (.int 0)) bR) ah))) (vl [.fz d,.fz (aw n l),.no]) 0=.ok (mn n d) 0:=ie (aq (ds:=[d,.int n]) (ac rfl (ac (Ha (n:=n) (l:=l) rfl) an)) (B8 (by omega) h))
 cases q:mn n d with
 |false=>
  rw[q] at t
  rw[iq (d:=.bool false) (b:=false) (β':=0) (by rw[kg (c5 t)];rfl),GF]
  ·rfl
  ·rintro r rfl hr
   rw[pR hr.1] at q;cases q
 |true=>
  rw[q] at t
  obtain⟨r,rfl,pm⟩:=IE q
  rw[ax (env':=[.fz (tupI r),.fz (aw n l),.no]) (β':=0) (by rw[fU (c5 t)];rfl)]
  rw[ax (env':=[.fz (tupI r),.fz (aw n l),.fz (.list ((qp r).map int))]) (β':=0) (by rw[cy,aq (ds:=[tupI r]) (β1:=0) rfl (Ks (by omega) pm)];rfl)]
  have ec:aP 2 [2] (.two 0 1) (bu (f2 (gv 1) (cst (.int 1)) bR)) ij (f2 (f2 (gv 2) (gv 0) bR) (f2 (gv 2) (gv 1) bR) vU) (vl [.fz (tupI r),.fz (aw n l),.fz (.list ((qp r).map int))]) 0=.ok (.list (l.map λp=>PyData.bool (decide (r.idxOf p.1 < r.idxOf p.2)))) 0:=by
   refine bB (l:=l) (e:=aK) (λp=>PyData.bool (decide (r.idxOf p.1 < r.idxOf p.2))) rfl (by have:=lX O;omega) λp hp=>⟨_,rfl,?_⟩
   have hw:=O.wn p hp
   exact BV pm hw.1 hw.2 rfl rfl rfl
  rw[gB,GY (f:=λp=>decide (r.idxOf p.1 < r.idxOf p.2)) ec]
  show FR.ok (.bool (qk l r)) false=_
  cases qf:qk l r with
  |true=>rw[mD ⟨pm,qf⟩]
  |false=>
   rw[GF]
   rintro r' e hr
   have e:=l5 e
   subst e
   rw[hr.2] at qf;cases qf
def Gt (d:D):Prop:=dw d=false/\∀ds,d=.list ds->ds.length<=100/\∀e,e∈ds->Ge e
noncomputable def yz (n:Nat)(l:List Pr)(d:D):Bool:=@decide (∃rs:List (List Int),d=.list (rs.map tupI)/\rs≠ []/\∀r,r∈rs->Row n l r) (Classical.propDecidable _)
def rg {n:Nat}{l:List Pr}{rs:List (List Int)}(h1:rs≠ [])(h:∀r,r∈rs->Row n l r):yz n l (.list (rs.map tupI))=true:=@ME _ (Classical.propDecidable _) ⟨rs,rfl,h1,h⟩
def xr {n:Nat}{l:List Pr}{d:D}(h:∀rs:List (List Int),d=.list (rs.map tupI)->rs≠ []->∃r,r∈rs/\¬Row n l r):yz n l d=false:=@MK _ (Classical.propDecidable _) λ⟨r,e,h1,h2⟩=>by
 obtain⟨x,hx,hn⟩:=h r e h1
 exact hn (h2 x hx)
theorem all_rows {n:Nat}{l:List Pr}:∀{ds:List D},ds.all (o8 n l)=true->∃rs:List (List Int),ds=rs.map tupI/\∀r,r∈rs->Row n l r
 | [],_=>⟨[],rfl,λr hr=>by cases hr⟩
 |d :: ds,h=>by
  rw[all_cons,MP] at h
  obtain⟨r,rfl,hr⟩:=JY h.1
  obtain⟨rs,rfl,hrs⟩:=all_rows h.2
  refine⟨r :: rs,rfl,λx hx=>?_⟩
  rcases MB.mp hx with rfl |hx
  ·exact hr
  ·exact hrs x hx
noncomputable def IC:List D->FR:=bp 2 2 (fu A0)
theorem LH {n:Nat}{l:List Pr}{d:D}(O:OM.Ord n l)(h:Gt d):IC [d,aw n l]=.ok (.bool (yz n l d)) false:=by
 show fin (fu A0 [.fz d,.fz (aw n l)] 0)=_
 unfold fu
 have e1:=FQ (fa:=gv 0) (vs:=vl [.fz d,.fz (aw n l)]) (β:=0) rfl h.1
 cases q:Ip d with
 |false=>
  rw[q] at e1
  rw[iq (d:=.bool false) (b:=false) (β':=0) (by rw[kg (FT (c5 (ie e1)))];rfl),xr]
  ·rfl
  ·rintro rs rfl;cases q
 |true=>
  rw[q] at e1
  obtain⟨ds,rfl⟩:=E5 q
  have hd:=h.2 ds rfl
  have t2:dD (f2 (f1 (gv 0) c3) (cst (.int 0)) (dC false)) (vl [.fz (.list ds),.fz (aw n l)]) 0=.ok (decide ((ds.length:Int)=0)) 0:=iG (neg:=false) (tf rfl) rfl
  cases ds with
  |nil=>
   rw[iq (d:=.bool false) (b:=false) (β':=0) (by rw[kg (mf (c5 (ie e1)) t2)];rfl),xr]
   ·rfl
   ·intro rs e hne
    have e:=PyData.list.inj e
    cases rs with
    |nil=>exact absurd rfl hne
    |cons=>cases e
  |cons x ds=>
   rw[MK (by simp;omega)] at t2
   rw[ax (env':=[.fz (.list (x :: ds)),.fz (aw n l)]) (β':=0) (by rw[fU (mf (c5 (ie e1)) t2)];rfl)]
   have ec:aP 1 [1] (.nm 0) (bu (gv 0)) ij (ak A0 (aa (gv 0) (aa (gv 1) ah))) (vl [.fz (.list (x :: ds)),.fz (aw n l)]) 0=.ok (.list ((x :: ds).map λe=>PyData.bool (o8 n l e))) 0:=
    rj (λe=>PyData.bool (o8 n l e)) rfl (by omega) λe he=>⟨_,rfl,aq (ds:=[e,aw n l]) rfl (EJ O (hd.2 e he))⟩
   rw[gB,yI (f:=o8 n l) ec]
   cases qa:(x :: ds).all (o8 n l) with
   |true=>
    obtain⟨rs,e,hrs⟩:=all_rows qa
    rw[e,rg (by rintro rfl;cases e) hrs];rfl
   |false=>
    rw[xr]
    ·rfl
    ·intro rs e hne
     have e:=PyData.list.inj e
     rw[e,O4,List.all_eq_false] at qa
     obtain⟨r,hr,hx⟩:=qa
     exact⟨r,hr,λz=>hx (mD z)⟩
def lN (rs:List (List Int))(p:Pr):Bool:=rs.all λr=>decide (r.idxOf p.1 < r.idxOf p.2)
def KI:List D->FR:=bp 3 3 eH
def oA {α:Type}{fa:VF D}{vs:List Nv}{β:Int}{l:List α}{f:α->Bool}(h:fa vs β=.ok (.list (l.map λq=>PyData.bool (f q))) β):f1 fa (cn λbs=>bs.all id) vs β=.ok (.bool (l.all f)) β:=by
 refine cI h ?_
 simp only[cn]
 rw[gL]
 simp[O4,Function.comp_def]
def Lr {n:Nat}{rs:List (List Int)}(hz:rs.length<=1000)(hp:∀r,r∈rs->r.Perm (eS n)){a b:Int}(ha:0<=a/\a < n)(hb:0<=b/\b < n):KI [.list (rs.map λr=>.list ((qp r).map int)),.int a,.int b]=.ok (.bool (lN rs (a,b))) false:=by
 show fin (eH [.fz (.list (rs.map λr=>.list ((qp r).map int))),.fz (.int a),.fz (.int b)] 0)=_
 unfold eH
 have ec:aP 1 [1,2] (.nm 0) (bu (gv 0)) ij (f2 (f2 (gv 0) (gv 1) bR) (f2 (gv 0) (gv 2) bR) vU) (vl [.fz (.list (rs.map λr=>.list ((qp r).map int))),.fz (.int a),.fz (.int b)]) 0=.ok (.list (rs.map λr=>PyData.bool (decide (r.idxOf a < r.idxOf b)))) 0:=
  bB (l:=rs) (e:=λr=>.list ((qp r).map int)) (λr=>PyData.bool (decide (r.idxOf a < r.idxOf b))) rfl (by omega) λr hr=>⟨_,rfl,BV (hp r hr) ha hb rfl rfl rfl⟩
 rw[gB,oA ec];rfl
noncomputable def Ee:List D->FR:=bp 3 2 (eN IV tS KI)
def Bl {n:Nat}{rs:List (List Int)}(h1:1<=n)(h8:n<=8)(hz:rs.length<=1000)(hp:∀r,r∈rs->r.Perm (eS n)):Ee [.int n,.list (rs.map tupI)]=.ok (.tuple (((OM.bQ n).filter (lN rs)).map aK)) false:=by
 show fin (eN IV tS KI [.fz (.int n),.fz (.list (rs.map tupI)),.no] 0)=_
 unfold eN
 have e1:aP 1 [] (.nm 0) (bu (gv 1)) ij (ak IV (aa (gv 0) ah)) (vl [.fz (.int n),.fz (.list (rs.map tupI)),.no]) 0=.ok (.list (rs.map λr=>.list ((qp r).map int))) 0:=
  bB (l:=rs) (e:=tupI) (λr=>.list ((qp r).map int)) rfl (by omega) λr hr=>⟨_,rfl,aq (ds:=[tupI r]) rfl (Ks (by omega) (hp r hr))⟩
 rw[ax (env':=[.fz (.int n),.fz (.list (rs.map tupI)),.fz (.list (rs.map λr=>.list ((qp r).map int)))]) (β':=0) (by rw[cy,e1];rfl)]
 have hg:(OM.bQ n).length<=64:=by rw[i4];exact N2 h8 h8
 have e2:aP 2 [2] (.two 0 1) (bu (ak tS (aa (gv 0) ah))) (la (ak KI (aa (gv 2) (aa (gv 0) (aa (gv 1) ah))))) (fF (aa (gv 0) (aa (gv 1) ah))) (vl [.fz (.int n),.fz (.list (rs.map tupI)),.fz (.list (rs.map λr=>.list ((qp r).map int)))]) 0=.ok (.list (((OM.bQ n).filter (lN rs)).map aK)) 0:=by
  refine g7 (l:=OM.bQ n) (e:=aK) (lN rs) aK ?_ (by omega) λp hp'=>⟨_,rfl,?_,λ_=>pZ rfl rfl⟩
  ·unfold bu
   rw[aq (ds:=[.int n]) (β1:=0) rfl (EI h1 h8)];rfl
  ·have:=OM.bC.mp hp'
   exact ie (aq (ds:=[.list (rs.map λr=>.list ((qp r).map int)),.int p.1,.int p.2]) rfl (Lr hz hp this.1 this.2))
 rw[gB,cI (g:=m6) e2 rfl];rfl
def FY {n:Nat}{rs:List (List Int)}(h1:1<=n)(h8:n<=8)(hz:rs.length<=100)(hp:∀r,r∈rs->r.Perm (eS n)):Ee [.int n,.list (rs.map tupI)]=.ok (.tuple (((OM.bQ n).filter (lN rs)).map aK)) false:=Bl h1 h8 (by omega) hp
def z8 (l:List Pr)(r:List Int)(x:Int):List Int:=(l.filter λp=>decide (p.2=x) && !decide (p.1∈r)).map (·.1)
def iE {l:List Pr}{r:List Int}{x a:Int}:a∈z8 l r x↔(a,x)∈l/\a∉r:=by
 unfold z8
 rw[MM]
 constructor
 ·rintro⟨p,hp,rfl⟩
  have:=ML.mp hp
  simp only[MP,MT,NX,N4] at this
  obtain⟨pa,pb⟩:=p
  obtain⟨h1,h2,h3⟩:=this
  simp only at h2 h3
  subst h2
  exact⟨h1,h3⟩
 ·rintro⟨h1,h2⟩
  exact⟨(a,x),ML.mpr ⟨h1,by simp[h2]⟩,rfl⟩
def zQ {n:Nat}{l:List Pr}(O:OM.Ord n l)(r:List Int)(x:Int):(z8 l r x).Nodup:=by
 unfold z8
 rw[OE,NQ]
 refine NZ (λ{a b} ha hb h e=>h ?_) (OE.mp ((OM.gQ O.ris).filter _))
 have h1:=(ML.mp ha).2
 have h2:=(ML.mp hb).2
 simp only[MP,MT] at h1 h2
 exact Prod.ext e (h1.1.trans h2.1.symm)
theorem least {n:Nat}{l:List Pr}(O:OM.Ord n l)(r:List Int):∀(k:Nat) (x:Int),(0<=x/\x < n)->x∉r->(z8 l r x).length<=k->∃y:Int,(0<=y/\y < n)/\y∉r/\z8 l r y= []
 | 0,x,hx,hr,hk=>⟨x,hx,hr,List.length_eq_zero_iff.mp (by omega)⟩
 |k + 1,x,hx,hr,hk=>by
  by_cases he:z8 l r x= []
  ·exact⟨x,hx,hr,he⟩
  ·obtain⟨a,ha⟩:=List.exists_mem_of_ne_nil _ he
   obtain⟨h1,h2⟩:=iE.mp ha
   refine least O r k a (O.wn _ h1).1 h2 ?_
   have nd:(a :: z8 l r a).Nodup:=Nc.mpr ⟨λq=>O.irr a (iE.mp q).1,zQ O r a⟩
   have:=L2.ST.bE nd (m:=z8 l r x) λy hy=>by
    rcases MB.mp hy with rfl |hy
    ·exact ha
    ·obtain⟨q1,q2⟩:=iE.mp hy
     exact iE.mpr ⟨O.tr _ _ _ q1 h1,q2⟩
   rw[MU] at this
   omega
structure qw (n:Nat)(l:List Pr)(r:List Int):Prop where
 nd:r.Nodup
 inn:∀x,x∈r->0<=x/\x < (n:Int)
 fit:∀p,p∈l->p.2∈r->p.1∈r/\r.idxOf p.1 < r.idxOf p.2
def qw.len {n:Nat}{l:List Pr}{r:List Int}(B:qw n l r):r.length<=n:=by
 have:=L2.ST.bE B.nd (m:=eS n) λx hx=>a8.mpr (B.inn x hx)
 rwa [bV] at this
def qw.row {n:Nat}{l:List Pr}{r:List Int}(O:OM.Ord n l)(B:qw n l r)(h:n<=r.length):Row n l r:=by
 have pm:=oO (Nat.le_antisymm B.len h) B.inn B.nd
 refine⟨pm,MS.mpr λp hp=>ME ?_⟩
 exact (B.fit p hp (pm.mem_iff.mpr (a8.mpr (O.wn p hp).2))).2
def e8 (l:List Pr)(r:List Int)(x:Int):Bool:= !decide (x∈r) && decide (z8 l r x= [])
def qw.more {n:Nat}{l:List Pr}{r:List Int}{x:Int}(B:qw n l r)(hx:0<=x/\x < (n:Int))(hf:e8 l r x=true):qw n l (r ++ [x]):=by
 unfold e8 at hf
 rw[MP,NX,N4,MT] at hf
 obtain⟨h1,h2⟩:=hf
 refine⟨?_,λy hy=>?_,λp hp hm=>?_⟩
 ·rw[Po]
  refine⟨B.nd,Nc.mpr ⟨by simp,ON⟩,λa ha b hb=>?_⟩
  rw[MZ] at hb
  subst hb
  exact λq=>h1 (q▸ha)
 ·rcases M1.mp hy with hy |hy
  ·exact B.inn y hy
  ·rw[MZ] at hy;subst hy;exact hx
 ·rcases M1.mp hm with hm |hm
  ·obtain⟨q1,q2⟩:=B.fit p hp hm
   refine⟨NU _ q1,?_⟩
   rw[N7,N7,MA q1,MA hm]
   exact q2
  ·rw[MZ] at hm
   have hp1:p.1∈r:=by
    by_cases z:p.1∈r
    ·exact z
    ·have:p.1∈z8 l r x:=iE.mpr ⟨by rw[<-hm];exact hp,z⟩
     rw[h2] at this;cases this
   refine⟨NU _ hp1,?_⟩
   rw[N7,N7,MA hp1,MF (by rw[hm];exact h1)]
   have:=Nq.mpr hp1
   omega
def qw.free {n:Nat}{l:List Pr}{r:List Int}(O:OM.Ord n l)(B:qw n l r)(h:r.length < n):(eS n).filter (e8 l r)≠ []:=by
 have:∃x,x∈eS n/\x∉r:=by
  apply Classical.byContradiction
  intro z
  have:=L2.ST.bE (cQ n) (m:=r) λx hx=>Classical.byContradiction λq=>z ⟨x,hx,q⟩
  rw[bV] at this
  omega
 obtain⟨x,hx,hr⟩:=this
 obtain⟨y,hy,hyr,hp⟩:=least O r _ x (a8.mp hx) hr (My _)
 intro q
 have:y∈(eS n).filter (e8 l r):=ML.mpr ⟨a8.mpr hy,by unfold e8;simp[hyr,hp]⟩
 rw[q] at this
 cases this
def aY (l:List Pr)(r:List Int)(i:Nat):List Int:=(eS i).filter (e8 l r)
def Du (i:Nat):eS (i + 1)=eS i ++ [(i:Int)]:=by unfold eS;rw[List.range_succ,NM];rfl
def rO (l:List Pr)(r:List Int)(i:Nat):aY l r (i + 1)=aY l r i ++ if e8 l r (i:Int)=true then [(i:Int)] else []:=by
 unfold aY
 rw[Du,List.filter_append]
 congr 1
 by_cases h:e8 l r (i:Int)=true
 ·rw[MA h];simp[h]
 ·rw[MF h];simp[h]
def mr (l:List Pr)(r:List Int)(i:Nat):(aY l r i).length<=i:=by
 have:(aY l r i).length<=(eS i).length:=OC _ _
 rwa [bV] at this
noncomputable def Lo:List D->FR:=bp 3 2 (gA dZ IC Ee)
def fH:Option Pr->D
 |some p=>aK p
 |none=>.none
def Ke {n:Nat}{l:List Pr}{rs:List (List Int)}(O:OM.Ord n l)(hz:rs.length<=100)(h1:rs≠ [])(hr:∀r,r∈rs->Row n l r):∃b,Lo [aw n l,.list (rs.map tupI)]=.ok (fH (((OM.bQ n).filter (lN rs)).find? λp=> !decide (p∈l))) b:=by
 have h8:=O.hi
 show ∃b,fin (gA dZ IC Ee [.fz (aw n l),.fz (.list (rs.map tupI)),.no] 0)=.ok (fH (((OM.bQ n).filter (lN rs)).find? λp=> !decide (p∈l))) b
 unfold gA
 rw[ax (env':=[.fz (aw n l),.fz (.list (rs.map tupI)),.no]) (β':=0) (by rw[lR,aq (ds:=[aw n l]) (β1:=0) rfl (km O)];rfl)]
 have hg:Gt (.list (rs.map tupI)):=⟨rfl,λds e=>by
  cases e
  refine⟨by rw[MI];exact hz,λe he=>?_⟩
  obtain⟨r,hm,rfl⟩:=MM.mp he
  have:=(hr r hm).1.length_eq
  rw[bV] at this
  exact wB (by rw[MI];omega) λx hx=>by obtain⟨i,_,rfl⟩:=MM.mp hx;rfl⟩
 have t:la (ak IC (aa (gv 1) (aa (gv 0) ah))) (vl [.fz (aw n l),.fz (.list (rs.map tupI)),.no]) 0=.ok (yz n l (.list (rs.map tupI))) 0:=ie (aq (ds:=[.list (rs.map tupI),aw n l]) rfl (LH O hg))
 rw[rg h1 hr] at t
 rw[ax (env':=[.fz (aw n l),.fz (.list (rs.map tupI)),.no]) (β':=0) (by rw[fU (c5 t)];rfl)]
 generalize hS:(OM.bQ n).filter (lN rs)=S
 have es:bu (ak Ee (aa (f2 (gv 0) (cst (.int 0)) bR) (aa (gv 1) ah))) (vl [.fz (aw n l),.fz (.list (rs.map tupI)),.no]) 0=.ok (S.map aK) 0:=by
  unfold bu
  rw[aq (ds:=[.int n,.list (rs.map tupI)]) (β1:=0) (ac (Ha (n:=n) (l:=l) rfl) (ac rfl an)) (FY O.lo h8 hz λr hm=>(hr r hm).1),hS];rfl
 have step:∀(ps:List Pr) (s2:Sl),(∃b,iZ (.nm 2) (g8 ([] ++ ([] ++ [])) (dD (f2 (gv 2) (f2 (gv 0) (cst (.int 1)) bR) (Dx true))) (jj 2) iQ) (ps.map aK) [.fz (aw n l),.fz (.list (rs.map tupI)),s2] 0=.rt (fH (ps.find? λp=> !decide (p∈l))) b 0/\(ps.find? λp=> !decide (p∈l)).isSome=true)\/(∃s2',iZ (.nm 2) (g8 ([] ++ ([] ++ [])) (dD (f2 (gv 2) (f2 (gv 0) (cst (.int 1)) bR) (Dx true))) (jj 2) iQ) (ps.map aK) [.fz (aw n l),.fz (.list (rs.map tupI)),s2] 0=.nx [.fz (aw n l),.fz (.list (rs.map tupI)),s2'] 0/\(ps.find? λp=> !decide (p∈l))=none):=by
  intro ps
  induction ps with
  |nil=>exact λs2=>.inr ⟨s2,rfl,rfl⟩
  |cons p ps ih=>
   intro s2
   have et:dD (f2 (gv 2) (f2 (gv 0) (cst (.int 1)) bR) (Dx true)) (vl [.fz (aw n l),.fz (.list (rs.map tupI)),.fz (aK p)]) 0=.ok (!decide (p∈l)) 0:=cT _ _ _ _ (aG (x:=aK p) (y:=.tuple (l.map aK)) rfl (IZ (n:=n) (l:=l) rfl) (yK true p l))
   cases c:(!decide (p∈l)) with
   |true=>
    rw[c] at et
    refine .inl ⟨false,?_,by rw[List.find?_cons,c];rfl⟩
    rw[List.find?_cons,c,Nj]
    unfold iZ
    rw[show du (.nm 2) (aK p) [.fz (aw n l),.fz (.list (rs.map tupI)),s2]=some [.fz (aw n l),.fz (.list (rs.map tupI)),.fz (aK p)] from rfl]
    dsimp only
    rw[kg et];rfl
   |false=>
    rw[c] at et
    have em:∀X,iZ (.nm 2) (g8 ([] ++ ([] ++ [])) (dD (f2 (gv 2) (f2 (gv 0) (cst (.int 1)) bR) (Dx true))) (jj 2) iQ) (ps.map aK) [.fz (aw n l),.fz (.list (rs.map tupI)),.fz (aK p)] 0=X->iZ (.nm 2) (g8 ([] ++ ([] ++ [])) (dD (f2 (gv 2) (f2 (gv 0) (cst (.int 1)) bR) (Dx true))) (jj 2) iQ) ((p :: ps).map aK) [.fz (aw n l),.fz (.list (rs.map tupI)),s2] 0=X:=by
     intro X hX
     rw[Nj]
     unfold iZ
     rw[show du (.nm 2) (aK p) [.fz (aw n l),.fz (.list (rs.map tupI)),s2]=some [.fz (aw n l),.fz (.list (rs.map tupI)),.fz (aK p)] from rfl]
     dsimp only
     rw[fU et];exact hX
    rw[List.find?_cons,c]
    rcases ih (.fz (aK p)) with⟨b,e,h⟩ | ⟨s2',e,h⟩
    ·exact .inl ⟨b,em _ e,h⟩
    ·exact .inr ⟨s2',em _ e,h⟩
 rcases step S .no with⟨b,e,h⟩ | ⟨s2',e,h⟩
 ·refine⟨b,?_⟩
  rw[iq (d:=fH (S.find? λp=> !decide (p∈l))) (b:=b) (β':=0) (by
   rw[c6 (env:=[.fz (aw n l),.fz (.list (rs.map tupI)),.no]) es]
   exact e)]
  rfl
 ·refine⟨false,?_⟩
  rw[ax (env':=[.fz (aw n l),.fz (.list (rs.map tupI)),s2']) (β':=0) (by
   rw[c6 (env:=[.fz (aw n l),.fz (.list (rs.map tupI)),.no]) es]
   exact e),h]
  rfl
theorem va:∀rs:List (List Int),PyData.canLayAll0 (rs.map tupI)=true
 | []=>rfl
 |r :: rs=>by
  show ((tupI r).canLay0 && PyData.canLayAll0 (rs.map tupI))=true
  rw[va rs,show (tupI r).canLay0=true by unfold tupI;simp only[PyData.canLay0];exact lay_ints r];rfl
def yf (r:List Int):(tupI r).depth=1:=by unfold tupI;simp only[PyData.depth];rw[pz]
theorem uq:∀rs:List (List Int),PyData.depthAll (rs.map tupI)<=1
 | []=>by show (0:Nat)<=1;omega
 |r :: rs=>by
  show max (tupI r).depth (PyData.depthAll (rs.map tupI))<=1
  have h1:=yf r
  have h2:=uq rs
  omega
def nD (rs:List (List Int)):SeqAt.shaped (.list (rs.map tupI))=true:=by
 unfold SeqAt.shaped
 have h1:(PyData.list (rs.map tupI)).canLay0=true:=by simp only[PyData.canLay0];exact va rs
 have h2:(PyData.list (rs.map tupI)).depth<=64:=by simp only[PyData.depth];have:=uq rs;omega
 rw[h1,ME h2];rfl
def tq (r q:List Int):PyData.eqv (tupI r) (tupI q)=decide (r=q):=by
 unfold tupI
 simp only[PyData.eqv,oV]
theorem ug:∀l m:List (List Int),PyData.eqvAll (l.map tupI) (m.map tupI)=decide (l=m)
 | [],[]=>rfl
 | [],_ :: _=>rfl
 |_ :: _,[]=>rfl
 |p :: l,q :: m=>by
  show (PyData.eqv (tupI p) (tupI q) && PyData.eqvAll (l.map tupI) (m.map tupI))=_
  rw[tq,ug l m,Nx]
  simp
def vd (neg:Bool)(l m:List (List Int)):dC neg (.list (l.map tupI)) (.list (m.map tupI))=some (.bool (if neg then !decide (l=m) else decide (l=m))):=by
 unfold dC
 rw[nD,nD]
 simp only[OD,NC,PyData.eqv,ug]
structure WP (r:SO)(Q:SO->Prop):Prop where
 out:Q r
section
variable {m m' m1 m2:SF}{env env1:En}{β β1 β2 z:Int}{Q:SO->Prop}{f fa fb:VF D}{t:VF Bool}{d e:D}{L La Lb:List Nat}{i j:Nat}{c:Bool}
def wp_at (env1:En)(e:env=env1)(k:WP (m env1 β) Q):WP (m env β) Q:=by rw[e];exact k
def wp_seq (h:m env β=.nx env1 β1)(k:WP (m' env1 β1) Q):WP (aH m m' env β) Q:=by rw[ax h];exact k
theorem HU (h:WP (aH m iQ env β) Q):WP (m env β) Q:=by
 obtain⟨h⟩:=h
 unfold aH at h
 cases e:m env β with
 |_=>rw[e] at h;exact⟨h⟩
def CL (q:Q (.nx env β)):WP (iQ env β) Q:=⟨q⟩
def lE (h:f (vl env) β=.ok d β1)(k:WP (m' ((bq L env).set i (.fz d)) β1) Q):WP (aH (bo i L f) m' env β) Q:=wp_seq (by unfold bo;rw[h];rfl) k
def Er (h:f (vl env) β=.ok (.list [.int z]) β1)(k:WP (m' ((qt (bq L env)).set i .bx) z) Q):WP (aH (yD i L f) m' env β) Q:=wp_seq (by unfold yD;rw[h];rfl) k
def sC (h:f (vl env) β=.ok d β1)(k:WP (m' (bq L env) β1) Q):WP (aH (kr L f) m' env β) Q:=wp_seq (by unfold kr;rw[h];rfl) k
def wp_bind {t:Tg}(h:f (vl env) β=.ok d β1)(hb:du t d (bq L env)=some env1)(k:WP (m' env1 β1) Q):WP (aH (yP t L f) m' env β) Q:=wp_seq (by unfold yP;rw[h];dsimp only[toS];rw[hb]) k
def eJ (h:t (vl env) β=.ok false β1)(k:WP (m' (bq L env) β1) Q):WP (aH (g8 L t m1 iQ) m' env β) Q:=wp_seq (by rw[fU h];rfl) k
def JF (h:t (vl env) β=.ok false β1)(k:WP (m2 (bq L env) β1) Q):WP (g8 L t m1 m2 env β) Q:=by rw[fU h];exact k
def nc (h:f (vl env) β=.ok d β1)(q:Q (.rt d false β1)):WP (bP f env β) Q:=⟨by unfold bP;rw[h];exact q⟩
def mL {R:FR}(h:WP (m env β) λr=>fin r=R):fin (m env β)=R:=h.out
def DK {t:Tg}{fi:VF (List D)}{ds:List D}(I:Nat->En->Int->Prop)(hi:fi (vl env) β=.ok ds β1)(h0:I 0 (bq L env) β1)
  (hs:∀i d env β,ds[i]? =some d->I i env β->∃env1,du t d env=some env1/\WP (m env1 β) λr=>∃env2 β2,r=.nx env2 β2/\I (i + 1) env2 β2)
  (k:∀env β,I ds.length env β->WP (m' env β) Q):WP (aH (dO t L fi m) m' env β) Q:=by
 obtain⟨env',β',e,h⟩:=dG (t:=t) (m:=m) I (ds:=ds) (k:=0) h0 λi d env β hd h=>by
  rw[Nt] at h
  obtain⟨env1,e1,⟨env2,β2,e2,h2⟩⟩:=hs i d env β hd h
  exact⟨env1,e1,env2,β2,e2,by rw[Nt];exact h2⟩
 rw[Nt] at h
 exact wp_seq ((c6 hi).trans e) (k _ _ h)
end
def Ck (c:Int)(hc:0<=c/\c<=100)(ns:List Int)(vs:List Nv)(β:Int)(h:gv 0 vs β=.ok (dg ns) β):∃m:Nat,m<=101/\gq (f2 (cst (.int 1)) (f2 (f1 (gv 0) c3) (cst (.int c)) (vP λi j=>.int (if j < i then j else i))) (vP λi j=>.int (if j > i then j else i))) vs β=.ok (cZ 0 m) β:=by
 have e1:f2 (cst (.int 1)) (f2 (f1 (gv 0) c3) (cst (.int c)) (vP λi j=>.int (if j < i then j else i))) (vP λi j=>.int (if j > i then j else i)) vs β=.ok (.int (if (if c < ((ns.map int).length:Int) then c else ((ns.map int).length:Int)) > 1 then (if c < ((ns.map int).length:Int) then c else ((ns.map int).length:Int)) else 1)) β:=
  aG (x:=.int 1) rfl (aG (x:=.int (ns.map int).length) (y:=.int c) (cI h rfl) rfl rfl) rfl
 generalize ((ns.map int).length:Nat)=k at e1
 refine⟨(if (if c < (k:Int) then c else (k:Int)) > 1 then (if c < (k:Int) then c else (k:Int)) else 1).toNat,?_,hV (e1.trans ?_) ?_⟩
 ·split <;> split <;> omega
 ·congr 2
  split <;> split <;> omega
 ·split <;> split <;> omega
def It (d:D):Prop:=dw d=false/\Sq 400 8 d/\Bf d
def Th (d:D):Prop:=Ge d/\Sq 10000 9 d/\Bf d
def Ap (P:D->Prop)(k:Nat)(es:List D):Prop:=es.length<=k/\∀x,x∈es->P x
abbrev Al:Nat->List D->Prop:=Ap It
def DS.it {d:D}(h:DS d):It d:=⟨h.scr,h.sq.mono (by omega) (by omega),h.bf⟩
def GS {i:Int}(h: -1<=i/\i<=9):It (.int i):=(yi h).it
def Fv {k:Nat}{r:List Int}(hl:r.length<=k)(h:∀x,x∈r->0<=x/\x < 9):Al k (r.map int):=⟨by rw[MI];exact hl,λx hx=>by
 obtain⟨y,hy,rfl⟩:=MM.mp hx
 exact GS (by have:=h y hy;omega)⟩
def Ap.tup {k:Nat}{a:List D}(h:Al k a)(hk:k<=24):Th (.tuple a):=by
 have:=h.1
 refine⟨wB (by omega) λx hx=>(h.2 x hx).1,(Bs (c:=400) (k:=8) λd hd=>(h.2 d hd).2.1).mono ?_ (by omega),BQ λd hd=>(h.2 d hd).2.2⟩
 have:(400 + 2) * a.length<=402 * 24:=N2 (by omega) (by omega)
 omega
def HY {r:List Int}(hl:r.length<=9)(h:∀x,x∈r->0<=x/\x < 9):It (tupI r):=by
 have sm:∀d,d∈r.map int->DS d:=λd hd=>by
  obtain⟨y,hy,rfl⟩:=MM.mp hd
  exact yi (by have:=h y hy;omega)
 refine⟨rfl,(Bs (c:=20) (k:=0) λd hd=>(sm d hd).sq).mono ?_ (by omega),BQ λd hd=>(sm d hd).bf⟩
 rw[MI]
 have:(20 + 2) * r.length<=22 * 9:=N2 (by omega) hl
 omega
def BG {n:Nat}{r:List Int}(h8:n<=8)(hp:r.Perm (eS n)):r.length=n/\∀x,x∈r->0<=x/\x < 9:=⟨by rw[hp.length_eq,bV],λx hx=>by have:=a8.mp (hp.mem_iff.mp hx);omega⟩
def A7 {ds:List D}{k:Nat}(h:k < ds.length):∃d,ds[k]? =some d/\d∈ds/\jk ds (k:Int)=some d:=⟨ds[k],Mu h,NF h,fR (Mu h)⟩
def JX {fa fb:VF D}{vs:List Nv}{β β1 β2:Int}{a b:List D}(h1:fa vs β=.ok (.list a) β1)(h2:fb vs β1=.ok (.list b) β2)(hz:a.length + b.length<=1000):f2 fa fb jX vs β=.ok (.list (a ++ b)) β2:=aG h1 h2 (oh (by omega))
section
variable {m m' m1 m2:SF}{env env1:En}{β β1 β2 z:Int}{Q:SO->Prop}{f fa fb:VF D}{t:VF Bool}{d e:D}{L La Lb:List Nat}{i j:Nat}{c:Bool}
theorem He (J:En->Int->Prop)(h:∃c β1,t (vl env) β=.ok c β1/\(c=true->WP (m1 (bq L env) β1) λs=>∃env2 β2,s=.nx env2 β2/\J env2 β2)/\(c=false->WP (m2 (bq L env) β1) λs=>∃env2 β2,s=.nx env2 β2/\J env2 β2))(k:∀env β,J env β->WP (m' env β) Q):WP (aH (g8 L t m1 m2) m' env β) Q:=by
 obtain⟨c,β1,e,h1,h2⟩:=h
 cases c with
 |true=>obtain⟨env2,β2,e2,hj⟩:=(h1 rfl).out;exact wp_seq ((kg e).trans e2) (k _ _ hj)
 |false=>obtain⟨env2,β2,e2,hj⟩:=(h2 rfl).out;exact wp_seq ((fU e).trans e2) (k _ _ hj)
end
def zS {α:Type}{own:Nat}{ixs:List Nat}{t:Tg}{fi:VF (List D)}{fe:VF D}{vs:List Nv}{β β1:Int}{ds:List D}(e:α->D)(P:α->Prop)(hi:fi vs β=.ok ds β1)(hz:ds.length<=1000)
  (h:∀d,d∈ds->∃vs1,lb t d (dS own ixs vs)=some vs1/\∀β,∃a β',fe vs1 β=.ok (e a) β'/\P a):∃(as:List α) (β':Int),aP own ixs t fi ij fe vs β=.ok (.list (as.map e)) β'/\as.length=ds.length/\∀a,a∈as->P a:=by
 obtain⟨as,β',ec,hl,hP⟩:=ph (t:=t) (fe:=fe) (vs:=dS own ixs vs) e P (ds:=ds) (β:=β1) h
 refine⟨as,β',?_,hl,hP⟩
 unfold aP
 rw[hi]
 dsimp only[R.bnd]
 rw[MA (sz _ hz),ec];rfl
def Ig (d:D):Prop:=Ge d/\Sq 400 8 d/\Bf d
def xH {r:List Int}(hl:r.length<=9)(h:∀x,x∈r->0<=x/\x < 9):Ig (tupI r):=⟨(Fv (k:=9) hl h).tup (by omega) |>.1,(HY hl h).2⟩
noncomputable def yj:List D->FR:=bp 2 2 (xG dZ IC Ee)
end RM
namespace RM
open PySem L2 PyProof.Rows
def mk (f:Nat->Bool):Nat->Nat
 | 0=>0
 |n + 1=>mk f n ||| if f n=true then 2 ^ n else 0
theorem dB (f:Nat->Bool):∀(n i:Nat),(mk f n).testBit i=(decide (i < n) && f i)
 | 0,i=>by simp[mk]
 |n + 1,i=>by
  unfold mk
  rw[Nat.testBit_or,dB f n i]
  by_cases h:f n=true
  ·rw[MA h,Nat.testBit_two_pow]
   by_cases e:n=i
   ·subst e;simp[h]
   ·have e2:decide (i < n)=decide (i < n + 1):=by
     rw[NV];omega
    simp[e,e2]
  ·rw[MF h]
   by_cases e:i=n
   ·subst e;simp[h]
   ·have e2:decide (i < n)=decide (i < n + 1):=by
     rw[NV];omega
    simp[e2]
def mk_eq {f g:Nat->Bool}{n:Nat}:mk f n=mk g n↔∀i,i < n->f i=g i:=by
 constructor
 ·intro h i hi
  have:=congrArg (λx=>x.testBit i) h
  simp only[dB,ME hi,Bool.true_and] at this
  exact this
 ·intro h
  apply Oi
  intro i
  rw[dB,dB]
  by_cases hi:i < n
  ·rw[h i hi]
  ·rw[MK hi];simp
def jh (f:Nat->Bool)(t:Nat):Nat->Bool:=λi=>f i || decide (i=t)
def FZ {f:Nat->Bool}{n t:Nat}(h:t < n):mk f n ||| 2 ^ t=mk (jh f t) n:=by
 apply Oi
 intro i
 rw[Nat.testBit_or,dB,dB,Nat.testBit_two_pow]
 unfold jh
 by_cases e:t=i
 ·subst e;simp[h]
 ·have e':¬i=t:=λq=>e q.symm
  simp[e,e']
def HG {f g:Nat->Bool}{n:Nat}:(mk f n &&& mk g n=mk g n)↔∀i,i < n->g i=true->f i=true:=by
 have e:mk f n &&& mk g n=mk (λi=>f i && g i) n:=by
  apply Oi
  intro i
  rw[Nat.testBit_and,dB,dB,dB]
  by_cases h:i < n
  ·simp[h]
  ·simp[h]
 rw[e,mk_eq]
 constructor
 ·intro h i hi hg
  have:=h i hi
  rw[hg,Bool.and_true] at this
  exact this
 ·intro h i hi
  cases hg:g i with
  |false=>simp
  |true=>rw[h i hi hg];rfl
def zM (a b:Nat):Builtin.bitOr (a:Int) (b:Int)=((a ||| b:Nat):Int):=by
 have h1:¬(0<=Builtin.bitNot (a:Int)):=by show ¬(0<= -(a:Int) - 1);omega
 have h2:¬(0<=Builtin.bitNot (b:Int)):=by show ¬(0<= -(b:Int) - 1);omega
 show Builtin.bitNot (Builtin.bitAnd (Builtin.bitNot a) (Builtin.bitNot b))=_
 rw[bitAnd_nn h1 h2]
 have e1:Builtin.bitNot (Builtin.bitNot (a:Int))=a:=by show -(-(a:Int) - 1) - 1=a;omega
 have e2:Builtin.bitNot (Builtin.bitNot (b:Int))=b:=by show -(-(b:Int) - 1) - 1=b;omega
 rw[e1,e2]
 show -(-((((a:Int).toNat ||| (b:Int).toNat:Nat):Int)) - 1) - 1=_
 rw[M6,M6];omega
def xP (a b:Nat):Builtin.bitAnd (a:Int) (b:Int)=((a &&& b:Nat):Int):=by
 rw[bitAnd_pp (by omega) (by omega),M6,M6]
def mI (f:Nat->Bool)(n:Nat):D:=.int ((mk f n:Nat):Int)
def BC:∀t:Nat,t < 8->xF (.int 1) (.int (t:Int))=some (.int ((2 ^ t:Nat):Int)):=by
 intro t ht
 have:t=0\/t=1\/t=2\/t=3\/t=4\/t=5\/t=6\/t=7:=by omega
 rcases this with rfl |rfl |rfl |rfl |rfl |rfl |rfl |rfl <;> rfl
def k8:List D->FR:=bp 2 2 gE
def Am {f:Nat->Bool}{n t:Nat}(h8:n<=8)(h:t < n):k8 [mI f n,.int (t:Int)]=.ok (mI (jh f t) n) false:=by
 show fin (gE [.fz (mI f n),.fz (.int t)] 0)=_
 unfold gE
 rw[gB,aG (x:=mI f n) (y:=.int ((2 ^ t:Nat):Int)) (d:=mI (jh f t) n) (β1:=0) (β2:=0) rfl (aG (x:=.int 1) (y:=.int t) rfl rfl (BC t (by omega))) ?a]
 ·rfl
 case a=>
  show some (int (Builtin.bitOr _ _))=_
  rw[zM,FZ h];rfl
def de (n:Nat)(M:Nat->Nat->Bool):D:=.list ((List.range n).map λb=>mI (M b) n)
def cS (l:List Pr)(b a:Nat):Bool:=decide ((((a:Nat):Int),((b:Nat):Int))∈l)
def JI {n b:Nat}{M:Nat->Nat->Bool}(h:b < n):jk ((List.range n).map λb=>mI (M b) n) (b:Int)=some (mI (M b) n):=fR (by rw[MG,NP h];rfl)
def Gr:List D->FR:=bp 4 1 (fL k8)
def orM (M:Nat->Nat->Bool)(p:Pr)(b a:Nat):Bool:=M b a || (decide ((b:Int)=p.2) && decide ((a:Int)=p.1))
def IM {n:Nat}{M:Nat->Nat->Bool}{p:Pr}(h1:0<=p.1/\p.1 < n)(h2:0<=p.2/\p.2 < n):((List.range n).map λb=>mI (M b) n).set p.2.toNat (mI (jh (M p.2.toNat) p.1.toNat) n)=(List.range n).map λb=>mI (orM M p b) n:=by
 refine OQ (by simp) λi h3 h4=>?_
 rw[List.getElem_set]
 simp only[List.getElem_map,Pb]
 unfold mI
 by_cases e:p.2.toNat=i
 ·rw[MA e]
  congr 2
  rw[mk_eq]
  intro j hj
  unfold jh orM
  rw[e]
  have e1:((i:Nat):Int)=p.2:=by omega
  rw[ME e1,Bool.true_and]
  congr 1
  rw[NV];omega
 ·rw[MF e]
  congr 2
  rw[mk_eq]
  intro j hj
  unfold orM
  rw[MK (by omega:¬((i:Nat):Int)=p.2)];simp
theorem yF {n:Nat}{l:List Pr}(h8:n<=8):∀(ps:List Pr) (M:Nat->Nat->Bool) (s2 s3:Sl),OM.Wn n ps->∃M' s2' s3',iZ (.two 2 3) (me 1 (([] ++ []) ++ ([2] ++ [])) [] (ak k8 (aa (f2 (gv 1) (gv 3) bR) (aa (gv 2) ah))) (gv 3)) (ps.map aK) [.fz (aw n l),.ow (de n M),s2,s3] 0=.nx [.fz (aw n l),.ow (de n M'),s2',s3'] 0/\∀b a,b < n->a < n->M' b a=(M b a || cS ps b a)
 | [],M,s2,s3,_=>⟨M,s2,s3,rfl,λb a _ _=>by unfold cS;simp⟩
 |p :: ps,M,s2,s3,wn=>by
  have hp:=wn p (MC ..)
  obtain⟨M',s2',s3',e,hM⟩:=yF (l:=l) h8 ps (orM M p) (.fz (.int p.1)) (.fz (.int p.2)) λq hq=>wn q (MD _ hq)
  refine⟨M',s2',s3',?_,λb a hb ha=>?_⟩
  ·rw[Nj]
   unfold iZ
   rw[show du (.two 2 3) (aK p) [.fz (aw n l),.ow (de n M),s2,s3]=some [.fz (aw n l),.ow (de n M),.fz (.int p.1),.fz (.int p.2)] from rfl]
   dsimp only
   have e1:(p.2.toNat:Int)=p.2:=by omega
   have e2:(p.1.toNat:Int)=p.1:=by omega
   have ew:ak k8 (aa (f2 (gv 1) (gv 3) bR) (aa (gv 2) ah)) (vl [.fz (aw n l),.ow (de n M),.fz (.int p.1),.fz (.int p.2)]) 0=.ok (mI (jh (M p.2.toNat) p.1.toNat) n) 0:=by
    refine aq (b:=false) (ds:=[mI (M p.2.toNat) n,.int (p.1.toNat:Int)]) (ac (aG (x:=de n M) (y:=.int p.2) rfl rfl ?_) (ac ?_ an)) (Am h8 (by omega))
    ·have:=JI (n:=n) (M:=M) (b:=p.2.toNat) (by omega)
     rw[e1] at this
     exact this
    ·show R.ok (int p.1) 0=_
     rw[e2]
   rw[pN (ds:=(List.range n).map λb=>mI (M b) n) (d:=mI (jh (M p.2.toNat) p.1.toNat) n) (k:=p.2) (n:=p.2.toNat) (β1:=0) (β2:=0) ew (by rfl) rfl (by rfl) (by
    unfold ub
    rw[MA hp.2.1,MA (by simp;omega)]),IM hp.1 hp.2]
   dsimp only
   exact e
  ·rw[hM b a hb ha]
   unfold orM cS
   obtain⟨p1,p2⟩:=p
   rw[Bool.or_assoc]
   congr 1
   rw[Nx]
   simp only[O0,MP,MT,MB,Prod.mk.injEq]
   constructor
   ·rintro (⟨h1,h2⟩ |h)
    ·exact .inl ⟨h2,h1⟩
    ·exact .inr h
   ·rintro (⟨h1,h2⟩ |h)
    ·exact .inl ⟨h2,h1⟩
    ·exact .inr h
def zA {n:Nat}{M N:Nat->Nat->Bool}(h:∀b a,b < n->a < n->M b a=N b a):de n M=de n N:=by
 unfold de
 congr 1
 refine NH λb hb=>?_
 unfold mI
 congr 2
 rw[mk_eq]
 exact λa ha=>h b a (MX.mp hb) ha
def G6 {n:Nat}{l:List Pr}(O:OM.Ord n l):Gr [aw n l]=.ok (de n (cS l)) true:=by
 have h8:=O.hi
 show fin (fL k8 [.fz (aw n l),.no,.no,.no] 0)=_
 unfold fL
 rw[ax (env':=[.fz (aw n l),.ow (de n λ_ _=>false),.no,.no]) (β':=0) ?a]
 case a=>
  have e:f2 (cG (aa (cst (.int 0)) ah)) (f2 (gv 0) (cst (.int 0)) bR) nW (vl [.fz (aw n l),.no,.no,.no]) 0=.ok (de n λ_ _=>false) 0:=by
   refine aG (lp (ac (ck _) an)) (Ha (n:=n) (l:=l) rfl) ?_
   simp only[nW]
   rw[MA ⟨by omega,by omega,by rw[Na];simp;omega⟩]
   unfold de
   congr 2
   rw[M6]
   have hz:∀m,mk (λ_=>false) m=0:=λm=>by
    induction m with
    |zero=>rfl
    |succ m ih=>unfold mk;rw[ih];simp
   unfold mI
   simp only[hz]
   have:∀m:Nat,(List.replicate m [int 0]).flatten=List.replicate m (int 0):=λm=>by
    induction m with
    |zero=>rfl
    |succ m ih=>rw[Nr,Nr,N6,ih];rfl
   rw[this]
   refine OQ (by simp) λi h1 h2=>by simp
  rw[ki,e];rfl
 obtain⟨M',s2,s3,e,hM⟩:=yF (l:=l) h8 l (λ_ _=>false) .no .no O.wn
 have hm:de n M'=de n (cS l):=zA λb a hb ha=>by rw[hM b a hb ha];rfl
 rw[hm] at e
 rw[ax (env':=[.fz (aw n l),.ow (de n (cS l)),s2,s3]) (β':=0) (by
  rw[c6 (env:=[.fz (aw n l),.ow (de n λ_ _=>false),.no,.no]) (ds:=l.map aK) (β1:=0) (by unfold bu;rw[IZ (n:=n) (l:=l) rfl];rfl)]
  exact e)]
 rfl
end RM
namespace RM
open PySem L2
def bS (r:List Int)(i:Nat):Bool:=decide ((i:Int)∈r)
def x6:List D->FR:=bp 5 2 (fK k8)
def BY {n:Nat}{l:List Pr}(O:OM.Ord n l){r:List Int}{t:Nat}(ht:t < n):(!decide (mk (jh (bS r) t) n=mk (bS r) n) && decide (mk (bS r) n &&& mk (cS l t) n=mk (cS l t) n))=e8 l r t:=by
 unfold e8
 congr 1
 ·congr 1
  rw[NV,mk_eq]
  constructor
  ·intro h
   have:=h t ht
   unfold jh bS at this
   simp at this
   exact this
  ·intro h i hi
   unfold jh bS
   by_cases e:i=t
   ·subst e;simp[h]
   ·simp[e]
 ·rw[NV,HG]
  constructor
  ·intro h
   rw[List.eq_nil_iff_forall_not_mem]
   intro a ha
   obtain⟨h1,h2⟩:=iE.mp ha
   have hw:=(O.wn _ h1).1
   simp only at hw
   have e:((a.toNat:Nat):Int)=a:=by omega
   have:=h a.toNat (by omega) (by unfold cS;rw[e];exact ME h1)
   unfold bS at this
   rw[e] at this
   exact h2 (NA this)
  ·intro h i hi hg
   unfold bS
   refine ME (Classical.byContradiction λq=>?_)
   have:(i:Int)∈z8 l r t:=iE.mpr ⟨NA hg,q⟩
   rw[h] at this;cases this
def EZ {n:Nat}{l:List Pr}(O:OM.Ord n l)(r:List Int):∃s3 s4,iZ (.two 3 4) (g8 ((([1] ++ ([3] ++ [])) ++ []) ++ (([] ++ []) ++ [])) (DX (dD (f2 (ak k8 (aa (gv 1) (aa (gv 3) ah))) (gv 1) (dC true))) (dD (f2 (f2 (gv 1) (gv 4) Bo) (gv 4) (dC false))))
  (nQ 2 [3] (gv 3)) iQ) (dE ((List.range n).map λb=>mI (cS l b) n)) [.fz (de n (cS l)),.fz (mI (bS r) n),.ow (.list []),.no,.no] 0=.nx [.fz (de n (cS l)),.fz (mI (bS r) n),.ow (.list ((aY l r n).map int)),s3,s4] 0:=by
 have h8:=O.hi
 obtain⟨env',β',ef,s3,s4,rfl,rfl⟩:=dG (t:=.two 3 4) (m:=g8 ((([1] ++ ([3] ++ [])) ++ []) ++ (([] ++ []) ++ [])) (DX (dD (f2 (ak k8 (aa (gv 1) (aa (gv 3) ah))) (gv 1) (dC true))) (dD (f2 (f2 (gv 1) (gv 4) Bo) (gv 4) (dC false))))
  (nQ 2 [3] (gv 3)) iQ) (ds:=dE ((List.range n).map λb=>mI (cS l b) n)) (k:=0)
  (λk env b=>∃s3 s4,env= [.fz (de n (cS l)),.fz (mI (bS r) n),.ow (.list ((aY l r k).map int)),s3,s4]/\b=0)
  (env:=[.fz (de n (cS l)),.fz (mI (bS r) n),.ow (.list []),.no,.no]) (β:=0) ⟨.no,.no,rfl,rfl⟩ (by
   rintro k d env b hk ⟨s3,s4,rfl,rfl⟩
   unfold dE at hk
   rw[O8,MG] at hk
   have hkn:k < n:=by
    by_cases h:k < n
    ·exact h
    ·rw[NS (by simp;omega)] at hk;cases hk
   rw[NP hkn] at hk
   cases hk
   refine⟨[.fz (de n (cS l)),.fz (mI (bS r) n),.ow (.list ((aY l r (0 + k)).map int)),.fz (.int k),.fz (mI (cS l k) n)],rfl,?_⟩
   rw[Nt]
   have et:DX (dD (f2 (ak k8 (aa (gv 1) (aa (gv 3) ah))) (gv 1) (dC true))) (dD (f2 (f2 (gv 1) (gv 4) Bo) (gv 4) (dC false))) (vl [.fz (de n (cS l)),.fz (mI (bS r) n),.ow (.list ((aY l r k).map int)),.fz (.int k),.fz (mI (cS l k) n)]) 0=.ok (e8 l r k) 0:=by
    rw[<-BY O hkn]
    refine HP (cT _ _ _ _ (aG (x:=mI (jh (bS r) k) n) (y:=mI (bS r) n) (aq (ds:=[mI (bS r) n,.int k]) rfl (Am h8 hkn)) rfl ?_)) (cT _ _ _ _ (aG (x:=.int ((mk (bS r) n &&& mk (cS l k) n:Nat):Int)) (y:=mI (cS l k) n) (aG (x:=mI (bS r) n) (y:=mI (cS l k) n) rfl rfl ?_) rfl ?_))
    ·unfold mI;rw[oz,MA rfl];congr 3;rw[NV];omega
    ·show some (int (Builtin.bitAnd _ _))=_
     rw[xP]
    ·unfold mI;rw[oz,MF M9];congr 2;rw[NV];omega
   cases c:e8 l r (k:Int) with
   |true=>
    rw[c] at et
    refine⟨[.fz (de n (cS l)),.fz (mI (bS r) n),.ow (.list ((aY l r (k + 1)).map int)),.fz (.int k),.fz (mI (cS l k) n)],0,?_,_,_,rfl,rfl⟩
    rw[kg et]
    have hz:=mr l r k
    rw[show bq ((([1] ++ ([3] ++ [])) ++ []) ++ (([] ++ []) ++ [])) [.fz (de n (cS l)),.fz (mI (bS r) n),.ow (.list ((aY l r k).map int)),.fz (.int k),.fz (mI (cS l k) n)]= [.fz (de n (cS l)),.fz (mI (bS r) n),.ow (.list ((aY l r k).map int)),.fz (.int k),.fz (mI (cS l k) n)] from rfl]
    rw[sy (i:=2) (ds:=(aY l r k).map int) (d:=.int k) (β':=0) (by rfl) rfl (by rfl) (by rw[MI];omega),rO,MA c,NM]
    rfl
   |false=>
    rw[c] at et
    refine⟨[.fz (de n (cS l)),.fz (mI (bS r) n),.ow (.list ((aY l r (k + 1)).map int)),.fz (.int k),.fz (mI (cS l k) n)],0,?_,_,_,rfl,rfl⟩
    rw[fU et,rO,c,show aY l r k ++ (if false=true then [(k:Int)] else [])=aY l r k by simp]
    rfl)
 have hle:(dE ((List.range n).map λb=>mI (cS l b) n)).length=n:=by unfold dE;simp
 rw[Nt,hle] at ef
 exact⟨s3,s4,ef⟩
def Hu {n:Nat}{l:List Pr}(O:OM.Ord n l)(r:List Int):x6 [de n (cS l),mI (bS r) n]=.ok (.list ((aY l r n).map int)) true:=by
 show fin (fK k8 [.fz (de n (cS l)),.fz (mI (bS r) n),.no,.no,.no] 0)=_
 unfold fK
 rw[ax (env':=[.fz (de n (cS l)),.fz (mI (bS r) n),.ow (.list []),.no,.no]) (β':=0) (by rw[ki,lp (ds:=[]) an];rfl)]
 obtain⟨s3,s4,e⟩:=EZ O r
 rw[ax (env':=[.fz (de n (cS l)),.fz (mI (bS r) n),.ow (.list ((aY l r n).map int)),s3,s4]) (β':=0) (by
  rw[c6 (env:=[.fz (de n (cS l)),.fz (mI (bS r) n),.ow (.list []),.no,.no]) (ds:=dE ((List.range n).map λb=>mI (cS l b) n)) (β1:=0) rfl]
  exact e)]
 rfl
def Cb (n:Nat):mI (bS []) n=.int 0:=by
 unfold mI
 congr 1
 have:mk (bS []) n=0:=by
  induction n with
  |zero=>rfl
  |succ m ih=>unfold mk;rw[ih];simp[bS]
 rw[this];rfl
def wc {n:Nat}{r:List Int}{x:Int}(h:0<=x/\x < n):mI (jh (bS r) x.toNat) n=mI (bS (r ++ [x])) n:=by
 unfold mI
 congr 2
 rw[mk_eq]
 intro i hi
 unfold jh bS
 rw[Nx]
 simp only[O0,MT,M1,MZ]
 constructor
 ·rintro (h |h)
  ·exact .inl h
  ·exact .inr (by omega)
 ·rintro (h |h)
  ·exact .inl h
  ·exact .inr (by omega)
def B7 (f:Nat->Bool)(n:Nat):mk f n < 2 ^ n:=by
 apply Nat.lt_pow_two_of_testBit
 intro i hi
 rw[dB,MK (by omega)];rfl
def ofM (n m:Nat):List Int:=(eS n).filter λx=>m.testBit x.toNat
def BM {n m:Nat}(h:m < 2 ^ n):mk (bS (ofM n m)) n=m:=by
 apply Oi
 intro i
 rw[dB]
 by_cases c:i < n
 ·rw[ME c,Bool.true_and]
  unfold bS ofM
  rw[Nx,MT,ML]
  constructor
  ·intro h;simpa using h.2
  ·intro h;exact⟨a8.mpr ⟨by omega,by omega⟩,by simpa using h⟩
 ·rw[MK c,Bool.false_and]
  exact (Nat.testBit_lt_two_pow (M4 h (Nat.pow_le_pow_right (by omega) (by omega)))).symm
def DY {f:Nat->Bool}{n t:Nat}(ht:t < n)(hf:f t=false):mk f n < mk (jh f t) n:=by
 have h1:mk f n<=mk (jh f t) n:=by rw[<-FZ ht];exact Nat.left_le_or
 have h2:mk f n≠mk (jh f t) n:=λe=>by
  have:=mk_eq.mp e t ht
  unfold jh at this
  rw[hf] at this
  simp at this
 omega
def Cf (n m:Nat)(x:Int):Nat:=mk (jh (bS (ofM n m)) x.toNat) n
def Jp (n m:Nat)(x:Int):Cf n m x < 2 ^ n:=B7 _ _
def Kb {n m:Nat}{l:List Pr}{x:Int}(hm:m < 2 ^ n)(hx:x∈aY l (ofM n m) n):m < Cf n m x:=by
 unfold aY at hx
 obtain⟨h1,h2⟩:=ML.mp hx
 have h1:=a8.mp h1
 unfold e8 at h2
 rw[MP,NX,N4] at h2
 have:=DY (f:=bS (ofM n m)) (n:=n) (t:=x.toNat) (by omega) (by
  unfold bS
  rw[MK]
  rw[show ((x.toNat:Nat):Int)=x by omega]
  exact h2.1)
 rw[BM hm] at this
 exact this
def qF (n:Nat)(l:List Pr)(T:List Int)(m:Nat):Int:=((aY l (ofM n m) n).map λx=>T.getD (Cf n m x) 0).sum
structure Wt (n:Nat)(l:List Pr)(lo:Nat)(T:List Int):Prop where
 len:T.length=2 ^ n
 top:T.getD (2 ^ n - 1) 0=1
 eq:∀m,lo<=m->m < 2 ^ n - 1->T.getD m 0=qF n l T m
def kl {T:List Int}{i j:Nat}{v:Int}(h:i≠j):(T.set i v).getD j 0=T.getD j 0:=by
 rw[MY,MY,MR h]
def Wt.step {n:Nat}{l:List Pr}{lo:Nat}{T:List Int}(W:Wt n l (lo + 1) T)(h:lo < 2 ^ n - 1):Wt n l lo (T.set lo (qF n l T lo)):=by
 have key:∀m,lo<=m->m < 2 ^ n->qF n l (T.set lo (qF n l T lo)) m=qF n l T m:=λm h1 h2=>by
  unfold qF
  congr 1
  refine NH λx hx=>kl ?_
  have:=Kb h2 hx
  omega
 refine⟨by rw[NK];exact W.len,by rw[kl (by omega)];exact W.top,λm h1 h2=>?_⟩
 rw[key m h1 (by omega)]
 by_cases c:m=lo
 ·subst c
  rw[MY,MV (by rw[W.len];omega)];rfl
 ·rw[kl (by omega)]
  exact W.eq m (by omega) h2
noncomputable def DJ:List D->FR:=bp 4 1 (ky x6 k8)
def LY {n:Nat}{l:List Pr}(O:OM.Ord n l):∃T,DJ [de n (cS l)]=.ok (.list (T.map int)) true/\Wt n l 0 T:=by
 have h8:=O.hi
 have hp:2 ^ n<=256:=Nat.pow_le_pow_right (n:=2) (by omega) h8
 have hp0:1<=2 ^ n:=Nat.one_le_two_pow
 show ∃T,fin (ky x6 k8 [.fz (de n (cS l)),.no,.no,.no] 0)=_/\_
 unfold ky
 have ef:f2 (f2 (cst (.int 1)) (f1 (gv 0) c3) xF) (cst (.int 1)) rA (vl [.fz (de n (cS l)),.no,.no,.no]) 0=.ok (.int ((2 ^ n - 1:Nat):Int)) 0:=by
  have el:f1 (gv 0) c3 (vl [.fz (de n (cS l)),.no,.no,.no]) 0=.ok (.int n) 0:=by
   rw[tf (ds:=(List.range n).map λb=>mI (cS l b) n) rfl,MI,Om]
  have es:xF (.int 1) (.int (n:Int))=some (.int ((2 ^ n:Nat):Int)):=by
   obtain⟨k,hk⟩:∃k,k=n:=⟨_,rfl⟩
   have:∀t:Nat,t < 9->xF (.int 1) (.int (t:Int))=some (.int ((2 ^ t:Nat):Int)):=by
    intro t ht
    rcases (by omega:t < 8\/t=8) with h |rfl
    ·exact BC t h
    ·rfl
   exact this n (by omega)
  refine aG (x:=.int ((2 ^ n:Nat):Int)) (y:=.int 1) (aG (x:=.int 1) (y:=.int n) rfl el es) rfl ?_
  show some (int (((2 ^ n:Nat):Int) - 1))=_
  congr 2
  omega
 rw[ax (env':=[.fz (de n (cS l)),.fz (.int ((2 ^ n - 1:Nat):Int)),.no,.no]) (β':=0) (by rw[cy,ef];rfl)]
 generalize hF:2 ^ n - 1=F
 have hF8:F<=255:=by omega
 obtain⟨L0,hL⟩:∃L0,L0=List.replicate F (0:Int) ++ [1]:=⟨_,rfl⟩
 rw[ax (env':=[.fz (de n (cS l)),.fz (.int ((F:Nat):Int)),.ow (.list (L0.map int)),.no]) (β':=0) ?g1]
 case g1=>
  have er:f2 (cG (aa (cst (.int 0)) ah)) (gv 1) nW (vl [.fz (de n (cS l)),.fz (.int ((F:Nat):Int)),.no,.no]) 0=.ok (.list ((List.replicate F (0:Int)).map int)) 0:=by
   refine aG (x:=.list [.int 0]) (y:=.int F) (lp (ds:=[.int 0]) (ac rfl an)) rfl ?_
   unfold nW
   dsimp only
   rw[MA ⟨by omega,by omega,by rw[Na];simp;omega⟩]
   congr 2
   simp
  have ec:f2 (f2 (cG (aa (cst (.int 0)) ah)) (gv 1) nW) (cG (aa (cst (.int 1)) ah)) jX (vl [.fz (de n (cS l)),.fz (.int ((F:Nat):Int)),.no,.no]) 0=.ok (.list ((List.replicate F (0:Int) ++ [1]).map int)) 0:=by
   refine aG (y:=.list [.int 1]) er (lp (ds:=[.int 1]) (ac rfl an)) ?_
   rw[oh (by simp;omega),NM];rfl
  rw[ki,ec,hL];rfl
 obtain⟨env',β',el,T,s3,rfl,rfl,W⟩:=dG (t:=.nm 3) (m:=me 2 (([0] ++ ([3] ++ [])) ++ [3]) [] (f1 (aP 1 [2,3] (.nm 0) (bu (ak x6 (aa (gv 0) (aa (gv 3) ah)))) ij (f2 (gv 1) (ak k8 (aa (gv 2) (aa (gv 0) ah))) bR)) qq) (gv 3)) (ds:=ml ((F:Int) - 1) F) (k:=0)
  (λk env b=>∃(T:List Int) (s3:Sl),env= [.fz (de n (cS l)),.fz (.int ((F:Nat):Int)),.ow (.list (T.map int)),s3]/\b=0/\Wt n l (F - k) T)
  (env:=[.fz (de n (cS l)),.fz (.int ((F:Nat):Int)),.ow (.list (L0.map int)),.no]) (β:=0)
  ⟨_,.no,rfl,rfl,by rw[hL];simp;omega,by
   rw[hL,hF,MY,Nb (by simp)];simp,λm h1 h2=>by omega⟩ (by
   rintro k d env b hk ⟨T,s3,rfl,rfl,W⟩
   have hkF:k < F:=by have:=(MJ.mp hk).1;rwa [nh] at this
   have hd:d=.int ((F - 1 - k:Nat):Int):=by
    unfold ml at hk
    rw[MG,NP hkF] at hk
    cases hk
    rw[show ((F - 1 - k:Nat):Int)=(F:Int) - 1 - (k:Int) by omega]
   subst hd
   rw[Nt] at W
   generalize hm:F - 1 - k=m
   rw[show F - k=m + 1 by omega] at W
   have hmN:m < 2 ^ n:=by omega
   refine⟨[.fz (de n (cS l)),.fz (.int ((F:Nat):Int)),.ow (.list (T.map int)),.fz (.int ((m:Nat):Int))],rfl,?_⟩
   have emk:int ((m:Nat):Int)=mI (bS (ofM n m)) n:=by unfold mI;rw[BM hmN]
   have ec:aP 1 [2,3] (.nm 0) (bu (ak x6 (aa (gv 0) (aa (gv 3) ah)))) ij (f2 (gv 1) (ak k8 (aa (gv 2) (aa (gv 0) ah))) bR) (vl [.fz (de n (cS l)),.fz (.int ((F:Nat):Int)),.ow (.list (T.map int)),.fz (.int ((m:Nat):Int))]) 0=.ok (.list ((aY l (ofM n m) n).map λx=>int (T.getD (Cf n m x) 0))) 0:=by
    refine bB (l:=aY l (ofM n m) n) (e:=int) (λx=>int (T.getD (Cf n m x) 0)) ?_ (by have:=mr l (ofM n m) n;omega) λx hx=>⟨[.da (.int x),.da (.list (T.map int)),.da (.int ((m:Nat):Int))],rfl,?_⟩
    ·have:=aq (F:=x6) (fr:=aa (gv 0) (aa (gv 3) ah)) (vs:=vl [.fz (de n (cS l)),.fz (.int ((F:Nat):Int)),.ow (.list (T.map int)),.fz (.int ((m:Nat):Int))]) (β:=0) (β1:=0) (ds:=[de n (cS l),mI (bS (ofM n m)) n]) (by rw[<-emk];rfl) (Hu O (ofM n m))
     unfold bu
     rw[this];rfl
    ·have hxr:=a8.mp (ML.mp hx).1
     have ew:ak k8 (aa (gv 2) (aa (gv 0) ah)) [.da (.int x),.da (.list (T.map int)),.da (.int ((m:Nat):Int))] 0=.ok (.int ((Cf n m x:Nat):Int)) 0:=aq (ds:=[mI (bS (ofM n m)) n,.int (x.toNat:Int)]) (by rw[<-emk,show ((x.toNat:Nat):Int)=x by omega];rfl) (Am h8 (by omega))
     refine aG (x:=.list (T.map int)) rfl ew ?_
     have hl:=Jp n m x
     show jk (T.map int) ((Cf n m x:Nat):Int)=_
     rw[cW,jK (by rw[W.len];exact hl),MY,Mu (by rw[W.len];exact hl)];rfl
   have es:f1 (aP 1 [2,3] (.nm 0) (bu (ak x6 (aa (gv 0) (aa (gv 3) ah)))) ij (f2 (gv 1) (ak k8 (aa (gv 2) (aa (gv 0) ah))) bR)) qq (vl [.fz (de n (cS l)),.fz (.int ((F:Nat):Int)),.ow (.list (T.map int)),.fz (.int ((m:Nat):Int))]) 0=.ok (.int (qF n l T m)) 0:=by
    refine cI ec ?_
    have e9:((aY l (ofM n m) n).map λx=>int (T.getD (Cf n m x) 0))=((aY l (ofM n m) n).map λx=>T.getD (Cf n m x) 0).map int:=by rw[Oe];rfl
    unfold qq
    dsimp only
    rw[e9,dR];rfl
   refine⟨[.fz (de n (cS l)),.fz (.int ((F:Nat):Int)),.ow (.list ((T.set m (qF n l T m)).map int)),.fz (.int ((m:Nat):Int))],0,?_,_,_,rfl,rfl,?_⟩
   ·rw[pN (i:=2) (ds:=T.map int) (d:=.int (qF n l T m)) (k:=m) (n:=m) (β1:=0) (β2:=0) es (by rfl) rfl (by rfl) (by
     unfold ub
     rw[MA (by omega),MA (by rw[MI,W.len];omega)];rfl),<-List.map_set];rfl
   ·rw[Nt,show F - (k + 1)=m by omega]
    exact W.step (by omega))
 rw[Nt,nh,Nat.sub_self] at W
 refine⟨T,?_,W⟩
 rw[ax (env':=[.fz (de n (cS l)),.fz (.int ((F:Nat):Int)),.ow (.list (T.map int)),s3]) (β':=0) ?g2]
 case g2=>
  rw[c6 (env:=[.fz (de n (cS l)),.fz (.int ((F:Nat):Int)),.ow (.list (L0.map int)),.no]) (ds:=ml ((F:Int) - 1) F) (β1:=0) ?g3]
  ·exact el
  case g3=>
   show (if (uc ((F:Int) - 1) && uc (-1) && (-1:Int) == -1)=true then R.ok (ml ((F:Int) - 1) (((F:Int) - 1) - (-1)).toNat) 0 else R.bad)=_
   rw[MA (by rw[kQ (by omega) (by omega)];rfl),show (((F:Int) - 1) - (-1)).toNat=F by omega]
 rfl
def b6 (n:Nat)(T:List Int)(r:List Int):Int:=T.getD (mk (bS r) n) 0
def CH {l:List Pr}{r r':List Int}(h:∀x,x∈r↔x∈r')(x:Int):e8 l r x=e8 l r' x:=by
 unfold e8 z8
 have e1:decide (x∈r)=decide (x∈r'):=by rw[NV];exact h x
 rw[e1]
 congr 2
 simp only[h]
def CO {n:Nat}{r:List Int}(hr:∀x,x∈r->0<=x/\x < (n:Int))(x:Int):x∈r↔x∈ofM n (mk (bS r) n):=by
 unfold ofM
 rw[ML,a8]
 constructor
 ·intro h
  have hx:=hr x h
  refine⟨hx,?_⟩
  rw[dB,ME (by omega)]
  unfold bS
  rw[show ((x.toNat:Nat):Int)=x by omega]
  simp[h]
 ·rintro⟨hx,hb⟩
  rw[dB,ME (by omega)] at hb
  unfold bS at hb
  rw[show ((x.toNat:Nat):Int)=x by omega] at hb
  simpa using hb
def Jl {n:Nat}{r:List Int}(hr:∀x,x∈r->0<=x/\x < (n:Int)){x:Int}(hx:0<=x/\x < (n:Int)):Cf n (mk (bS r) n) x=mk (bS (r ++ [x])) n:=by
 unfold Cf
 rw[mk_eq]
 intro i hi
 unfold jh bS
 rw[Nx]
 simp only[O0,MT,M1,MZ]
 constructor
 ·rintro (h |h)
  ·exact .inl ((CO hr _).mpr h)
  ·exact .inr (by omega)
 ·rintro (h |h)
  ·exact .inl ((CO hr _).mp h)
  ·exact .inr (by omega)
def pO {n:Nat}{l:List Pr}{r:List Int}(B:qw n l r):mk (bS r) n=2 ^ n - 1↔n<=r.length:=by
 constructor
 ·intro e
  have:(eS n).length<=r.length:=L2.ST.bE (cQ n) λx hx=>by
   have hx:=a8.mp hx
   have hb:(mk (bS r) n).testBit x.toNat=true:=by rw[e,Nat.testBit_two_pow_sub_one,ME (by omega)]
   rw[dB,ME (by omega)] at hb
   unfold bS at hb
   rw[show ((x.toNat:Nat):Int)=x by omega] at hb
   simpa using hb
  rw[bV] at this
  exact this
 ·intro h
  apply Oi
  intro i
  rw[dB,Nat.testBit_two_pow_sub_one]
  by_cases c:i < n
  ·have hl:=B.len
   have hp:=oO (n:=n) (r:=r) (by omega) B.inn B.nd
   rw[ME c,Bool.true_and]
   unfold bS
   rw[ME]
   exact hp.mem_iff.mpr (a8.mpr ⟨by omega,by omega⟩)
  ·rw[MK c];rfl
def Wt.at {n:Nat}{l:List Pr}{T:List Int}{r:List Int}(W:Wt n l 0 T)(B:qw n l r)(h:r.length < n):b6 n T r=((aY l r n).map λx=>b6 n T (r ++ [x])).sum:=by
 have hm:=B7 (bS r) n
 have hne:RM.mk (bS r) n≠2 ^ n - 1:=λe=>by have:=(pO B).mp e;omega
 unfold b6
 rw[W.eq _ (Nd _) (by omega)]
 unfold qF
 have e1:aY l (ofM n (RM.mk (bS r) n)) n=aY l r n:=by
  unfold aY
  refine List.filter_congr λx _=>(CH (λy=>CO B.inn y) x).symm
 rw[e1]
 congr 1
 refine NH λx hx=>?_
 rw[Jl B.inn (a8.mp (ML.mp hx).1)]
def wA {n:Nat}{l:List Pr}{r:List Int}{x:Int}(B:qw n l r)(hx:x∈aY l r n):qw n l (r ++ [x]):=B.more (a8.mp (ML.mp hx).1) (ML.mp hx).2
def Dp {n:Nat}{l:List Pr}{T r:List Int}{x:Int}(h8:n<=8)(hT:T.length=2 ^ n)(hx:0<=x/\x < (n:Int)){fw fp fx:VF D}{vs:List Nv}{β:Int}(hw:fw vs β=.ok (.list (T.map int)) β)(hp:fp vs β=.ok (mI (bS r) n) β)(hfx:fx vs β=.ok (.int x) β) :
  f2 fw (ak k8 (aa fp (aa fx ah))) bR vs β=.ok (.int (b6 n T (r ++ [x]))) β:=by
 have ew:ak k8 (aa fp (aa fx ah)) vs β=.ok (mI (bS (r ++ [x])) n) β:=by
  rw[<-wc hx]
  exact aq (ds:=[mI (bS r) n,.int (x.toNat:Int)]) (ac hp (ac (by rw[hfx,show ((x.toNat:Nat):Int)=x by omega]) an)) (Am h8 (by omega))
 refine aG (x:=.list (T.map int)) hw ew ?_
 have hl:=B7 (bS (r ++ [x])) n
 show jk (T.map int) ((mk (bS (r ++ [x])) n:Nat):Int)=_
 unfold b6
 rw[cW,jK (by rw[hT];exact hl),MY,Mu (by rw[hT];exact hl)];rfl
noncomputable def KS:List D->FR:=bp 6 4 (lU x6 k8)
abbrev cE (n:Nat)(l:List Pr)(T r:List Int)(a:Int)(j:Nat):En:=[.fz (de n (cS l)),.fz (.list (T.map int)),.fz (mI (bS r) n),.fz (.int a),.fz (.list ((aY l r n).map int)),.fz (.int ((j:Nat):Int))]
def DT (n:Nat)(l:List Pr)(T r:List Int)(x:Int):Int:=(((aY l r n).take ((aY l r n).idxOf x)).map λy=>b6 n T (r ++ [y])).sum
def Dq {L:List Int}(nd:L.Nodup){j:Nat}{x:Int}(h:L[j]? =some x):L.idxOf x=j:=by
 obtain⟨hj,e⟩:=MJ.mp h
 rw[<-e];exact nd.idxOf_getElem j hj
def K9 {n:Nat}{l:List Pr}{T r:List Int}{a:Int}(O:OM.Ord n l)(W:Wt n l 0 T)(B:qw n l r)(hlt:r.length < n)(h0:0<=a)(h1:a < b6 n T r):∃x b,KS [de n (cS l),.list (T.map int),mI (bS r) n,.int a]=.ok (.tuple [.int x,.int b]) false/\x∈aY l r n/\(0<=b/\b < b6 n T (r ++ [x]))/\a=DT n l T r x + b:=by
 have h8:=O.hi
 show ∃x b,fin (lU x6 k8 [.fz (de n (cS l)),.fz (.list (T.map int)),.fz (mI (bS r) n),.fz (.int a),.no,.no] 0)=_/\_
 unfold lU
 rw[ax (env':=[.fz (de n (cS l)),.fz (.list (T.map int)),.fz (mI (bS r) n),.fz (.int a),.fz (.list ((aY l r n).map int)),.no]) (β':=0) (by rw[cy,aq (ds:=[de n (cS l),mI (bS r) n]) (β1:=0) rfl (Hu O r)];rfl)]
 rw[ax (env':=cE n l T r a 0) (β':=0) (by rfl)]
 have hfl:=mr l r n
 obtain⟨env',β',ew,b,j,x,rfl,rfl,hx,hb0,hb1,hsj⟩:=jn (L:=[] ++ ([] ++ ([2] ++ (([] ++ []) ++ [])))) (t:=dD (f2 (gv 3) (f2 (gv 1) (ak k8 (aa (gv 2) (aa (f2 (gv 4) (gv 5) bR) ah))) bR) K2))
  (m:=aH (bo 3 ([] ++ ([] ++ ([2] ++ (([] ++ []) ++ [])))) (f2 (gv 3) (f2 (gv 1) (ak k8 (aa (gv 2) (aa (f2 (gv 4) (gv 5) bR) ah))) bR) rA))
   (bo 5 ([] ++ []) (f2 (gv 5) (cst (.int 1)) cP)))
  (λk env β=>∃(b:Int) (j:Nat),env=cE n l T r b j/\β=0/\k=(aY l r n).length - j/\0<=b/\b < (((aY l r n).drop j).map λx=>b6 n T (r ++ [x])).sum/\a=(((aY l r n).take j).map λx=>b6 n T (r ++ [x])).sum + b)
  (λenv β=>∃(b:Int) (j:Nat) (x:Int),env=cE n l T r b j/\β=0/\(aY l r n)[j]? =some x/\0<=b/\b < b6 n T (r ++ [x])/\a=(((aY l r n).take j).map λx=>b6 n T (r ++ [x])).sum + b)
  (n:=1000) (k:=(aY l r n).length) (env:=cE n l T r a 0) (β:=0) (by omega)
  ⟨a,0,rfl,rfl,rfl,h0,by rw[W.at B hlt] at h1;exact h1,by simp⟩ (by
   rintro k env β ⟨b,j,rfl,rfl,rfl,hb0,hb1,hsj⟩
   have hj:j < (aY l r n).length:=by
    apply Classical.byContradiction
    intro hn
    rw[List.drop_eq_nil_of_le (by omega)] at hb1
    simp at hb1
    omega
   obtain⟨x,hx⟩:∃x,(aY l r n)[j]? =some x:=⟨_,Mu hj⟩
   have hxm:x∈aY l r n:=MO hx
   have hxr:=a8.mp (ML.mp hxm).1
   have hdr:(aY l r n).drop j=x :: (aY l r n).drop (j + 1):=by
    rw[OK hj]
    rw[Mu hj] at hx
    rw[Option.some.inj hx]
   rw[hdr,Nj,List.sum_cons] at hb1
   have ei:∀c:Int,f2 (gv 4) (gv 5) bR (vl (cE n l T r c j)) 0=.ok (.int x) 0:=λc=>by
    refine aG (x:=.list ((aY l r n).map int)) (y:=.int j) rfl rfl ?_
    show jk ((aY l r n).map int) (j:Int)=_
    rw[cW,jK hj]
    rw[Mu hj] at hx
    rw[Option.some.inj hx];rfl
   have ev:f2 (gv 1) (ak k8 (aa (gv 2) (aa (f2 (gv 4) (gv 5) bR) ah))) bR (vl (cE n l T r b j)) 0=.ok (.int (b6 n T (r ++ [x]))) 0:=Dp (l:=l) h8 W.len hxr rfl rfl (ei b)
   refine⟨decide (b>=b6 n T (r ++ [x])),0,cT _ _ _ _ (aG (x:=.int b) (y:=.int (b6 n T (r ++ [x]))) rfl ev rfl),?_⟩
   by_cases c:b>=b6 n T (r ++ [x])
   ·refine .inr ⟨ME c,?_⟩
    show ∃env2 β2 k',aH _ _ (cE n l T r b j) 0=.nx env2 β2/\k' < (aY l r n).length - j/\_
    rw[ax (env':=cE n l T r (b - b6 n T (r ++ [x])) j) (β':=0) (by
     rw[cy,aG (x:=.int b) (y:=.int (b6 n T (r ++ [x]))) (d:=.int (b - b6 n T (r ++ [x]))) (β1:=0) (β2:=0) rfl ev rfl];rfl)]
    refine⟨cE n l T r (b - b6 n T (r ++ [x])) (j + 1),0,(aY l r n).length - (j + 1),?_,by omega,_,_,rfl,rfl,rfl,by omega,by omega,by rw[Ol,hx,NM,List.sum_append,show ((some x).toList.map λx=>b6 n T (r ++ [x])).sum=b6 n T (r ++ [x]) by simp];omega⟩
    show bo 5 ([] ++ []) (f2 (gv 5) (cst (.int 1)) cP) (cE n l T r (b - b6 n T (r ++ [x])) j) 0=.nx [.fz (de n (cS l)),.fz (.list (T.map int)),.fz (mI (bS r) n),.fz (.int (b - b6 n T (r ++ [x]))),.fz (.list ((aY l r n).map int)),.fz (.int ((j + 1:Nat):Int))] 0
    rw[show ((j + 1:Nat):Int)=(j:Int) + 1 by omega];rfl
   ·exact .inl ⟨MK c,b,j,x,rfl,rfl,hx,hb0,by omega,hsj⟩)
 have hxm:x∈aY l r n:=MO hx
 refine⟨x,b,?_,hxm,⟨hb0,hb1⟩,by rw[DT,Dq (show (aY l r n).Nodup from (cQ n).sublist OS) hx];exact hsj⟩
 have hj:=(MJ.mp hx).1
 have ei:f2 (gv 4) (gv 5) bR (vl (cE n l T r b j)) 0=.ok (.int x) 0:=by
  refine aG (x:=.list ((aY l r n).map int)) (y:=.int j) rfl rfl ?_
  show jk ((aY l r n).map int) (j:Int)=_
  rw[cW,jK hj]
  rw[Mu hj] at hx
  rw[Option.some.inj hx];rfl
 rw[ax ew,gB,kK (ds:=[.int x,.int b]) (β1:=0) (ac ei (ac rfl an)) (by simp)];rfl
noncomputable def KA:List D->FR:=bp 1 1 (iy dZ DJ Gr)
def Eg (n:Nat)(T:List Int):b6 n T []=T.getD 0 0:=by
 unfold b6
 have:mk (bS []) n=0:=by
  apply Oi
  intro i
  rw[dB]
  unfold bS
  simp
 rw[this]
noncomputable def dz (n:Nat)(l:List Pr):List Int:=Classical.epsilon λT:List Int=>DJ [de n (cS l)]=.ok (.list (T.map int)) true/\Wt n l 0 T
def jI {n:Nat}{l:List Pr}(O:OM.Ord n l):DJ [de n (cS l)]=.ok (.list ((dz n l).map int)) true/\Wt n l 0 (dz n l):=Classical.epsilon_spec (p:=λT:List Int=>DJ [de n (cS l)]=.ok (.list (T.map int)) true/\Wt n l 0 T) (LY O)
noncomputable def sV (n:Nat)(l:List Pr):Int:=b6 n (dz n l) []
def y7 (n:Nat)(l:List Pr):qw n l []:=⟨ON,(λx hx=>by cases hx),(λp _ h=>by cases h)⟩
def ze {n:Nat}{l:List Pr}(O:OM.Ord n l):jk ((dz n l).map int) 0=some (.int (sV n l)):=by
 have hl:=(jI O).2.len
 have hp0:1<=2 ^ n:=Nat.one_le_two_pow
 unfold sV
 rw[Eg,show (0:Int)=((0:Nat):Int) from rfl,cW,jK (by omega),MY,Mu (by omega)];rfl
def LU {n:Nat}{l:List Pr}(O:OM.Ord n l):KA [aw n l]=.ok (.int (sV n l)) false:=by
 show fin (iy dZ DJ Gr [.fz (aw n l)] 0)=_
 unfold iy
 rw[ax (env':=[.fz (aw n l)]) (β':=0) (by rw[lR,aq (ds:=[aw n l]) (β1:=0) rfl (km O)];rfl)]
 have e1:ak DJ (aa (ak Gr (aa (gv 0) ah)) ah) (vl [.fz (aw n l)]) 0=.ok (.list ((dz n l).map int)) 0:=aq (ds:=[de n (cS l)]) (ac (aq (ds:=[aw n l]) rfl (G6 O)) an) (jI O).1
 rw[gB,aG (y:=.int 0) (β1:=0) (β2:=0) e1 rfl (ze O)];rfl
noncomputable def IU:List D->FR:=bp 9 2 (kE dZ Gr DJ dM KS k8)
noncomputable abbrev nE (n:Nat)(l:List Pr)(d:D)(a b c e f:Sl):En:=[.fz (aw n l),.fz d,.fz (de n (cS l)),.fz (.list ((dz n l).map int)),a,b,c,e,f]
def FF {n:Nat}{l:List Pr}{d:D}(O:OM.Ord n l)(h:dw d=false):la (ak dM (aa (gv 1) (aa (f2 (gv 3) (cst (.int 0)) bR) ah))) (vl (nE n l d .no .no .no .no .no)) 0=.ok (iV d (sV n l)) 0:=
 ie (aq (ds:=[d,.int (sV n l)]) (ac rfl (ac (aG (x:=.list ((dz n l).map int)) (y:=.int 0) rfl rfl (ze O)) an)) (sX h))
def zI (n:Nat)(l:List Pr)(T:List Int):List Int->List Int->Int
 |_,[]=>0
 |q,x :: xs=>DT n l T q x + zI n l T (q ++ [x]) xs
theorem yc {n:Nat}{l:List Pr}{T:List Int}{x:Int}:∀(r q:List Int),zI n l T q (r ++ [x])=zI n l T q r + DT n l T (q ++ r) x
 | [],q=>by simp[zI]
 |y :: r,q=>by
  show DT n l T q y + zI n l T (q ++ [y]) (r ++ [x])=DT n l T q y + zI n l T (q ++ [y]) r + _
  rw[yc r,Nm,List.singleton_append];omega
def JQ {n:Nat}{l:List Pr}{a:Int}(O:OM.Ord n l)(h0:0<=a)(h1:a < sV n l):∃r,IU [aw n l,.int a]=.ok (tupI r) false/\Row n l r/\zI n l (dz n l) [] r=a:=by
 have h8:=O.hi
 have W:=(jI O).2
 show ∃r,fin (kE dZ Gr DJ dM KS k8 [.fz (aw n l),.fz (.int a),.no,.no,.no,.no,.no,.no,.no] 0)=_/\_
 unfold kE
 rw[ax (env':=[.fz (aw n l),.fz (.int a),.no,.no,.no,.no,.no,.no,.no]) (β':=0) (by rw[lR,aq (ds:=[aw n l]) (β1:=0) rfl (km O)];rfl)]
 rw[ax (env':=[.fz (aw n l),.fz (.int a),.fz (de n (cS l)),.no,.no,.no,.no,.no,.no]) (β':=0) (by rw[cy,aq (ds:=[aw n l]) (β1:=0) rfl (G6 O)];rfl)]
 rw[ax (env':=nE n l (.int a) .no .no .no .no .no) (β':=0) (by rw[cy,aq (ds:=[de n (cS l)]) (β1:=0) rfl (jI O).1];rfl)]
 have t:=FF (d:=.int a) O rfl
 rw[show iV (.int a) (sV n l)=true from ME ⟨h0,h1⟩] at t
 rw[ax (env':=nE n l (.int a) .no .no .no .no .no) (β':=0) (by rw[fU (c5 t)];rfl)]
 rw[ax (env':=nE n l (.int a) (.ow (.list (([]:List Int).map int))) .no .no .no .no) (β':=0) (by rw[ki,lp (ds:=[]) an];rfl)]
 rw[ax (env':=nE n l (.int a) (.ow (.list (([]:List Int).map int))) (.fz (mI (bS []) n)) .no .no .no) (β':=0) (by rw[cy,Cb];rfl)]
 rw[ax (env':=nE n l (.int a) (.ow (.list (([]:List Int).map int))) (.fz (mI (bS []) n)) (.fz (.int a)) .no .no) (β':=0) (by rfl)]
 obtain⟨env',β',ef,r,b,s7,s8,rfl,rfl,B,hl,hb,hs⟩:=dG (t:=.nm 7) (m:=aH (bo 8 ([2] ++ ([3] ++ ([5] ++ ([6] ++ [])))) (ak KS (aa (gv 2) (aa (gv 3) (aa (gv 5) (aa (gv 6) ah))))))
   (aH (nQ 4 ([] ++ []) (f2 (gv 8) (cst (.int 0)) bR))
   (aH (bo 5 ([5] ++ (([] ++ []) ++ [])) (ak k8 (aa (gv 5) (aa (f2 (gv 8) (cst (.int 0)) bR) ah))))
   (bo 6 ([] ++ []) (f2 (gv 8) (cst (.int 1)) bR))))) (ds:=cZ 0 n) (k:=0)
  (λk env β=>∃(r:List Int) (b:Int) (s7 s8:Sl),env=nE n l (.int a) (.ow (.list (r.map int))) (.fz (mI (bS r) n)) (.fz (.int b)) s7 s8/\β=0/\qw n l r/\r.length=k/\(0<=b/\b < b6 n (dz n l) r)/\a=zI n l (dz n l) [] r + b)
  (env:=nE n l (.int a) (.ow (.list (([]:List Int).map int))) (.fz (mI (bS []) n)) (.fz (.int a)) .no .no) (β:=0) ⟨[],a,.no,.no,rfl,rfl,y7 n l,rfl,⟨h0,h1⟩,by simp[zI]⟩ (by
   rintro k d env β hk ⟨r,b,s7,s8,rfl,rfl,B,hl,⟨hb0,hb1⟩,hs⟩
   obtain⟨hkn,rfl⟩:=mq hk
   rw[Nt] at hl
   obtain⟨x,c,ec,hx,hc,hac⟩:=K9 O W B (by omega) hb0 hb1
   have hxr:=a8.mp (ML.mp hx).1
   refine⟨nE n l (.int a) (.ow (.list (r.map int))) (.fz (mI (bS r) n)) (.fz (.int b)) (.fz (.int (0 + (k:Int)))) s8,rfl,?_⟩
   generalize int (0 + (k:Int))=dk
   rw[ax (env':=nE n l (.int a) (.ow (.list (r.map int))) (.fz (mI (bS r) n)) (.fz (.int b)) (.fz dk) (.fz (.tuple [.int x,.int c]))) (β':=0) (by
    rw[cy,aq (ds:=[de n (cS l),.list ((dz n l).map int),mI (bS r) n,.int b]) (β1:=0) rfl ec];rfl)]
   rw[ax (env':=nE n l (.int a) (.ow (.list ((r ++ [x]).map int))) (.fz (mI (bS r) n)) (.fz (.int b)) (.fz dk) (.fz (.tuple [.int x,.int c]))) (β':=0) (by
    rw[sy (i:=4) (ds:=r.map int) (d:=.int x) (β':=0) (by rfl) (aG (x:=.tuple [.int x,.int c]) (y:=.int 0) rfl rfl rfl) (by rfl) (by rw[MI];omega),NM];rfl)]
   rw[ax (env':=nE n l (.int a) (.ow (.list ((r ++ [x]).map int))) (.fz (mI (bS (r ++ [x])) n)) (.fz (.int b)) (.fz dk) (.fz (.tuple [.int x,.int c]))) (β':=0) (by
    rw[cy,aq (ds:=[mI (bS r) n,.int (x.toNat:Int)]) (β1:=0) (ac rfl (ac (aG (x:=.tuple [.int x,.int c]) (y:=.int 0) rfl rfl (by rw[show ((x.toNat:Nat):Int)=x by omega];rfl)) an)) (Am h8 (by omega)),wc hxr];rfl)]
   refine⟨nE n l (.int a) (.ow (.list ((r ++ [x]).map int))) (.fz (mI (bS (r ++ [x])) n)) (.fz (.int c)) (.fz dk) (.fz (.tuple [.int x,.int c])),0,by rfl,r ++ [x],c,_,_,rfl,rfl,wA B hx,by rw[M5,Oz];omega,hc,by rw[yc,OX];omega⟩)
 rw[Nt,i8] at hl
 refine⟨r,?_,B.row O (by omega),?_⟩
 rotate_left
 ·have hw:b6 n (dz n l) r=1:=by unfold b6;rw[(pO B).mpr (by omega),W.top]
  omega
 rw[ax (env':=nE n l (.int a) (.ow (.list (r.map int))) (.fz (mI (bS r) n)) (.fz (.int b)) s7 s8) (β':=0) ?g]
 case g=>
  rw[c6 (env:=nE n l (.int a) (.ow (.list (([]:List Int).map int))) (.fz (mI (bS []) n)) (.fz (.int a)) .no .no) (ds:=cZ 0 n) (β1:=0) (hV (n:=n) (Ha (n:=n) (l:=l) rfl) (by omega))]
  exact ef
 rw[gB,cI (x:=.list (r.map int)) (d:=tupI r) (β1:=0) rfl (by rfl)];rfl
def FE (n:Nat)(l:List Pr)(T:List Int):List Int->List Int->Int
 |_,[]=>0
 |q,x :: xs=>(((aY l q n).filter λy=>decide (y < x)).map λy=>b6 n T (q ++ [y])).sum + FE n l T (q ++ [x]) xs
noncomputable def I0:List D->FR:=bp 8 2 (kN dZ A0 Gr DJ x6 k8)
noncomputable abbrev C9:SF:=aH (bo 7 (([2] ++ ([5] ++ [])) ++ []) (aP 1 [6] (.nm 0) (bu (ak x6 (aa (gv 2) (aa (gv 5) ah)))) (dD (f2 (gv 0) (gv 1) vU)) (gv 0)))
 (aH (bo 4 ([] ++ ([] ++ [5])) (f2 (gv 4) (f1 (aP 1 [3,5] (.nm 0) (bu (gv 7)) ij (f2 (gv 1) (ak k8 (aa (gv 2) (aa (gv 0) ah))) bR)) qq) cP))
 (bo 5 ([5] ++ ([6] ++ [])) (ak k8 (aa (gv 5) (aa (gv 6) ah)))))
noncomputable abbrev kR (n:Nat)(l:List Pr)(d:D)(v:Int)(q:List Int)(s6 s7:Sl):En:=[.fz (aw n l),.fz d,.fz (de n (cS l)),.fz (.list ((dz n l).map int)),.fz (.int v),.fz (mI (bS q) n),s6,s7]
def Lg {n:Nat}{l:List Pr}{d:D}{v x:Int}{q:List Int}{s7:Sl}(O:OM.Ord n l)(hx:0<=x/\x < (n:Int)):∃t7,C9 (kR n l d v q (.fz (.int x)) s7) 0=.nx (kR n l d (v + (((aY l q n).filter λy=>decide (y < x)).map λy=>b6 n (dz n l) (q ++ [y])).sum) (q ++ [x]) (.fz (.int x)) t7) 0:=by
 have h8:=O.hi
 have W:=(jI O).2
 have hfl:=mr l q n
 unfold C9
 have e7:aP 1 [6] (.nm 0) (bu (ak x6 (aa (gv 2) (aa (gv 5) ah)))) (dD (f2 (gv 0) (gv 1) vU)) (gv 0) (vl (kR n l d v q (.fz (.int x)) s7)) 0=.ok (.list (((aY l q n).filter λy=>decide (y < x)).map int)) 0:=by
  refine g7 (l:=aY l q n) (e:=int) (λy=>decide (y < x)) int ?_ (by omega) λy hy=>⟨[.da (.int y),.da (.int x)],rfl,cT _ _ _ _ (aG (x:=.int y) (y:=.int x) rfl rfl rfl),λ_=>rfl⟩
  have:=aq (F:=x6) (fr:=aa (gv 2) (aa (gv 5) ah)) (vs:=vl (kR n l d v q (.fz (.int x)) s7)) (β:=0) (β1:=0) (ds:=[de n (cS l),mI (bS q) n]) rfl (Hu O q)
  unfold bu
  rw[this];rfl
 rw[ax (env':=kR n l d v q (.fz (.int x)) (.fz (.list (((aY l q n).filter λy=>decide (y < x)).map int)))) (β':=0) (by rw[cy,e7];rfl)]
 have hsub:∀y,y∈((aY l q n).filter λy=>decide (y < x))->0<=y/\y < (n:Int):=λy hy=>a8.mp (ML.mp (ML.mp hy).1).1
 have hln:((aY l q n).filter λy=>decide (y < x)).length<=(aY l q n).length:=OC _ _
 generalize hG:((aY l q n).filter λy=>decide (y < x))=G at hsub hln
 have ec:aP 1 [3,5] (.nm 0) (bu (gv 7)) ij (f2 (gv 1) (ak k8 (aa (gv 2) (aa (gv 0) ah))) bR) (vl (kR n l d v q (.fz (.int x)) (.fz (.list (G.map int))))) 0=.ok (.list (G.map λy=>int (b6 n (dz n l) (q ++ [y])))) 0:=
  bB (l:=G) (e:=int) (λy=>int (b6 n (dz n l) (q ++ [y]))) rfl (by omega) λy hy=>⟨[.da (.int y),.da (.list ((dz n l).map int)),.da (mI (bS q) n)],rfl,Dp (l:=l) h8 W.len (hsub y hy) rfl rfl rfl⟩
 have es:f1 (aP 1 [3,5] (.nm 0) (bu (gv 7)) ij (f2 (gv 1) (ak k8 (aa (gv 2) (aa (gv 0) ah))) bR)) qq (vl (kR n l d v q (.fz (.int x)) (.fz (.list (G.map int))))) 0=.ok (.int (G.map λy=>b6 n (dz n l) (q ++ [y])).sum) 0:=by
  refine cI ec ?_
  have e9:(G.map λy=>int (b6 n (dz n l) (q ++ [y])))=(G.map λy=>b6 n (dz n l) (q ++ [y])).map int:=by rw[Oe];rfl
  unfold qq
  dsimp only
  rw[e9,dR];rfl
 rw[ax (env':=kR n l d (v + (G.map λy=>b6 n (dz n l) (q ++ [y])).sum) q (.fz (.int x)) (.fz (.list (G.map int)))) (β':=0) (by
  rw[cy,aG (x:=.int v) (y:=.int (G.map λy=>b6 n (dz n l) (q ++ [y])).sum) (d:=.int (v + (G.map λy=>b6 n (dz n l) (q ++ [y])).sum)) (β1:=0) (β2:=0) rfl es rfl];rfl)]
 refine⟨.fz (.list (G.map int)),?_⟩
 rw[cy,aq (ds:=[mI (bS q) n,.int (x.toNat:Int)]) (β1:=0) (by rw[show ((x.toNat:Nat):Int)=x by omega];rfl) (Am h8 (by omega)),wc hx];rfl
theorem Kq {n:Nat}{l:List Pr}{d:D}(O:OM.Ord n l):∀(rest q:List Int) (v:Int) (s6 s7:Sl),(∀x,x∈rest->0<=x/\x < (n:Int))->∃t6 t7,iZ (.nm 6) C9 (rest.map int) (kR n l d v q s6 s7) 0=.nx (kR n l d (v + FE n l (dz n l) q rest) (q ++ rest) t6 t7) 0
 | [],q,v,s6,s7,_=>⟨s6,s7,by rw[show FE n l (dz n l) q []=0 from rfl,Int.add_zero,Oc];rfl⟩
 |x :: rest,q,v,s6,s7,h=>by
  obtain⟨t7,e⟩:=Lg (d:=d) (v:=v) (q:=q) (s7:=s7) O (h x (MC ..))
  obtain⟨u6,u7,e2⟩:=Kq (d:=d) O rest (q ++ [x]) (v + (((aY l q n).filter λy=>decide (y < x)).map λy=>b6 n (dz n l) (q ++ [y])).sum) (.fz (.int x)) t7 λy hy=>h y (MD _ hy)
  refine⟨u6,u7,?_⟩
  rw[Nj]
  conv=>lhs;unfold iZ
  rw[show du (.nm 6) (.int x) (kR n l d v q s6 s7)=some (kR n l d v q (.fz (.int x)) s7) from rfl]
  dsimp only
  rw[e]
  dsimp only
  rw[e2,show FE n l (dz n l) q (x :: rest)=(((aY l q n).filter λy=>decide (y < x)).map λy=>b6 n (dz n l) (q ++ [y])).sum + FE n l (dz n l) (q ++ [x]) rest from rfl,Int.add_assoc,Nm];rfl
def Lu {n:Nat}{l:List Pr}{r:List Int}(O:OM.Ord n l)(hR:Row n l r):I0 [aw n l,tupI r]=.ok (.int (FE n l (dz n l) [] r)) false:=by
 have hl:r.length=n:=by rw[hR.1.length_eq,bV]
 have h8:=O.hi
 have hG:Ge (tupI r):=wB (by rw[MI];omega) λx hx=>by obtain⟨y,_,rfl⟩:=MM.mp hx;rfl
 show fin (kN dZ A0 Gr DJ x6 k8 [.fz (aw n l),.fz (tupI r),.no,.no,.no,.no,.no,.no] 0)=_
 unfold kN
 rw[ax (env':=[.fz (aw n l),.fz (tupI r),.no,.no,.no,.no,.no,.no]) (β':=0) (by rw[lR,aq (ds:=[aw n l]) (β1:=0) rfl (km O)];rfl)]
 have t:la (ak A0 (aa (gv 1) (aa (gv 0) ah))) (vl [.fz (aw n l),.fz (tupI r),.no,.no,.no,.no,.no,.no]) 0=.ok (o8 n l (tupI r)) 0:=ie (aq (ds:=[tupI r,aw n l]) rfl (EJ O hG))
 rw[mD hR] at t
 rw[ax (env':=[.fz (aw n l),.fz (tupI r),.no,.no,.no,.no,.no,.no]) (β':=0) (by rw[fU (c5 t)];rfl)]
 rw[ax (env':=[.fz (aw n l),.fz (tupI r),.fz (de n (cS l)),.no,.no,.no,.no,.no]) (β':=0) (by rw[cy,aq (ds:=[aw n l]) (β1:=0) rfl (G6 O)];rfl)]
 rw[ax (env':=[.fz (aw n l),.fz (tupI r),.fz (de n (cS l)),.fz (.list ((dz n l).map int)),.no,.no,.no,.no]) (β':=0) (by rw[cy,aq (ds:=[de n (cS l)]) (β1:=0) rfl (jI O).1];rfl)]
 rw[ax (env':=[.fz (aw n l),.fz (tupI r),.fz (de n (cS l)),.fz (.list ((dz n l).map int)),.fz (.int 0),.no,.no,.no]) (β':=0) (by rfl)]
 rw[ax (env':=kR n l (tupI r) 0 [] .no .no) (β':=0) (by unfold kR;rw[cy,Cb];rfl)]
 obtain⟨t6,t7,e⟩:=Kq (d:=tupI r) O r [] 0 .no .no λx hx=>a8.mp (hR.1.mem_iff.mp hx)
 rw[Oh,OX] at e
 rw[ax (env':=kR n l (tupI r) (FE n l (dz n l) [] r) r t6 t7) (β':=0) (by
  rw[c6 (env:=kR n l (tupI r) 0 [] .no .no) (ds:=r.map int) (β1:=0) rfl]
  exact e)]
 rfl
def Kd {n:Nat}{l:List Pr}{rs:List (List Int)}(O:OM.Ord n l)(hz:rs.length<=1000)(hne:rs≠ [])(hr:∀r,r∈rs->Row n l r):IC [.list (rs.map tupI),aw n l]=.ok (.bool true) false:=by
 have h8:=O.hi
 show fin (fu A0 [.fz (.list (rs.map tupI)),.fz (aw n l)] 0)=_
 refine mL ?_
 unfold fu
 have t2:dD (f2 (f1 (gv 0) c3) (cst (.int 0)) (dC false)) (vl [.fz (.list (rs.map tupI)),.fz (aw n l)]) 0=.ok (decide (((rs.map tupI).length:Int)=0)) 0:=iG (neg:=false) (tf rfl) rfl
 rw[MK (by have:=List.length_pos_iff.mpr hne;rw[MI];omega)] at t2
 refine eJ (mf (c5 (a:=true) (ie (c:=true) (cI (x:=.list (rs.map tupI)) rfl rfl))) t2) ?_
 have ea:=oA (l:=rs) (f:=λ_=>true) (fa:=aP 1 [1] (.nm 0) (bu (gv 0)) ij (ak A0 (aa (gv 0) (aa (gv 1) ah)))) (vs:=vl [.fz (.list (rs.map tupI)),.fz (aw n l)]) (β:=0) (bB (l:=rs) (e:=tupI) (λ_=>PyData.bool true) rfl (by omega) λr hm=>⟨[.da (tupI r),.da (aw n l)],rfl,aq (ds:=[tupI r,aw n l]) rfl (by
  obtain⟨hl,hrb⟩:=BG h8 (hr r hm).1
  rw[EJ O (xH (by omega) hrb).1,mD (hr r hm)])⟩)
 rw[MS.mpr λ_ _=>rfl] at ea
 exact nc ea rfl
def oB {n:Nat}{l:List Pr}{rs:List (List Int)}(O:OM.Ord n l)(hz:rs.length<=1000)(hne:rs≠ [])(hr:∀r,r∈rs->Row n l r):yj [.list (rs.map tupI),aw n l]=.ok (.bool (decide ((OM.bQ n).filter (lN rs)=l))) false:=by
 show fin (xG dZ IC Ee [.fz (.list (rs.map tupI)),.fz (aw n l)] 0)=_
 exact mL (sC (aq (ds:=[aw n l]) rfl (km O)) (nc (Gf (aq (ds:=[.list (rs.map tupI),aw n l]) rfl (Kd O hz hne hr)) (aG (aq (ds:=[.int n,.list (rs.map tupI)]) (ac (Ha (n:=n) (l:=l) rfl) (ac rfl an)) (Bl O.lo O.hi hz λr h=>(hr r h).1)) (IZ (n:=n) (l:=l) rfl) (uE false _ _))) rfl))
def ext (n:Nat)(l:List Pr)(r:List Int):List (List Int):=(aY l r n).map λx=>r ++ [x]
def lvl (n:Nat)(l:List Pr):Nat->List (List Int)
 | 0=>[[]]
 |k + 1=>(lvl n l k).flatMap (ext n l)
def D1 {n:Nat}{l:List Pr}{r q:List Int}(h:q∈ext n l r):∃x,x∈aY l r n/\q=r ++ [x]:=let ⟨x,h1,h2⟩:=MM.mp h;⟨x,h1,h2.symm⟩
theorem kB {n:Nat}{l:List Pr}:∀{k:Nat} {r:List Int},r∈lvl n l k->qw n l r/\r.length=k
 | 0,r,h=>by
  rw[lvl,MZ] at h
  subst h
  exact⟨⟨ON,(λx hx=>by cases hx),(λp _ h=>by cases h)⟩,rfl⟩
 |k + 1,r,h=>by
  rw[lvl,List.mem_flatMap] at h
  obtain⟨q,hq,hr⟩:=h
  obtain⟨x,hx,rfl⟩:=D1 hr
  obtain⟨B,hk⟩:=kB hq
  exact⟨B.more (a8.mp (ML.mp hx).1) (ML.mp hx).2,by rw[M5,hk];rfl⟩
def IJ {n:Nat}{l:List Pr}{r:List Int}(B:qw n l r):(aY l r n).length<=n - r.length:=by
 have nd:(aY l r n ++ r).Nodup:=by
  rw[Po]
  refine⟨(cQ n).sublist OS,B.nd,λa ha b hb e=>?_⟩
  subst e
  have:=(ML.mp ha).2
  unfold e8 at this
  rw[MP,NX,N4] at this
  exact this.1 hb
 have:=L2.ST.bE nd (m:=eS n) λx hx=>(M1.mp hx).elim (λh=>(ML.mp h).1) λh=>a8.mpr (B.inn x h)
 rw[M5,bV] at this
 omega
def Kv (n:Nat):Nat->Nat
 | 0=>1
 |k + 1=>Kv n k * (n - k)
theorem vk {n:Nat}{l:List Pr}{c:Nat}:∀{L:List (List Int)},(∀r,r∈L->(ext n l r).length<=c)->(L.flatMap (ext n l)).length<=L.length * c
 | [],_=>by simp
 |r :: L,h=>by
  rw[OG,M5,MU,Nat.succ_mul]
  have h1:=h r (MC ..)
  have h2:=vk (L:=L) λq hq=>h q (MD _ hq)
  omega
def Eb {n:Nat}{l:List Pr}{k:Nat}{r:List Int}(h:r∈lvl n l k):(ext n l r).length<=n - k:=by
 obtain⟨B,hk⟩:=kB h
 unfold ext
 rw[MI,<-hk]
 exact IJ B
theorem tH {n:Nat}{l:List Pr}:∀k,(lvl n l k).length<=Kv n k
 | 0=>My _
 |k + 1=>by
  rw[lvl,Kv]
  exact ND (vk (c:=n - k) λr hr=>Eb hr) (Nat.mul_le_mul_right _ (tH k))
def Gy:∀n,n < 7->∀k,k < 8->Kv n k<=720:=by decide +kernel
theorem w8 {n:Nat}{l:List Pr}(O:OM.Ord n l):∀k,k<=n->lvl n l k≠ []
 | 0,_=>by rw[lvl];simp
 |k + 1,hk=>by
  have h:=w8 O k (by omega)
  cases e:lvl n l k with
  |nil=>exact absurd e h
  |cons r L=>
   have hr:r∈lvl n l k:=by rw[e];exact MC ..
   obtain⟨B,hb⟩:=kB hr
   have f:=B.free O (by omega)
   intro z
   rw[lvl,e,OG,List.append_eq_nil_iff] at z
   exact f (List.map_eq_nil_iff.mp z.1)
def y0 {n:Nat}{l:List Pr}(O:OM.Ord n l){r:List Int}(h:r∈lvl n l n):Row n l r:=(kB h).1.row O (by rw[(kB h).2];exact My _)
def wa (l:List Pr)(x y:Int):Bool:=decide (x=y) || decide ((x,y)∈l)
def kO {l:List Pr}{x y:Int}:wa l x y=true↔x=y\/(x,y)∈l:=by unfold wa;simp
def wQ {n:Nat}{l:List Pr}(O:OM.Ord n l){x y z:Int}(h:wa l x y=true)(k:wa l y z=true):wa l x z=true:=by
 rw[kO] at *
 rcases h with rfl |h
 ·exact k
 ·rcases k with rfl |k
  ·exact .inr h
  ·exact .inr (O.tr _ _ _ h k)
def putL (n:Nat)(l:List Pr)(t:Pr):List Pr:=(OM.bQ n).filter λp=>decide (p∈l) || (wa l p.1 t.2 && wa l t.1 p.2)
def oY {n:Nat}{l:List Pr}{t p:Pr}(h:(0<=p.1/\p.1 < n)/\(0<=p.2/\p.2 < n)):p∈putL n l t↔p∈l\/(wa l p.1 t.2=true/\wa l t.1 p.2=true):=by
 unfold putL
 rw[ML,OM.bC,O0,MP,MT]
 exact⟨λh=>h.2,λk=>⟨h,k⟩⟩
def rT {n:Nat}{l:List Pr}{t p:Pr}(h:p∈putL n l t):p∈l\/(wa l p.1 t.2=true/\wa l t.1 p.2=true):=by
 unfold putL at h
 have:=(ML.mp h).2
 rw[O0,MP,MT] at this
 exact this
def Ex {n:Nat}{l:List Pr}{t:Pr}(O:OM.Ord n l)(h:wa l t.1 t.2=false):OM.Ord n (putL n l t):=by
 have hn:¬wa l t.1 t.2=true:=by rw[h];exact M9
 refine⟨O.lo,O.hi,λp hp=>OM.bC.mp (ML.mp hp).1,OM.c4 _ (OM.eM n),λa ha=>?_,λa b c hab hbc=>?_⟩
 ·rcases rT ha with q | ⟨q1,q2⟩
  ·exact O.irr a q
  ·exact hn (wQ O q2 q1)
 ·have g1:=OM.bC.mp (ML.mp hab).1
  have g2:=OM.bC.mp (ML.mp hbc).1
  refine (oY (p:=(a,c)) ⟨g1.1,g2.2⟩).mpr ?_
  rcases rT hab with q | ⟨q1,q2⟩
  ·rcases rT hbc with r | ⟨r1,r2⟩
   ·exact .inl (O.tr _ _ _ q r)
   ·exact .inr ⟨wQ O (kO.mpr (.inr q)) r1,r2⟩
  ·rcases rT hbc with r | ⟨r1,r2⟩
   ·exact .inr ⟨q1,wQ O q2 (kO.mpr (.inr r))⟩
   ·exact .inr ⟨q1,r2⟩
def D3 {n:Nat}{l:List Pr}{t p:Pr}(O:OM.Ord n l)(h:p∈l):p∈putL n l t:=(oY (O.wn p h)).mpr (.inl h)
def wJ {n:Nat}{l:List Pr}{t:Pr}(h:(0<=t.1/\t.1 < n)/\(0<=t.2/\t.2 < n)):(t.2,t.1)∈putL n l t:=(oY ⟨h.2,h.1⟩).mpr (.inr ⟨kO.mpr (.inl rfl),kO.mpr (.inl rfl)⟩)
theorem pk {n:Nat}{l:List Pr}{t:Pr}(O:OM.Ord n l)(ht:t∈Kk n l):∃r,Row n l r/\r.idxOf t.2 < r.idxOf t.1:=by
 obtain⟨hr,ha⟩:=oo.mp ht
 have hn:wa l t.1 t.2=false:=by
  cases z:wa l t.1 t.2 with
  |false=>rfl
  |true=>
   exfalso
   unfold Kc at ha
   rcases kO.mp z with h |h
   ·rw[h] at ha;simp at ha
   ·simp[h] at ha
 have O':=Ex O hn
 cases e:lvl n (putL n l t) n with
 |nil=>exact absurd e (w8 O' n (My _))
 |cons r L=>
  have hR:=y0 O' (r:=r) (by rw[e];exact MC ..)
  have hf:=hR.2
  unfold qk at hf
  rw[MS] at hf
  refine⟨r,⟨hR.1,?_⟩,NA (hf _ (wJ hr))⟩
  unfold qk
  rw[MS]
  exact λp hp=>hf p (D3 O hp)
def Cj {n:Nat}{l:List Pr}{R:List (List Int)}(O:OM.Ord n l)(hR:∀r,r∈R->Row n l r)(hA:∀r,Row n l r->r∈R)(hne:R≠ []):(OM.bQ n).filter (lN R)=l:=by
 refine OM.cX (OM.c4 _ (OM.eM n)) O.ris λp=>?_
 rw[ML,OM.bC]
 unfold lN
 rw[MS]
 constructor
 ·rintro⟨hg,hs⟩
  have hs:∀r,r∈R->r.idxOf p.1 < r.idxOf p.2:=λr hr=>NA (hs r hr)
  apply Classical.byContradiction
  intro hp
  obtain⟨r0,h0⟩:∃r,r∈R:=by cases R with |nil=>exact absurd rfl hne |cons r _=>exact⟨r,MC ..⟩
  have h1:=hs r0 h0
  by_cases c:(p.2,p.1)∈l
  ·have:=(hR r0 h0).2
   unfold qk at this
   have:=NA (MS.mp this _ c)
   dsimp only at this
   omega
  ·have ht:p∈Kk n l:=oo.mpr ⟨hg,by
    unfold Kc
    have:p.1≠p.2:=λe=>by rw[e] at h1;omega
    simp[this,c,hp]⟩
   obtain⟨r,hr,hi⟩:=pk O ht
   have:=hs r (hA r hr)
   omega
 ·intro hp
  refine⟨O.wn p hp,λr hr=>?_⟩
  have:=(hR r hr).2
  unfold qk at this
  exact MS.mp this p hp
noncomputable def LG:List D->FR:=bp 2 2 (kC iB p5 Ee)
def ED {n:Nat}{d:D}{Q:SO->Prop}{m':SF}{m1:SF}(h1:1<=n)(h8:n<=8)(k:WP (m' [.fz (.int n),.fz d] 0) Q):WP (aH (g8 ([0] ++ []) (nV (la (ak iB (aa (gv 0) ah)))) m1 iQ) m' [.fz (.int n),.fz d] 0) Q:=by
 have t:=c5 (ie (aq (F:=iB) (fr:=aa (gv 0) ah) (vs:=vl [.fz (.int n),.fz d]) (β:=0) (ds:=[.int n]) rfl (uK h1 h8)))
 exact eJ t k
def Jd {n:Nat}{rs:List (List Int)}(h1:1<=n)(h8:n<=8)(hz:rs.length<=100)(hne:rs≠ [])(hp:∀r,r∈rs->r.Perm (eS n)):LG [.int n,.list (rs.map tupI)]=.ok (aw n ((OM.bQ n).filter (lN rs))) false:=by
 show fin (kC iB p5 Ee [.fz (.int n),.fz (.list (rs.map tupI))] 0)=_
 refine mL ?_
 unfold kC
 refine ED h1 h8 ?_
 have c:¬(((rs.map tupI).length:Nat):Int)=0:=by rw[MI];have:=List.length_pos_iff.mpr hne;omega
 refine eJ (mf (c:=false) (c5 (ie (c:=true) (FQ (d:=.list (rs.map tupI)) rfl rfl))) ?_) ?_
 ·have t2:=iG (neg:=false) (cI (fa:=gv 1) (vs:=vl [.fz (.int n),.fz (.list (rs.map tupI))]) (β:=0) (β1:=0) (g:=c3) (x:=.list (rs.map tupI)) rfl rfl) (show cst (.int 0) (vl [.fz (.int n),.fz (.list (rs.map tupI))]) 0=.ok (.int 0) 0 from rfl)
  rw[MK c] at t2
  exact t2
 refine eJ (c5 (ie (c:=true) ?_)) ?_
 ·have ea:=oA (f:=λr:List Int=>mn n (tupI r)) (bB (own:=1) (ixs:=[0]) (t:=.nm 0) (fi:=bu (gv 1)) (fe:=ak p5 (aa (gv 0) (aa (gv 1) ah))) (vs:=vl [.fz (.int n),.fz (.list (rs.map tupI))]) (β:=0) (l:=rs) (e:=tupI) (λr=>PyData.bool (mn n (tupI r))) rfl (by omega) λr hr=>⟨[.da (tupI r),.da (.int n)],rfl,aq (ds:=[tupI r,.int n]) rfl (B8 (by omega) (by
   obtain⟨hl,hrb⟩:=BG h8 (hp r hr)
   exact (xH (by omega) hrb).1))⟩)
  rw[MS.mpr λr hr=>pR (hp r hr)] at ea
  exact ea
 exact nc (tp (ds:=[.int n,.tuple (((OM.bQ n).filter (lN rs)).map aK)]) (ac rfl (ac (aq (ds:=[.int n,.list (rs.map tupI)]) rfl (FY h1 h8 hz hp)) an))) rfl
noncomputable def IS:List D->FR:=bp 1 1 (qd dZ)
def DO (n:Nat)(l:List Pr):List Pr:=(OM.bQ n).filter λp=>decide ((p.2,p.1)∈l)
def iM {n:Nat}{l:List Pr}(O:OM.Ord n l){p:Pr}:p∈DO n l↔(p.2,p.1)∈l:=by
 unfold DO
 rw[ML,OM.bC,MT]
 exact⟨λh=>h.2,λh=>⟨⟨(O.wn _ h).2,(O.wn _ h).1⟩,h⟩⟩
def sM {n:Nat}{l:List Pr}(O:OM.Ord n l):OM.Ord n (DO n l):=
 ⟨O.lo,O.hi,λp hp=>⟨(O.wn _ ((iM O).mp hp)).2,(O.wn _ ((iM O).mp hp)).1⟩,OM.c4 _ (OM.eM n),λa h=>O.irr a ((iM O).mp h),λa b c h1 h2=>(iM O).mpr (O.tr c b a ((iM (p:=(b,c)) O).mp h2) ((iM (p:=(a,b)) O).mp h1))⟩
def CP {L:List Int}(nd:L.Nodup){j:Nat}{x:Int}(h:L[j]? =some x):L.idxOf x=j:=by
 obtain⟨hj,e⟩:=MJ.mp h
 rw[<-e];exact nd.idxOf_getElem j hj
def oj {n:Nat}{r:List Int}(hp:r.Perm (eS n)){x:Int}(hx:x∈r):r.reverse.idxOf x=r.length - 1 - r.idxOf x:=by
 have nd:r.Nodup:=hp.nodup_iff.mpr (cQ n)
 have hi:=Nq.mpr hx
 refine CP ((List.reverse_perm r).nodup_iff.mpr nd) ?_
 rw[List.getElem?_reverse (by omega),show r.length - 1 - (r.length - 1 - r.idxOf x)=r.idxOf x by omega,Mu hi,List.getElem_idxOf hi]
def yB {n:Nat}{l:List Pr}{r:List Int}(O:OM.Ord n l)(h:Row n l r):Row n (DO n l) r.reverse:=by
 have hm:∀x:Int,(0<=x/\x < n)->x∈r:=λx hx=>h.1.mem_iff.mpr (a8.mpr hx)
 refine⟨(List.reverse_perm r).trans h.1,?_⟩
 unfold qk
 rw[MS]
 intro p hp
 have hp:=(iM O).mp hp
 obtain⟨h2,h1⟩:=O.wn _ hp
 have hf:=h.2
 unfold qk at hf
 have:=NA (MS.mp hf _ hp)
 dsimp only at this h1 h2
 have a1:=Nq.mpr (hm _ h1)
 have a2:=Nq.mpr (hm _ h2)
 rw[oj h.1 (hm _ h1),oj h.1 (hm _ h2)]
 exact ME (by omega)
def DG {n:Nat}{rs:List (List Int)}(hp:∀r,r∈rs->r.Perm (eS n)){p:Pr}(h:(0<=p.1/\p.1 < n)/\(0<=p.2/\p.2 < n)):lN (rs.map List.reverse) p=lN rs (p.2,p.1):=by
 unfold lN
 rw[O4,Nx,MS,MS]
 refine forall_congr' λr=>forall_congr' λhr=>?_
 have hm:∀x:Int,(0<=x/\x < n)->x∈r:=λx hx=>(hp r hr).mem_iff.mpr (a8.mpr hx)
 have a1:=Nq.mpr (hm _ h.1)
 have a2:=Nq.mpr (hm _ h.2)
 show decide (r.reverse.idxOf p.1 < r.reverse.idxOf p.2)=true↔decide (r.idxOf p.2 < r.idxOf p.1)=true
 rw[oj (hp r hr) (hm _ h.1),oj (hp r hr) (hm _ h.2),MT,MT]
 omega
def JL {n:Nat}{l:List Pr}(O:OM.Ord n l):IS [aw n l]=.ok (aw n (DO n l)) false:=by
 have hl:=lX O
 show fin (qd dZ [.fz (aw n l)] 0)=_
 have hm:∀q:Pr,q∈l.map (λp=>(p.2,p.1))↔(q.2,q.1)∈l:=λq=>by
  rw[MM]
  constructor
  ·rintro⟨p,hp,rfl⟩;exact hp
  ·exact λh=>⟨_,h,rfl⟩
 have hs:mV (.list (l.map λp=>aK (p.2,p.1)))=some (.list ((DO n l).map aK)):=by
  have e:(l.map λp=>aK (p.2,p.1))=(l.map λp=>(p.2,p.1)).map aK:=by rw[Oe];rfl
  rw[e,z5 (N:=n) O.lo O.hi (λq hq=>by have:=O.wn _ ((hm q).mp hq);exact⟨this.2,this.1⟩) (List.Pairwise.map _ (λa b h z=>h (Prod.ext (congrArg Prod.snd z) (congrArg Prod.fst z))) (OM.gQ O.ris)) (λa ha=>O.irr a ((hm _).mp ha))]
  congr 3
  refine OM.cX (OM.cN _ _) (sM O).ris λq=>?_
  rw[OM.bh,iM O]
  show (_/\q∈l.map λp=>(p.2,p.1))↔_
  rw[hm q]
  have h8:=O.hi
  exact⟨λh=>h.2,λh=>by have:=O.wn _ h;dsimp only at this;exact⟨⟨⟨this.2.1,by omega⟩,this.1.1,by omega⟩,h⟩⟩
 refine mL (sC (aq (ds:=[aw n l]) rfl (km O)) (nc (β1:=0) (tp (ds:=[.int n,.tuple ((DO n l).map aK)]) (ac (Ha (n:=n) (l:=l) rfl) (ac (cI (x:=.list ((DO n l).map aK)) (cI (bB (l:=l) (e:=aK) (λp=>aK (p.2,p.1)) ?_ (by omega) λp hp=>⟨[.da (.int p.1),.da (.int p.2)],rfl,pZ rfl rfl⟩) hs) rfl) an))) rfl))
 unfold bu
 rw[IZ (n:=n) (l:=l) rfl];rfl
def zd {n:Nat}{l:List Pr}{q s:List Int}(h:Row n l (q ++ s)):qw n l q:=by
 obtain⟨pm,hf⟩:=h
 have nd:(q ++ s).Nodup:=pm.nodup_iff.mpr (cQ n)
 refine⟨nd.sublist (List.sublist_append_left q s),λx hx=>a8.mp (pm.mem_iff.mp (NU _ hx)),λp hp hm=>?_⟩
 unfold qk at hf
 have:=NA (MS.mp hf p hp)
 rw[N7,N7,MA hm] at this
 have h2:=Nq.mpr hm
 by_cases c:p.1∈q
 ·rw[MA c] at this;exact⟨c,this⟩
 ·rw[MF c] at this;omega
def vF {n:Nat}{l:List Pr}{q s:List Int}{x:Int}(h:Row n l (q ++ x :: s)):x∈aY l q n:=by
 have B:qw n l (q ++ [x]):=zd (s:=s) (by rw[Nm];exact h)
 have hx:x∉q:=λhq=>(Po.mp B.nd).2.2 x hq x (MZ.mpr rfl) rfl
 refine ML.mpr ⟨a8.mpr (B.inn x (by simp)),?_⟩
 unfold e8
 rw[MP,NX,N4,MT]
 refine⟨hx,List.eq_nil_iff_forall_not_mem.mpr λy hy=>?_⟩
 obtain⟨h1,h2⟩:=iE.mp hy
 obtain⟨h3,h4⟩:=B.fit (y,x) h1 (by simp)
 rw[N7,N7,MF h2,MF hx] at h4
 simp at h4;omega
def rf (n:Nat)(l:List Pr):Nat->List Int->List (List Int)
 | 0,q=>[q]
 |k + 1,q=>(aY l q n).flatMap λx=>rf n l k (q ++ [x])
theorem DP {n:Nat}{l:List Pr}:∀(j k:Nat),(lvl n l k).flatMap (rf n l j)=lvl n l (k + j)
 | 0,k=>by
  show (lvl n l k).flatMap (λq=>[q])=lvl n l k
  simp
 |j + 1,k=>by
  have h:=DP (n:=n) (l:=l) j (k + 1)
  rw[show k + 1 + j=k + (j + 1) by omega] at h
  rw[<-h]
  show _=((lvl n l k).flatMap (ext n l)).flatMap (rf n l j)
  rw[List.flatMap_assoc]
  congr 1
  funext q
  show (aY l q n).flatMap (λx=>rf n l j (q ++ [x]))=((aY l q n).map λx=>q ++ [x]).flatMap (rf n l j)
  rw[List.flatMap_map]
def ox (n:Nat)(l:List Pr):lvl n l n=rf n l n []:=by
 have h:=DP (n:=n) (l:=l) n 0
 rw[Nt] at h
 rw[<-h]
 show [[]].flatMap (rf n l n)=_
 simp
theorem pw {f:Int->List (List Int)}{g:Int->Int}:∀{L:List Int},(∀x,x∈L->((f x).length:Int)=g x)->((L.flatMap f).length:Int)=(L.map g).sum
 | [],_=>rfl
 |x :: L,h=>by
  rw[OG,M5,Nj,List.sum_cons,<-h x (MC ..),<-pw λy hy=>h y (MD _ hy)]
  omega
theorem wz {n:Nat}{l:List Pr}{T:List Int}(W:Wt n l 0 T):∀(k:Nat) (q:List Int),q.length + k=n->qw n l q->((rf n l k q).length:Int)=b6 n T q
 | 0,q,hk,B=>by
  unfold b6
  rw[(pO B).mpr (by omega),W.top];rfl
 |k + 1,q,hk,B=>by
  rw[W.at B (by omega)]
  exact pw λx hx=>wz W k (q ++ [x]) (by rw[M5,Oz];omega) (wA B hx)
theorem BW {n:Nat}{l:List Pr}{T:List Int}(W:Wt n l 0 T):∀(s q:List Int),Row n l (q ++ s)->∃i:Nat,(i:Int)=zI n l T q s/\(rf n l s.length q)[i]? =some (q ++ s)
 | [],q,h=>⟨0,rfl,by rw[Oc];rfl⟩
 |x :: s,q,h=>by
  have hl:=h.1.length_eq
  rw[bV,M5,MU] at hl
  have B:=zd h
  have h':Row n l ((q ++ [x]) ++ s):=by rw[Nm];exact h
  obtain⟨i,e1,e2⟩:=BW W s (q ++ [x]) h'
  obtain⟨j,hj⟩:=List.mem_iff_getElem?.mp (vF h)
  have ej:=Dq (show (aY l q n).Nodup from (cQ n).sublist OS) hj
  have hjl:=(MJ.mp hj).1
  have hs:aY l q n=(aY l q n).take j ++ x :: (aY l q n).drop (j + 1):=by
   rw[show x :: (aY l q n).drop (j + 1)=(aY l q n).drop j by
    rw[OK hjl]
    rw[Mu hjl] at hj
    rw[Option.some.inj hj],O3]
  have hlen:((((aY l q n).take j).flatMap λx=>rf n l s.length (q ++ [x])).length:Int)=DT n l T q x:=by
   rw[DT,ej]
   exact pw λy hy=>wz W _ (q ++ [y]) (by rw[M5,Oz];omega) (wA B (Od hy))
  refine⟨(((aY l q n).take j).flatMap λx=>rf n l s.length (q ++ [x])).length + i,?_,?_⟩
  ·show _=DT n l T q x + zI n l T (q ++ [x]) s
   omega
  ·show ((aY l q n).flatMap λx=>rf n l s.length (q ++ [x]))[_]? =_
   have ef:((aY l q n).flatMap λx=>rf n l s.length (q ++ [x]))=(((aY l q n).take j).flatMap λx=>rf n l s.length (q ++ [x])) ++ (rf n l s.length (q ++ [x]) ++ ((aY l q n).drop (j + 1)).flatMap λx=>rf n l s.length (q ++ [x])):=by
    conv=>lhs;rw[hs]
    rw[List.flatMap_append,OG]
   rw[ef,Nb (by omega),Nat.add_sub_cancel_left,Ng (MJ.mp e2).1,e2,Nm];rfl
theorem yL:∀(q a b:List Int),ST.lF (q ++ a) (q ++ b)=ST.lF a b
 | [],_,_=>rfl
 |x :: q,a,b=>by
  show (if x=x then ST.lF (q ++ a) (q ++ b) else _)=_
  rw[MA rfl,yL q]
theorem w9 {n:Nat}{l:List Pr}:∀{k:Nat} {q r:List Int},r∈rf n l k q->∃s,r=q ++ s
 | 0,q,r,h=>⟨[],by rw[Oc];exact MZ.mp h⟩
 |k + 1,q,r,h=>by
  obtain⟨x,_,hr⟩:=List.mem_flatMap.mp h
  obtain⟨s,rfl⟩:=w9 hr
  exact⟨x :: s,by rw[Nm];rfl⟩
def HX (n:Nat):(eS n).Pairwise (· < ·):=by
 unfold eS
 exact List.Pairwise.map _ (λa b h=>by omega) List.pairwise_lt_range
def Gh (l:List Pr)(q:List Int)(n:Nat):(aY l q n).Pairwise (· < ·):=(HX n).sublist OS
theorem CJ {n:Nat}{l:List Pr}:∀(k:Nat) (q:List Int),(rf n l k q).Pairwise λa b=>ST.lF b a=false
 | 0,q=>List.pairwise_singleton ..
 |k + 1,q=>by
  refine List.pairwise_flatMap.mpr ⟨λx _=>CJ k _,(Gh l q n).imp λ{x y} hxy a ha b hb=>?_⟩
  obtain⟨s,rfl⟩:=w9 ha
  obtain⟨t,rfl⟩:=w9 hb
  rw[Nm,Nm,yL]
  show (if y=x then _ else decide (y < x))=false
  rw[MF (by omega)];exact MK (by omega)
theorem CY {m:Nat}(h1:1<=m):∀{rs:List (List Int)},(∀r,r∈rs->r.length=m)->(rs.Pairwise λa b=>ST.lF b a=false)->qu rs=true
 | [],_,_=>rfl
 | [r],h,_=>by
  have:=h r (MC ..)
  show (!r.isEmpty)=true
  cases r with
  |nil=>simp at this;omega
  |cons _ _=>rfl
 |r :: q :: rs,h,p=>by
  have e1:=h r (MC ..)
  have e2:=h q (by simp)
  have hp:=OY.mp p
  unfold qu
  rw[CY h1 (λx hx=>h x (MD _ hx)) hp.2,hp.1 q (MC ..),ME (e1.trans e2.symm)]
  cases r with
  |nil=>simp at e1;omega
  |cons _ _=>rfl
theorem vW {x:Int}:∀{L:List Int},L.Pairwise (· < ·)->x∈L->L.filter (λy=>decide (y < x))=L.take (L.idxOf x)
 |a :: L,p,hx=>by
  have hp:=OY.mp p
  by_cases c:a=x
  ·subst c
   rw[List.idxOf_cons_self,List.take_zero,List.filter_cons,MF (by simp)]
   exact List.filter_eq_nil_iff.mpr λy hy=>by have:=hp.1 y hy;simp;omega
  ·have hx:x∈L:=(MB.mp hx).resolve_left λz=>c z.symm
   have:=hp.1 x hx
   rw[List.filter_cons,MA (by simpa using this),List.idxOf_cons,show (a == x)=false by simpa using c,vW hp.2 hx];rfl
theorem Gz {n:Nat}{l:List Pr}{T:List Int}:∀(s q:List Int),Row n l (q ++ s)->FE n l T q s=zI n l T q s
 | [],_,_=>rfl
 |x :: s,q,h=>by
  show (((aY l q n).filter λy=>decide (y < x)).map λy=>b6 n T (q ++ [y])).sum + FE n l T (q ++ [x]) s=DT n l T q x + zI n l T (q ++ [x]) s
  rw[Gz s (q ++ [x]) (by rw[Nm];exact h),vW (Gh l q n) (vF h)];rfl
theorem DE:∀rs:List (List Int),kY (rs.map tupI)=some rs
 | []=>rfl
 |r :: rs=>by
  rw[Nj]
  unfold kY tupI
  dsimp only
  rw[show eZ (r.map int)=some r from dR r,show kY (rs.map λns=>PyData.tuple (ns.map int))=some rs from DE rs]
def B5 {n:Nat}{l:List Pr}(O:OM.Ord n l):rW (.list ((lvl n l n).map tupI))=some (.list ((lvl n l n).map tupI)):=by
 have ha:qu (lvl n l n)=true:=CY O.lo (λr hr=>(kB hr).2) (by rw[ox];exact CJ n [])
 show (match kY ((lvl n l n).map tupI) with |some rs=>if qu rs=true then some (PyData.list ((lvl n l n).map tupI)) else none |none=>none)=_
 rw[DE]
 dsimp only
 rw[MA ha]
def zc {n:Nat}{l:List Pr}{a:Int}(O:OM.Ord n l)(h0:0<=a)(h1:a < sV n l):∃r,jk ((lvl n l n).map tupI) a=some (tupI r)/\IU [aw n l,.int a]=.ok (tupI r) false/\I0 [aw n l,tupI r]=.ok (.int a) false/\Row n l r:=by
 have W:=(jI O).2
 obtain⟨r,e,hR,ho⟩:=JQ O h0 h1
 obtain⟨i,e1,e2⟩:=BW W r [] hR
 have hl:r.length=n:=by rw[hR.1.length_eq,bV]
 rw[hl,OX,<-ox] at e2
 have ea:a=(i:Int):=by omega
 refine⟨r,?_,e,?_,hR⟩
 ·rw[ea];exact fR (by rw[MG,e2];rfl)
 ·rw[Lu O hR,Gz r [] hR,ho]
def yW {n:Nat}{l:List Pr}(O:OM.Ord n l):((lvl n l n).length:Int)=sV n l:=by
 rw[ox]
 exact wz (jI O).2 n [] (by simp) (y7 n l)
def Kg {t u:VF Bool}{vs:List Nv}{β β1 β2:Int}{c:Bool}(h:t vs β=.ok true β1)(h':u vs β1=.ok c β2):DX t u vs β=.ok c β2:=by rw[wd,h];exact h'
def Jt {t u:VF Bool}{vs:List Nv}{β β1:Int}(h:t vs β=.ok false β1):DX t u vs β=.ok false β1:=by rw[wd,h];rfl
noncomputable def p9:List D->FR:=bp 2 2 (pM dZ A0)
def Ey {n:Nat}{l:List Pr}{d:D}(O:OM.Ord n l)(h:Ge d):p9 [d,aw n l]=.ok (.bool (o8 n l d)) false:=by
 show fin (pM dZ A0 [.fz d,.fz (aw n l)] 0)=_
 exact mL (sC (aq (ds:=[aw n l]) rfl (km O)) (nc (aq (ds:=[d,aw n l]) rfl (EJ O h)) rfl))
def yJ {n:Nat}{l:List Pr}{r:List Int}(O:OM.Ord n l)(h:Row n l r):r∈lvl n l n:=by
 obtain⟨i,_,e⟩:=BW (jI O).2 r [] h
 have hl:r.length=n:=by rw[h.1.length_eq,bV]
 rw[hl,OX,<-ox] at e
 exact MO e
def E9 (neg:Bool)(n:Nat)(l k:List Pr):dC neg (aw n l) (aw n k)=some (.bool (if neg then !decide (l=k) else decide (l=k))):=by
 unfold dC
 rw[oP,oP]
 have h:PyData.eqv (aw n l) (aw n k)=decide (l=k):=by
  unfold aw
  simp only[PyData.eqv,PyData.eqvAll,ou]
  simp
 simp only[OD,NC,h]
theorem HK {n:Nat}{l:List Pr}{r:List Int}(O:OM.Ord n l)(h:Row n l r):∃i:Nat,KD ((lvl n l n).map tupI) (tupI r)=some (.int (i:Nat))/\I0 [aw n l,tupI r]=.ok (.int (i:Nat)) false:=by
 have hs:∀q:List Int,SeqAt.shaped (tupI q)=true:=λq=>by
  unfold SeqAt.shaped
  rw[show (tupI q).canLay0=true by unfold tupI;simp only[PyData.canLay0];exact lay_ints q,yf];rfl
 have h1:((lvl n l n).map tupI).all SeqAt.shaped=true:=MS.mpr λx hx=>by obtain⟨q,_,rfl⟩:=MM.mp hx;exact hs q
 have hm:=yJ O h
 have hc:=yW O
 cases e:((lvl n l n).map tupI).findIdx? λe=>PyData.eqv e (tupI r) with
 |none=>
  have:=List.findIdx?_eq_none_iff.mp e (tupI r) (MM.mpr ⟨r,hm,rfl⟩)
  rw[tq] at this;simp at this
 |some j=>
  obtain⟨hj,he,_⟩:=List.findIdx?_eq_some_iff_getElem.mp e
  rw[MI] at hj
  rw[List.getElem_map,tq,MT] at he
  refine⟨j,by unfold KD;rw[e];dsimp only;rw[hs,h1];rfl,?_⟩
  obtain⟨q,e1,_,e3,_⟩:=zc (a:=(j:Int)) O (by omega) (by omega)
  rw[fR (by rw[MG,Mu hj];rfl),he] at e1
  rw[l5 (Option.some.inj e1)];exact e3
def IK {n:Nat}{l:List Pr}{vs:List Nv}{β:Int}(O:OM.Ord n l)(h6:n<=6)(h3:vs[3]? =some (.da (aw n l))):aP 1 [3] (.nm 0) (gq (ak KA (aa (gv 3) ah))) ij (ak IU (aa (gv 1) (aa (gv 0) ah))) vs β=.ok (.list ((lvl n l n).map tupI)) β:=by
 have g3:gv 3 vs β=.ok (aw n l) β:=by rw[Cr,h3];rfl
 have hb:dS 1 [3] vs= [.no,.da (aw n l)]:=by simp[dS,h3]
 have hlen:(lvl n l n).length<=720:=ND (tH n) (Gy n (by omega) n (by omega))
 have hc:=yW O
 have e1:=aq (fr:=aa (gv 3) ah) (vs:=vs) (β:=β) (ds:=[aw n l]) (ac g3 an) (LU O)
 rw[<-hc] at e1
 have hn:∀k:Nat,k < (lvl n l n).length->∃r,(lvl n l n)[k]? =some r/\IU [aw n l,.int (0 + (k:Int))]=.ok (tupI r) false:=λk hk=>by
  obtain⟨r,e2,e3,_⟩:=zc (a:=0 + (k:Int)) O (by omega) (by omega)
  refine⟨r,?_,e3⟩
  rw[Oh,cW,fR (Mu hk)] at e2
  rw[Mu hk,l5 (Option.some.inj e2)]
 generalize lvl n l n=R at *
 have hR:R.map tupI=(List.range R.length).map λk=>tupI (R.getD k []):=by
  refine OF λk=>?_
  rw[MG,MG]
  by_cases c:k < R.length
  ·rw[Mu c,NP c];simp[c]
  ·rw[NS (by omega),NS (by simp;omega)];rfl
 rw[hR]
 refine bB (l:=List.range R.length) (e:=λ(k:Nat)=>int (0 + (k:Int))) (λk=>tupI (R.getD k [])) ?_ (by rw[Om];omega) λk hk=>⟨[.da (.int (0 + (k:Int))),.da (aw n l)],by rw[hb];rfl,aq (b:=false) (ds:=[aw n l,.int (0 + (k:Int))]) rfl ?_⟩
 ·rw[hV (n:=R.length) e1 (by omega)];rfl
 ·obtain⟨r,e2,e3⟩:=hn k (MX.mp hk)
  rw[MY,e2];exact e3
def v9 {n:Nat}{l:List Pr}{rs:List (List Int)}(O:OM.Ord n l)(hr:∀r,r∈rs->Row n l r){p:Pr}(hp:p∈l):p∈(OM.bQ n).filter (lN rs):=by
 refine ML.mpr ⟨OM.bC.mpr (O.wn p hp),?_⟩
 unfold lN
 rw[MS]
 exact λr h=>MS.mp (hr r h).2 p hp
def Cn {n:Nat}{l:List Pr}{rs:List (List Int)}(O:OM.Ord n l)(hr:∀r,r∈rs->Row n l r):(((OM.bQ n).filter (lN rs)).find? λp=> !decide (p∈l))=none↔(OM.bQ n).filter (lN rs)=l:=by
 rw[List.find?_eq_none]
 constructor
 ·intro h
  refine OM.cX (OM.c4 _ (OM.eM n)) O.ris λp=>⟨λhp=>?_,v9 O hr⟩
  simpa using h p hp
 ·intro h p hp
  rw[h] at hp
  simpa using hp
def C4 {n:Nat}{l:List Pr}{rs:List (List Int)}{p:Pr}(O:OM.Ord n l)(hne:rs≠ [])(hr:∀r,r∈rs->Row n l r)(h:(((OM.bQ n).filter (lN rs)).find? λp=> !decide (p∈l))=some p):p∈Kk n l:=by
 have h1:=List.mem_of_find?_eq_some h
 have h2:=List.find?_some h
 obtain⟨hg,hs⟩:=ML.mp h1
 unfold lN at hs
 obtain⟨r0,h0⟩:∃r,r∈rs:=by cases rs with |nil=>exact absurd rfl hne |cons r _=>exact⟨r,MC ..⟩
 have h3:=NA (MS.mp hs r0 h0)
 refine oo.mpr ⟨OM.bC.mp hg,?_⟩
 have:p.1≠p.2:=λe=>by rw[e] at h3;omega
 have c:(p.2,p.1)∉l:=λc=>by
  have:=NA (MS.mp (hr r0 h0).2 _ c)
  dsimp only at this
  omega
 unfold Kc
 simp only[NX,N4] at h2
 simp[this,c,h2]
def zu {n:Nat}{l:List Pr}{rs:List (List Int)}(O:OM.Ord n l)(hr:∀r,r∈rs->Row n l r):(OM.bQ n).filter (lN (rs.map List.reverse))=DO n l↔(OM.bQ n).filter (lN rs)=l:=by
 have hp:∀r,r∈rs->r.Perm (eS n):=λr h=>(hr r h).1
 have key:∀p:Pr,p∈(OM.bQ n).filter (lN (rs.map List.reverse))↔(p.2,p.1)∈(OM.bQ n).filter (lN rs):=λp=>by
  rw[ML,ML,OM.bC,OM.bC]
  constructor
  ·rintro⟨h1,h2⟩;exact⟨⟨h1.2,h1.1⟩,by rw[<-DG hp h1];exact h2⟩
  ·rintro⟨h1,h2⟩;exact⟨⟨h1.2,h1.1⟩,by rw[DG hp ⟨h1.2,h1.1⟩];exact h2⟩
 constructor
 ·intro h
  refine OM.cX (OM.c4 _ (OM.eM n)) O.ris λp=>?_
  have:=key (p.2,p.1)
  rw[h,iM O] at this
  exact this.symm
 ·intro h
  refine OM.cX (OM.c4 _ (OM.eM n)) (sM O).ris λp=>?_
  rw[key,h,iM O]
def zV {n:Nat}{l:List Pr}{rs qs:List (List Int)}(O:OM.Ord n l)(hr:∀r,r∈rs ++ qs->Row n l r)(h:(OM.bQ n).filter (lN rs)=l):(OM.bQ n).filter (lN (rs ++ qs))=l:=by
 refine OM.cX (OM.c4 _ (OM.eM n)) O.ris λp=>⟨λhp=>?_,v9 O hr⟩
 rw[<-h]
 obtain⟨h1,h2⟩:=ML.mp hp
 refine ML.mpr ⟨h1,?_⟩
 unfold lN at h2 ⊢
 rw[List.all_append,MP] at h2
 exact h2.1
abbrev kF (ns:List Int)(i n:Nat)(l:List Pr)(R:List (List Int))(s5 s6 s7 s8 s9 s10 s11 s12:Sl):En:=[.fz (dg ns),.fz (.int i),.bx,.fz (aw n l),.fz (.list (R.map tupI)),s5,s6,s7,s8,s9,s10,s11,s12]
def EC (o:Option Pr):kT (fH o)=o.isNone:=by cases o <;> rfl
def Bb (c:Bool):dC true (.bool c) (.bool c)=some (.bool false):=by cases c <;> rfl
def EG (r:List Int):AM (tupI r)=some (tupI r.reverse):=by unfold AM tupI;simp
noncomputable def HI:List D->FR:=bp 13 1 (zf IA KA IU yj Lo LG IS p9 I0 tG dv)
theorem Jb (ns:List Int):HI [dg ns]=.ok (.bool true) false:=by
 show fin (zf IA KA IU yj Lo LG IS p9 I0 tG dv [.fz (dg ns),.no,.no,.no,.no,.no,.no,.no,.no,.no,.no,.no,.no] 0)=_
 refine mL ?_
 obtain⟨m,hm,em⟩:=Ck 2 (by omega) ns (vl [.fz (dg ns),.no,.no,.no,.no,.no,.no,.no,.no,.no,.no,.no,.no]) 0 rfl
 unfold zf
 refine DK (λ_ env _=>∃s1 s2 s3 s4 s5 s6 s7 s8 s9 s10 s11 s12,env= [.fz (dg ns),s1,s2,s3,s4,s5,s6,s7,s8,s9,s10,s11,s12]) em ⟨_,_,_,_,_,_,_,_,_,_,_,_,rfl⟩ ?_ λenv β ⟨s1,s2,s3,s4,s5,s6,s7,s8,s9,s10,s11,s12,e⟩=>nc (d:=.bool true) rfl rfl
 rintro i d env β hi ⟨s1,s2,s3,s4,s5,s6,s7,s8,s9,s10,s11,s12,rfl⟩
 obtain⟨_,rfl⟩:=mq hi
 rw[Oh]
 refine⟨[.fz (dg ns),.fz (.int i),s2,s3,s4,s5,s6,s7,s8,s9,s10,s11,s12],rfl,?_⟩
 obtain⟨z,ez⟩:=Ku ns i
 obtain⟨n,l,β1,eo,O,h5⟩:=Bc (most:=5) (by omega) (by omega) z
 obtain⟨t3,t4,t5,t6,t7,t8,t9,t10,t11,t12,hcl⟩:∃t3 t4 t5 t6 t7 t8 t9 t10 t11 t12:Sl,(qt (bq ([0] ++ ([1] ++ [])) [.fz (dg ns),.fz (.int i),s2,s3,s4,s5,s6,s7,s8,s9,s10,s11,s12])).set 2 .bx= [.fz (dg ns),.fz (.int i),.bx,t3,t4,t5,t6,t7,t8,t9,t10,t11,t12]:=⟨_,_,_,_,_,_,_,_,_,_,rfl⟩
 refine Er (B6 (ds:=[dg ns,.int i]) rfl ez) (wp_at _ hcl ?_)
 refine lE (ko (ds:=[.int 5]) rfl rfl eo) (wp_at [.fz (dg ns),.fz (.int i),.bx,.fz (aw n l),t4,t5,t6,t7,t8,t9,t10,t11,t12] rfl ?_)
 have eR:=IK (vs:=vl [.fz (dg ns),.fz (.int i),.bx,.fz (aw n l),t4,t5,t6,t7,t8,t9,t10,t11,t12]) (β:=β1) O (by omega) rfl
 have hlen:(lvl n l n).length<=720:=ND (tH n) (Gy n (by omega) n (by omega))
 have hR:∀r,r∈lvl n l n->Row n l r:=λr h=>y0 O h
 have hA:∀r,Row n l r->r∈lvl n l n:=λr h=>yJ O h
 have hne:lvl n l n≠ []:=w8 O n (My _)
 have hs:=B5 O
 have hix:=λr (h:Row n l r)=>HK O h
 generalize lvl n l n=R at *
 refine lE eR (wp_at (kF ns i n l R t5 t6 t7 t8 t9 t10 t11 t12) rfl ?_)
 have eT:=oB O (by omega) hne hR
 rw[ME (Cj O hR hA hne)] at eT
 have eqR:=vd true R R
 rw[MA rfl,ME (rfl:R=R)] at eqR
 refine eJ (mf (c:=false) (cT _ _ _ _ (aG (x:=.bool true) (y:=.bool true) (aq (ds:=[.list (R.map tupI),aw n l]) rfl eT) rfl rfl)) (cT _ _ _ _ (aG (x:=.list (R.map tupI)) (y:=.list (R.map tupI)) rfl (cI (x:=.list (R.map tupI)) rfl hs) eqR))) (wp_at (kF ns i n l R t5 t6 t7 t8 t9 t10 t11 t12) rfl ?_)
 refine HU (DK (λ_ env _=>∃s5 s6 s7 s8 s9 s10 s11 s12,env=kF ns i n l R s5 s6 s7 s8 s9 s10 s11 s12) (hV (n:=3) rfl (by omega)) ⟨_,_,_,_,_,_,_,_,rfl⟩ ?_ λenv β ⟨s5,s6,s7,s8,s9,s10,s11,s12,e⟩=>CL ⟨_,_,rfl,_,_,_,_,_,_,_,_,_,_,_,_,e⟩)
 rintro t d env β ht ⟨s5,s6,s7,s8,s9,s10,s11,s12,rfl⟩
 refine⟨kF ns i n l R (.fz d) s6 s7 s8 s9 s10 s11 s12,rfl,?_⟩
 obtain⟨j,hj,ej⟩:=kc (m:=3) (by omega) (by omega) β
 generalize β / ((3:Nat):Int)=β2 at ej
 refine lE (d:=.int ((1 + j:Nat):Int)) (aG (x:=.int 1) (y:=.int (j:Nat)) rfl (ko (ds:=[.int 3]) rfl rfl ej) (by show some (int (1 + (j:Int)))=_;rw[show ((1 + j:Nat):Int)=1 + (j:Int) by omega])) (wp_at (kF ns i n l R (.fz d) (.fz (.int ((1 + j:Nat):Int))) s7 s8 s9 s10 s11 s12) rfl ?_)
 have hRp:0 < R.length:=List.length_pos_iff.mpr hne
 obtain⟨rs,β3,ec,hl,hP⟩:=zS (own:=1) (ixs:=[4,2]) (t:=.nm 0) (fi:=gq (gv 6)) (fe:=f2 (gv 1) (mY 2 dv (aa (f1 (gv 1) c3) ah)) bR) (vs:=vl (kF ns i n l R (.fz d) (.fz (.int ((1 + j:Nat):Int))) s7 s8 s9 s10 s11 s12)) (β:=β2) tupI (λr=>Row n l r) (hV (n:=1 + j) rfl (by omega)) (by rw[i8];omega) λd hd=>⟨[.da d,.da (.list (R.map tupI)),.bx],rfl,λb=>by
  obtain⟨k,hk,ek⟩:=kc (m:=R.length) (by omega) (by omega) b
  refine⟨R[k],_,aG (x:=.list (R.map tupI)) (y:=.int (k:Nat)) rfl (ko (ds:=[.int R.length]) rfl (ac (by rw[tf (ds:=R.map tupI) rfl,MI]) an) ek) ?_,hR _ (NF hk)⟩
  show jk (R.map tupI) (k:Int)=_
  rw[cW,fR (Mu hk)];rfl⟩
 rw[i8] at hl
 have hrne:rs≠ []:=λe=>by rw[e] at hl;simp at hl;omega
 refine lE ec (wp_at (kF ns i n l R (.fz d) (.fz (.int ((1 + j:Nat):Int))) (.fz (.list (rs.map tupI))) s8 s9 s10 s11 s12) rfl ?_)
 generalize (int ((1 + j:Nat):Int))=d6
 obtain⟨b,el⟩:=Ke O (by omega) hrne hP
 have etb:=Jd (n:=n) (rs:=rs) O.lo O.hi (by omega) hrne λr h=>(hP r h).1
 have ete:=oB O (by omega) hrne hP
 have hli:=Cn O hP
 have hlt:=λp=>C4 (p:=p) O hrne hP
 have hsub:=λp=>v9 (p:=p) O hP
 have hab:=zu O hP
 have eab:=oB (rs:=rs.map List.reverse) (sM O) (by rw[MI];omega) (by simpa using hrne) λr h=>by
  obtain⟨q,hq,rfl⟩:=MM.mp h
  exact yB O (hP q hq)
 have hmo':=λqs h=>zV (rs:=rs) (qs:=qs) O h
 generalize (OM.bQ n).filter (lN rs)=S at *
 generalize (S.find? λp=> !decide (p∈l))=o at *
 refine lE (aq (ds:=[aw n l,.list (rs.map tupI)]) rfl el) (wp_at (kF ns i n l R (.fz d) (.fz d6) (.fz (.list (rs.map tupI))) (.fz (fH o)) s9 s10 s11 s12) rfl ?_)
 refine lE (aq (ds:=[.int n,.list (rs.map tupI)]) (ac (Ha (n:=n) (l:=l) rfl) (ac rfl an)) etb) (wp_at (kF ns i n l R (.fz d) (.fz d6) (.fz (.list (rs.map tupI))) (.fz (fH o)) (.fz (aw n S)) s10 s11 s12) rfl ?_)
 obtain⟨c,hc1,hc2⟩:∃c:Bool,kT (fH o)=c/\decide (S=l)=c:=⟨_,rfl,by rw[EC,Nx,MT,Option.isNone_iff_eq_none,hli]⟩
 have eso:=E9 false n S l
 rw[MF (by decide),hc2] at eso
 rw[hc2] at ete
 rw[NV.mpr hab,hc2] at eab
 have eis:∀{s9 s10 s11 s12:Sl} {β:Int},f1 (gv 8) (λd=>some (.bool (kT d))) (vl (kF ns i n l R (.fz d) (.fz d6) (.fz (.list (rs.map tupI))) (.fz (fH o)) s9 s10 s11 s12)) β=.ok (.bool c) β:=λ{s9 s10 s11 s12 β}=>cI (x:=fH o) rfl (by rw[hc1])
 refine eJ (mf (c:=false) (cT _ _ _ _ (aG eis (aG (x:=aw n S) (y:=aw n l) rfl rfl eso) (Bb c))) (cT _ _ _ _ (aG (aq (ds:=[.list (rs.map tupI),aw n l]) rfl ete) eis (Bb c)))) (wp_at (kF ns i n l R (.fz d) (.fz d6) (.fz (.list (rs.map tupI))) (.fz (fH o)) (.fz (aw n S)) s10 s11 s12) rfl ?_)
 have hF:l.filter (λp=> !decide (p∈S))= []:=List.filter_eq_nil_iff.mpr λp hp=>by simp[hsub p hp]
 have hll:=lX O
 refine eJ (cT _ _ _ _ (aG (β1:=β3) (x:=.list (([]:List Pr).map aK)) (y:=.list (([]:List Pr).map aK)) ?_ (lp (ds:=[]) an) (CU true [] []))) (wp_at (kF ns i n l R (.fz d) (.fz d6) (.fz (.list (rs.map tupI))) (.fz (fH o)) (.fz (aw n S)) s10 s11 s12) rfl ?_)
 ·rw[<-hF]
  refine g7 (l:=l) (e:=aK) (λp=> !decide (p∈S)) aK ?_ (by omega) λp hp=>⟨[.da (aK p),.da (aw n S)],rfl,cT _ _ _ _ (aG (x:=aK p) (y:=.tuple (S.map aK)) rfl (IZ (n:=n) (l:=S) rfl) (yK true p S)),λ_=>rfl⟩
  unfold bu
  rw[IZ (n:=n) (l:=l) rfl];rfl
 have tail:∀{s10 s11:Sl} {β:Int},WP (aH (bo 12 ([] ++ []) (aP 1 [] (.nm 0) (bu (gv 7)) ij (f1 (gv 0) AM)))
 (aH (g8 ((([12] ++ (([3] ++ []) ++ [])) ++ []) ++ ([] ++ [3])) (lJ (dD (f2 (ak yj (aa (gv 12) (aa (ak IS (aa (gv 3) ah)) ah))) (f1 (gv 8) λd=>some (.bool (kT d))) (dC true))) (nV (la (f1 (aP 1 [3] (.nm 0) (bu (gv 12)) ij (ak p9 (aa (gv 0) (aa (ak IS (aa (gv 1) ah)) ah)))) (cn λbs=>bs.all id)))))
 (bP (cst (.bool false)))
 iQ)
 (g8 (([3] ++ (([] ++ []) ++ [])) ++ ([4] ++ ([] ++ []))) (dD (f2 (ak I0 (aa (gv 3) (aa (f2 (gv 7) (cst (.int 0)) bR) ah))) (uF (gv 4) (f2 (gv 7) (cst (.int 0)) bR)) (dC true)))
 (bP (cst (.bool false)))
 iQ)) (kF ns i n l R (.fz d) (.fz d6) (.fz (.list (rs.map tupI))) (.fz (fH o)) (.fz (aw n S)) s10 s11 s12) β) λr=>∃env2 β2,r=.nx env2 β2/\∃s5 s6 s7 s8 s9 s10 s11 s12,env2=kF ns i n l R s5 s6 s7 s8 s9 s10 s11 s12:=by
  intro s10 s11 β
  have e12:aP 1 [] (.nm 0) (bu (gv 7)) ij (f1 (gv 0) AM) (vl (kF ns i n l R (.fz d) (.fz d6) (.fz (.list (rs.map tupI))) (.fz (fH o)) (.fz (aw n S)) s10 s11 s12)) β=.ok (.list ((rs.map List.reverse).map tupI)) β:=by
   rw[Oe]
   exact bB (l:=rs) (e:=tupI) (λr=>tupI r.reverse) rfl (by omega) λr hr=>⟨[.da (tupI r)],rfl,cI (x:=tupI r) rfl (EG r)⟩
  refine lE e12 (wp_at (kF ns i n l R (.fz d) (.fz d6) (.fz (.list (rs.map tupI))) (.fz (fH o)) (.fz (aw n S)) s10 s11 (.fz (.list ((rs.map List.reverse).map tupI)))) rfl ?_)
  refine eJ (mf (c:=false) (cT _ _ _ _ (aG (aq (ds:=[.list ((rs.map List.reverse).map tupI),aw n (DO n l)]) (ac rfl (ac (aq (ds:=[aw n l]) rfl (JL O)) an)) eab) eis (Bb c))) (c5 (a:=true) (ie (c:=true) ?_))) (wp_at (kF ns i n l R (.fz d) (.fz d6) (.fz (.list (rs.map tupI))) (.fz (fH o)) (.fz (aw n S)) s10 s11 (.fz (.list ((rs.map List.reverse).map tupI)))) rfl ?_)
  ·have ea:=oA (l:=rs.map List.reverse) (f:=λ_=>true) (fa:=aP 1 [3] (.nm 0) (bu (gv 12)) ij (ak p9 (aa (gv 0) (aa (ak IS (aa (gv 1) ah)) ah)))) (vs:=vl (kF ns i n l R (.fz d) (.fz d6) (.fz (.list (rs.map tupI))) (.fz (fH o)) (.fz (aw n S)) s10 s11 (.fz (.list ((rs.map List.reverse).map tupI))))) (β:=β) (bB (l:=rs.map List.reverse) (e:=tupI) (λ_=>PyData.bool true) rfl (by rw[MI];omega) λr hm=>⟨[.da (tupI r),.da (aw n l)],rfl,aq (ds:=[tupI r,aw n (DO n l)]) (ac rfl (ac (aq (ds:=[aw n l]) rfl (JL O)) an)) (by
    obtain⟨q,hq,rfl⟩:=MM.mp hm
    have hq:=yB O (hP q hq)
    obtain⟨hl,hrb⟩:=BG O.hi hq.1
    rw[Ey (sM O) (xH (by have:=O.hi;omega) hrb).1,mD hq])⟩)
   rw[MS.mpr λ_ _=>rfl] at ea
   exact ea
  obtain⟨r0,rs',rfl⟩:∃r0 rs',rs=r0 :: rs':=by cases rs with |nil=>exact absurd rfl hrne |cons a b=>exact⟨a,b,rfl⟩
  obtain⟨k,e1,e2⟩:=hix r0 (hP r0 (MC ..))
  have e0:f2 (gv 7) (cst (.int 0)) bR (vl (kF ns i n l R (.fz d) (.fz d6) (.fz (.list ((r0 :: rs').map tupI))) (.fz (fH o)) (.fz (aw n S)) s10 s11 (.fz (.list (((r0 :: rs').map List.reverse).map tupI))))) β=.ok (tupI r0) β:=aG (x:=.list ((r0 :: rs').map tupI)) (y:=.int 0) rfl rfl (fR (xs:=(r0 :: rs').map tupI) (j:=0) rfl)
  have e3:uF (gv 4) (f2 (gv 7) (cst (.int 0)) bR) (vl (kF ns i n l R (.fz d) (.fz d6) (.fz (.list ((r0 :: rs').map tupI))) (.fz (fH o)) (.fz (aw n S)) s10 s11 (.fz (.list (((r0 :: rs').map List.reverse).map tupI))))) β=.ok (.int (k:Nat)) β:=by
   unfold uF
   rw[show gv 4 (vl (kF ns i n l R (.fz d) (.fz d6) (.fz (.list ((r0 :: rs').map tupI))) (.fz (fH o)) (.fz (aw n S)) s10 s11 (.fz (.list (((r0 :: rs').map List.reverse).map tupI))))) β=.ok (.list (R.map tupI)) β from rfl]
   dsimp only[L2.R.bnd]
   rw[MA (show sS (.list (R.map tupI))=true from rfl),e0]
   dsimp only[L2.R.bnd]
   rw[e1];rfl
  refine JF (cT _ _ _ _ (aG (aq (ds:=[aw n l,tupI r0]) (ac rfl (ac e0 an)) e2) e3 ((oz true k k).trans (by simp)))) (CL ⟨_,_,rfl,_,_,_,_,_,_,_,_,rfl⟩)
 cases o with
 |none=>
  have hSl:S=l:=hli.mp rfl
  have hall:∀r,r∈rs ++ R.take 1->Row n l r:=λr h=>(M1.mp h).elim (hP r) λh=>hR r (Od h)
  have e1:=oB (rs:=rs ++ R.take 1) O (by rw[M5,NN];omega) (by simp[hrne]) hall
  rw[ME (hmo' _ hall hSl)] at e1
  have esl:=JX (fa:=gv 7) (fb:=Kj (gv 4) (λ_ β=>.ok none β) (Jv (cst (.int 1)))) (vs:=vl (kF ns i n l R (.fz d) (.fz d6) (.fz (.list (rs.map tupI))) (.fz (fH none)) (.fz (aw n S)) s10 s11 s12)) (β:=β3) (a:=rs.map tupI) (b:=(R.map tupI).take 1) rfl (CQ (i:=1) rfl rfl) (by rw[NN,MI,MI];omega)
  rw[<-List.map_take,<-NM] at esl
  refine eJ (Kg (c:=false) rfl (c5 (a:=true) (ie (c:=true) (aq (ds:=[.list ((rs ++ R.take 1).map tupI),aw n l]) (ac esl (ac rfl an)) e1)))) (wp_at (kF ns i n l R (.fz d) (.fz d6) (.fz (.list (rs.map tupI))) (.fz (fH none)) (.fz (aw n S)) s10 s11 s12) rfl ?_)
  exact eJ rfl (wp_at (kF ns i n l R (.fz d) (.fz d6) (.fz (.list (rs.map tupI))) (.fz (fH none)) (.fz (aw n S)) s10 s11 s12) rfl tail)
 |some p=>
  refine eJ (Jt rfl) (wp_at (kF ns i n l R (.fz d) (.fz d6) (.fz (.list (rs.map tupI))) (.fz (fH (some p))) (.fz (aw n S)) s10 s11 s12) rfl ?_)
  have hpt:=hlt p rfl
  obtain⟨hpb,_⟩:=oo.mp hpt
  obtain⟨r,hrr,hri⟩:=pk O hpt
  refine He (λenv _=>∃s10 s11,env=kF ns i n l R (.fz d) (.fz d6) (.fz (.list (rs.map tupI))) (.fz (fH (some p))) (.fz (aw n S)) s10 s11 s12) ⟨true,_,rfl,λ_=>?_,λe=>by cases e⟩ λenv β ⟨s10,s11,e⟩=>wp_at _ e tail
  refine wp_bind (d:=aK p) rfl (env1:=kF ns i n l R (.fz d) (.fz d6) (.fz (.list (rs.map tupI))) (.fz (fH (some p))) (.fz (aw n S)) (.fz (.int p.1)) (.fz (.int p.2)) s12) rfl ?_
  have ef:=g7 (own:=1) (ixs:=[11,10]) (t:=.nm 0) (fi:=bu (gv 4)) (ft:=dD (f2 (xf (gv 0) (gv 1)) (xf (gv 0) (gv 2)) vU)) (fe:=gv 0) (vs:=vl (kF ns i n l R (.fz d) (.fz d6) (.fz (.list (rs.map tupI))) (.fz (fH (some p))) (.fz (aw n S)) (.fz (.int p.1)) (.fz (.int p.2)) s12)) (β:=β3) (l:=R) (e:=tupI) (λr=>decide (r.idxOf p.2 < r.idxOf p.1)) tupI rfl (by omega) λq hq=>⟨[.da (tupI q),.da (.int p.2),.da (.int p.1)],rfl,by
   have hp:=(hR q hq).1
   refine cT _ _ _ _ (aG (yw rfl rfl (hp.mem_iff.mpr (a8.mpr hpb.2))) (yw rfl rfl (hp.mem_iff.mpr (a8.mpr hpb.1))) ?_)
   show some (PyData.bool (decide (((q.idxOf p.2:Nat):Int) < ((q.idxOf p.1:Nat):Int))))=_
   congr 2
   rw[Nx,MT,MT]
   omega,λ_=>rfl⟩
  have hG:R.filter (λr=>decide (r.idxOf p.2 < r.idxOf p.1))≠ []:=λe=>by
   have:r∈R.filter (λr=>decide (r.idxOf p.2 < r.idxOf p.1)):=ML.mpr ⟨hA r hrr,ME hri⟩
   rw[e] at this;cases this
  generalize R.filter (λr=>decide (r.idxOf p.2 < r.idxOf p.1))=G at ef hG
  have eg:=vd false G []
  rw[MF (by decide),MK hG] at eg
  exact JF (cT _ _ _ _ (aG ef (lp (ds:=([]:List (List Int)).map tupI) an) eg)) (CL ⟨_,_,rfl,_,_,rfl⟩)
end RM
namespace RO
open PySem L2
abbrev jC:Stmt:=RQ.eO
abbrev mw:Stmt:=RQ.top 17
abbrev Fn (K:Frag)(mg:Str->Option Value)(x:Str)(st:Stmt)(ps:List Str)(f:Addr)(fd:FuncData):Prop:=jl K mg x st ps f fd
abbrev Bt (mg:Str->Option Value):Prop:=jr mg
end RO
section
namespace L2
open PySem PySem.Spec PyProof.Rows
section
variable {K:Frag}{H H':Hp}{a:Addr}
theorem aX.snoc {x y:Int}(q:eV K H a [.int x,.int y]):∀{vs:List V} {ps:List (Int×Int)},aX K H vs ps->aX K H (vs ++ [.ref a]) (ps ++ [(x,y)])
 |_,_,.nil=>.cons ⟨a,rfl,q⟩ .nil
 |_,_,.cons r t=>.cons r (aX.snoc q t)
def aX.len {vs:List V}{ps:List (Int×Int)}(h:aX K H vs ps):vs.length=ps.length:=Paired.length h
def aX.same {vs:List V}{ps:List (Int×Int)}(h:aX K H vs ps)(s:au H H'):aX K H' vs ps:=h.grow s.grow
def aX.at {vs:List V}{ps:List (Int×Int)}{i:Nat}{v:V}(h:aX K H vs ps)(e:vs[i]? =some v):∃p:Int×Int,ps[i]? =some p/\∃b,v=.ref b/\eV K H b [.int p.1,.int p.2]:=Paired.getP h e
def au.put {o:HO}(s:au H H')(h:H a=none):au H (L2.upd H' a o):=λb u e=>by rw[aF (aL e h)];exact s b u e
end
end L2
namespace RO
open PySem L2
def A8 (N:List Str)(sc:Scope)(NB:List Str)(own:Nat)(ixs:List Nat)(scope:Scope):Bool:=
 decide (scope.kind=.function) && (scope.names.all λy=>decide (y.2≠.cell)) && (scope.names.all λy=>decide (scope.names.lookup y.1=some y.2)) &&
 (scope.names.all λy=>decide (y.2=.free->(sc.names.lookup y.1=some .cell\/sc.names.lookup y.1=some .free))) && decide NB.Nodup && decide (NB.length=own + ixs.length) &&
 ((List.range ixs.length).all λk=>decide (NB[own + k]? =N[ixs.getD k 0]?) && (match NB[own + k]? with |some x=>decide ((x,NameKind.free)∈scope.names) |none=>true))
def nq {X:Cx}{NB:List Str}{own:Nat}{ixs:List Nat}{scope:Scope}(h:A8 X.N X.env.scope NB own ixs scope=true):df X NB own ixs scope:=by
 unfold A8 at h
 simp only[MP,MS,MT,MX] at h
 obtain⟨⟨⟨⟨⟨⟨h1,h2⟩,h3⟩,h4⟩,h5⟩,h6⟩,h7⟩:=h
 refine⟨h1,h2,h3,h4,h5,h6,λk hk=>⟨(h7 k hk).1,λx hx=>?_⟩⟩
 have:=(h7 k hk).2
 rw[hx] at this
 simpa using this
section
variable {X:Cx}{tg l:Expr}{tl:TE}{K:Frag}{H H1:Hp}{a:Addr}{xs:List V}{σ:St}
def LR (K:Frag)(tl:TE):TI:=λσ H R=>tl σ H λx H1=>∃a xs,x=.ref a/\((eY K H1 a xs/\R (zx K a) H1)\/(eV K H1 a xs/\R (Gq K a) H1))
end
def L6 (K:Frag){X:Cx}(h:X.K=K:=by rfl):Bq X (Hr K):=by subst h;exact gu
def Iy (K:Frag)(i j:Nat){X:Cx}{x y:Str}{px py pos:Pos}{k:Nat}(hN:X.N.Nodup)(hi:X.N[i]? =some x)(hj:X.N[j]? =some y)(hx:X.env.scope.names.lookup x=some .local)(hy:X.env.scope.names.lookup y=some .local)(hc:X.calm=true)(hK:X.K=K) :
  PG X (.Tuple [.Name x px,.Name y py] k pos) (Fe K 2 (o4 (k6 i) (o4 (k6 j) Fb))):=by
 subst hK
 exact o7 hc (dF (cV hN hi (Or.inl hx) (Or.inr hx)) (dF (cV hN hj (Or.inl hy) (Or.inr hy)) my))
section
open PySem.Spec PyProof.Rows
variable {X:Cx}{tg l:Expr}{tl:TE}
def HM (hl:PE X l tl):PI X tg l (LR X.K tl):=by
 intro pins s σ H R I h
 refine cv (hl pins s σ H _ I h) λv s1 ⟨x,H1,I1,r1,q1⟩=>?_
 obtain⟨a,xs,e,q⟩:=q1
 subst e
 cases r1
 rcases q with⟨hq,q⟩ | ⟨hq,q⟩
 ·obtain⟨its,rv,p,hz⟩:=I1.list hq
  refine O2 p.isList ?_
  refine⟨s1.heap.objs.size,[s1.heap.objs.size],_,_,H1,rfl,I1.kept (t':=s1.toks) λb o e=>Mw _ e,mP a _,⟨_,MN _ rfl,rfl,rfl⟩,λb hb=>?_,q⟩
  have e:b=s1.heap.objs.size:=by simpa using hb
  subst e
  exact I1.fpOk (My _) (I1.hok.fresh (My _))
 ·obtain⟨its,rv,p,hz⟩:=I1.tuple hq
  refine OZ (show s1.heap.IsTuple a its.toArray from p) ?_
  refine⟨s1.heap.objs.size,[s1.heap.objs.size],_,_,H1,rfl,I1.kept (t':=s1.toks) λb o e=>Mw _ e,pV a _,⟨_,MN _ rfl,rfl,rfl⟩,λb hb=>?_,q⟩
  have e:b=s1.heap.objs.size:=by simpa using hb
  subst e
  exact I1.fpOk (My _) (I1.hok.fresh (My _))
end
section
variable {K:Frag}{H H1 H':Hp}{a:Addr}{xs:List V}{σ:St}
abbrev JO (J:It)(g:TG)(tb:TS)(D:Ends)(σ:St)(H:Hp):Prop:=∃W:Nat->Nat->St->Hp->Prop,(∃m,W 0 m σ H)/\∀i m σ H,W i m σ H->
   (J.stop i H/\D.nx σ H)\/(J.go i H/\∃N:St->Hp->Prop,(∀σ' H',N σ' H'->∃m',m' < m/\W (i + 1) m' σ' H')/\∀x H',J.yld i H x H'->g x σ H' λσ2 H2=>tb {D with nx:=N,ct:=N,bk:=D.nx} σ2 H2)
def EK (s:au H1 H')(hq:eY K H1 a xs\/eV K H1 a xs):eY K H' a xs\/eV K H' a xs:=hq.elim (λq=>.inl (s.seq q)) λq=>.inr (q.grow s.grow)
def D9 {g:TG}{tb:TS}{D:Ends}(hq:eY K H1 a xs\/eV K H1 a xs)(Pv:Nat->St->Hp->Prop)(h0:Pv 0 σ H)(hl:∀i σ H',Pv i σ H'->au H1 H')
  (hs:∀i x σ H,xs[i]? =some x->Pv i σ H->g x σ H λσ2 H2=>tb {D with nx:=Pv (i + 1),ct:=Pv (i + 1),bk:=D.nx} σ2 H2) (hd:∀σ H,Pv xs.length σ H->D.nx σ H) :
  (eY K H a xs/\JO (zx K a) g tb D σ H)\/(eV K H a xs/\JO (Gq K a) g tb D σ H):=
 hq.elim (λq=>.inl ⟨(hl _ _ _ h0).seq q,vS Pv h0 (λi σ H' _ p=>(hl i σ H' p).seq q) hs hd⟩) λq=>.inr ⟨q.grow (hl _ _ _ h0).grow,Fq Pv h0 (λi σ H' _ p=>q.grow (hl i σ H' p).grow) hs hd⟩
def yZ (J:It)(own:Nat)(ixs:List Nat)(g:TG)(tt:TT)(te:TE)(Q:VK)(D:Addr)(σ:St)(H:Hp):Prop:=∃W:Nat->Nat->St->Hp->Prop,(∃m,W 0 m (bS own ixs σ) (upd H D (.lst [])))/\∀i m σ' H',W i m σ' H'->
   (J.stop i H'/\(∃acc,H' D=some (.lst acc))/\Q (.ref D) H')\/
   (J.go i H'/\∃N:St->Hp->Prop,(∀σ2 H2,N σ2 H2->∃m',m' < m/\W (i + 1) m' σ2 H2)/\∀x H2,J.yld i H' x H2->dX g tt te D x σ' H2 N)
structure vJ (own:Nat)(ixs:List Nat)(wi:TI)(g:TG)(tt:TT)(te:TE)(σ:St)(H:Hp)(Q:VK):Prop where
 out:wi σ H λJ H1=>∀D,H1 D=none->yZ J own ixs g tt te Q D σ H1
def wu {own:Nat}{ixs:List Nat}{wi:TI}{g:TG}{tt:TT}{te:TE}{Q:VK}(h:wi σ H λJ H1=>∀D,H1 D=none->yZ J own ixs g tt te Q D σ H1):vJ own ixs wi g tt te σ H Q:=⟨h⟩
def sH {X:Cx}{NB:List Str}{own:Nat}{ixs:List Nat}{scope:Scope}{tg iter elt:Expr}{ifs:List Expr}{wi:TI}{g:TG}{tt:TT}{te:TE}{pos:Pos}(hc:X.calm=true)(S:df X NB own ixs scope)(hi:PI X tg iter wi)
  (hg:∀C ex s3 H3 pn,PG (iN X NB scope C ex s3 H3 pn) tg g) (ht:∀C ex s3 H3 pn,B3 (iN X NB scope C ex s3 H3 pn) ifs tt) (he:∀C ex s3 H3 pn,PE (iN X NB scope C ex s3 H3 pn) elt te)
  (hs:∀x,foldedSetIterable iter X.env x=pure x:=by intro _;rfl):PE X (.ListComp elt [⟨tg,iter,ifs,0⟩] scope pos) (vJ own ixs wi g tt te):=
 λpins s σ H Q I h=>uk hc S hi hg ht he hs pins s σ H Q I h.out
section
variable {own:Nat}{ixs:List Nat}{g:TG}{tt:TT}{te:TE}{Q:VK}{D:Addr}
def Ea (Pv:Nat->St->Hp->Prop)(h0:Pv 0 (bS own ixs σ) (upd H D (.lst [])))(hl:∀i σ H,i<=xs.length->Pv i σ H->eY K H a xs)
  (hs:∀i x σ H,xs[i]? =some x->Pv i σ H->dX g tt te D x σ H (Pv (i + 1))) (hd:∀σ H,Pv xs.length σ H->(∃acc,H D=some (.lst acc))/\Q (.ref D) H):yZ (zx K a) own ixs g tt te Q D σ H:=zp Pv h0 hl hs hd
def ve {lo:Int}{n:Nat}(Pv:Nat->St->Hp->Prop)(h0:Pv 0 (bS own ixs σ) (upd H D (.lst [])))
  (hs:∀i σ H,i < n->Pv i σ H->dX g tt te D (.int (lo + i)) σ H (Pv (i + 1))) (hd:∀σ H,Pv n σ H->(∃acc,H D=some (.lst acc))/\Q (.ref D) H):yZ (zR lo n) own ixs g tt te Q D σ H:=wW Pv h0 hs hd
end
def vI {i:Nat}{te:TE}{D:Addr}{x:V}{N:St->Hp->Prop}(h:te (σ.set i (some x)) H λv H5=>∃acc,H5 D=some (.lst acc)/\acc.length < sizeLine/\N (σ.set i (some x)) (upd H5 D (.lst (acc ++ [v])))):dX (k6 i) HZ te D x σ H N:=by
 unfold dX k6 HZ
 exact vC h
def Di {i j:Nat}{x y:V}{Q:St->Hp->Prop}(h:eV K H a [x,y])(q:Q ((σ.set i (some x)).set j (some y)) H):Fe K 2 (o4 (k6 i) (o4 (k6 j) Fb)) (.ref a) σ H Q:=⟨a,_,rfl,h,rfl,x,_,rfl,y,_,rfl,rfl,q⟩
def K0 {c A B:Prop}[Decidable c](h:c)(a:A):if c then A else B:=by rw[MA h];exact a
def Lk {c A B:Prop}[Decidable c](h:¬c)(b:B):if c then A else B:=by rw[MF h];exact b
def take_snoc {α:Type}{l:List α}{i:Nat}{x:α}(h:l[i]? =some x):l.take (i + 1)=l.take i ++ [x]:=by
 rw[Ol,h];rfl
def take_all {α:Type}(l:List α):l.take l.length=l:=N8 (My _)
end
def i4 (n:Nat):(OM.bQ n).length=n * n:=by unfold OM.bQ;simp
def Fh {n i:Nat}(h:i < n * n):(OM.bQ n)[i]? =some (((i / n:Nat):Int),((i % n:Nat):Int)):=by
 unfold OM.bQ
 rw[MG,NP h];rfl
def Mb {n:Nat}(h:n<=8):n * n<=64:=N2 h h
section
variable {P:Program}{w:World}{K:Frag}{mg:Str->Option Value}{base:Heap}
def yU (K:Frag):Sp:=λvs H Q _=>∃n:Nat,vs= [.int n]/\1<=n/\n<=8/\∀H' l ws,au H H'->H l=none->H' l=some (.lst ws)->aX K H' ws (OM.bQ n)->Q (.ref l) H'
def Ek:aJ ["many"] ["many"] (ay jC):=⟨rfl,rfl,rfl,by decide +kernel,rfl,by decide +kernel,by decide +kernel⟩
def JV:(["number","many"]:List Str).Nodup:=by decide +kernel
def Bh {f:Addr}{fd:FuncData}(F:Fn K mg "every_pair" jC ["many"] f fd)(B:Bt mg):fW P w K mg base Hj 1 f fd ["many"] (yU K):=by
 refine F.F.ok Ek (λvs H Q E h=>?_) (λcdv A outer s H vs Q E hr h=>?_)
 ·obtain⟨n,rfl,_⟩:=h;rfl
 ·obtain⟨n,rfl,h1,h8,k⟩:=h
  refine⟨_,iI (mQ (sH (NB:=["number","many"]) (own:=1) (ixs:=[0]) rfl (nq (by kernel_rfl)) (kI rfl B.range (aO (qQ kq (pv 0) (pv 0)) bA))
   (λC ex s3 H3 pn=>cV (i:=0) JV rfl (Or.inl rfl) (hf:=Or.inr rfl)) (λC ex s3 H3 pn=>r6)
   (λC ex s3 H3 pn=>wX (aO (qQ lZ (pv 0) (pv 1)) (aO (qQ lI (pv 0) (pv 1)) bA))))),?_⟩
  have hn:=Mb h8
  have e0:((n:Int) * (n:Int))=((n * n:Nat):Int):=by rw[Int.natCast_mul]
  refine wu ⟨_,rfl,_,rfl,_,_,rfl,rfl,.inl ⟨by omega,by omega⟩,_,rfl,by rw[e0];omega,by rw[e0];omega,λD hD=>?_⟩
  rw[e0,M6]
  refine ve (λi σ' H'=>(∃v,σ'= [v,some (.int n)])/\au H H'/\∃vs,H' D=some (.lst vs)/\aX K H' vs ((OM.bQ n).take i)) ⟨⟨none,rfl⟩,(au.refl H).put hD,[],aC,.nil⟩ ?_ ?_
  ·rintro i σ' H' hi ⟨⟨v,rfl⟩,s1,vs,hv,hp⟩
   have hn0:(0:Int) < (n:Int):=by omega
   refine vI ⟨_,rfl,_,rfl,_,_,rfl,rfl,⟨hn0,by omega⟩,_,rfl,_,rfl,_,_,rfl,rfl,hn0,by show 2<=sizeLine;rw[Na];omega,λp hp0=>?_⟩
   have hpD:D≠p:=aL hv hp0
   have hl:=hp.len
   refine⟨vs,by rw[aF hpD];exact hv,?_,⟨_,rfl⟩,?_,vs ++ [.ref p],aC,?_⟩
   ·rw[hl,NN,Na];rw[i4];omega
   ·exact (s1.put (s1.free hp0)).put hD
   ·rw[take_snoc (Fh hi)]
    have g1:h9 H' (upd H' p (.tup [.int ((0 + (i:Int)) / n),.int ((0 + (i:Int)) % n)])):=h9.new hp0
    have g2:∀o,h9 (upd H' p (.tup [.int ((0 + (i:Int)) / n),.int ((0 + (i:Int)) % n)])) (upd (upd H' p (.tup [.int ((0 + (i:Int)) / n),.int ((0 + (i:Int)) % n)])) D o):=λo=>h9.list (by rw[aF hpD];exact hv)
    refine aX.snoc ?_ (hp.grow (g1.trans (g2 _)))
    refine (eV.grow ?_ (g2 _))
    refine .inl (.inl ?_)
    rw[aC,Oh];rfl
  ·rintro σ' H' ⟨_,s1,vs,hv,hp⟩
   refine⟨⟨_,hv⟩,k H' D vs s1 hD hv ?_⟩
   rw[<-i4 n,take_all] at hp
   exact hp
end
end RO
end
namespace RO
open PySem L2
structure TabAt (n:Nat)(M:OM.Tb)(L:Addr)(r:Nat->Addr)(H:Hp):Prop where
 top:H L=some (.lst ((List.range n).map λi=>V.ref (r i)))
 row:∀i,i < n->H (r i)=some (.lst ((List.range n).map λj=>V.bl (M i j)))
 inj:∀i j,i < n->j < n->r i=r j->i=j
 ne:∀i,i < n->r i≠L
def yv {n x:Nat}(h:x < n):ub n (x:Int)=some x:=by
 unfold ub;rw[MA (by omega),MA (by omega)];simp
def A7 {α:Type}{xs:List α}{x:Nat}(h:x < xs.length):jk xs (x:Int)=xs[x]?:=by
 unfold jk;rw[yv h];rfl
def fT {f:Nat->V}{n x:Nat}(h:x < n):jk ((List.range n).map f) (x:Int)=some (f x):=by
 rw[A7 (by simpa using h),MG,NP h];rfl
def qZ {f:Nat->V}{n x:Nat}(h:x < n):ub ((List.range n).map f).length (x:Int)=some x:=by
 rw[MI,Om];exact yv h
def zZ {f:Nat->V}{n y:Nat}{v:V}:((List.range n).map f).set y v=(List.range n).map λj=>if j=y then v else f j:=by
 apply OF
 intro i
 by_cases hi:i < n
 ·by_cases e:y=i
  ·subst e;simp[List.getElem?_set,hi]
  ·have e':¬i=y:=λz=>e z.symm
   simp[List.getElem?_set,hi,e,e']
 ·rw[NS (by simp;omega),NS (by simp;omega)]
section
variable {n:Nat}{M:OM.Tb}{L:Addr}{r:Nat->Addr}{H H':Hp}
def TabAt.set (T:TabAt n M L r H){x y:Nat}(hx:x < n):TabAt n (M.set x y) L r (upd H (r x) (.lst (((List.range n).map λj=>V.bl (M x j)).set y (.bl true)))):=by
 refine⟨by rw[aF (T.ne x hx).symm];exact T.top,λi hi=>?_,T.inj,T.ne⟩
 by_cases e:i=x
 ·subst e
  rw[aC,zZ]
  refine congrArg _ (congrArg _ (NH λj _=>?_))
  unfold OM.Tb.set
  by_cases c:j=y
  ·simp[c]
  ·simp[c]
 ·rw[aF (λz=>e (T.inj i x hi hx z)),T.row i hi]
  refine congrArg _ (congrArg _ (NH λj _=>?_))
  unfold OM.Tb.set;simp[e]
def TabAt.same (T:TabAt n M L r H)(s:au H H'):TabAt n M L r H':=⟨s _ _ T.top,λi hi=>s _ _ (T.row i hi),T.inj,T.ne⟩
end
def sJ {n:Nat}{ps:List (Int×Int)}(w:OM.Wn n ps){p:Int×Int}(h:p∈ps):∃u v:Nat,p=((u:Int),(v:Int))/\u < n/\v < n:=by
 obtain⟨x,y⟩:=p
 have q:=w _ h
 simp only at q
 exact⟨x.toNat,y.toNat,by rw[Int.toNat_of_nonneg q.1.1,Int.toNat_of_nonneg q.2.1],by omega,by omega⟩
def iC {M0 M:OM.Tb}{m:Nat}{D D':Nat->Nat->Prop}(P:OM.Phase M0 M m D)(h:∀a b,D a b↔D' a b):OM.Phase M0 M m D':=λa b=>by rw[P a b,h a b]
def kL {l:List (Int×Int)}{u v a b:Nat}:(((a:Int),(b:Int))∈l\/(a=u/\b=v))↔((a:Int),(b:Int))∈l ++ [((u:Int),(v:Int))]:=by
 rw[M1,MZ,Prod.mk.injEq]
 constructor
 ·rintro (h | ⟨h1,h2⟩)
  ·exact .inl h
  ·exact .inr ⟨by omega,by omega⟩
 ·rintro (h | ⟨h1,h2⟩)
  ·exact .inl h
  ·exact .inr ⟨by omega,by omega⟩
def EF {M:OM.Tb}{u v a b:Nat}:M.set u v a b=true↔M a b=true\/(a=u/\b=v):=by
 unfold OM.Tb.set
 by_cases c:a=u/\b=v
 ·simp[c]
 ·rw[MF c];exact⟨.inl,λh=>h.resolve_right c⟩
def Kl (n:Nat)(x:V):(List.replicate n [x]).flatten=(List.range n).map λ_=>x:=by
 rw[List.flatten_replicate_singleton,List.map_const',Om]
section
variable {P:Program}{w:World}{K:Frag}{mg:Str->Option Value}{base:Heap}
def Ba (K:Frag):Sp:=λvs H Q _=>∃(n:Nat) (a:Addr) (xs:List V) (ps:List (Int×Int)),vs= [.int n,.ref a]/\1<=n/\n<=8/\(eY K H a xs\/eV K H a xs)/\aX K H xs ps/\OM.Wn n ps/\
 ∀H' t ws,au H H'->H t=none->H' t=some (.tup ws)->aX K H' ws (OM.cg n (OM.Tr (OM.Mem ps)))->Q (.ref t) H'
def gi:aJ ["many","pairs","corners","leads","a","b","middle"] ["many","pairs"] (ay mw):=⟨rfl,rfl,rfl,by decide +kernel,rfl,by decide +kernel,by decide +kernel⟩
def Jk:(["start","many"]:List Str).Nodup:=by decide +kernel
def Iq:(["a","b","leads"]:List Str).Nodup:=by decide +kernel
set_option maxHeartbeats 1000000 in
theorem zw {f g:Addr}{fd gd:FuncData}(F:Fn K mg "closed" mw ["many","pairs"] f fd)(G:Fn K mg "every_pair" jC ["many"] g gd)(GE:fW P w K mg base Hj 1 g gd ["many"] (yU K))(B:Bt mg):fW P w K mg base Hj 2 f fd ["many","pairs"] (Ba K):=by
 refine F.F.ok gi (λvs H Q E h=>?_) (λcdv A outer s H vs Q E hr h=>?_)
 ·obtain⟨n,a,xs,ps,rfl,_⟩:=h;rfl
 ·obtain⟨n,a,xs,ps,rfl,h1,h8,hq,hp,wn,k⟩:=h
  refine⟨_,hZ (pC (i:=2) gi.nd rfl (Or.inl rfl) (oy GE hr rfl G.mg G.F.kp G.b .nil Jh (aO (pv 0) bA)))
   (hZ (pC (i:=3) gi.nd rfl (Or.inr rfl) (sH (NB:=["start","many"]) (own:=1) (ixs:=[0]) rfl (nq (by kernel_rfl)) (kI rfl B.range (aO (pv 0) bA))
    (λC ex s3 H3 pn=>cV (i:=0) Jk rfl (Or.inl rfl) (hf:=Or.inr rfl)) (λC ex s3 H3 pn=>r6) (λC ex s3 H3 pn=>qQ BB (BP (aO yg bA)) (pv 1))))
   (hZ (tO PassesOwn.never rfl (HM (pv 1)) (o7 rfl (dF (cV (i:=4) gi.nd rfl (Or.inl rfl)) (dF (cV (i:=5) gi.nd rfl (Or.inl rfl)) my)))
    (iI (mR yg (sk (k7 gu (pv 3) (pv 4) (λ_ _=>rfl)) (pv 5) set_list))))
   (hZ (tO PassesOwn.never rfl (kI rfl B.range (aO (pv 0) bA)) (cV (i:=6) gi.nd rfl (Or.inl rfl))
    (iI (tO PassesOwn.never rfl (za (pv 2)) (o7 rfl (dF (cV (i:=4) gi.nd rfl (Or.inl rfl)) (dF (cV (i:=5) gi.nd rfl (Or.inl rfl)) my)))
     (iI (GH (PW.pt (BK (wK (k7 gu (k7 gu (pv 3) (pv 4) (λ_ _=>rfl)) (pv 6) (λ_ _=>rfl))) (yn (wK (k7 gu (k7 gu (pv 3) (pv 6) (λ_ _=>rfl)) (pv 5) (λ_ _=>rfl))))))
      (iI (mR yg (sk (k7 gu (pv 3) (pv 4) (λ_ _=>rfl)) (pv 5) set_list))) yC)))))
   (iI (mQ (gK dH rfl B.tuple (by decide +kernel) (aO (sH (NB:=["a","b","leads"]) (own:=2) (ixs:=[3]) rfl (nq (by kernel_rfl)) (za (pv 2))
    (λC ex s3 H3 pn=>Iy K 0 1 Iq rfl rfl rfl rfl rfl rfl)
    (λC ex s3 H3 pn=>yt (wK (k7 (L6 K) (k7 (L6 K) (pv 2) (pv 0) (λ_ _=>rfl)) (pv 1) (λ_ _=>rfl)))) (λC ex s3 H3 pn=>wX (aO (pv 0) (aO (pv 1) bA)))) bA))))))),?_⟩
  have hn:=Mb h8
  have hn0:(0:Int)<=(n:Int):=by omega
  refine⟨_,rfl,n,rfl,h1,h8,λH1 c ws s1 hc0 hc hw=>?_⟩
  have hwl:ws.length=n * n:=by rw[hw.len,i4]
  have gw:OM.Wn n (OM.bQ n):=λp hp=>OM.bC.mp hp
  refine wu ?_
  refine⟨_,rfl,n,rfl,by omega,by omega,λD hD=>?_⟩
  rw[M6]
  refine ve (λi σ' H'=>(∃v,σ'= [v,some (.int n)])/\au H1 H'/\∃r:Nat->Addr,H' D=some (.lst ((List.range i).map λk=>V.ref (r k)))/\
   (∀k,k < i->H' (r k)=some (.lst ((List.range n).map λ_=>V.bl false))/\H1 (r k)=none/\r k≠D)/\∀j k,j < i->k < i->r j=r k->j=k)
   ?_ ?_ ?_
  ·exact⟨⟨none,rfl⟩,(au.refl H1).put hD,λ_=>0,aC,λk hk=>absurd hk (Nat.not_lt_zero _),λj k hj=>absurd hj (Nat.not_lt_zero _)⟩
  ·rintro i σ' H' hi ⟨⟨v,rfl⟩,s2,r,hr0,hr1,hr2⟩
   refine vI ⟨by show 1<=sizeLine;rw[Na];omega,λp hp0=>⟨_,rfl,p,n,[.bl false],rfl,rfl,aC,by omega,by omega,by show 1 * (n:Int).toNat<=sizeLine;rw[Na];omega,λq hq0=>?_⟩⟩
   have hqp:q≠p:=by intro e;subst e;rw[aC] at hq0;cases hq0
   have hq1:H' q=none:=by rw[aF hqp] at hq0;exact hq0
   have hDp:D≠p:=aL hr0 hp0
   have hDq:D≠q:=aL hr0 hq1
   rw[M6,Kl]
   refine⟨_,by rw[aF hDq,aF hDp];exact hr0,by rw[MI,Om,Na];omega,⟨_,rfl⟩,((s2.put (s2.free hp0)).put (s2.free hq1)).put hD,λk=>if k=i then q else r k,?_,λk hk=>?_,λj k hj hk e=>?_⟩
   ·have e:(List.range i).map (λk=>V.ref (r k))=(List.range i).map (λk=>V.ref (if k=i then q else r k)):=NH λk hk=>by
     have:=MX.mp hk
     rw[MF (by omega)]
    rw[aC,List.range_succ,NM,e]
    simp
   ·dsimp only
    by_cases e:k=i
    ·rw[MA e]
     exact⟨by rw[aF hDq.symm,aC],s2.free hq1,hDq.symm⟩
    ·rw[MF e]
     obtain⟨a1,a2,a3⟩:=hr1 k (by omega)
     exact⟨by rw[aF a3,aF (aL a1 hq1),aF (aL a1 hp0)];exact a1,a2,a3⟩
   ·dsimp only at e
    by_cases ej:j=i
    ·by_cases ek:k=i
     ·omega
     ·rw[MA ej,MF ek] at e
      exact absurd e.symm (aL (hr1 k (by omega)).1 hq1)
    ·by_cases ek:k=i
     ·rw[MF ej,MA ek] at e
      exact absurd e (aL (hr1 j (by omega)).1 hq1)
     ·rw[MF ej,MF ek] at e
      exact hr2 j k (by omega) (by omega) e
  rintro σ2 H2 ⟨_,s2,r,hr0,hr1,hr2⟩
  refine⟨⟨_,hr0⟩,?_⟩
  have sep:∀i,i < n->H1 (r i)=none:=λi hi=>(hr1 i hi).2.1
  have T0:TabAt n (λ_ _=>false) D r H2:=⟨hr0,λi hi=>(hr1 i hi).1,hr2,λi hi=>(hr1 i hi).2.2⟩
  refine⟨_,rfl,a,xs,rfl,D9 (H1:=H1) (EK s1 hq) (λi σ' H'=>(∃x y,σ'= [some (.int n),some (.ref a),some (.ref c),some (.ref D),x,y,none])/\au H1 H'/\∃M,TabAt n M D r H'/\∀u v:Nat,M u v=true↔((u:Int),(v:Int))∈ps.take i)
   ⟨⟨none,none,rfl⟩,s2,_,T0,λu v=>by simp⟩ (λi σ' H' q=>q.2.1) ?_ ?_⟩
  ·rintro i x σ' H' hx ⟨⟨_,_,rfl⟩,s3,M,T,hM⟩
   obtain⟨p,hpi,b,rfl,hb⟩:=(hp.same (s1.trans s3)).at hx
   obtain⟨u,v,rfl,hu,hv⟩:=sJ wn (MO hpi)
   refine Di hb ?_
   refine⟨_,rfl,_,rfl,D,_,u,_,rfl,rfl,.inl (.inl T.top),fT hu,_,rfl,r u,_,v,v,rfl,rfl,T.row u hu,qZ hv,⟨_,_,rfl⟩,s3.put (sep u hu),_,T.set hu,λx y=>?_⟩
   rw[take_snoc hpi,<-kL,EF,hM]
  rintro σ3 H3 ⟨⟨x3,y3,rfl⟩,s3,M3,T3,hM3⟩
  rw[hp.len,take_all] at hM3
  refine⟨_,rfl,n,rfl,by omega,by omega,?_⟩
  rw[M6]
  refine AR (λm σ' H'=>(∃x y z,σ'= [some (.int n),some (.ref a),some (.ref c),some (.ref D),x,y,z])/\au H1 H'/\∃M,TabAt n M D r H'/\OM.Tab n ps M/\OM.EH M m)
   ⟨⟨_,_,_,rfl⟩,s3,M3,T3,⟨λa b h=>by have:=wn _ ((hM3 a b).mp h);simp only at this;omega,λa b h=>(hM3 a b).mpr h,λa b h=>.one ((hM3 a b).mp h)⟩,λk a b hk=>absurd hk (Nat.not_lt_zero _)⟩ ?_ ?_
  ·rintro m σ' H' hm ⟨⟨_,_,_,rfl⟩,s4,M,T,TT,Th⟩
   rw[Oh]
   refine⟨_,rfl,c,rfl,⟨ws,.inl (.inl (s4 _ _ hc))⟩,vS (xs:=ws) (λi σ' H'=>(∃x y,σ'= [some (.int n),some (.ref a),some (.ref c),some (.ref D),x,y,some (.int m)])/\au H1 H'/\∃M',TabAt n M' D r H'/\OM.Phase M M' m λu v=>((u:Int),(v:Int))∈(OM.bQ n).take i)
    ⟨⟨_,_,rfl⟩,s4,M,T,iC (OM.Phase.start M m) λa b=>by simp⟩ (λi σ' H' _ q=>.inl (.inl (q.2.1 _ _ hc))) ?_ ?_⟩
   ·rintro i x σ' H' hx ⟨⟨_,_,rfl⟩,s5,M',T',Ph⟩
    obtain⟨p,hpi,b,rfl,hb⟩:=(hw.same s5).at hx
    obtain⟨u,v,rfl,hu,hv⟩:=sJ gw (MO hpi)
    refine Di hb ?_
    have st:=Ph.step u v
    refine⟨_,rfl,_,rfl,D,_,u,_,rfl,rfl,.inl (.inl T'.top),fT hu,_,rfl,r u,_,m,_,rfl,rfl,.inl (.inl (T'.row u hu)),fT hm,_,rfl,?_⟩
    by_cases c1:M' u m=true
    ·refine K0 c1 ?_
     refine⟨_,rfl,_,rfl,D,_,m,_,rfl,rfl,.inl (.inl T'.top),fT hm,_,rfl,r m,_,v,_,rfl,rfl,.inl (.inl (T'.row m hm)),fT hv,_,rfl,?_⟩
     by_cases c2:M' m v=true
     ·refine K0 c2 ?_
      rw[MA ⟨c1,c2⟩] at st
      refine⟨_,rfl,_,rfl,D,_,u,_,rfl,rfl,.inl (.inl T'.top),fT hu,_,rfl,r u,_,v,v,rfl,rfl,T'.row u hu,qZ hv,⟨_,_,rfl⟩,s5.put (sep u hu),_,T'.set hu,iC st λa b=>?_⟩
      rw[take_snoc hpi];exact kL
     ·refine Lk c2 ?_
      rw[MF λz=>c2 z.2] at st
      refine⟨⟨_,_,rfl⟩,s5,_,T',iC st λa b=>?_⟩
      rw[take_snoc hpi];exact kL
    ·refine Lk c1 ?_
     rw[MF λz=>c1 z.1] at st
     refine uV ⟨⟨_,_,rfl⟩,s5,_,T',iC st λa b=>?_⟩
     rw[take_snoc hpi];exact kL
   ·rintro σ' H' ⟨⟨_,_,rfl⟩,s5,M',T',Ph⟩
    rw[hw.len,take_all] at Ph
    have dn:=Ph.done (n:=n) (λa b ha hb=>OM.bC.mpr ⟨⟨by simp,by simp;omega⟩,by simp,by simp;omega⟩) TT.inn Th
    exact⟨⟨_,_,_,rfl⟩,s5,M',T',TT.phase Ph,dn.1⟩
  rintro σ4 H4 ⟨⟨x4,y4,z4,rfl⟩,s4,M,T,TT,Th⟩
  refine wu ⟨_,rfl,c,rfl,⟨ws,.inl (.inl (s4 _ _ hc))⟩,λD' hD'=>Ea (xs:=ws) (λi σ' H'=>(∃x y,σ'= [x,y,some (.ref D)])/\au H4 H'/\∃vs,H' D'=some (.lst vs)/\aX K H' vs (((OM.bQ n).take i).filter λp=>M p.1.toNat p.2.toNat))
   ⟨⟨_,_,rfl⟩,(au.refl H4).put hD',[],aC,.nil⟩ (λi σ' H' _ q=>.inl (.inl (q.2.1 _ _ (s4 _ _ hc)))) ?_ ?_⟩
  ·rintro i x σ' H' hx ⟨⟨_,_,rfl⟩,s5,vs,hv,hpv⟩
   obtain⟨p,hpi,b,rfl,hb⟩:=(hw.same (s4.trans s5)).at hx
   obtain⟨u,v,rfl,hu,hv'⟩:=sJ gw (MO hpi)
   refine Di hb ?_
   have T':=T.same s5
   refine⟨_,rfl,_,rfl,D,_,u,_,rfl,rfl,.inl (.inl T'.top),fT hu,_,rfl,r u,_,v,_,rfl,rfl,.inl (.inl (T'.row u hu)),fT hv',_,rfl,?_⟩
   by_cases c1:M u v=true
   ·refine K0 c1 ?_
    refine⟨_,rfl,_,rfl,by show 2<=sizeLine;rw[Na];omega,λp hp0=>?_⟩
    have hpD:D'≠p:=aL hv hp0
    refine⟨vs,by rw[aF hpD];exact hv,?_,⟨_,_,rfl⟩,(s5.put (s5.free hp0)).put hD',_,aC,?_⟩
    ·rw[hpv.len]
     refine Nat.lt_of_le_of_lt (OC ..) ?_
     rw[NN,i4,Na];omega
    ·rw[take_snoc hpi,List.filter_append,List.filter_cons_of_pos (by simpa using c1),List.filter_nil]
     have g1:h9 H' (upd H' p (.tup [.int u,.int v])):=h9.new hp0
     have g2:∀o,h9 (upd H' p (.tup [.int u,.int v])) (upd (upd H' p (.tup [.int u,.int v])) D' o):=λo=>h9.list (by rw[aF hpD];exact hv)
     refine aX.snoc ?_ (hpv.grow (g1.trans (g2 _)))
     exact eV.grow (.inl (.inl aC)) (g2 _)
   ·refine Lk c1 ?_
    refine⟨⟨_,_,rfl⟩,s5,vs,hv,?_⟩
    rw[take_snoc hpi,List.filter_append,List.filter_cons_of_neg (by simpa using c1),List.filter_nil,Oc]
    exact hpv
  ·rintro σ' H' ⟨_,s5,vs,hv,hpv⟩
   rw[hw.len,take_all] at hpv
   refine⟨⟨_,hv⟩,D',vs,rfl,.inl ⟨.inl (.inl hv),λt ht=>?_⟩⟩
   have sA:au H H':=(s1.trans s4).trans s5
   refine k _ t vs (sA.put (sA.free ht)) (sA.free ht) aC ?_
   have e:((OM.bQ n).filter λp=>M p.1.toNat p.2.toNat)=OM.cg n (OM.Tr (OM.Mem ps)):=by
    unfold OM.cg
    refine List.filter_congr λp hp=>?_
    obtain⟨u,v,rfl,hu,hv⟩:=sJ gw hp
    have:=TT.all wn Th u v
    simp only[M6]
    rw[Nx,this]
    simp
   rw[e] at hpv
   exact hpv.grow (h9.new ht)
end
end RO
namespace RO
open PySem L2 RM
section
variable {P:Program}{w:World}{K:Frag}{mg:Str->Option Value}{base:Heap}{ca:Str->Addr}
def Mr {k:Nat}{f:Addr}{fd:FuncData}{ps:List Str}{sp:Sp}(F:fW P w K mg base Hj k f fd ps sp):fW P w K mg base (nR P w) k f fd ps sp:=
 ⟨F.len,λA outer s H args us vs Q E hr he hb hv hs=>OO (F.run A outer s H args us vs Q E hr he hb hv hs) λr s' h=>by
  cases r with
  |ok x=>cases x <;> exact h
  |error e=>exact h.elim⟩
def wb {G H:Hp}(s:au G H){ws:List V}{ps:List Pr}(h:aX K H ws ps):aX K (ly G H) ws ps:=Paired.mapP h λv p ⟨a,e,q⟩=>⟨a,e,lP s q⟩
def p6 {ds:List D}(h:dm ds≠.bad):∃(n:Nat) (d:D) (ps:List Pr),ds= [.int n,d]/\ll d=some (ps.map aK)/\1<=n/\n<=8/\OM.Wn n ps/\dm ds=.ok (.tuple ((OM.cg n (OM.Tr (OM.Mem ps))).map aK)) false:=by
 unfold dm at h
 split at h
 ·rename_i n d
  cases q:ll d with
  |none=>rw[q] at h;exact absurd rfl h
  |some es=>
   rw[q] at h
   dsimp only at h
   cases q2:fk es with
   |none=>rw[q2] at h;exact absurd rfl h
   |some ps=>
    rw[q2] at h
    dsimp only at h
    by_cases c:1<=n/\n<=8/\OM.Wn n.toNat ps
    ·have e:((n.toNat:Nat):Int)=n:=by omega
     refine⟨n.toNat,d,ps,by rw[e],by rw[q,ji q2],by omega,by omega,c.2.2,?_⟩
     unfold dm
     dsimp only
     rw[q]
     dsimp only
     rw[q2]
     dsimp only
     rw[MA c]
    ·rw[MF c] at h;exact absurd rfl h
 ·exact absurd rfl h
def xI {f g:Addr}{fd gd:FuncData}(F:jl K mg "closed" mw ["many","pairs"] f fd)(E:jl K mg "every_pair" jC ["many"] g gd)(B:jr mg):bX P w K mg base ca "closed" ["many","pairs"] 3 dm:=by
 refine⟨⟨f,fd,F.mg,F.F.kp,F.b,((Mr (zw F E (Bh E B) B)).mono (by decide)).imp ?_⟩,λds h=>?_⟩
 ·rintro vs H Q X ⟨G,ds,s,hl,r,h⟩
  have hb:dm ds≠.bad:=λz=>by rw[z] at h;exact h
  obtain⟨n,d,ps,rfl,hd,h1,h8,wn,e⟩:=p6 hb
  rw[e] at h
  cases r with
  |cons r1 r=>
   cases r with
   |cons r2 r=>
    cases r
    cases r1
    obtain⟨a,xs,rfl,hq,hr⟩:=(kZ.seq (B:=none) (G:=G) (H:=G) (.inl r2) hd (au.refl _))
    refine⟨n,a,xs,ps,rfl,h1,h8,hq.elim (λq=>.inl (s.seq q)) (λq=>.inr (q.grow s.grow)),(hr.pairs).grow s.grow,wn,λH' t ws hh ht ht' hp=>?_⟩
    have s2:=s.trans hh
    refine h (.ref t) (ly G H') H' hh ra (u4 s2) (λb m hb=>by rw[yQ hh m];exact hb) ?_
    exact .tup (lP s2 (.inl (.inl ht'))) (aX.rps (wb s2 hp))
 ·obtain⟨n,d,ps,rfl,_⟩:=p6 h
  rfl
end
end RO
namespace HD
open PySem PySem.W
noncomputable abbrev BD:=@PySem.W.Fast.tw10156331382660048174
noncomputable abbrev HR:=@PySem.W.Fast.tw11892475500146522536
noncomputable abbrev LP:=@PySem.W.Fast.tw6613529449190102663
noncomputable abbrev GI:=@PySem.W.Fast.tw14364793385576792824
noncomputable abbrev Gv:=@PySem.W.Fast.tw17154629097778926822
noncomputable abbrev Dm:=@PySem.W.Fast.tw12822647523644345616
noncomputable def DI (p:Program):Thread:=
 ⟨do
  let code <-Gv p.main
  let frame <-Dm code mainNs mainNs
  let _ <-run (.body (behindTheImports p) {scope:=p.main.scope,locals:=mainNs,globals:=mainNs,cells:=[],code,frame:=some frame})
  ret .none,
  .builtin "claim.caller" {},default,[]⟩
def Bm (p:Program):topStub p=DI p:=by
 unfold topStub DI Gv Dm
 rw[<-PySem.W.Fast.te17154629097778926822,<-PySem.W.Fast.te12822647523644345616]
noncomputable def n9 (p:Program)(w:World)(n₀:Nat)(ann:Option Value):Nat->SharedT->Thread->Option SharedT
 | 0,_,_=>none
 |n + 1,s,t=>match through t with
  |true=>some s
  |false=>match LP n₀ ann t with
   |false=>none
   |true=>match BD (HR GI) p w s t with
    |some (s',t')=>n9 p w n₀ ann n s' t'
    |none=>none
theorem rF {p:Program}{w:World}{n₀:Nat}{ann:Option Value}:∀{n:Nat} {s s':SharedT} {t:Thread},n9 p w n₀ ann n s t=some s'->topRun treeTable p w n₀ ann n s.abs t=some s'.abs
 | 0,_,_,_,h=>by cases h
 |n + 1,s,s',t,h=>by
  unfold n9 at h
  unfold topRun
  cases ht:through t with
  |true=>rw[ht] at h;cases h;rfl
  |false=>
   rw[ht] at h
   have hq:LP n₀ ann t=stepOk n₀ ann t:=by unfold LP;rw[<-PySem.W.Fast.te6613529449190102663]
   dsimp only at h
   rw[hq] at h
   cases hk:stepOk n₀ ann t with
   |false=>rw[hk] at h;cases h
   |true=>
    rw[hk] at h
    have hq:BD (HR GI) p w s t=stepT (denote treeTable) p w s t:=by unfold BD HR GI;rw[<-PySem.W.Fast.te10156331382660048174,<-PySem.W.Fast.te11892475500146522536,<-PySem.W.Fast.te14364793385576792824]
    dsimp only at h
    rw[hq] at h
    cases hs:stepT (denote treeTable) p w s t with
    |none=>rw[hs] at h;cases h
    |some r=>obtain⟨s₂,t₂⟩:=r;rw[hs] at h;rw[stepT_spec hs];exact rF h
def treeOf (l:List Obj):BT:=(l.foldl (λ(x:BT×Nat) o=>(x.1.ins x.2 o,x.2 + 1)) (.nil,0)).1
noncomputable def Bj (P:Params):BT:=treeOf (boot_heap P).objs.toList
abbrev vf:Nat:=11
abbrev CV:Life:={}
def boot_abs (P:Params):absHeap (Bj P) vf CV=boot_heap P:=by kernel_rfl
def zH (w:World):((boot_heap w.params).isNs mainGlobals && (Array.mk ([]:List GenState)).size == 0,(boot_heap w.params).objs.size,(boot_heap w.params).nsMap mainGlobals "__annotations__")=(true,vf,some (.ref 6)):=by kernel_rfl
noncomputable def Ce (w:World)(os:OsState):SharedT:=⟨Bj w.params,vf,CV,Array.mk [],boot_drawn,boot_toks,os⟩
noncomputable def GG (p:Program)(w:World)(s:Shared):Bool:=staticsOk (importedModules p.main.body) (boot_heap w.params) s.heap && namesBound p s.heap && gensDone s && laidKept (boot_heap w.params) s.heap
def Fu {p q:Program}{loose:List Str}{Xt:Shared->Bool}{α:Type}{Yf:Shared->α}{Ya:World->α}{N:Nat}{g0:Bool}
  (e:opening p=plainProg p.main.scope.names) (hN:Nat.ble 600 N=true) (f:∀s,fenceModules? p s=some s)
  (run:∀(w:World) (os:OsState),(n9 p w vf (some (.ref 6)) N (Ce w os) (DI p)).map (λs=>(GG p w s.abs,openSeen q loose (importedModules p.main.body) Xt g0 s.abs,Yf s.abs))=some (true,openGood q loose,Ya w)):LeftO p q loose Xt Yf Ya N g0:=λw=>by
 obtain⟨⟨h,gs,d,k,os⟩,e,e'⟩:=Option.map_eq_some_iff.mp (boot_open e hN f w)
 obtain⟨rfl,rfl,rfl,rfl⟩:h=boot_heap w.params/\gs=Array.mk []/\d=boot_drawn/\k=boot_toks:=by simpa using e'
 obtain⟨z1,z2,z3⟩:_/\_/\_:=by simpa only [Prod.mk.injEq] using zH w
 obtain⟨s',r,ls⟩:=Option.map_eq_some_iff.mp (run w os)
 obtain⟨l1,l2,l3⟩:_/\_/\_:=by simpa only [Prod.mk.injEq] using ls
 have r:=rF r
 have ha:(Ce w os).abs=⟨boot_heap w.params,Array.mk [],boot_drawn,boot_toks,os⟩:=by
  show Shared.mk (absHeap (Bj w.params) vf CV) _ _ _ _=_
  rw[boot_abs]
  rfl
 rw[ha,<-Bm] at r
 have t:topFrom treeTable p w N ⟨boot_heap w.params,Array.mk [],boot_drawn,boot_toks,os⟩=some s'.abs:=by
  unfold topFrom
  dsimp only
  rw[z1,z2,z3,r]
  show (match GG p w s'.abs with |true=>_ |false=>_)=_
  rw[l1]
 unfold openEnds
 rw[e]
 show (topFrom treeTable p w N _).map _=_
 rw[t]
 exact congrArg some (Prod.ext l2 l3)
end HD
section
namespace RO
open PySem L2 RM
def yV (K:Frag):Sp:=λvs H Q _=>∃(a:Addr) (ns:List Int),vs= [.ref a]/\eY K H a (ns.map V.int)/\∀H',au H H'->Q (.bl true) H'
def Hi {K:Frag}{ca:Str->Addr}(vs:List V)(H:Hp)(Q:VK)(E:XK)(h:yV K vs H Q E):DW K ca 1 HI vs H Q E:=by
 obtain⟨a,ns,rfl,hS,q⟩:=h
 refine⟨H,[dg ns],au.refl _,rfl,.cons (.scr hS) .nil,?_⟩
 rw[Jb]
 intro v G' H' s1 s2 s3 s4 fv
 have fv:Rp K G' v (.bool true):=fv
 cases fv
 exact q H' s1
def wj:bc "is_whole" RQ.jx ["thing"]:=λ_ _ _ _ _ _=>Az λ_=>rfl
def wV:bc "is_below" RQ.jm ["thing","bound"]:=λ_ _ _ _ _ _=>ln2 λ_ _=>rfl
def zg:bc "is_many" RQ.kz ["thing"]:=λ_ _ _ _ _ _=>Az λ_=>rfl
def Af:bc "is_pair" RQ.kM ["thing","many"]:=λ_ _ _ _ _ _=>ln2 λ_ _=>rfl
def Ar:bc "is_line" RQ.kA ["thing","many"]:=λ_ _ _ _ _ _=>ln2 λ_ _=>rfl
def sr:bc "every_pair" RQ.eO ["many"]:=λ_ _ _ _ _ _=>Az λ_=>rfl
def DM:bc "closed" mw ["many","pairs"]:=λ_ _ _ _ _ _=>ln2 λ_ _=>rfl
def wg:bc "has_ring" RQ.jQ ["pairs"]:=λ_ _ _ _ _ _=>Az λ_=>rfl
def wN:bc "is_order" RQ.jG ["thing"]:=λ_ _ _ _ _ _=>Az λ_=>rfl
def rV:bc "need_order" RQ.gz ["thing"]:=λ_ _ _ _ _ _=>Az λ_=>rfl
def Dk:bc "turned" RQ.l8 ["order"]:=λ_ _ _ _ _ _=>Az λ_=>rfl
def Dt:bc "places" RQ.mF ["row"]:=λ_ _ _ _ _ _=>Az λ_=>rfl
def qI:bc "keeps_order" RQ.fP ["thing","order"]:=λ_ _ _ _ _ _=>ln2 λ_ _=>rfl
def C1:bc "is_row" RQ.l7 ["thing","order"]:=λ_ _ _ _ _ _=>ln2 λ_ _=>rfl
def se:bc "with_thing" RQ.gF ["placed","thing"]:=λ_ _ _ _ _ _=>ln2 λ_ _=>rfl
def qz:bc "free_things" RQ.fN ["masks","placed"]:=λ_ _ _ _ _ _=>ln2 λ_ _=>rfl
def zj:bc "ways_on" RQ.kJ ["masks"]:=λ_ _ _ _ _ _=>Az λ_=>rfl
def qA:bc "masks_ahead" RQ.fQ ["order"]:=λ_ _ _ _ _ _=>Az λ_=>rfl
def uv:bc "rows_many" RQ.iz ["order"]:=λ_ _ _ _ _ _=>Az λ_=>rfl
def Bu:bc "choose" RQ.mB ["masks","ways","placed","left"]:=λ_ _ _ _ _ _=>Mn λ_ _ _ _=>rfl
def Ac:bc "nth_row" RQ.kG ["order","number"]:=λ_ _ _ _ _ _=>ln2 λ_ _=>rfl
def AF:bc "rank_of" RQ.kH ["order","row"]:=λ_ _ _ _ _ _=>ln2 λ_ _=>rfl
def oE:bc "stands_ahead" RQ.eG ["tables","a","b"]:=λ_ _ _ _ _ _=>Mq λ_ _ _=>rfl
def pX:bc "shared_pairs" RQ.dW ["many","rows"]:=λ_ _ _ _ _ _=>ln2 λ_ _=>rfl
def zN:bc "told_by" RQ.kx ["many","rows"]:=λ_ _ _ _ _ _=>ln2 λ_ _=>rfl
def wq:bc "are_rows" RQ.jP ["thing","order"]:=λ_ _ _ _ _ _=>ln2 λ_ _=>rfl
def HF:bc "tell" RQ.sZ ["thing","order"]:=λ_ _ _ _ _ _=>ln2 λ_ _=>rfl
def tJ:bc "first_left" RQ.gy ["order","rows"]:=λ_ _ _ _ _ _=>ln2 λ_ _=>rfl
def uZ:bc "_law_cell" RQ.iJ ["script","k"]:=λ_ _ _ _ _ _=>ln2 λ_ _=>rfl
def xA:bc "_law_mix" RQ.fC ["cell","k"]:=λ_ _ _ _ _ _=>ln2 λ_ _=>rfl
def wY:bc "_law_box" RQ.jq ["script","k"]:=λ_ _ _ _ _ _=>ln2 λ_ _=>rfl
def vA:bc "_law_take" RQ.iu ["box","many"]:=λ_ _ _ _ _ _=>ln2 λ_ _=>rfl
def n0:bc "_law_mixed_up" RQ.dI ["box","some"]:=λ_ _ _ _ _ _=>ln2 λ_ _=>rfl
def qm:bc "_law_closed" RQ.fO ["pairs"]:=λ_ _ _ _ _ _=>Az λ_=>rfl
def tP:bc "_law_order" RQ.gJ ["box","most"]:=λ_ _ _ _ _ _=>ln2 λ_ _=>rfl
def all_mk {l:PySem.W.OpenLaw}{w:World}{K:Frag}{h:Heap}{mg:Str->Option Value}{fa f36 x0 x1 x2 x3 x4:Addr}(X:K.In h)(G:h.Ns mainGlobals mg)(hfa:mg "law"=some (.ref fa))
  {od36 an36:Option Addr} {sl36:Array (Option Value)} {oc36 kV36 dc36 pm36 cd36 ct36:Value} {tMOST_THINGS:Tok}
  (F1:Fo K mg "is_whole" RQ.jx ["thing"])
  (F2:Fo K mg "is_below" RQ.jm ["thing","bound"])
  (F3:Fo K mg "is_many" RQ.kz ["thing"])
  (F4:Fo K mg "is_pair" RQ.kM ["thing","many"])
  (F5:Fo K mg "is_line" RQ.kA ["thing","many"])
  (F6:Fo K mg "every_pair" RQ.eO ["many"])
  (F7:Fo K mg "closed" mw ["many","pairs"])
  (F8:Fo K mg "has_ring" RQ.jQ ["pairs"])
  (F9:Fo K mg "is_order" RQ.jG ["thing"])
  (F10:Fo K mg "need_order" RQ.gz ["thing"])
  (F11:Fo K mg "turned" RQ.l8 ["order"])
  (F12:Fo K mg "places" RQ.mF ["row"])
  (F13:Fo K mg "keeps_order" RQ.fP ["thing","order"])
  (F14:Fo K mg "is_row" RQ.l7 ["thing","order"])
  (F15:Fo K mg "with_thing" RQ.gF ["placed","thing"])
  (F16:Fo K mg "free_things" RQ.fN ["masks","placed"])
  (F17:Fo K mg "ways_on" RQ.kJ ["masks"])
  (F18:Fo K mg "masks_ahead" RQ.fQ ["order"])
  (F19:Fo K mg "rows_many" RQ.iz ["order"])
  (F20:Fo K mg "choose" RQ.mB ["masks","ways","placed","left"])
  (F21:Fo K mg "nth_row" RQ.kG ["order","number"])
  (F22:Fo K mg "rank_of" RQ.kH ["order","row"])
  (F23:Fo K mg "stands_ahead" RQ.eG ["tables","a","b"])
  (F24:Fo K mg "shared_pairs" RQ.dW ["many","rows"])
  (F25:Fo K mg "told_by" RQ.kx ["many","rows"])
  (F26:Fo K mg "are_rows" RQ.jP ["thing","order"])
  (F27:Fo K mg "tell" RQ.sZ ["thing","order"])
  (F28:Fo K mg "first_left" RQ.gy ["order","rows"])
  (F29:Fo K mg "_law_cell" RQ.iJ ["script","k"])
  (F30:Fo K mg "_law_mix" RQ.fC ["cell","k"])
  (F31:Fo K mg "_law_box" RQ.jq ["script","k"])
  (F32:Fo K mg "_law_take" RQ.iu ["box","many"])
  (F33:Fo K mg "_law_mixed_up" RQ.dI ["box","some"])
  (F34:Fo K mg "_law_closed" RQ.fO ["pairs"])
  (F35:Fo K mg "_law_order" RQ.gJ ["box","most"])
  (a36:PySem.W.nsIn K mainGlobals "law"=some (some (.ref f36))) (l36:K.lookup f36=some ⟨oc36,od36,.func (PySem.W.fnOf "law" "law" (iF RQ.kX) (cY RQ.kX) (ay RQ.kX) .none kV36 dc36 pm36 an36 cd36 ct36),sl36⟩) (c36:PySem.W.codeIn K cd36 "law"=true) (k36:PySem.W.keepIn K (.ref f36)=true)
  (zB:LK K=true)
  (yMOST_THINGS:PySem.W.nsIn K mainGlobals "MOST_THINGS"=some (some (.int 8 tMOST_THINGS)))
  (m0:PySem.W.nsIn K mainGlobals "NoMany"=some (some (.ref x0)))
  (e0:PySem.W.excIn K x0 [.type "ValueError",.type "Exception",.type "BaseException",.type "object"] "ValueError.__new__"=true)
  (m1:PySem.W.nsIn K mainGlobals "NoNumber"=some (some (.ref x1)))
  (e1:PySem.W.excIn K x1 [.type "ValueError",.type "Exception",.type "BaseException",.type "object"] "ValueError.__new__"=true)
  (m2:PySem.W.nsIn K mainGlobals "NoOrder"=some (some (.ref x2)))
  (e2:PySem.W.excIn K x2 [.type "ValueError",.type "Exception",.type "BaseException",.type "object"] "ValueError.__new__"=true)
  (m3:PySem.W.nsIn K mainGlobals "NoRow"=some (some (.ref x3)))
  (e3:PySem.W.excIn K x3 [.type "ValueError",.type "Exception",.type "BaseException",.type "object"] "ValueError.__new__"=true)
  (m4:PySem.W.nsIn K mainGlobals "NoRows"=some (some (.ref x4)))
  (e4:PySem.W.excIn K x4 [.type "ValueError",.type "Exception",.type "BaseException",.type "object"] "ValueError.__new__"=true)
  :∃fd:FuncData,(∀(s:Shared) (v:Value),BindsTo s fd ⟨[v],[]⟩ [("script",v)])/\∀base:Heap,K.In base->base.Ns mainGlobals mg->fW l.prog w K mg base (nR l.prog w) 7 fa fd ["script"] (yV K):=by
 have e:=hfa.symm.trans (Oq X G a36)
 cases e
 have B:jr mg:=Kr X G zB
 have iR:=Oq X G yMOST_THINGS
 obtain⟨f1,d1,bY⟩:=F1.ex
 obtain⟨f2,d2,bg⟩:=F2.ex
 obtain⟨f3,d3,cA⟩:=F3.ex
 obtain⟨f4,d4,gM⟩:=F4.ex
 obtain⟨f5,d5,cD⟩:=F5.ex
 obtain⟨f6,d6,cK⟩:=F6.ex
 obtain⟨f7,d7,jb⟩:=F7.ex
 obtain⟨f8,d8,fo⟩:=F8.ex
 obtain⟨f9,d9,fJ⟩:=F9.ex
 obtain⟨f10,d10,ar⟩:=F10.ex
 obtain⟨f11,d11,hU⟩:=F11.ex
 obtain⟨f12,d12,c8⟩:=F12.ex
 obtain⟨f13,d13,aS⟩:=F13.ex
 obtain⟨f14,d14,je⟩:=F14.ex
 obtain⟨f15,d15,az⟩:=F15.ex
 obtain⟨f16,d16,aU⟩:=F16.ex
 obtain⟨f17,d17,bF⟩:=F17.ex
 obtain⟨f18,d18,aV⟩:=F18.ex
 obtain⟨f19,d19,dP⟩:=F19.ex
 obtain⟨f20,d20,i5⟩:=F20.ex
 obtain⟨f21,d21,gR⟩:=F21.ex
 obtain⟨f22,d22,gP⟩:=F22.ex
 obtain⟨f23,d23,cz⟩:=F23.ex
 obtain⟨f24,d24,aN⟩:=F24.ex
 obtain⟨f25,d25,gS⟩:=F25.ex
 obtain⟨f26,d26,bZ⟩:=F26.ex
 obtain⟨f27,d27,jE⟩:=F27.ex
 obtain⟨f28,d28,dq⟩:=F28.ex
 obtain⟨f29,d29,dQ⟩:=F29.ex
 obtain⟨f30,d30,fj⟩:=F30.ex
 obtain⟨f31,d31,fD⟩:=F31.ex
 obtain⟨f32,d32,aW⟩:=F32.ex
 obtain⟨f33,d33,b9⟩:=F33.ex
 obtain⟨f34,d34,cR⟩:=F34.ex
 obtain⟨f35,d35,dh⟩:=F35.ex
 have U36:=xV (st:=RQ.kX) l36 c36 k36
 have J5:jl K mg "law" RQ.kX ["script"] fa _:=⟨Oq X G a36,U36,U36.binds (ps:=["script"]) λ_ _ _ _ _ _=>Az λ_=>rfl⟩
 obtain⟨ca,hca⟩:∃ca:Str->Addr,ca "NoMany"=x0/\ca "NoNumber"=x1/\ca "NoOrder"=x2/\ca "NoRow"=x3/\ca "NoRows"=x4:=⟨λs=>if s="NoMany" then x0 else if s="NoNumber" then x1 else if s="NoOrder" then x2 else if s="NoRow" then x3 else if s="NoRows" then x4 else 0,by first |rfl |decide |simp,by first |rfl |decide |simp,by first |rfl |decide |simp,by first |rfl |decide |simp,by first |rfl |decide |simp⟩
 have j3:Exc K mg ca "NoMany":=⟨by rw[hca.1];exact Oq X G m0,by rw[hca.1];exact e0⟩
 have gY:Exc K mg ca "NoNumber":=⟨by rw[hca.2.1];exact Oq X G m1,by rw[hca.2.1];exact e1⟩
 have jc:Exc K mg ca "NoOrder":=⟨by rw[hca.2.2.1];exact Oq X G m2,by rw[hca.2.2.1];exact e2⟩
 have l4:Exc K mg ca "NoRow":=⟨by rw[hca.2.2.2.1];exact Oq X G m3,by rw[hca.2.2.2.1];exact e3⟩
 have cC:Exc K mg ca "NoRows":=⟨by rw[hca.2.2.2.2];exact Oq X G m4,by rw[hca.2.2.2.2];exact e4⟩
 refine⟨PySem.W.fnOf "law" "law" (iF RQ.kX) (cY RQ.kX) (ay RQ.kX) .none kV36 dc36 pm36 an36 cd36 ct36,λs v=>.of_eq rfl,λbase _ _=>?_⟩
 have fB:=(RQ.rY (P:=l.prog) (w:=w) (base:=base) (ca:=ca) bY B).imp E3
 have cq:=(RQ.sE (P:=l.prog) (w:=w) (base:=base) (ca:=ca) bg B fB).imp EA
 have gN:=(RQ.ui (P:=l.prog) (w:=w) (base:=base) (ca:=ca) cA B fB iR).imp GR
 have mO:=(RQ.vL (P:=l.prog) (w:=w) (base:=base) (ca:=ca) gM B cq).imp G8
 have gO:=RQ.u5 (P:=l.prog) (w:=w) (base:=base) (ca:=ca) cD B cq
 have jJ:=RQ.p7 (P:=l.prog) (w:=w) (base:=base) (ca:=ca) cK B
 have pS:=xI (P:=l.prog) (w:=w) (base:=base) (ca:=ca) jb cK B
 have lL:=(RQ.sv (P:=l.prog) (w:=w) (base:=base) (ca:=ca) fo B).imp HL
 have lj:=(RQ.tX (P:=l.prog) (w:=w) (base:=base) (ca:=ca) fJ B gN mO pS lL).imp wC
 have aI:=(RQ.pJ (P:=l.prog) (w:=w) (base:=base) (ca:=ca) ar B lj jc).imp FJ
 have mC:=RQ.xY (P:=l.prog) (w:=w) (base:=base) (ca:=ca) hU B aI
 have i3:=RQ.we (P:=l.prog) (w:=w) (base:=base) (ca:=ca) c8 B
 have bJ:=RQ.n5 (P:=l.prog) (w:=w) (base:=base) (ca:=ca) aS B gO i3
 have pf:=RQ.xq (P:=l.prog) (w:=w) (base:=base) (ca:=ca) je B aI bJ
 have aM:=RQ.qc (P:=l.prog) (w:=w) (base:=base) (ca:=ca) az B
 have bL:=RQ.nX (P:=l.prog) (w:=w) (base:=base) (ca:=ca) aU B aM
 have di:=RQ.vh (P:=l.prog) (w:=w) (base:=base) (ca:=ca) bF B bL aM
 have bK:=RQ.nU (P:=l.prog) (w:=w) (base:=base) (ca:=ca) aV B aM
 have j7:=RQ.qJ (P:=l.prog) (w:=w) (base:=base) (ca:=ca) dP B aI di bK
 have pD:=RQ.xc (P:=l.prog) (w:=w) (base:=base) (ca:=ca) i5 B bL aM
 have mW:=RQ.vb (P:=l.prog) (w:=w) (base:=base) (ca:=ca) gR B aI bK di cq pD aM gY
 have mJ:=RQ.uz (P:=l.prog) (w:=w) (base:=base) (ca:=ca) gP B aI bJ bK di bL aM l4
 have hJ:=RQ.mZ (P:=l.prog) (w:=w) (base:=base) (ca:=ca) cz B
 have bD:=RQ.nk (P:=l.prog) (w:=w) (base:=base) (ca:=ca) aN B i3 jJ hJ
 have m8:=RQ.uf (P:=l.prog) (w:=w) (base:=base) (ca:=ca) gS B gN gO bD j3 cC
 have fy:=RQ.tK (P:=l.prog) (w:=w) (base:=base) (ca:=ca) bZ B bJ
 have nv:=RQ.Cs (P:=l.prog) (w:=w) (base:=base) (ca:=ca) jE B aI fy bD
 have jw:=RQ.pF (P:=l.prog) (w:=w) (base:=base) (ca:=ca) dq B aI fy bD cC
 have jZ:=RQ.qD (P:=l.prog) (w:=w) (base:=base) (ca:=ca) dQ B
 have lK:=RQ.su (P:=l.prog) (w:=w) (base:=base) (ca:=ca) fj B
 have lA:=RQ.tT (P:=l.prog) (w:=w) (base:=base) (ca:=ca) fD B jZ lK
 have bG:=RQ.qL (P:=l.prog) (w:=w) (base:=base) aW B
 have gm:=RQ.l0 (P:=l.prog) (w:=w) (base:=base) b9 B bG
 have iO:=RQ.nP (P:=l.prog) (w:=w) (base:=base) (ca:=ca) cR B
 have jt:=RQ.pH (P:=l.prog) (w:=w) (base:=base) (ca:=ca) dh B iO bG gm
 have JU:=RQ.D6 (P:=l.prog) (w:=w) (base:=base) (ca:=ca) J5 B lA j7 mW nv jw m8 mC pf mJ jt bG
 exact fW.imp (sp:=DW K ca 1 HI) JU Hi
def walk {l:PySem.W.OpenLaw}{q:Program}{loose:List Str}{XP:(Str->Option Value)->Heap->Prop}{YP:World->Heap->Prop}{d:DefRec}{K:Params->Frag}(hn:l.most=some 63)(hdf:d.params.defaults= [])(hi:PyProof.Rows.importsNone q=true)
  (hY:∀(w:World) (h:Heap),YP w h->(K w.params).In h)
  (F:∀(w:World) (mg:Str->Option Value) (fa:Addr) (h:Heap),(K w.params).In h->h.Ns mainGlobals mg->mg d.name=some (.ref fa)->
   ∃fd:FuncData,(∀(s:Shared) (u:Value),BindsTo s fd ⟨[u],[]⟩ [("script",u)])/\∀base:Heap,(K w.params).In base->base.Ns mainGlobals mg->fW l.prog w (K w.params) mg base (nR l.prog w) 7 fa fd ["script"] (yV (K w.params))) :
  PySem.W.WalkO q loose XP YP l.row.toRowW d [] (λf vs=>PySem.call f vs):=
 L2.Eo (n:=63) (k:=7) (x:="script") (CX:=λw=>nR l.prog w) (sp:=λw=>yV (K w.params)) hn (by decide) hdf hi ⟨rfl,by decide,by decide,rfl⟩ hY F (λ_ _ a ns hl _ hS=>⟨a,ns,rfl,hS,λ_ _=>rfl⟩) λ_ _ _ _ _ z=>by
  obtain⟨_,_,_,_,_,_,_,_,_,z⟩:=z
  exact z
end RO
namespace HD
noncomputable def vw:PySem.Program:=PySem.W.view PySem.Challenge.pw_rowsorder_k14_whole_rows_tell [1,2,3,4,5,6,7,9,10,11,12,13,14,16,17,18,19,20,22,23,24,25,26,27,28,29,30,31,32,33,34,35,36,37,38,40,41,42,43,44,45,46,47]
def JN:PySem.Challenge.rw_rowsorder_k14_whole_rows_tell.wellSaid=true:=by kernel_rfl
end HD
local macro_rules | `(tactic|o_head $H)=>`(tactic| (
 refine PySem.W.holds_open (q:=HD.vw) (loose:=[]) (Xt:=λs=>PySem.W.xlAt HD.vw [] s && PySem.W.recOk (PySem.W.RowW.records _) s) (XP:=PySem.W.XL HD.vw []) (Yf:=PySem.W.Hook.obs $H) (Ya:=PySem.W.Hook.val $H) (YP:=PySem.W.Hook.says $H) (N:=4836) ?hl (PySem.W.Hook.of $H) (PySem.W.Hook.keeps $H) (λs e=>PySem.W.xl_of s (Bool.and_eq_true_iff.mp e).1) PySem.W.XL.keeps (by rfl) (by rfl) (by rfl) (λs e=>PySem.W.recFacts_of (Bool.and_eq_true_iff.mp e).2) (by rfl) (by first |assumption |decide +kernel) (by decide +kernel) ⟨rfl,rfl,rfl,rfl,rfl,by decide +kernel⟩ ?hw ?hc
 case hl=>exact HD.Fu (by kernel_rfl) (by kernel_rfl) (λs=>by kernel_rfl) (λw os=>by kernel_rfl)))
open PySem PySem.W PyProof.Rows L2
set_option maxRecDepth 100000 in
set_option maxHeartbeats 0 in
theorem PySem.Challenge.cw_rowsorder_k14_whole_rows_tell_holds : PySem.Challenge.rw_rowsorder_k14_whole_rows_tell.Holds := by
 w_on;(refine holds_law HD.JN λJN=>?_);k_head;(case hw=>w_witness2)
 k_fill
 refine RO.walk (l:=PySem.Challenge.rw_rowsorder_k14_whole_rows_tell) rfl rfl ?hi (λw h Y=>PySem.W.kIn_of Y) ?F
 case hi=>kernel_rfl
 case F=>
  intro w mg fa h KX G hmg
  refine' RO.all_mk KX G hmg ?F1 ?F2 ?F3 ?F4 ?F5 ?F6 ?F7 ?F8 ?F9 ?F10 ?F11 ?F12 ?F13 ?F14 ?F15 ?F16 ?F17 ?F18 ?F19 ?F20 ?F21 ?F22 ?F23 ?F24 ?F25 ?F26 ?F27 ?F28 ?F29 ?F30 ?F31 ?F32 ?F33 ?F34 ?F35 ?a36 ?l36 ?c36 ?k36 ?zB ?yMOST_THINGS ?m0 ?e0 ?m1 ?e1 ?m2 ?e2 ?m3 ?e3 ?m4 ?e4
  case F1=>refine' bN KX G RO.wj ?a ?l ?c ?k;(case a=>k_is);(case l=>k_is);(case c=>k_is);(case k=>k_is)
  case F2=>refine' bN KX G RO.wV ?a ?l ?c ?k;(case a=>k_is);(case l=>k_is);(case c=>k_is);(case k=>k_is)
  case F3=>refine' bN KX G RO.zg ?a ?l ?c ?k;(case a=>k_is);(case l=>k_is);(case c=>k_is);(case k=>k_is)
  case F4=>refine' bN KX G RO.Af ?a ?l ?c ?k;(case a=>k_is);(case l=>k_is);(case c=>k_is);(case k=>k_is)
  case F5=>refine' bN KX G RO.Ar ?a ?l ?c ?k;(case a=>k_is);(case l=>k_is);(case c=>k_is);(case k=>k_is)
  case F6=>refine' bN KX G RO.sr ?a ?l ?c ?k;(case a=>k_is);(case l=>k_is);(case c=>k_is);(case k=>k_is)
  case F7=>refine' bN KX G RO.DM ?a ?l ?c ?k;(case a=>k_is);(case l=>k_is);(case c=>k_is);(case k=>k_is)
  case F8=>refine' bN KX G RO.wg ?a ?l ?c ?k;(case a=>k_is);(case l=>k_is);(case c=>k_is);(case k=>k_is)
  case F9=>refine' bN KX G RO.wN ?a ?l ?c ?k;(case a=>k_is);(case l=>k_is);(case c=>k_is);(case k=>k_is)
  case F10=>refine' bN KX G RO.rV ?a ?l ?c ?k;(case a=>k_is);(case l=>k_is);(case c=>k_is);(case k=>k_is)
  case F11=>refine' bN KX G RO.Dk ?a ?l ?c ?k;(case a=>k_is);(case l=>k_is);(case c=>k_is);(case k=>k_is)
  case F12=>refine' bN KX G RO.Dt ?a ?l ?c ?k;(case a=>k_is);(case l=>k_is);(case c=>k_is);(case k=>k_is)
  case F13=>refine' bN KX G RO.qI ?a ?l ?c ?k;(case a=>k_is);(case l=>k_is);(case c=>k_is);(case k=>k_is)
  case F14=>refine' bN KX G RO.C1 ?a ?l ?c ?k;(case a=>k_is);(case l=>k_is);(case c=>k_is);(case k=>k_is)
  case F15=>refine' bN KX G RO.se ?a ?l ?c ?k;(case a=>k_is);(case l=>k_is);(case c=>k_is);(case k=>k_is)
  case F16=>refine' bN KX G RO.qz ?a ?l ?c ?k;(case a=>k_is);(case l=>k_is);(case c=>k_is);(case k=>k_is)
  case F17=>refine' bN KX G RO.zj ?a ?l ?c ?k;(case a=>k_is);(case l=>k_is);(case c=>k_is);(case k=>k_is)
  case F18=>refine' bN KX G RO.qA ?a ?l ?c ?k;(case a=>k_is);(case l=>k_is);(case c=>k_is);(case k=>k_is)
  case F19=>refine' bN KX G RO.uv ?a ?l ?c ?k;(case a=>k_is);(case l=>k_is);(case c=>k_is);(case k=>k_is)
  case F20=>refine' bN KX G RO.Bu ?a ?l ?c ?k;(case a=>k_is);(case l=>k_is);(case c=>k_is);(case k=>k_is)
  case F21=>refine' bN KX G RO.Ac ?a ?l ?c ?k;(case a=>k_is);(case l=>k_is);(case c=>k_is);(case k=>k_is)
  case F22=>refine' bN KX G RO.AF ?a ?l ?c ?k;(case a=>k_is);(case l=>k_is);(case c=>k_is);(case k=>k_is)
  case F23=>refine' bN KX G RO.oE ?a ?l ?c ?k;(case a=>k_is);(case l=>k_is);(case c=>k_is);(case k=>k_is)
  case F24=>refine' bN KX G RO.pX ?a ?l ?c ?k;(case a=>k_is);(case l=>k_is);(case c=>k_is);(case k=>k_is)
  case F25=>refine' bN KX G RO.zN ?a ?l ?c ?k;(case a=>k_is);(case l=>k_is);(case c=>k_is);(case k=>k_is)
  case F26=>refine' bN KX G RO.wq ?a ?l ?c ?k;(case a=>k_is);(case l=>k_is);(case c=>k_is);(case k=>k_is)
  case F27=>refine' bN KX G RO.HF ?a ?l ?c ?k;(case a=>k_is);(case l=>k_is);(case c=>k_is);(case k=>k_is)
  case F28=>refine' bN KX G RO.tJ ?a ?l ?c ?k;(case a=>k_is);(case l=>k_is);(case c=>k_is);(case k=>k_is)
  case F29=>refine' bN KX G RO.uZ ?a ?l ?c ?k;(case a=>k_is);(case l=>k_is);(case c=>k_is);(case k=>k_is)
  case F30=>refine' bN KX G RO.xA ?a ?l ?c ?k;(case a=>k_is);(case l=>k_is);(case c=>k_is);(case k=>k_is)
  case F31=>refine' bN KX G RO.wY ?a ?l ?c ?k;(case a=>k_is);(case l=>k_is);(case c=>k_is);(case k=>k_is)
  case F32=>refine' bN KX G RO.vA ?a ?l ?c ?k;(case a=>k_is);(case l=>k_is);(case c=>k_is);(case k=>k_is)
  case F33=>refine' bN KX G RO.n0 ?a ?l ?c ?k;(case a=>k_is);(case l=>k_is);(case c=>k_is);(case k=>k_is)
  case F34=>refine' bN KX G RO.qm ?a ?l ?c ?k;(case a=>k_is);(case l=>k_is);(case c=>k_is);(case k=>k_is)
  case F35=>refine' bN KX G RO.tP ?a ?l ?c ?k;(case a=>k_is);(case l=>k_is);(case c=>k_is);(case k=>k_is)
  case a36=>k_is
  case l36=>k_is
  case c36=>k_is
  case k36=>k_is
  case zB=>kernel_rfl
  case yMOST_THINGS=>k_is
  case m0=>k_is
  case e0=>kernel_rfl
  case m1=>k_is
  case e1=>kernel_rfl
  case m2=>k_is
  case e2=>kernel_rfl
  case m3=>k_is
  case e3=>kernel_rfl
  case m4=>k_is
  case e4=>kernel_rfl
end
