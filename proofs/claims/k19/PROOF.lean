import PyProof.Rows.All
import Wide.All
import OpenK.AllK
import Wide.FinOn
import Lean
import PyProof.EqAt
import PyProof.EqKinds
import PyProof.TupleCall
import PySem.SetOps
import PyProof.SetKind
import PyProof.TupleKey
import PyProof.DictKinds
import PyProof.Rows.SetFrom
import PyProof.WalksMore
import KE.KSortTup
import PyProof.CollectWalk
import PyProof.ExcArgsOwn
import PyProof.Rows.CountFlat
import PyProof.Rows.SeqMore2
import PyProof.Rows.FStr
import PyProof.Rows.StrWeight2
import PyProof.Rows.StrNews
import PyProof.StrLawsTight
import PyProof.ExcBaseAll.ValueError
import PyProof.ZipIter
import PyProof.CallFns
import PyProof.Draws
import PyProof.EnumMake
import PyProof.SetRoads
import PyProof.Rows.SortWalk
import PyProof.SeqI3
import PyProof.Rows.SortShell
import PyProof.Rows.Range3
import KE.KStateDown
import PyProof.Rows.SumAny
import PyProof.ListRange
import PyProof.Rows.BitMore
import PySem.Challenge.RW_rowsorder_k19_rows_for_chains
set_option Elab.async false
set_option linter.all false
set_option maxRecDepth 100000
set_option maxHeartbeats 1000000
def MZ:=@PySem.wpAny_bind
def M1:=@List.getElem?_eq_getElem
def M4:=@PySem.Heap.get?_push_of_some
def M5:=@PySem.wpAny_pure
def M6:=@List.mem_cons
def M7:=@if_pos
def M8:=@List.mem_cons_of_mem
def M9:=@Nat.le_refl
def Na:=@List.length_map
def Nb:=@List.mem_cons_self
def Nc:=@decide_eq_true
def Nd:=@if_neg
def Nf:=@PySem.Heap.lt_size
def Ng:=@List.getElem?_map
def Nh:=@List.mem_map
def Ni:=@Bool.and_eq_true
def Nj:=@decide_eq_false
def Nk:=@PySem.Heap.get?_push_size
def Nl:=@List.size_toArray
def Nm:=@List.mem_of_getElem?
def Np:=@List.getElem?_eq_some_iff
def Nq:=@Bool.false_ne_true
def Nr:=@Bool.false_eq_true
def Nt:=@List.getElem?_set_self
def Nu:=@List.getElem?_set_ne
def Nw:=@List.mem_append
def Nx:=@decide_eq_true_eq
def Ny:=@List.mem_range
def Nz:=@List.mem_singleton
def NA:=@PySem.sizeLine_eq
def NC:=@List.length_cons
def ND:=@Nat.lt_of_lt_of_le
def NF:=@List.mem_filter
def NG:=@Nat.ne_of_lt
def NH:=@List.all_eq_true
def NI:=@Array.getElem?_eq_getElem
def NJ:=@List.mem_append_right
def NK:=@List.length_append
def NL:=@List.mem_iff_getElem
def NM:=@Int.toNat_natCast
def NN:=@List.getElem?_append_right
def NO:=@List.map_cons
def NP:=@List.nodup_cons
def NQ:=@Nat.zero_le
def NR:=@Nat.lt_irrefl
def NS:=@Array.getD_eq_getD_getElem?
def NT:=@if_false
def NU:=@List.map_append
def NV:=@List.getElem?_append_left
def NW:=@PySem.W.mg_of
def NX:=@PySem.Heap.get?_update_self
def NY:=@Bool.eq_iff_iff
def NZ:=@PySem.W.kia_one
def N0:=@List.pairwise_map
def N3:=@PySem.wpAny_setState_of
def N4:=@PyProof.Rows.F.plain_set_update_loop
def N5:=@Array.getElem?_eq_some_iff
def N6:=@PySem.wpAny_holding
def N7:=@Nat.lt_or_ge
def N8:=@PySem.F.called_set
def N9:=@List.not_mem_nil
def Oa:=@List.toList_toArray
def Ob:=@if_true
def Oc:=@List.take_add_one
def Od:=@Bool.not_eq_true'
def Oe:=@Nat.le_trans
def Of:=@List.mem_append_left
def Og:=@PySem.Heap.get?_update_other
def Oh:=@List.getElem_mem
def Oi:=@List.replicate_succ
def Oj:=@PySem.boot_len
def Ol:=@List.length_set
def Om:=@PySem.codeAny_builtin
def Oo:=@PySem.wpAny_mono
def Oq:=@List.length_take
def Ot:=@Nat.mul_le_mul
def Ou:=@of_decide_eq_true
def Ov:=@List.length_filter_le
def Ow:=@Nat.zero_add
def Ox:=@List.Pairwise.imp_of_mem
def Oy:=@PyProof.Rows.F.entry_set_update_loop
def Oz:=@List.idxOf_lt_length_iff
def OA:=@PySem.Around.under_plainId
def OB:=@List.getElem?_replicate
def OC:=@PySem.wpAny_truthy_bool
def OD:=@List.map_congr_left
def OE:=@List.take_of_length_le
def OF:=@List.getD_eq_getElem?_getD
def OG:=@List.mem_filterMap
def OH:=@List.length_replicate
def OI:=@Array.getElem?_toList
def OJ:=@PySem.Heap.size_push
def OK:=@List.getElem?_eq_none
def OL:=@List.mem_of_mem_take
def ON:=@List.set_eq_of_length_le
def OO:=@List.eq_of_mem_replicate
def OP:=@PySem.Value.isInt_shape
def OQ:=@List.flatten_cons
def OR:=@PySem.F.plainAttrs_list
def OS:=@decide_eq_false_iff_not
def OT:=@List.filterMap_cons
def OU:=@Array.length_toList
def OV:=@PySem.mem_of_lookup
def OW:=@List.nodup_range
def OX:=@PySem.wpAny_call_entry
def OY:=@decide_eq_decide
def OZ:=@PyProof.Rows.callWith_type1
def O0:=@PySem.codeAny_mono
def O1:=@PySem.wpAny_passesOwn
def O2:=@List.getElem?_toArray
def O3:=@List.any_cons
def O4:=@List.nodup_iff_pairwise_ne
def O5:=@List.append_assoc
def O6:=@List.ext_getElem?
def O7:=@List.length_range
def O8:=@List.idxOf_append
def O9:=@Array.mem_toList_iff
def Pa:=@PySem.call_meets
def Pb:=@List.pairwise_iff_getElem
def Pc:=@List.getElem?_eq_none_iff
def Pd:=@Nat.le_succ
def Pe:=@Option.isSome_iff_exists
def Pf:=@List.lookup_cons
def Pg:=@or_false
def Pj:=@Int.zero_add
def Pk:=@List.getElem?_range
def Pl:=@Int.toNat_of_nonneg
def Pn:=@Bool.not_true
def Po:=@PySem.strLen_append
def Pp:=@List.append_nil
def Pq:=@List.pairwise_cons
def Pt:=@Array.getElem?_eq_none
def Pu:=@PySem.SeqAt.canLay_of_shaped
def Pw:=@Option.map_eq_some_iff
def Px:=@PySem.wpAny_pyIter_list
def Py:=@PySem.wpAny_newObj_type
def Pz:=@List.nodup_append
def PB:=@List.take_append_drop
def PD:=@List.nodup_nil
def PF:=@PySem.wpAny_setField
def PH:=@List.map_map
def PJ:=@PySem.wpAny_askSetting
def PK:=@Bool.and_self
def PL:=@PySem.wpAny_newList
def PM:=@List.filter_sublist
def PN:=@PySem.wpAny_execs_nil
def PQ:=@List.length_nil
def PR:=@PySem.Calls.call_function_entry
def PU:=@Bool.or_eq_true
def PV:=@PySem.wpAny_Call_Name_kw
def PX:=@List.length_erase_of_mem
def PY:=@PySem.putSet_of
def PZ:=@List.getElem_idxOf
def P0:=@PySem.isSubtype_type
def P4:=@List.any_eq_false
def P5:=@List.reverse_cons
def P6:=@Nat.lt_trichotomy
def P7:=@Array.getElem_mem
def P8:=@PySem.wpAny_storeSet_of
def P9:=@Nat.lt_succ_of_lt
open List (of_mem_zip foldl_cons all_cons set_set)
open PySem.W (Frag)
open PySem.PyData (int)
section
set_option Elab.async false
namespace L2
open PySem PySem.Spec PyProof.Rows
abbrev Key:=Sum Int Str
def rS:Key->Value->Bool
 | .inl k,v=>Value.isInt k v
 | .inr x,v=>Value.isStrOf x v
def Ml (w:World):Key->Int
 | .inl k=>hashInt k
 | .inr x=>hashStr w x
theorem bS:∀{k:Key} {v:Value},rS k v=true->(∃i t,k=Sum.inl i/\v=Value.int i t)\/(∃x t,k=Sum.inr x/\v=Value.str x t)
 | .inl i,v,h=>by
  obtain⟨t,e⟩:=OP (k:=i) (v:=v) h
  exact .inl ⟨i,t,rfl,e⟩
 | .inr x,v,h=>by
  obtain⟨t,e⟩:=Value.isStrOf_shape (x:=x) (v:=v) h
  exact .inr ⟨x,t,rfl,e⟩
def Aa (i:Int)(t:Tok):rS (.inl i) (.int i t)=true:=by simp[rS,Value.isInt]
def Ac (x:Str)(t:Tok):rS (.inr x) (.str x t)=true:=by simp[rS,Value.isStrOf]
def GX (a b:Int):decide ((Sum.inl a:Key)=Sum.inl b)=(a == b):=by
 by_cases e:a=b
 ·subst e;simp
 ·have h:¬(Sum.inl a:Key)=Sum.inl b:=λq=>e (Sum.inl.inj q)
  rw[Nj h]
  exact (beq_eq_false_iff_ne.mpr e).symm
def HJ (a b:Str):decide ((Sum.inr a:Key)=Sum.inr b)=decide (a=b):=by
 by_cases e:a=b
 ·subst e;simp
 ·have h:¬(Sum.inr a:Key)=Sum.inr b:=λq=>e (Sum.inr.inj q)
  rw[Nj h,Nj e]
def IS (a:Int)(b:Str):decide ((Sum.inl a:Key)=Sum.inr b)=false:=Nj (λq=>nomatch q)
def GW (a:Str)(b:Int):decide ((Sum.inr a:Key)=Sum.inl b)=false:=Nj (λq=>nomatch q)
def dN (prog:Program)(w:World):PySem.KeyKind prog w Key where
 is:=rS
 hash:=Ml w
 inj:=λv a b ha hb=>by
  rcases bS ha with⟨i,t,rfl,rfl⟩ | ⟨x,t,rfl,rfl⟩
  ·rcases bS hb with⟨j,u,rfl,e⟩ | ⟨y,u,rfl,e⟩
   ·injection e with e1 _;rw[e1]
   ·exact nomatch e
  ·rcases bS hb with⟨j,u,rfl,e⟩ | ⟨y,u,rfl,e⟩
   ·exact nomatch e
   ·injection e with e1 _;rw[e1]
 byValue:=λk v h=>by
  rcases bS h with⟨i,t,rfl,rfl⟩ | ⟨x,t,rfl,rfl⟩ <;> rfl
 pyHash:=λhv h=>by
  rcases bS hv with⟨i,t,rfl,rfl⟩ | ⟨x,t,rfl,rfl⟩
  ·exact wpAny_pyHash_int h
  ·exact wpAny_pyHash_str h
 eqBool:=λhu hv h=>by
  rcases bS hu with⟨i,t,rfl,rfl⟩ | ⟨x,t,rfl,rfl⟩
  ·rcases bS hv with⟨j,u,rfl,rfl⟩ | ⟨y,u,rfl,rfl⟩
   ·rw[GX] at h;exact wpAny_eqBool_int h
   ·rw[IS] at h;exact SeqAt.EqAt.int_str i t y u _ _ _ _ h
  ·rcases bS hv with⟨j,u,rfl,rfl⟩ | ⟨y,u,rfl,rfl⟩
   ·rw[GW] at h;exact SeqAt.EqAt.str_int x t j u _ _ _ _ h
   ·rw[HJ] at h;exact wpAny_eqBool_str h
 «strs»:=λk x t v h=>by
  rcases bS h with⟨i,u,rfl,e⟩ | ⟨y,u,rfl,e⟩
  ·exact nomatch e
  ·injection e with e1 _
   subst e1
   cases v <;> rfl
def v8 (prog:Program)(w:World)(i:Int)(t:Tok):(dN prog w).is (.inl i) (.int i t)=true:=Aa i t
def vg (prog:Program)(w:World)(x:Str)(t:Tok):(dN prog w).is (.inr x) (.str x t)=true:=Ac x t
inductive V where
 |non |bl (b:Bool) |int (i:Int) |str (x:Str) |byt (b:Array UInt8) |flt (b:UInt64) |ref (a:Addr) |ty (n:String)
 deriving DecidableEq
def RelV:V->Value->Prop
 | .non,u=>u=Value.none
 | .bl b,u=>u=Value.bool b
 | .int i,u=>∃t,u=Value.int i t
 | .str x,u=>∃t,u=Value.str x t
 | .byt b,u=>∃t,u=Value.bytes b t
 | .flt b,u=>∃t,u=Value.float b t
 | .ref a,u=>u=Value.ref a
 | .ty n,u=>u=Value.type n
abbrev Vals:List V->List Value->Prop:=Paired RelV
def Vals.length {xs:List V}{us:List Value}(r:Vals xs us):xs.length=us.length:=Paired.length r
theorem Vals.get:∀{xs:List V} {us:List Value} {i:Nat} {x:V},Vals xs us->xs[i]? =some x->∃u,us[i]? =some u/\RelV x u
 |_,_,_,_,.nil,e=>by simp at e
 |_,_,0,_,.cons r _,e=>by simp at e;subst e;exact⟨_,rfl,r⟩
 |_,_,i + 1,x,.cons _ t,e=>by
  obtain⟨u,h1,h2⟩:=Vals.get (i:=i) (x:=x) t (by simpa using e)
  exact⟨u,by simpa using h1,h2⟩
theorem Vals.set {x:V}{u:Value}(r:RelV x u):∀{xs:List V} {us:List Value} (i:Nat),Vals xs us->Vals (xs.set i x) (us.set i u)
 |_,_,_,.nil=>.nil
 |_,_,0,.cons _ t=>.cons r t
 |_,_,i + 1,.cons q t=>.cons q (Vals.set r i t)
theorem Vals.append:∀{xs ys:List V} {us ws:List Value},Vals xs us->Vals ys ws->Vals (xs ++ ys) (us ++ ws)
 |_,_,_,_,.nil,s=>s
 |_,_,_,_,.cons r t,s=>.cons r (Vals.append t s)
theorem Vals.take:∀{xs:List V} {us:List Value} (n:Nat),Vals xs us->Vals (xs.take n) (us.take n)
 |_,_,0,_=>.nil
 |_,_,_ + 1,.nil=>.nil
 |_,_,n + 1,.cons r t=>.cons r (Vals.take n t)
theorem Vals.drop:∀{xs:List V} {us:List Value} (n:Nat),Vals xs us->Vals (xs.drop n) (us.drop n)
 |_,_,0,r=>r
 |_,_,_ + 1,.nil=>.nil
 |_,_,n + 1,.cons _ t=>Vals.drop n t
def Jc:Option V->Option Value->Prop
 |some v,some u=>RelV v u
 |none,none=>True
 |_,_=>False
def KV {κ:Type}:List (κ×V)->List (κ×Value)->Prop:=Paired λ(p:κ×V) (q:κ×Value)=>p.1=q.1/\RelV p.2 q.2
def kV:Key->V
 | .inl i=>.int i
 | .inr x=>.str x
inductive HO where
 |lst (xs:List V)
 |tup (xs:List V)
 |dK (kvs:List (Key×V)) |dT (kvs:List (List Key×V))
 |set (S:Int->Bool) (n:Nat)
 |ins (C dx:Addr) (fs:List (Str×V))
 |own (x:Addr)
 |xd (fs:List (Str×V))
 |met (f x:Addr)
 |fE (lo hi:Int)
 |aS (o:Obj) (u:HO)
 |tbl (ps:Array Value)
 |ext (φ:Heap->Prop)
abbrev Hp:=Addr->Option HO
def upd (H:Hp)(a:Addr)(o:HO):Hp:=λb=>if b=a then some o else H b
def ah {H:Hp}{a:Addr}{o:HO}:upd H a o a=some o:=by unfold upd;rw[M7 rfl]
def au {H:Hp}{a b:Addr}{o:HO}(h:b≠a):upd H a o b=H b:=by unfold upd;rw[Nd h]
def Gf {H:Hp}{a:Addr}{o u:HO}:upd (upd H a o) a u=upd H a u:=by
 funext b;unfold upd;split <;> rfl
def GG {H:Hp}{a b:Addr}{o u:HO}(h:H a=some o)(h':H b=some u)(d:o≠u):a≠b:=by
 intro e;subst e;rw[h] at h';exact d (Option.some.inj h')
def aB {H:Hp}{a b:Addr}{o:HO}(h:H a=some o)(h':H b=none):a≠b:=by
 intro e;subst e;rw[h] at h';cases h'
section
variable (P:Program)(w:World)
def vW (h:Heap)(a:Addr)(items:Array Value):Prop:=∃o,h.get? a=some o/\o.cls=.type "tuple"/\∃n,o.data=.seq items n/\o.dict=none
def vW.isTup {h:Heap}{a:Addr}{items:Array Value}(x:vW h a items):IsTup h a items:=let ⟨o,e,c,n,d,_⟩:=x;⟨o,e,c,n,d⟩
def vW.new (h:Heap)(items:Array Value):vW (h.push {cls:=.type "tuple",data:=.seq items}) h.objs.size items:=⟨_,Nk _ rfl,rfl,_,rfl,rfl⟩
def bA (H:Hp)(h:Heap)(a:Addr):HO->Prop
 | .lst xs=>xs.length<=sizeLine/\∃(its:List Value) (n:Nat),Vals xs its/\h.get? a=some {cls:=.type "list",data:=.seq its.toArray n}
 | .tup xs=>xs.length<=sizeLine/\∃its:List Value,Vals xs its/\vW h a its.toArray
 | .dK kvs=>kvs.length<=sizeLine/\(a == sysModules)=false/\∃vs,KV kvs vs/\h.DictOf (dN P w) a vs
 | .dT kvs=>kvs.length<=sizeLine/\(a == sysModules)=false/\∃xs:List (List Key×Addr×Value),
   Paired (λ(p:List Key×V) (q:List Key×Addr×Value)=>p.1=q.1/\(H q.2.1=some (.tup (p.1.map kV))\/∃o,H q.2.1=some (.aS o (.tup (p.1.map kV))))/\RelV p.2 q.2.2) kvs xs/\
   ∃o es ep,h.get? a=some o/\o.ExactDict/\o.data=.dict es ep/\es.toList=xs.map (entryOfKey (tupleKind (dN P w)))/\(xs.map (·.1)).Nodup
 | .set S n=>h.SetOf (intKind P w) a S n
 | .ins C dx fs=>H dx=some (.own a)/\fs.length<=1000/\dx≠a/\h.get? a=some (PySem.W.instObj C dx)/\
   ∃mA,h.Ns1 dx mA/\(∀f,Jc (fs.lookup f) (mA f))/\PySem.Within mA (fs.map (·.1))
 | .own _=>∃o,h.get? a=some o
 | .xd fs=>∃mA,h.Ns1 a mA/\∀f,Jc (fs.lookup f) (mA f)
 | .fE lo hi=>∃t u v,h.get? a=some {cls:=.type "range",data:=.fields #[.int lo t,.int hi u,.int 1 v]}
 | .aS o u=>h.get? a=some o/\bA H h a u
 | .tbl ps=>h.get? a=some {cls:=.none,data:=.fields ps}
 | .met f x=>h.get? a=some (PySem.W.methodObj (.ref f) (.ref x))
 | .ext φ=>φ h/\(∃o,h.get? a=some o)/\∀h1 h2:Heap,φ h1->(∀o,h1.get? a=some o->h2.get? a=some o)->φ h2
def j5 (H:Hp)(h:Heap):Prop:=∀a o,H a=some o->bA P w H h a o
end
section
variable {P:Program}{w:World}{H H':Hp}{h h':Heap}{a:Addr}{o:HO}
theorem bA.lt (x:bA P w H h a o):a < h.objs.size:=by
 cases o with
 |lst xs=>obtain⟨_,_,_,_,e⟩:=x;exact Nf e
 |tup xs=>obtain⟨_,_,_,p⟩:=x;exact p.isTup.lt
 |dK kvs=>obtain⟨_,_,_,_,o,_,_,e,_⟩:=x;exact Nf e
 |dT kvs=>obtain⟨_,_,_,_,o,_,_,e,_⟩:=x;exact Nf e
 |set S n=>obtain⟨o,_,_,_,e,_⟩:=x;exact Nf e
 |ins C dx fs=>obtain⟨_,_,_,e,_⟩:=x;exact Nf e
 |own y=>obtain⟨_,e⟩:=x;exact Nf e
 |xd fs=>obtain⟨_,⟨_,_,_,e,_⟩,_⟩:=x;exact Nf e
 |fE lo hi=>obtain⟨_,_,_,e⟩:=x;exact Nf e
 |aS ob u=>obtain⟨e,_⟩:=x;exact Nf e
 |tbl ps=>exact Nf (show h.get? a=some _ from x)
 |met f y=>exact Nf (show h.get? a=some _ from x)
 |ext φ=>obtain⟨_,⟨_,e⟩,_⟩:=x;exact Nf e
theorem Paired.mapP {α β:Type}{F G:α->β->Prop}:∀{l₁:List α} {l₂:List β},Paired F l₁ l₂->(∀a b,F a b->G a b)->Paired G l₁ l₂
 |_,_,.nil,_=>.nil
 |_,_,.cons r t,f=>.cons (f _ _ r) (Paired.mapP t f)
theorem bA.stay (x:bA P w H h a o)(k:∀b u,(b=a\/H b=some (.own a))->h.get? b=some u->h'.get? b=some u)
  (ho:∀b,H b=some (.own a)->H' b=some (.own a)) (ht:∀b xs,(H b=some (.tup xs)\/∃o,H b=some (.aS o (.tup xs)))->(H' b=some (.tup xs)\/∃o,H' b=some (.aS o (.tup xs)))):bA P w H' h' a o:=by
 induction o with
 |lst xs=>obtain⟨z,its,n,r,e⟩:=x;exact⟨z,its,n,r,k _ _ (.inl rfl) e⟩
 |tup xs=>obtain⟨z,its,r,ob,e,c⟩:=x;exact⟨z,its,r,ob,k _ _ (.inl rfl) e,c⟩
 |dK kvs=>obtain⟨z,y,vs,r,ob,es,ep,e,c⟩:=x;exact⟨z,y,vs,r,ob,es,ep,k _ _ (.inl rfl) e,c⟩
 |dT kvs=>
  obtain⟨z,y,xs,r,ob,es,ep,e,c⟩:=x
  exact⟨z,y,xs,Paired.mapP r λp q z=>⟨z.1,ht _ _ z.2.1,z.2.2⟩,ob,es,ep,k _ _ (.inl rfl) e,c⟩
 |set S n=>obtain⟨ob,es,ep,t,e,c⟩:=x;exact⟨ob,es,ep,t,k _ _ (.inl rfl) e,c⟩
 |ins C dx fs=>
  obtain⟨d,z,ne,e,mA,⟨od,es,ep,e2,c⟩,r⟩:=x
  exact⟨ho _ d,z,ne,k _ _ (.inl rfl) e,mA,⟨od,es,ep,k _ _ (.inr d) e2,c⟩,r⟩
 |own y=>obtain⟨ob,e⟩:=x;exact⟨ob,k _ _ (.inl rfl) e⟩
 |xd fs=>obtain⟨mA,⟨od,es,ep,e,c⟩,r⟩:=x;exact⟨mA,⟨od,es,ep,k _ _ (.inl rfl) e,c⟩,r⟩
 |fE lo hi=>obtain⟨t,u,v,e⟩:=x;exact⟨t,u,v,k _ _ (.inl rfl) e⟩
 |aS ob u ih=>obtain⟨e,q⟩:=x;exact⟨k _ _ (.inl rfl) e,ih q⟩
 |tbl ps=>
  have e:h.get? a=some {cls:=.none,data:=.fields ps}:=x
  show h'.get? a=some {cls:=.none,data:=.fields ps}
  exact k a _ (.inl rfl) e
 |met f y=>
  have e:h.get? a=some (PySem.W.methodObj (.ref f) (.ref y)):=x
  show h'.get? a=some (PySem.W.methodObj (.ref f) (.ref y))
  exact k a _ (.inl rfl) e
 |ext φ=>obtain⟨p,⟨o,e⟩,st⟩:=x;exact⟨st _ _ p λo q=>k _ _ (.inl rfl) q,⟨o,k _ _ (.inl rfl) e⟩,st⟩
def j5.lt (x:j5 P w H h)(e:H a=some o):a < h.objs.size:=(x a o e).lt
theorem j5.fresh (x:j5 P w H h)(e:h.objs.size<=a):H a=none:=by
 cases q:H a with
 |none=>rfl
 |some u=>exact absurd (ND (x.lt q) e) (NR _)
def j5.kept (x:j5 P w H h)(k:∀b u,h.get? b=some u->h'.get? b=some u):j5 P w H h':=λa o e=>
 (x a o e).stay (λb u _ q=>k b u q) (λ_ q=>q) λ_ _ q=>q
def j5.laid (x:j5 P w H h)(k:∀b u,h.get? b=some u->h'.get? b=some u)(hp:h.objs.size<=a)(new:bA P w (upd H a o) h' a o):j5 P w (upd H a o) h':=λb u e=>by
 have hn:=x.fresh hp
 by_cases hb:b=a
 ·subst hb;rw[ah] at e;cases e;exact new
 ·rw[au hb] at e
  exact (x b u e).stay (λc v _ q=>k c v q) (λc q=>by rw[au (aB q hn)];exact q) λc xs q=>q.imp (λq=>by rw[au (aB q hn)];exact q) λ⟨o,q⟩=>⟨o,by rw[au (aB q hn)];exact q⟩
end
def Rd (H:Hp)(a:Addr)(u:HO):Prop:=H a=some u\/∃o,H a=some (.aS o u)
def Rd.ok {P:Program}{w:World}{H:Hp}{h:Heap}{a:Addr}{u:HO}(r:Rd H a u)(x:j5 P w H h):bA P w H h a u:=by
 rcases r with r | ⟨o,r⟩
 ·exact x a u r
 ·obtain⟨_,q⟩:=x a _ r
  exact q
def Jv:Option HO->Prop
 |some (.lst _)=>True
 |some (.dK _)=>True
 |some (.dT _)=>True
 |some (.set _ _)=>True
 |some (.ins _ _ _)=>True
 |some (.ext _)=>True
 |_=>False
section
variable {P:Program}{w:World}{H:Hp}{h h':Heap}{x e:Addr}{o':HO}
def j5.write (ok:j5 P w H h)(mu:Jv (H x))(he:e=x\/H e=some (.own x))(k:∀b u,b≠e->h.get? b=some u->h'.get? b=some u)(heo:∃u,h'.get? e=some u)
  (new:bA P w (upd H x o') h' x o'):j5 P w (upd H x o') h':=λb u q=>by
 have nown:∀c y,H c=some (.own y)->c≠x:=λc y r z=>by subst z;rw[r] at mu;exact mu
 have ntup:∀c xs,H c=some (.tup xs)->c≠x:=λc xs r z=>by subst z;rw[r] at mu;exact mu
 by_cases hb:b=x
 ·subst hb;rw[ah] at q;cases q;exact new
 ·rw[au hb] at q
  by_cases hbe:b=e
  ·have q':H b=some (.own x):=by
    rcases he with z |z
    ·exact absurd (hbe.trans z) hb
    ·rw[hbe];exact z
   rw[q] at q';cases q'
   obtain⟨v,hv⟩:=heo
   exact⟨v,by rw[hbe];exact hv⟩
  ·refine (ok b u q).stay (λc v hc r=>k c v ?_ r) (λc r=>by rw[au (nown c b r)];exact r) λc xs r=>r.imp (λr=>by rw[au (ntup c xs r)];exact r) λ⟨o,r⟩=>⟨o,by rw[au (λz=>by subst z;rw[r] at mu;exact mu)];exact r⟩
   rcases hc with rfl |hc
   ·exact hbe
   ·rintro rfl
    rcases he with z |z
    ·exact nown c b hc z
    ·rw[hc] at z;cases z;exact hb rfl
end
structure Un (fs ex:List Addr)(H H':Hp)(h h':Heap):Prop where
 keep:∀b o,h.get? b=some o->H b=none->b∉fs->b∉ex->h'.get? b=some o
 slot:∀b o,h.get? b=some o->H b=none->b∈fs->b∉ex->∃sl,h'.get? b=some {o with slots:=sl}
 free:∀b o,h.get? b=some o->H b=none->b∉ex->H' b=none
 there:∀b o,h.get? b=some o->b∉ex->∃o',h'.get? b=some o'
 tups:∀b xs,H b=some (.tup xs)->H' b=some (.tup xs)
 frzs:∀b o u,H b=some (.aS o u)->H' b=some (.aS o u)
 tbls:∀b ps,H b=some (.tbl ps)->∃more,H' b=some (.tbl (ps ++ more))
section
variable {fs fs' ex ex':List Addr}{H H1 H2:Hp}{h h1 h2 h':Heap}{a x e:Addr}{o:HO}
def Un.any (u:Un fs ex H H1 h h1){b:Addr}{ob:Obj}(q:h.get? b=some ob)(n:H b=none)(hx:b∉ex):∃sl,h1.get? b=some {ob with slots:=sl}:=by
 by_cases hb:b∈fs
 ·exact u.slot b ob q n hb hx
 ·exact⟨ob.slots,u.keep b ob q n hb hx⟩
def Un.kept (k:∀b u,h.get? b=some u->h'.get? b=some u):Un fs ex H H h h':=
 ⟨λb ob q _ _ _=>k b ob q,λb ob q _ _ _=>⟨ob.slots,k b ob q⟩,λ_ _ _ n _=>n,λb ob q _=>⟨ob,k b ob q⟩,λ_ _ q=>q,λ_ _ _ q=>q,λ_ ps q=>⟨#[],by rw[q];simp⟩⟩
def Un.refl:Un fs ex H H h h:=Un.kept λ_ _ q=>q
def Un.laid (k:∀b u,h.get? b=some u->h'.get? b=some u)(hp:h.objs.size<=a)(hn:H a=none):Un fs ex H (upd H a o) h h' where
 keep:=λb u q _ _ _=>k b u q
 slot:=λb u q _ _ _=>⟨u.slots,k b u q⟩
 free:=λb u q n _=>by rw[au (NG (ND (Nf q) hp))];exact n
 there:=λb u q _=>⟨u,k b u q⟩
 tups:=λb xs q=>by rw[au (aB q hn)];exact q
 frzs:=λb u xs q=>by rw[au (aB q hn)];exact q
 tbls:=λb ps q=>⟨#[],by rw[au (aB q hn),q];simp⟩
def Un.write (mu:Jv (H x))(he:e=x\/H e=some (.own x))(k:∀b u,b≠e->h.get? b=some u->h'.get? b=some u)(heo:∃u,h'.get? e=some u):Un fs ex H (upd H x o) h h':=by
 have hx:∀b,H b=none->b≠x:=λb n z=>by subst z;rw[n] at mu;exact mu
 have hb:∀b,H b=none->b≠e:=λb n z=>by
  subst z
  rcases he with r |r
  ·exact hx b n r
  ·rw[n] at r;cases r
 have hm:∀b u,H b=some u->¬Jv (some u)->b≠x:=λb u q nm z=>by subst z;rw[q] at mu;exact nm mu
 refine⟨λb u q n _ _=>k b u (hb b n) q,λb u q n _ _=>⟨u.slots,k b u (hb b n) q⟩,λb u q n _=>by rw[au (hx b n)];exact n,λb u q _=>?_,
  λb xs q=>by rw[au (hm b _ q λz=>z)];exact q,λb u xs q=>by rw[au (hm b _ q λz=>z)];exact q,λb ps q=>⟨#[],by rw[au (hm b _ q λz=>z),q];simp⟩⟩
 by_cases hbe:b=e
 ·subst hbe;exact heo
 ·exact⟨u,k b u hbe q⟩
end
def K6 (h:Heap)(H:Hp):List Addr:=(List.range h.objs.size).filter λa=>(H a).isSome
def sW (h:Heap)(H:Hp):Heap:=PySem.W.hideAll h (K6 h H)
def A4 (h:Heap)(H:Hp):(sW h H).objs.size=h.objs.size:=PySem.W.hideAll_size _ _
def Cn {h:Heap}{H:Hp}{b:Addr}{o:Obj}(e:h.get? b=some o)(n:H b=none):(sW h H).get? b=some o:=
 PySem.W.hideAll_get _ e λhm=>by
  have q:(H b).isSome=true:=(NF.mp hm).2
  rw[n] at q;simp at q
theorem Eu {h:Heap}{H:Hp}{b:Addr}{o:Obj}(e:(sW h H).get? b=some o):h.get? b=some o/\H b=none:=by
 have e':h.get? b=some o:=PySem.W.of_hideAll (K6 h H) e
 refine⟨e',?_⟩
 cases q:H b with
 |none=>rfl
 |some x=>
  have hm:b∈K6 h H:=NF.mpr ⟨Ny.mpr (Nf e'),by simp[q]⟩
  have z:(sW h H).get? b=none:=PySem.W.hideAll_none (K6 h H) hm
  rw[z] at e;cases e
def E8 (g h:Heap)(L:Addr):List (Addr×Obj):=(List.range h.objs.size).filterMap λa=>if a=L\/(g.get? a).isSome=true then none else (h.get? a).map λo=>(a,o)
def rest (g h:Heap)(L d:Addr):List (Addr×Obj):=(E8 g h L).filter λp=>decide (p.1≠d)
structure Mod (K:Frag)(mg:Str->Option Value)(base:Heap):Prop where
 kin:K.In base
 glob:base.Ns mainGlobals mg
 blt:∃mb,base.Ns builtinsNs mb/\∀x:Str,x≠"__name__"->mb x=bootBuiltins x
 nolimit:base.NoLimit
 sys:∃mm,base.Ns sysModules mm
structure Cx where
 prog:Program
 w:World
 K:Frag
 mg:Str->Option Value
 base:Heap
 A:Around
 N:List Str
 s₀:Shared
 H₀:Hp
 env:Env
 outer:List Env
 stack:List Env
 ex:List Addr
 fn:Str->Bool
 calm:Bool
 pn:List (Addr×Obj)
 xe:Value->Shared->Prop
def dU (l:List Env):List Addr:=l.filterMap (·.frame)
abbrev Cx.fs (X:Cx):List Addr:=dU X.outer
def xw (sc:Scope)(x:Str):Prop:=sc.names.lookup x=some .local\/sc.names.lookup x=some .cell\/sc.names.lookup x=some .free
def Loc (sc:Scope)(x:Str):Prop:=sc.names.lookup x=some .local\/sc.names.lookup x=some .cell
def Look (env:Env)(h:Heap)(m:Str->Option Value)(x:Str)(u:Value):Prop:=
 (env.kindOf x=some .local/\m x=some u)\/((env.kindOf x=some .cell\/env.kindOf x=some .free)/\∃c,env.cells.lookup x=some c/\h.IsCell c (some u))
structure Cx.Ok (X:Cx):Prop where
 mod:Mod X.K X.mg X.base
 kind:X.env.scope.kind=.function
 glob:X.env.globals=mainGlobals
 blt:X.env.builtins=builtinsNs
 above:X.s₀.heap.objs.size<=X.env.locals
 inj:∀x y c,X.env.cells.lookup x=some c->X.env.cells.lookup y=some c->x=y
 has:∀x,(X.env.kindOf x=some .cell\/X.env.kindOf x=some .free)->∃c,X.env.cells.lookup x=some c
 cab:∀x c,X.fn x=true->X.env.cells.lookup x=some c->X.s₀.heap.objs.size<=c
 hd:X.calm=true->X.A.handled=none
 frames:X.A.frames=some X.stack
 stk:X.stack=X.outer\/(X.stack=X.env :: X.outer/\X.env.frame=some X.env.locals)
 exf:∀b∈X.ex,b≠X.env.locals/\∀x c,X.env.cells.lookup x=some c->c≠b
 bs:∀b o,X.base.get? b=some o->X.s₀.heap.get? b=some o/\X.H₀ b=none
 bsz:X.base.objs.size<=X.s₀.heap.objs.size
 noex:∀b o,X.base.get? b=some o->b∉X.ex
 exfs:∀b∈X.ex,b∉X.fs
 funs:X.s₀.heap.FunFrames X.base X.outer
 frf:∀b∈X.fs,X.H₀ b=none
structure Inv (X:Cx)(pins:List (Addr×Obj))(σ:List (Option V))(H:Hp)(s:Shared):Prop where
 ok:X.Ok
 os:s.os=X.s₀.os
 bare:AllBare s.gens
 base:Un X.fs X.ex X.H₀ H X.s₀.heap s.heap
 loc:∃m,s.heap.Ns X.env.locals m/\∀(i:Nat) (x:Str) (v:V),X.N[i]? =some x->σ[i]? =some (some v)->xw X.env.scope x->∃u,RelV v u/\Look X.env s.heap m x u
 cell:∀x c,X.env.cells.lookup x=some c->∃v,s.heap.IsCell c v
 free:H X.env.locals=none
 freeC:∀x c,X.env.cells.lookup x=some c->H c=none
 pin:∀p∈X.pn ++ pins,s.heap.get? p.1=some p.2/\H p.1=none/\p.1≠X.env.locals/\p.1∉X.fs/\∀v,p.2.data≠.cell v
 hok:j5 X.prog X.w H s.heap
 len:σ.length=X.N.length
section
variable {X:Cx}{pins:List (Addr×Obj)}{σ:List (Option V)}{H H':Hp}{s:Shared}{h':Heap}
def Cx.Ok.nofr (ok:X.Ok){b:Addr}{o:Obj}(e:X.base.get? b=some o):b∉X.fs:=λhb=>by
 have:=(ok.funs.mem hb).1
 rw[e] at this;cases this
def Inv.bs (I:Inv X pins σ H s):∀b o,X.base.get? b=some o->s.heap.get? b=some o/\H b=none:=λb o e=>
 ⟨I.base.keep b o (I.ok.bs b o e).1 (I.ok.bs b o e).2 (I.ok.nofr e) (I.ok.noex b o e),I.base.free b o (I.ok.bs b o e).1 (I.ok.bs b o e).2 (I.ok.noex b o e)⟩
def Inv.bk (I:Inv X pins σ H s):∀b o,X.base.get? b=some o->s.heap.get? b=some o:=λb o e=>(I.bs b o e).1
def Inv.mod (I:Inv X pins σ H s):Mod X.K X.mg X.base:=I.ok.mod
def Inv.kIn (I:Inv X pins σ H s):X.K.In s.heap:=I.ok.mod.kin.keeps I.bk
def Inv.fr (I:Inv X pins σ H s):∃m,Fr X.base X.env.locals s.heap m:=
 let ⟨m,hn,_⟩:=I.loc
 ⟨m,hn,I.bk,Oe I.ok.bsz I.ok.above⟩
def Inv.lt (I:Inv X pins σ H s):X.env.locals < s.heap.objs.size:=let ⟨_,hn,_⟩:=I.loc;hn.lt
def Inv.sz (I:Inv X pins σ H s):X.s₀.heap.objs.size<=s.heap.objs.size:=Oe I.ok.above (Nat.le_of_lt I.lt)
def Inv.nofs (I:Inv X pins σ H s){a:Addr}(h:s.heap.objs.size<=a):a∉X.fs:=λhb=>by
 obtain⟨_,o,ho,_⟩:=I.ok.funs.mem hb
 exact absurd (ND (Nf ho) (Oe I.sz h)) (NR _)
def Inv.cne (I:Inv X pins σ H s):∀x c,X.env.cells.lookup x=some c->c≠X.env.locals:=λx c e z=>by
 obtain⟨v,o,ho,hd⟩:=I.cell x c e
 obtain⟨m,⟨o',es,ep,ho',hd',_⟩,_⟩:=I.loc
 rw[z,ho'] at ho;cases ho;rw[hd'] at hd;cases hd
def Inv.funs (I:Inv X pins σ H s):s.heap.FunFrames X.base X.outer:=by
 have all:∀(l:List Env),(∀b∈dU l,b∈X.fs)->X.s₀.heap.FunFrames X.base l->s.heap.FunFrames X.base l:=by
  intro l
  induction l with
  |nil=>intro _ _;trivial
  |cons env r ih=>
   intro hs hl
   obtain⟨hk,⟨L,o,hf,hn,ho,hd⟩,hr⟩:=hl
   have hL:L∈X.fs:=hs L (by unfold dU;rw[OT,hf];exact Nb)
   obtain⟨sl,e⟩:=I.base.slot L o ho (I.ok.frf L hL) hL λz=>I.ok.exfs L z hL
   exact⟨hk,⟨L,_,hf,hn,e,hd⟩,ih (λb hb=>hs b (by unfold dU;rw[OT,hf];exact M8 _ hb)) hr⟩
 exact all X.outer (λ_ hb=>hb) I.ok.funs
def Inv.stack (I:Inv X pins σ H s):s.heap.FunFrames X.base X.stack:=by
 rcases I.ok.stk with e | ⟨e,hf⟩
 ·rw[e];exact I.funs
 ·rw[e]
  obtain⟨m,hn,_⟩:=I.loc
  refine .cons (by rw[I.ok.kind];decide) hf hn ?_ I.funs
  exact Heap.get?_none_of_le (Oe I.ok.bsz I.ok.above)
def Inv.stkSub (I:Inv X pins σ H s):∀b∈dU X.stack,b∈X.env.locals :: X.fs:=λb hb=>by
 rcases I.ok.stk with e | ⟨e,hf⟩
 ·rw[e] at hb;exact M8 _ hb
 ·rw[e] at hb
  unfold dU at hb
  rw[OT,hf] at hb
  exact hb
def Inv.stkFree (I:Inv X pins σ H s):∀b∈dU X.stack,H b=none:=λb hb=>by
 rcases M6.mp (I.stkSub b hb) with e |hb
 ·rw[e];exact I.free
 ·obtain⟨_,o,ho,_⟩:=I.ok.funs.mem hb
  exact I.base.free b o ho (I.ok.frf b hb) λz=>I.ok.exfs b z hb
def Inv.step {g':Array GenState}{t':Nat}{d':Drawn}{ch:List Addr}(I:Inv X pins σ H s)
  (hch:∀b∈ch,(b∈X.ex\/X.s₀.heap.objs.size<=b)/\b≠X.env.locals/\(∀x c,X.env.cells.lookup x=some c->c≠b)/\∀p∈X.pn ++ pins,p.1≠b)
  (keep:∀b o,b≠X.env.locals->b∉X.fs->b∉ch->s.heap.get? b=some o->H b=none->h'.get? b=some o)
  (slot:∀b o,b≠X.env.locals->b∈X.fs->b∉ch->s.heap.get? b=some o->H b=none->∃sl,h'.get? b=some {o with slots:=sl}) (free:∀b o,b∉ch->s.heap.get? b=some o->H b=none->H' b=none)
  (there:∀b o,b∉ch->s.heap.get? b=some o->∃o',h'.get? b=some o')
  (tups:∀b xs,H b=some (.tup xs)->H' b=some (.tup xs)) (frzs:∀b o u,H b=some (.aS o u)->H' b=some (.aS o u)) (tbls:∀b ps,H b=some (.tbl ps)->∃more,H' b=some (.tbl (ps ++ more)))
  (ns:∀m,s.heap.Ns X.env.locals m->h'.Ns X.env.locals m) (hok:j5 X.prog X.w H' h') (hg:AllBare g') :
  Inv X pins σ H' {s with heap:=h',gens:=g',drawn:=d',toks:=t'}:=by
 have neL:∀b o,X.s₀.heap.get? b=some o->b≠X.env.locals:=λb o e=>NG (ND (Nf e) I.ok.above)
 have neC:∀b o,X.s₀.heap.get? b=some o->b∉X.ex->b∉ch:=λb o e hx hb=>by
  rcases (hch b hb).1 with z |z
  ·exact hx z
  ·exact absurd (ND (Nf e) z) (NR _)
 have cellK:∀x c,X.env.cells.lookup x=some c->∀v,s.heap.IsCell c v->h'.IsCell c v:=λx c e v ⟨o,ho,hd⟩=>by
  have nch:c∉ch:=λz=>(hch c z).2.2.1 x c e rfl
  by_cases hc:c∈X.fs
  ·obtain⟨sl,q⟩:=slot c o (I.cne x c e) hc nch ho (I.freeC x c e)
   exact⟨_,q,hd⟩
  ·exact⟨o,keep c o (I.cne x c e) hc nch ho (I.freeC x c e),hd⟩
 refine⟨I.ok,I.os,hg,⟨λb o e n hb hx=>?_,λb o e n hb hx=>?_,λb o e n hx=>?_,λb o e hx=>?_,λb xs e=>tups b xs (I.base.tups b xs e),λb o xs e=>frzs b o xs (I.base.frzs b o xs e),λb ps e=>?_⟩,?_,λx c e=>?_,?_,λx c e=>?_,λp hp=>?_,hok,I.len⟩
 ·exact keep b o (neL b o e) hb (neC b o e hx) (I.base.keep b o e n hb hx) (I.base.free b o e n hx)
 ·obtain⟨sl,e1⟩:=I.base.slot b o e n hb hx
  obtain⟨sl',e2⟩:=slot b _ (neL b o e) hb (neC b o e hx) e1 (I.base.free b o e n hx)
  exact⟨sl',e2⟩
 ·obtain⟨o',e1⟩:=I.base.there b o e hx
  exact free b o' (neC b o e hx) e1 (I.base.free b o e n hx)
 ·obtain⟨o',e1⟩:=I.base.there b o e hx
  exact there b o' (neC b o e hx) e1
 ·obtain⟨m1,e1⟩:=I.base.tbls b ps e
  obtain⟨m2,e2⟩:=tbls b _ e1
  exact⟨m1 ++ m2,by rw[e2,Array.append_assoc]⟩
 ·obtain⟨m,hn,hl⟩:=I.loc
  refine⟨m,ns m hn,λi x v e1 e2 e3=>?_⟩
  obtain⟨u,r,l⟩:=hl i x v e1 e2 e3
  refine⟨u,r,?_⟩
  rcases l with l | ⟨k,c,e,z⟩
  ·exact .inl l
  ·exact .inr ⟨k,c,e,cellK x c e _ z⟩
 ·obtain⟨v,z⟩:=I.cell x c e
  exact⟨v,cellK x c e v z⟩
 ·obtain⟨m,⟨o,_,_,ho,_⟩,_⟩:=I.loc
  exact free _ o (λz=>(hch _ z).2.1 rfl) ho I.free
 ·obtain⟨v,o,ho,hd⟩:=I.cell x c e
  exact free c o (λz=>(hch c z).2.2.1 x c e rfl) ho (I.freeC x c e)
 ·obtain⟨e,n,ne,nf,d⟩:=I.pin p hp
  have nch:p.1∉ch:=λz=>(hch p.1 z).2.2.2 p hp rfl
  exact⟨keep p.1 p.2 ne nf nch e n,free p.1 p.2 nch e n,ne,nf,d⟩
def Inv.un {t':Nat}(I:Inv X pins σ H s)(u:Un X.fs [] H H' s.heap h')(hok:j5 X.prog X.w H' h'):Inv X pins σ H' {s with heap:=h',toks:=t'}:=by
 obtain⟨m,⟨o,es,ep,ho,r⟩,_⟩:=id I.loc
 obtain⟨sl,hL⟩:=u.any ho I.free (by simp)
 exact I.step (g':=s.gens) (d':=s.drawn) (ch:=[]) (λ_ z=>nomatch z) (λb o _ hb _ e n=>u.keep b o e n hb (by simp)) (λb o _ hb _ e n=>u.slot b o e n hb (by simp)) (λb o _ e n=>u.free b o e n (by simp)) (λb o _ e=>u.there b o e (by simp)) u.tups u.frzs u.tbls (λm' hm=>by
  obtain⟨o',es',ep',ho',r'⟩:=hm
  rw[ho] at ho';cases ho'
  exact⟨_,es',ep',hL,r'⟩) hok I.bare
def Inv.call {g':Array GenState}{t':Nat}{d':Drawn}{ch:List Addr}(I:Inv X pins σ H s)(u:Un (dU X.stack) ch H H' s.heap h')(hok:j5 X.prog X.w H' h')(hg:AllBare g')
  (hch:∀b∈ch,(b∈X.ex\/X.s₀.heap.objs.size<=b)/\b≠X.env.locals/\(∀x c,X.env.cells.lookup x=some c->c≠b)/\∀p∈X.pn ++ pins,p.1≠b) :
  Inv X pins σ H' {s with heap:=h',gens:=g',drawn:=d',toks:=t'}:=by
 obtain⟨m,⟨o,es,ep,ho,r⟩,_⟩:=id I.loc
 obtain⟨sl,hL⟩:=u.any ho I.free λz=>(hch _ z).2.1 rfl
 exact I.step (ch:=ch) hch (λb o hL hb hc e n=>u.keep b o e n (λz=>(M6.mp (I.stkSub b z)).elim hL hb) hc) (λb o _ _ hc e n=>u.any e n hc) (λb o hc e n=>u.free b o e n hc) (λb o hc e=>u.there b o e hc) u.tups u.frzs u.tbls (λm' hm=>by
  obtain⟨o',es',ep',ho',r'⟩:=hm
  rw[ho] at ho';cases ho'
  exact⟨_,es',ep',hL,r'⟩) hok hg
def Inv.turned {t':Nat}{it:Addr}(I:Inv X pins σ H s)(k:∀b o,b≠it->s.heap.get? b=some o->h'.get? b=some o)(hn:H it=none)(hL:it≠X.env.locals)
  (h1:it∈X.ex\/X.s₀.heap.objs.size<=it) (h2:∀x c,X.env.cells.lookup x=some c->c≠it) (h3:∀p∈X.pn ++ pins,p.1≠it):Inv X pins σ H {s with heap:=h',toks:=t'}:=by
 have nit:∀b u,H b=some u->b≠it:=λb u e z=>by rw[z,hn] at e;cases e
 refine I.step (g':=s.gens) (d':=s.drawn) (ch:=[it]) (λb hb=>?_) (λb o _ _ hc e _=>k b o (λz=>hc (by simp[z])) e) (λb o _ _ hc e _=>⟨o.slots,k b o (λz=>hc (by simp[z])) e⟩) (λ_ _ _ _ n=>n)
  (λb o hc e=>⟨o,k b o (λz=>hc (by simp[z])) e⟩) (λ_ _ e=>e) (λ_ _ _ e=>e) (λb ps e=>⟨#[],by rw[e];simp⟩) (λm hm=>?_) (λb u e=>?_) I.bare
 ·have e:b=it:=by simpa using hb
  subst e
  exact⟨h1,hL,h2,h3⟩
 ·obtain⟨o,es,ep,ho,r⟩:=hm
  exact⟨o,es,ep,k _ o (Ne.symm hL) ho,r⟩
 ·refine (I.hok b u e).stay (λc v hc q=>k c v ?_ q) (λ_ q=>q) λ_ _ q=>q
  rcases hc with z |z
  ·rw[z];exact nit b u e
  ·exact nit c _ z
def Inv.tok (I:Inv X pins σ H s)(t:Nat):Inv X pins σ H {s with toks:=t}:=I.un (h':=s.heap) (t':=t) Un.refl I.hok
def Inv.kept {t':Nat}(I:Inv X pins σ H s)(k:∀b u,s.heap.get? b=some u->h'.get? b=some u):Inv X pins σ H {s with heap:=h',toks:=t'}:=I.un (Un.kept k) (I.hok.kept k)
def Inv.laid {a:Addr}{o:HO}{t':Nat}(I:Inv X pins σ H s)(k:∀b u,s.heap.get? b=some u->h'.get? b=some u)(hp:s.heap.objs.size<=a)(new:bA X.prog X.w (upd H a o) h' a o) :
  Inv X pins σ (upd H a o) {s with heap:=h',toks:=t'}:=I.un (Un.laid k hp (I.hok.fresh hp)) (I.hok.laid k hp new)
def Inv.write {x e:Addr}{o:HO}{t':Nat}(I:Inv X pins σ H s)(mu:Jv (H x))(he:e=x\/H e=some (.own x))(k:∀b u,b≠e->s.heap.get? b=some u->h'.get? b=some u)(heo:∃u,h'.get? e=some u)
  (new:bA X.prog X.w (upd H x o) h' x o):Inv X pins σ (upd H x o) {s with heap:=h',toks:=t'}:=I.un (Un.write mu he k heo) (I.hok.write mu he k heo new)
def Inv.pins_of {pins':List (Addr×Obj)}(I:Inv X pins σ H s)(h:∀p∈pins',s.heap.get? p.1=some p.2/\H p.1=none/\p.1≠X.env.locals/\p.1∉X.fs/\∀v,p.2.data≠.cell v):Inv X pins' σ H s:=
 ⟨I.ok,I.os,I.bare,I.base,I.loc,I.cell,I.free,I.freeC,λp hp=>(Nw.mp hp).elim (λz=>I.pin p (Of _ z)) (h p),I.hok,I.len⟩
def qf {N:List Str}(hN:N.Nodup){i j:Nat}{x:Str}(a:N[i]? =some x)(b:N[j]? =some x):i=j:=by
 obtain⟨h1,e1⟩:=Np.mp a
 obtain⟨h2,e2⟩:=Np.mp b
 exact (List.getElem_inj hN).mp (e1.trans e2.symm)
def sy {M:Model}{A:Around}{E:Value->Shared->Prop}{i:Nat}{x:Str}{v:V}{u:Value}{Q:Unit->Shared->Prop}(I:Inv X pins σ H s)(hN:X.N.Nodup)(hi:X.N[i]? =some x)(hx:Loc X.env.scope x)(r:RelV v u)
  (h:∀s',Inv X pins (σ.set i (some v)) H s'->(∃a,Heap.SameBut a s.heap s'.heap/\(a=X.env.locals\/X.env.cells.lookup x=some a))->Q () s') (hf:X.fn x=true\/X.env.scope.names.lookup x=some .local:=by first |exact .inl rfl |exact .inr rfl |assumption):wpAny M A (storeName X.env x u) Q E s:=by
 obtain⟨m,hn,hl⟩:=id I.loc
 have hcls:(X.env.scope.kind == .class || (X.env.scope.kind == .module && X.env.locals != X.env.globals))=false:=by rw[I.ok.kind];rfl
 have hiσ:i < σ.length:=by rw[I.len];exact (Np.mp hi).1
 have cne:=I.cne
 have tracked:∀{a:Addr} {h':Heap},(∃o,s.heap.get? a=some o/\H a=none)->Heap.SameBut a s.heap h'->j5 X.prog X.w H h':=λ{a h'} ha hs b ob e=>by
  obtain⟨_,_,hfree⟩:=ha
  refine (I.hok b ob e).stay (λc w' hc q=>(hs.2 c ?_).trans q) (λ_ q=>q) λ_ _ q=>q
  rintro rfl
  rcases hc with rfl |hc
  ·rw[hfree] at e;cases e
  ·rw[hfree] at hc;cases hc
 rcases hx with hk |hk
 ·refine wpAny_storeName_local hk hn (λh' hn' hs=>?_) hcls
  obtain⟨oL,_,_,hoL,_⟩:=id hn
  refine h _ ⟨I.ok,I.os,I.bare,⟨λb o e n hb hx=>?_,λb o e n hb hx=>?_,I.base.free,λb o e hx=>?_,I.base.tups,I.base.frzs,I.base.tbls⟩,⟨_,hn',λj y v' e1 e2 e3=>?_⟩,λy c e=>?_,I.free,I.freeC,λp hp=>?_,tracked ⟨oL,hoL,I.free⟩ hs,by simpa using I.len⟩ ⟨_,hs,.inl rfl⟩
  ·exact (hs.2 b (NG (ND (Nf e) I.ok.above))).trans (I.base.keep b o e n hb hx)
  ·obtain⟨sl,e1⟩:=I.base.slot b o e n hb hx
   exact⟨sl,(hs.2 b (NG (ND (Nf e) I.ok.above))).trans e1⟩
  ·obtain⟨o',e1⟩:=I.base.there b o e hx
   exact⟨o',(hs.2 b (NG (ND (Nf e) I.ok.above))).trans e1⟩
  ·by_cases hj:j=i
   ·subst hj
    rw[hi] at e1;cases e1
    rw[Nt hiσ] at e2
    cases e2
    exact⟨u,r,.inl ⟨hk,by simp⟩⟩
   ·rw[Nu (Ne.symm hj)] at e2
    obtain⟨u',r',q⟩:=hl j y v' e1 e2 e3
    refine⟨u',r',?_⟩
    rcases q with⟨k,e⟩ | ⟨k,c,e,z⟩
    ·refine .inl ⟨k,?_⟩
     have:y≠x:=λe=>hj (qf hN e1 (e▸hi))
     simp[this,e]
    ·exact .inr ⟨k,c,e,z.sameBut hs (cne y c e)⟩
  ·obtain⟨w',z⟩:=I.cell y c e
   exact⟨w',z.sameBut hs (cne y c e)⟩
  ·obtain⟨e,n,ne,nf,d⟩:=I.pin p hp
   exact⟨(hs.2 p.1 ne).trans e,n,ne,nf,d⟩
 ·have hfn:X.fn x=true:=by
   rcases hf with z |z
   ·exact z
   ·rw[z] at hk;cases hk
  obtain⟨c,hc⟩:=I.ok.has x (.inl hk)
  obtain⟨w',z⟩:=I.cell x c hc
  refine wpAny_storeName_cell I.ok.kind hk hc z (λh' hc' hs=>?_)
  obtain⟨oc,hoc,hocd⟩:=id z
  refine h {s with heap:=h'} ⟨I.ok,I.os,I.bare,⟨λb o e n hb hx=>?_,λb o e n hb hx=>?_,I.base.free,λb o e hx=>?_,I.base.tups,I.base.frzs,I.base.tbls⟩,⟨m,hn.sameBut hs (Ne.symm (cne x c hc)),λj y v' e1 e2 e3=>?_⟩,λy c' e=>?_,I.free,I.freeC,λp hp=>?_,tracked ⟨oc,hoc,I.freeC x c hc⟩ hs,by simpa using I.len⟩ ⟨c,hs,.inr hc⟩
  ·exact (hs.2 b (NG (ND (Nf e) (I.ok.cab x c hfn hc)))).trans (I.base.keep b o e n hb hx)
  ·obtain⟨sl,e1⟩:=I.base.slot b o e n hb hx
   exact⟨sl,(hs.2 b (NG (ND (Nf e) (I.ok.cab x c hfn hc)))).trans e1⟩
  ·obtain⟨o',e1⟩:=I.base.there b o e hx
   exact⟨o',(hs.2 b (NG (ND (Nf e) (I.ok.cab x c hfn hc)))).trans e1⟩
  ·by_cases hj:j=i
   ·subst hj
    rw[hi] at e1;cases e1
    rw[Nt hiσ] at e2
    cases e2
    exact⟨u,r,.inr ⟨.inl hk,c,hc,hc'⟩⟩
   ·rw[Nu (Ne.symm hj)] at e2
    obtain⟨u',r',q⟩:=hl j y v' e1 e2 e3
    refine⟨u',r',?_⟩
    rcases q with q | ⟨k,c',e,z'⟩
    ·exact .inl q
    ·refine .inr ⟨k,c',e,z'.sameBut hs ?_⟩
     rintro rfl
     exact hj (qf hN e1 (I.ok.inj _ _ _ e hc▸hi))
  ·by_cases hcc:c'=c
   ·subst hcc;exact⟨_,hc'⟩
   ·obtain⟨w2,z2⟩:=I.cell y c' e
    exact⟨w2,z2.sameBut hs hcc⟩
  ·obtain⟨e,n,ne,nf,d⟩:=I.pin p hp
   refine⟨(hs.2 p.1 ?_).trans e,n,ne,nf,d⟩
   intro q
   rw[q,hoc] at e
   have q':oc=p.2:=Option.some.inj e
   exact d w' (by rw[<-q'];exact hocd)
def mG {M:Model}{A:Around}{E:Value->Shared->Prop}{i:Nat}{x:Str}{v:V}{u:Value}{Q:Unit->Shared->Prop}(I:Inv X pins σ H s)(hN:X.N.Nodup)(hi:X.N[i]? =some x)(hx:Loc X.env.scope x)(r:RelV v u)
  (h:∀s',Inv X pins (σ.set i (some v)) H s'->Q () s') (hf:X.fn x=true\/X.env.scope.names.lookup x=some .local:=by first |exact .inl rfl |exact .inr rfl |assumption):wpAny M A (storeName X.env x u) Q E s:=
 sy I hN hi hx r (λs' I' _=>h s' I') hf
def Inv.call' {s':Shared}{ch:List Addr}(I:Inv X pins σ H s)(ho:s'.os=s.os)(u:Un (dU X.stack) ch H H' s.heap s'.heap)(hok:j5 X.prog X.w H' s'.heap)(hg:AllBare s'.gens)
  (hch:∀b∈ch,(b∈X.ex\/X.s₀.heap.objs.size<=b)/\b≠X.env.locals/\(∀x c,X.env.cells.lookup x=some c->c≠b)/\∀p∈X.pn ++ pins,p.1≠b):Inv X pins σ H' s':=by
 obtain⟨h',g',d',t',o'⟩:=s'
 have e:o'=s.os:=ho
 subst e
 exact I.call (g':=g') (t':=t') (d':=d') u hok hg hch
end
abbrev XK:=Value->Option Addr->Hp->Prop
abbrev St:=List (Option V)
abbrev VK:=V->Hp->Prop
abbrev TE:=St->Hp->VK->Prop
abbrev TT:=St->Hp->(Bool->Hp->Prop)->Prop
abbrev TA:=St->Hp->(List V->Hp->Prop)->Prop
structure Ends where
 nx:St->Hp->Prop
 rt:VK
 bk:St->Hp->Prop:=λ_ _=>False
 ct:St->Hp->Prop:=λ_ _=>False
abbrev TS:=Ends->St->Hp->Prop
def EP (X:Cx)(pins:List (Addr×Obj))(σ:St)(Q:VK)(u:Value)(s':Shared):Prop:=∃v H',Inv X pins σ H' s'/\RelV v u/\Q v H'
def TP (X:Cx)(pins:List (Addr×Obj))(σ:St)(Q:Bool->Hp->Prop)(b:Bool)(s':Shared):Prop:=∃H',Inv X pins σ H' s'/\Q b H'
def AP (X:Cx)(pins:List (Addr×Obj))(σ:St)(Q:List V->Hp->Prop)(us:List Value)(s':Shared):Prop:=∃vs H',Inv X pins σ H' s'/\Vals vs us/\Q vs H'
def SP (X:Cx)(pins:List (Addr×Obj))(D:Ends)(f:Flow)(s':Shared):Prop:=
 match f with
 | .next=>∃σ' H',Inv X pins σ' H' s'/\D.nx σ' H'
 | .brk=>∃σ' H',Inv X pins σ' H' s'/\D.bk σ' H'
 | .cont=>∃σ' H',Inv X pins σ' H' s'/\D.ct σ' H'
 | .ret u=>∃v σ' H',Inv X pins σ' H' s'/\RelV v u/\D.rt v H'
def PE (X:Cx)(e:Expr)(t:TE):Prop:=
 ∀(pins:List (Addr×Obj)) (s:Shared) (σ:St) (H:Hp) (Q:VK),Inv X pins σ H s->t σ H Q->wpAny (model X.prog X.w) X.A (eval e X.env) (EP X pins σ Q) X.xe s
def PT (X:Cx)(e:Expr)(t:TT):Prop:=
 ∀(pins:List (Addr×Obj)) (s:Shared) (σ:St) (H:Hp) (Q:Bool->Hp->Prop),Inv X pins σ H s->t σ H Q->wpAny (model X.prog X.w) X.A (isTrue e X.env (eval e X.env)) (TP X pins σ Q) X.xe s
def PW (X:Cx)(e:Expr)(t:TT):Prop:=
 ∀(whole:Sem Value) (pins:List (Addr×Obj)) (s:Shared) (σ:St) (H:Hp) (Q:Bool->Hp->Prop),Inv X pins σ H s->t σ H Q->wpAny (model X.prog X.w) X.A (isTrue e X.env whole) (TP X pins σ Q) X.xe s
def PW.pt {X:Cx}{e:Expr}{t:TT}(h:PW X e t):PT X e t:=h _
def PA (X:Cx)(es:List Expr)(t:TA):Prop:=
 ∀(pos:Pos) (pins:List (Addr×Obj)) (s:Shared) (σ:St) (H:Hp) (Q:List V->Hp->Prop),Inv X pins σ H s->t σ H Q->wpAny (model X.prog X.w) X.A (spliced (backTo pos (starEach es X.env))) (AP X pins σ Q) X.xe s
def PS (X:Cx)(st:Stmt)(t:TS):Prop:=
 ∀(pins:List (Addr×Obj)) (s:Shared) (σ:St) (H:Hp) (D:Ends),Inv X pins σ H s->t D σ H->wpAny (model X.prog X.w) X.A (exec st X.env) (SP X pins D) X.xe s
def oJ (X:Cx)(st:List Stmt)(t:TS):Prop:=
 ∀(pins:List (Addr×Obj)) (s:Shared) (σ:St) (H:Hp) (D:Ends),Inv X pins σ H s->t D σ H->wpAny (model X.prog X.w) X.A (execs st X.env) (SP X pins D) X.xe s
def b6 {α:Type}{t:Sem α}{Q Q':α->Shared->Prop}{M:Model}{A:Around}{E:Value->Shared->Prop}{s:Shared}(h:wpAny M A t Q E s)(hQ:∀a s,Q a s->Q' a s):wpAny M A t Q' E s:=Oo h hQ λ_ _ x=>x
section
variable {X:Cx}
def bin {a b:Expr}{ta tb:TE}(ha:PE X a ta)(hb:PE X b tb){pins:List (Addr×Obj)}{s:Shared}{σ:St}{H:Hp}{R:V->V->Hp->Prop}(I:Inv X pins σ H s)(h:ta σ H λx H1=>tb σ H1 λy H2=>R x y H2)
  {α:Type} {Q:α->Shared->Prop} {f:Value->Value->Sem α}
  (hf:∀v u s2 x y H2,Inv X pins σ H2 s2->RelV x v->RelV y u->R x y H2->wpAny (model X.prog X.w) X.A (f v u) Q X.xe s2) :
  wpAny (model X.prog X.w) X.A (eval a X.env) (λv s₁=>wpAny (model X.prog X.w) X.A (eval b X.env) (λu s₂=>wpAny (model X.prog X.w) X.A (f v u) Q X.xe s₂) X.xe s₁) X.xe s:=by
 refine b6 (ha pins s σ H _ I h) λv s1 ⟨x,H1,I1,r1,q1⟩=>?_
 refine b6 (hb pins s1 σ H1 _ I1 q1) λu s2 ⟨y,H2,I2,r2,q2⟩=>?_
 exact hf v u s2 x y H2 I2 r1 r2 q2
def EF (i:Nat):TE:=λσ H Q=>∃v,σ[i]? =some (some v)/\Q v H
def tC (v:V):TE:=λ_ H Q=>Q v H
def iL {i:Nat}{x:Str}{pos:Pos}(hN:X.N[i]? =some x)(hv:xw X.env.scope x)(hd:(x == ("__debug__":Str))=false:=by decide)(hcd:(x == ("__classdict__":Str))=false:=by decide):PE X (.Name x pos) (EF i):=by
 intro pins s σ H Q I h
 obtain⟨v,e,h⟩:=h
 obtain⟨m,hn,hl⟩:=I.loc
 obtain⟨u,r,l⟩:=hl i x v hN e hv
 have fin:EP X pins σ Q u s:=⟨v,H,I,r,h⟩
 rcases l with⟨hk,hm⟩ | ⟨hk,c,hc,hcell⟩
 ·exact wpAny_Name (wpAny_loadName_local I.ok.kind hk hn hm fin) hd
 ·rcases hk with hk |hk
  ·exact wpAny_Name (wpAny_loadName_cell I.ok.kind hk hc hcell fin) hd
  ·exact wpAny_Name (wpAny_loadName_free I.ok.kind hk hc hcell fin hcd) hd
def nP {i j pos}:PE X (.Constant (.int i) j pos) (tC (.int i)):=λ_ _ _ H _ I h=>wpAny_Constant_int ⟨.int i,H,I.tok _,⟨_,rfl⟩,h⟩
def sJ {b j pos}:PE X (.Constant (.bool b) j pos) (tC (.bl b)):=λ_ _ _ H _ I h=>Constant_bool ⟨.bl b,H,I,rfl,h⟩
def IQ {j pos}:PE X (.Constant .none j pos) (tC .non):=λ_ _ _ H _ I h=>Constant_none ⟨.non,H,I,rfl,h⟩
def qx {x j pos}:PE X (.Constant (.str x) j pos) (tC (.str x)):=λ_ _ _ H _ I h=>Calls.Constant_str ⟨.str x,H,I.tok _,⟨_,rfl⟩,h⟩
def Gl (X:Cx)(x:Str):Prop:=X.env.kindOf x=some .globalImplicit
def mB {E:Value->Shared->Prop}{pins:List (Addr×Obj)}{s:Shared}{σ:St}{H:Hp}{x:Str}{u:Value}{pos:Pos}{Q:Value->Shared->Prop}(I:Inv X pins σ H s)(hg:Gl X x)(hm:X.mg x=some u)(h:Q u s)
  (hd:(x == ("__debug__":Str))=false:=by decide):wpAny (model X.prog X.w) X.A (eval (.Name x pos) X.env) Q E s:=
 Calls.Name_function_global I.ok.kind hg (Calls.loadGlobal_global (by rw[I.ok.glob];exact I.mod.glob.keeps I.bk) hm h) hd
def nG {E:Value->Shared->Prop}{pins:List (Addr×Obj)}{s:Shared}{σ:St}{H:Hp}{x:Str}{u:Value}{pos:Pos}{Q:Value->Shared->Prop}(I:Inv X pins σ H s)(hg:Gl X x)(hm:X.mg x=none)(hv:bootBuiltins x=some u)(h:Q u s)
  (hn:x≠"__name__":=by decide) (hd:(x == ("__debug__":Str))=false:=by decide):wpAny (model X.prog X.w) X.A (eval (.Name x pos) X.env) Q E s:=by
 obtain⟨mb,h1,h2⟩:=I.mod.blt
 exact Calls.Name_function_global I.ok.kind hg (Calls.loadGlobal_builtin (by rw[I.ok.glob];exact I.mod.glob.keeps I.bk) hm (by rw[I.ok.blt];exact h1.keeps I.bk) ((h2 x hn).trans hv) h) hd
def cE {x:Str}{v:V}{u:Value}{pos:Pos}(hg:Gl X x)(hm:X.mg x=some u)(r:RelV v u)(hd:(x == ("__debug__":Str))=false:=by decide):PE X (.Name x pos) (tC v):=
 λ_ _ _ H _ I h=>mB I hg hm ⟨v,H,I,r,h⟩ hd
def zj {x:Str}{v:V}{u:Value}{pos:Pos}(hg:Gl X x)(hm:X.mg x=none)(hv:bootBuiltins x=some u)(r:RelV v u)(hn:x≠"__name__":=by decide)(hd:(x == ("__debug__":Str))=false:=by decide):PE X (.Name x pos) (tC v):=
 λ_ _ _ H _ I h=>nG I hg hm hv ⟨v,H,I,r,h⟩ hn hd
variable {a b:Expr}{ta tb:TE}{pos:Pos}
def PC (X:Cx)(op:CmpOp)(a b:Expr)(t:TE):Prop:=
 ∀(pins:List (Addr×Obj)) (s:Shared) (σ:St) (H:Hp) (Q:VK),Inv X pins σ H s->t σ H Q->
  wpAny (model X.prog X.w) X.A (eval a X.env) (λv s₁=>wpAny (model X.prog X.w) X.A (eval b X.env) (λu s₂=>wpAny (model X.prog X.w) X.A (compareOp op v u) (EP X pins σ Q) X.xe s₂) X.xe s₁) X.xe s
def C9 (b:Expr){op:CmpOp}(h:op≠.In)(h2:op≠.NotIn):behindInMarks op b=false:=by
 have e1:(op == CmpOp.In)=false:=by cases op <;> first |rfl |exact absurd rfl h
 have e2:(op == CmpOp.NotIn)=false:=by cases op <;> first |rfl |exact absurd rfl h2
 cases b <;> simp[behindInMarks,e1,e2]
def tB (t:TE):TT:=λσ H Q=>t σ H λx H1=>∃c,x=.bl c/\Q c H1
def Mc {op:CmpOp}{t:TE}(h:PC X op a b t)(h1:behindInMarks op b=false:=by first |exact C9 _ (by decide) (by decide) |rfl):PT X (.Compare a [op] [b] pos) (tB t):=by
 intro pins s σ H Q I hw
 refine wpAny_isTrue_Compare1 (b6 (h pins s σ H _ I hw) λv s1 h1=>b6 h1 λu s2 h2=>b6 h2 λc s3 ⟨x,H1,I1,r1,q1⟩=>?_) h1
 obtain⟨d,rfl,q⟩:=q1
 cases r1
 exact OC ⟨H1,I1,q⟩
def qw {e:Expr}{t:TE}(h:PE X e t)(he:∀whole,isTrue e X.env whole=(do let v <-whole;standAt e.pos;holding [v] (truthy v)):=by intro _;rfl):PT X e (tB t):=by
 intro pins s σ H Q I hw
 refine isTrue_plain (b6 (h pins s σ H _ I hw) λv s1 ⟨x,H1,I1,r1,q1⟩=>?_) (he _)
 obtain⟨d,rfl,q⟩:=q1
 cases r1
 exact OC ⟨H1,I1,q⟩
variable {tA tB':TT}{rest:List Expr}
def Mg (t u:TT):TT:=λσ H Q=>t σ H λc H1=>if c=true then u σ H1 Q else Q false H1
def MU (t u:TT):TT:=λσ H Q=>t σ H λc H1=>if c=true then Q true H1 else u σ H1 Q
def L5 (t:TT):TT:=λσ H Q=>t σ H λc H1=>Q (!c) H1
theorem y0 (ha:PT X a tA):PW X (.BoolOp .And [a] pos) tA:=by
 intro wh pins s σ H Q I h
 refine isTrue_and (b6 (ha pins s σ H Q I h) λc s1 e=>?_)
 cases c with
 |true=>exact isTrue_and_nil e
 |false=>exact e
theorem DO (ha:PT X a tA):PW X (.BoolOp .Or [a] pos) tA:=by
 intro wh pins s σ H Q I h
 refine isTrue_or (b6 (ha pins s σ H Q I h) λc s1 e=>?_)
 cases c with
 |false=>exact isTrue_or_nil e
 |true=>exact e
theorem CV (ha:PT X a tA)(hb:PW X (.BoolOp .And (b :: rest) pos) tB'):PW X (.BoolOp .And (a :: b :: rest) pos) (Mg tA tB'):=by
 intro wh pins s σ H Q I h
 refine isTrue_and (b6 (ha pins s σ H _ I h) λc s1 ⟨H1,I1,q1⟩=>?_)
 cases c with
 |true=>exact hb wh pins s1 σ H1 Q I1 q1
 |false=>exact⟨H1,I1,q1⟩
theorem GL (ha:PT X a tA)(hb:PW X (.BoolOp .Or (b :: rest) pos) tB'):PW X (.BoolOp .Or (a :: b :: rest) pos) (MU tA tB'):=by
 intro wh pins s σ H Q I h
 refine isTrue_or (b6 (ha pins s σ H _ I h) λc s1 ⟨H1,I1,q1⟩=>?_)
 cases c with
 |true=>exact⟨H1,I1,q1⟩
 |false=>exact hb wh pins s1 σ H1 Q I1 q1
def xB (ha:PT X a tA):PT X (.UnaryOp .Not a pos) (L5 tA):=by
 intro pins s σ H Q I h
 exact isTrue_not (ha pins s σ H (λc H1=>Q (!c) H1) I h)
def JC (ta tb:TE):TE:=λσ H Q=>ta σ H λx H1=>∃c,x=.bl c/\if c=true then tb σ H1 Q else Q (.bl false) H1
def J3 (ta:TE):TE:=λσ H Q=>ta σ H λx H1=>∃c,x=.bl c/\Q (.bl (!c)) H1
def Hl {op}{t:TE}(h:PE X a t):PE X (.BoolOp op [a] pos) t:=λpins s σ H Q I hw=>BoolOp_one (h pins s σ H Q I hw)
theorem Iz (ha:PE X a ta)(hb:PE X (.BoolOp .And (b :: rest) pos) tb):PE X (.BoolOp .And (a :: b :: rest) pos) (JC ta tb):=by
 intro pins s σ H Q I h
 refine BoolOp_and (b6 (ha pins s σ H _ I h) λv s1 ⟨x,H1,I1,r1,q1⟩=>?_)
 obtain⟨c,rfl,q1⟩:=q1
 cases r1
 refine OC ?_
 cases c with
 |true=>exact hb pins s1 σ H1 Q I1 q1
 |false=>exact⟨.bl false,H1,I1,rfl,q1⟩
def IA (ha:PE X a ta):PE X (.UnaryOp .Not a pos) (J3 ta):=by
 intro pins s σ H Q I h
 refine UnaryOp_ (b6 (ha pins s σ H _ I h) λv s1 ⟨x,H1,I1,r1,q1⟩=>?_)
 obtain⟨c,rfl,q1⟩:=q1
 cases r1
 exact not_of (OC ⟨.bl (!c),H1,I1,rfl,q1⟩)
end
def dZ (K:Frag)(H:Hp)(a:Addr)(xs:List V):Prop:=
 Rd H a (.lst xs)\/
  ∃(o:Obj) (its:Array Value) (n:Nat),K.lookup a=some o/\o.cls=.type "list"/\o.dict=none/\o.data=.seq its n/\its.size<=sizeLine/\Vals xs its.toList
def fS (K:Frag)(H:Hp)(a:Addr)(xs:List V):Prop:=
 Rd H a (.tup xs)\/
  ∃(o:Obj) (its:Array Value) (n:Nat),K.lookup a=some o/\o.cls=.type "tuple"/\o.data=.seq its n/\its.size<=sizeLine/\Vals xs its.toList/\o.dict=none
def LI:Value->Option V
 | .none=>some .non
 | .bool b=>some (.bl b)
 | .int i _=>some (.int i)
 | .str x _=>some (.str x)
 | .bytes b _=>some (.byt b)
 | .float b _=>some (.flt b)
 | .ref a=>some (.ref a)
 | .type n=>some (.ty n)
 |_=>none
theorem RelV.abs {x:V}{u:Value}(r:RelV x u):LI u=some x:=by
 cases x with
 |non=>cases r;rfl
 |bl _=>cases r;rfl
 |int _=>obtain⟨t,rfl⟩:=r;rfl
 |str _=>obtain⟨t,rfl⟩:=r;rfl
 |byt _=>obtain⟨t,rfl⟩:=r;rfl
 |flt _=>obtain⟨t,rfl⟩:=r;rfl
 |ref _=>cases r;rfl
 |ty _=>cases r;rfl
def RelV.inj {x y:V}{u:Value}(r:RelV x u)(q:RelV y u):x=y:=Option.some.inj (r.abs.symm.trans q.abs)
theorem Vals.inj:∀{xs ys:List V} {us:List Value},Vals xs us->Vals ys us->xs=ys
 |_,_,_,.nil,.nil=>rfl
 |_,_,_,.cons r t,.cons r' t'=>by rw[r.inj r',Vals.inj t t']
section
variable {X:Cx}{pins:List (Addr×Obj)}{σ:St}{H:Hp}{s:Shared}{a:Addr}{xs ys:List V}
def Inv.list (I:Inv X pins σ H s)(h:dZ X.K H a xs):∃its:List Value,Vals xs its/\PlainL s.heap a its.toArray/\xs.length<=sizeLine:=by
 rcases h with h | ⟨o,its,n,hk,hc,hd,hs,hz,r⟩
 ·obtain⟨z,its,n,r,e⟩:=h.ok I.hok
  exact⟨its,r,⟨_,n,e,rfl,rfl,rfl⟩,z⟩
 ·refine⟨its.toList,r,⟨o,n,I.kIn a o hk,hc,hd,by simpa using hs⟩,?_⟩
  have e:=r.length
  simp only[OU] at e
  omega
def Inv.tuple (I:Inv X pins σ H s)(h:fS X.K H a xs):∃its:List Value,Vals xs its/\IsTup s.heap a its.toArray/\xs.length<=sizeLine:=by
 rcases h with h | ⟨o,its,n,hk,hc,hs,hz,r,_⟩
 ·obtain⟨z,its,r,p⟩:=h.ok I.hok
  exact⟨its,r,p.isTup,z⟩
 ·refine⟨its.toList,r,⟨o,I.kIn a o hk,hc,n,by simpa using hs⟩,?_⟩
  have e:=r.length
  simp only[OU] at e
  omega
def Inv.list_inj (I:Inv X pins σ H s)(h:dZ X.K H a xs)(h':dZ X.K H a ys):xs=ys:=by
 obtain⟨its,r,⟨o,n,e,_,_,d⟩,_⟩:=I.list h
 obtain⟨its',r',⟨o',n',e',_,_,d'⟩,_⟩:=I.list h'
 rw[e] at e';cases e'
 rw[d] at d'
 injection d' with d1 _
 have:its=its':=by simpa using congrArg Array.toList d1
 subst this
 exact r.inj r'
def Inv.tuple_inj (I:Inv X pins σ H s)(h:fS X.K H a xs)(h':fS X.K H a ys):xs=ys:=by
 obtain⟨its,r,⟨o,e,_,n,d⟩,_⟩:=I.tuple h
 obtain⟨its',r',⟨o',e',_,n',d'⟩,_⟩:=I.tuple h'
 rw[e] at e';cases e'
 rw[d] at d'
 injection d' with d1 _
 have:its=its':=by simpa using congrArg Array.toList d1
 subst this
 exact r.inj r'
end
abbrev Cx.wish (X:Cx)(E:Value->Shared->Prop):Cx:={X with xe:=E}
abbrev Cx.nox (X:Cx):Cx:=X.wish λ_ _=>False
def Cx.Ok.wish {X:Cx}(ok:X.Ok)(E:Value->Shared->Prop):(X.wish E).Ok:=
 ⟨ok.mod,ok.kind,ok.glob,ok.blt,ok.above,ok.inj,ok.has,ok.cab,ok.hd,ok.frames,ok.stk,ok.exf,ok.bs,ok.bsz,ok.noex,ok.exfs,ok.funs,ok.frf⟩
def Cx.Ok.unwish {X:Cx}{E:Value->Shared->Prop}(ok:(X.wish E).Ok):X.Ok:=
 ⟨ok.mod,ok.kind,ok.glob,ok.blt,ok.above,ok.inj,ok.has,ok.cab,ok.hd,ok.frames,ok.stk,ok.exf,ok.bs,ok.bsz,ok.noex,ok.exfs,ok.funs,ok.frf⟩
section
variable {X:Cx}{pins:List (Addr×Obj)}{σ:St}{H:Hp}{s:Shared}{E:Value->Shared->Prop}
def Inv.wish (I:Inv X pins σ H s)(E:Value->Shared->Prop):Inv (X.wish E) pins σ H s:=⟨I.ok.wish E,I.os,I.bare,I.base,I.loc,I.cell,I.free,I.freeC,I.pin,I.hok,I.len⟩
def Inv.unwish (I:Inv (X.wish E) pins σ H s):Inv X pins σ H s:=⟨I.ok.unwish,I.os,I.bare,I.base,I.loc,I.cell,I.free,I.freeC,I.pin,I.hok,I.len⟩
theorem SP.unwish {D:Ends}{f:Flow}{s':Shared}(h:SP (X.wish E) pins D f s'):SP X pins D f s':=by
 cases f with
 |next=>obtain⟨σ',H',I,q⟩:=h;exact⟨σ',H',I.unwish,q⟩
 |brk=>obtain⟨σ',H',I,q⟩:=h;exact⟨σ',H',I.unwish,q⟩
 |cont=>obtain⟨σ',H',I,q⟩:=h;exact⟨σ',H',I.unwish,q⟩
 |ret u=>obtain⟨v,σ',H',I,r,q⟩:=h;exact⟨v,σ',H',I.unwish,r,q⟩
def oJ.nox {st:List Stmt}{t:TS}(h:oJ X.nox st t):oJ X st t:=λpins s σ H D I hw=>
 Oo (h pins s σ H D (I.wish _) hw) (λ_ _ q=>q.unwish) λ_ _ z=>False.elim z
end
section
variable {X:Cx}{st:Stmt}{rest:List Stmt}{t u:TS}{e:Expr}{te:TE}{pos:Pos}
def KR:TS:=λD σ H=>D.nx σ H
def L3 (t u:TS):TS:=λD σ H=>t {D with nx:=u D} σ H
def o5:oJ X [] KR:=λ_ _ σ H _ I h=>PN ⟨σ,H,I,h⟩
theorem b9 (h1:PS X st t)(h2:oJ X rest u):oJ X (st :: rest) (L3 t u):=by
 intro pins s σ H D I h
 refine wpAny_execs_cons (b6 (h1 pins s σ H {D with nx:=u D} I h) λf s1 q=>?_)
 cases f with
 |next=>
  obtain⟨σ',H',I',q⟩:=q
  exact h2 pins s1 σ' H' D I' q
 |ret v=>exact q
 |brk=>exact q
 |cont=>exact q
theorem di (h1:PS X st t):oJ X [st] t:=by
 intro pins s σ H D I h
 refine wpAny_execs_cons (b6 (h1 pins s σ H D I h) λf s1 q=>?_)
 cases f with
 |next=>exact PN q
 |ret v=>exact q
 |brk=>exact q
 |cont=>exact q
def Inv.quiet {pins:List (Addr×Obj)}{σ:St}{H:Hp}{s:Shared}(I:Inv X pins σ H s):interactive X.env=false:=by simp[interactive,I.ok.kind]
def KU (te:TE):TS:=λD σ H=>te σ H λ_ H1=>D.nx σ H1
def ud (he:PE X e te)(hs:swapsWith e none pos.line X.env=pure false:=by rfl):PS X (.Expr e pos) (KU te):=by
 intro pins s σ H D I h
 exact wpAny_Expr_any (b6 (he pins s σ H _ I h) λv s1 ⟨x,H1,I1,r1,q1⟩=>⟨σ,H1,I1,q1⟩) I.quiet hs
def Lr (te:TE):TS:=λD σ H=>te σ H D.rt
def iM (he:PE X e te):PS X (.Return (some e) pos) (Lr te):=by
 intro pins s σ H D I h
 exact wpAny_Return_some (b6 (he pins s σ H _ I h) λv s1 ⟨x,H1,I1,r1,q1⟩=>⟨x,σ,H1,I1,r1,q1⟩)
def LD (c:TT)(t u:TS):TS:=λD σ H=>c σ H λb H1=>if b=true then t D σ H1 else u D σ H1
theorem zm {c:Expr}{a b:List Stmt}{tc:TT}(hc:PT X c tc)(ha:oJ X a t)(hb:oJ X b u):PS X (.If c a b pos) (LD tc t u):=by
 intro pins s σ H D I h
 refine wpAny_If (b6 (hc pins s σ H _ I h) λd s1 ⟨H1,I1,q1⟩=>?_)
 cases d with
 |true=>exact ha pins s1 σ H1 D I1 q1
 |false=>exact hb pins s1 σ H1 D I1 q1
end
abbrev TG:=V->St->Hp->(St->Hp->Prop)->Prop
abbrev Ia:=List V->St->Hp->(St->Hp->Prop)->Prop
def PG (X:Cx)(target:Expr)(t:TG):Prop:=
 ∀(pins:List (Addr×Obj)) (s:Shared) (σ:St) (H:Hp) (v:V) (u:Value) (Q:St->Hp->Prop),Inv X pins σ H s->RelV v u->t v σ H Q->
  wpAny (model X.prog X.w) X.A (assign target X.env u) (λ_ s'=>∃σ' H',Inv X pins σ' H' s'/\Q σ' H') X.xe s
def K1 (X:Cx)(ts:List Expr)(t:Ia):Prop:=
 ∀(pins:List (Addr×Obj)) (s:Shared) (σ:St) (H:Hp) (vs:List V) (us:List Value) (Q:St->Hp->Prop),Inv X pins σ H s->Vals vs us->t vs σ H Q->
  wpAny (model X.prog X.w) X.A (assignInOrder ((assignEach ts X.env).map (·.2)) us) (λ_ s'=>∃σ' H',Inv X pins σ' H' s'/\Q σ' H') X.xe s
abbrev Hn:=V->V->V->Hp->(Hp->Prop)->Prop
def tP (X:Cx)(t:Hn):Prop:=
 ∀(pins:List (Addr×Obj)) (s:Shared) (σ:St) (H:Hp) (o i v:V) (ov iv u:Value) (Q:Hp->Prop),Inv X pins σ H s->RelV o ov->RelV i iv->RelV v u->t o i v H Q->
  wpAny (model X.prog X.w) X.A (setItem ov iv u) (λ_ s'=>∃H',Inv X pins σ H' s'/\Q H') X.xe s
section
variable {X:Cx}{pos:Pos}
def lh (i:Nat):TG:=λv σ H Q=>Q (σ.set i (some v)) H
def cD {i:Nat}{x:Str}(hN:X.N.Nodup)(hi:X.N[i]? =some x)(hx:Loc X.env.scope x)(hf:X.fn x=true\/X.env.scope.names.lookup x=some .local:=by first |exact .inl rfl |exact .inr rfl |assumption):PG X (.Name x pos) (lh i):=by
 intro pins s σ H v u Q I r h
 exact wpAny_assign_Name (mG I hN hi hx r (λs' I'=>⟨_,H,I',h⟩) hf)
def FH:Ia:=λvs σ H Q=>vs= []/\Q σ H
def qp (t:TG)(u:Ia):Ia:=λvs σ H Q=>∃v r,vs=v :: r/\t v σ H λσ' H'=>u r σ' H' Q
def mD:K1 X [] FH:=by
 intro pins s σ H vs us Q I r h
 obtain⟨e,h⟩:=h
 subst e
 cases r
 exact assignInOrder_nil ⟨σ,H,I,h⟩
theorem dc {e:Expr}{es:List Expr}{t:TG}{u:Ia}(h1:PG X e t)(h2:K1 X es u)
  (hs:(assignEach (e :: es) X.env).map (·.2)=assign e X.env :: (assignEach es X.env).map (·.2):=by rfl):K1 X (e :: es) (qp t u):=by
 intro pins s σ H vs us Q I r h
 obtain⟨v,vr,e1,h⟩:=h
 subst e1
 cases r with
 |cons r rr=>
  rw[hs]
  refine assignInOrder_cons (b6 (h1 pins s σ H _ _ _ I r h) λ_ s1 ⟨σ1,H1,I1,q1⟩=>?_)
  exact h2 pins s1 σ1 H1 _ _ Q I1 rr q1
def Ef (K:Frag)(n:Nat)(t:Ia):TG:=λv σ H Q=>∃a xs,v=.ref a/\fS K H a xs/\xs.length=n/\t xs σ H Q
def pX {es:List Expr}{k:Nat}{t:Ia}{n:Nat}(hc:X.calm=true)(h:K1 X es t)
  (hn:(assignEach es X.env).length=n:=by rfl) (hst:(assignEach es X.env).findIdx? (·.1)=none:=by rfl):PG X (.Tuple es k pos) (Ef X.K n t):=by
 intro pins s σ H v u Q I r hw
 obtain⟨a,xs,e1,hq,hl,hw⟩:=hw
 subst e1
 cases r
 obtain⟨its,rv,ht,hz⟩:=I.tuple hq
 refine assign_Tuple_tuple (I.ok.hd hc) ht (by simp[hn,<-hl,rv.length]) hst λh' hx=>?_
 have I1:Inv X pins σ H {s with heap:=h'}:=I.kept (t':=s.toks) λb o e=>hx b o (NG (Nf e)) e
 exact h pins _ σ H xs _ Q I1 (by simpa using rv) hw
def Lv (to ti:TE)(t:Hn):TG:=λv σ H Q=>to σ H λo H1=>ti σ H1 λi H2=>t o i v H2 λH3=>Q σ H3
def sS {o i:Expr}{to ti:TE}{t:Hn}(ho:PE X o to)(hi:PE X i ti)(hs:tP X t)
  (ha:∀v,assign (.Subscript o i pos) X.env v=(do
   let ov <-holding [v] (eval o X.env)
   let iv <-holding [v,ov] (eval i X.env)
   standAt pos
   holding [v,ov,iv] (setItem ov iv v)
   release [v,ov,iv] []):=by intro _;rfl):PG X (.Subscript o i pos) (Lv to ti t):=by
 intro pins s σ H v u Q I r h
 rw[ha]
 refine MZ (N6 (b6 (ho pins s σ H _ I h) λov s1 ⟨x,H1,I1,r1,q1⟩=>?_))
 refine MZ (N6 (b6 (hi pins s1 σ H1 _ I1 q1) λiv s2 ⟨y,H2,I2,r2,q2⟩=>?_))
 refine MZ (wpAny_standAt (MZ (N6 (b6 (hs pins s2 σ H2 x y v ov iv u _ I2 r1 r2 r q2) λ_ s3 ⟨H3,I3,q3⟩=>?_))))
 exact wpAny_release ⟨σ,H3,I3,q3⟩
def JX (te:TE)(g:TG):TS:=λD σ H=>te σ H λx H1=>g x σ H1 D.nx
def qj {tg e:Expr}{te:TE}{g:TG}(he:PE X e te)(hg:PG X tg g)(hs:swapsWithSole [tg] e pos.line X.env=pure false:=by rfl)(hw:swappedStores [tg] e X.env=pure none:=by rfl)
  (h1:(assignEach [tg] X.env).map (·.2)= [assign tg X.env]:=by rfl):PS X (.Assign [tg] e pos) (JX te g):=by
 intro pins s σ H D I h
 refine wpAny_Assign_stores (b6 (he pins s σ H _ I h) λv s1 ⟨x,H1,I1,r1,q1⟩=>?_) hs hw
 rw[h1]
 exact b6 (hg pins s1 σ H1 x v _ I1 r1 q1) λ_ s2 q=>q
def ji {i:Nat}{x:Str}{e:Expr}{te:TE}{pos':Pos}(hN:X.N.Nodup)(hi:X.N[i]? =some x)(hx:Loc X.env.scope x)(he:PE X e te)(hs:swapsWith e (some (.Name x pos')) pos.line X.env=pure false:=by rfl)(hf:X.fn x=true\/X.env.scope.names.lookup x=some .local:=by first |exact .inl rfl |exact .inr rfl |assumption) :
  PS X (.Assign [.Name x pos'] e pos) (JX te (lh i)):=by
 intro pins s σ H D I h
 refine wpAny_Assign_Name (b6 (he pins s σ H _ I h) λv s1 ⟨y,H1,I1,r1,q1⟩=>?_) hs
 exact mG I1 hN hi hx r1 (λs2 I2=>⟨_,H1,I2,q1⟩) hf
end
section
variable {X:Cx}{pos:Pos}
def GY (c:TT)(tb:TS):TS:=λD σ H=>∃W:Nat->St->Hp->Prop,(∃m,W m σ H)/\∀m σ H,W m σ H->
 c σ H λb H1=>if b=true then ∃N:St->Hp->Prop,(∀σ' H',N σ' H'->∃m',m' < m/\W m' σ' H')/\tb {D with nx:=N,ct:=N,bk:=D.nx} σ H1 else D.nx σ H1
theorem Cf {c:Expr}{body:List Stmt}{tc:TT}{tb:TS}(hp:PassesOwn (model X.prog X.w) X.A X.env X.xe)(hc:PT X c tc)(hb:oJ X body tb):PS X (.While c body [] pos) (GY tc tb):=by
 intro pins s σ H D I h
 obtain⟨W,⟨m0,w0⟩,turn⟩:=h
 refine wpAny_While (codeAny_whileLoop (λn s'=>∃σ' H',Inv X pins σ' H' s'/\W n σ' H') ?_ m0 ⟨σ,H,I,w0⟩)
 rintro n s1 ⟨σ1,H1,I1,w1⟩
 refine O1 hp (b6 (hc pins s1 σ1 H1 _ I1 (turn n σ1 H1 w1)) λb s2 ⟨H2,I2,q2⟩=>?_)
 cases b with
 |true=>
  obtain⟨N,hN,q2⟩:=q2
  rw[M7 rfl]
  refine O1 hp (b6 (hb pins s2 σ1 H2 _ I2 q2) λf s3 q3=>?_)
  cases f with
  |next=>
   obtain⟨σ3,H3,I3,n3⟩:=q3
   obtain⟨m',hm,w3⟩:=hN σ3 H3 n3
   exact⟨m',hm,σ3,H3,I3,w3⟩
  |cont=>
   obtain⟨σ3,H3,I3,n3⟩:=q3
   obtain⟨m',hm,w3⟩:=hN σ3 H3 n3
   exact⟨m',hm,σ3,H3,I3,w3⟩
  |brk=>exact q3
  |ret v=>exact q3
 |false=>
  rw[Nd Nq]
  exact PN ⟨σ1,H2,I2,q2⟩
end
structure It where
 go:Nat->Hp->Prop
 yld:Nat->Hp->V->Hp->Prop
 stop:Nat->Hp->Prop
def oQ (X:Cx)(pins:List (Addr×Obj))(H:Hp)(b:Addr):Prop:=
 H b=none/\b≠X.env.locals/\b∉X.fs/\(b∈X.ex\/X.s₀.heap.objs.size<=b)/\(∀x c,X.env.cells.lookup x=some c->c≠b)/\∀p∈X.pn ++ pins,p.1≠b
def Inv.fpOk {X:Cx}{pins:List (Addr×Obj)}{σ:St}{H H':Hp}{s:Shared}{b:Addr}(I:Inv X pins σ H s)(hb:s.heap.objs.size<=b)(hn:H' b=none):oQ X pins H' b:=by
 refine⟨hn,Nat.ne_of_gt (ND I.lt hb),I.nofs hb,.inr (Oe I.sz hb),λx c e z=>?_,λp hp z=>?_⟩
 ·obtain⟨v,q⟩:=I.cell x c e
  exact absurd (ND q.lt (by rw[z];exact hb)) (NR _)
 ·exact absurd (ND (Nf (I.pin p hp).1) (by rw[z];exact hb)) (NR _)
structure Turn (P:Program)(w:World)(K:Frag)(tg:Expr)(J:It)(fp:List Addr)(it:Addr)(tn:Nat->Heap->Prop):Prop where
 mem:it∈fp
 obj:∀i h,tn i h->∀b∈fp,∃o,h.get? b=some o/\∀v,o.data≠.cell v
 keep:∀i h h',tn i h->(∀b∈fp,∀o,h.get? b=some o->h'.get? b=some o)->tn i h'
 item:∀(X:Cx),X.prog=P->X.w=w->X.K=K->X.calm=true->∀(i:Nat) (pins:List (Addr×Obj)) (s:Shared) (σ:St) (H:Hp) (E:Value->Shared->Prop),Inv X pins σ H s->(∀b∈fp,oQ X pins H b)->tn i s.heap->J.go i H->
  wpAny (model P w) X.A (pyNext (.ref it)) (λr s1=>∃u,r=some u/\
   wpAny (model P w) X.A (letOwnedTupleGo tg (.ref it) u) (λ_ s2=>∃x H',Inv X pins σ H' s2/\RelV x u/\J.yld i H x H'/\tn (i + 1) s2.heap/\∀b∈fp,H' b=none) E s1) E s
 done:∀(X:Cx),X.prog=P->X.w=w->X.K=K->X.calm=true->∀(i:Nat) (pins:List (Addr×Obj)) (s:Shared) (σ:St) (H:Hp) (E:Value->Shared->Prop),Inv X pins σ H s->(∀b∈fp,oQ X pins H b)->tn i s.heap->J.stop i H->
  wpAny (model P w) X.A (pyNext (.ref it)) (λr s1=>r=none/\Inv X pins σ H s1) E s
 self:∀(A:Around) (i:Nat) (s:Shared) (Q:Value->Shared->Prop) (E:Value->Shared->Prop),tn i s.heap->Q (.ref it) s->wpAny (model P w) A (pyIter (.ref it)) Q E s
abbrev TI:=St->Hp->(It->Hp->Prop)->Prop
def MA (X:Cx)(pins:List (Addr×Obj))(σ:St)(tg:Expr)(R:It->Hp->Prop)(itv:Value)(s2:Shared):Prop:=
 ∃(it:Addr) (fp:List Addr) (tn:Nat->Heap->Prop) (J:It) (H':Hp),itv=.ref it/\Inv X pins σ H' s2/\Turn X.prog X.w X.K tg J fp it tn/\tn 0 s2.heap/\(∀b∈fp,oQ X pins H' b)/\R J H'
def PI (X:Cx)(tg iter:Expr)(wi:TI):Prop:=
 ∀(pins:List (Addr×Obj)) (s:Shared) (σ:St) (H:Hp) (R:It->Hp->Prop),Inv X pins σ H s->wi σ H R->
  wpAny (model X.prog X.w) X.A (eval iter X.env) (λv s1=>wpAny (model X.prog X.w) X.A (pyIter v) (MA X pins σ tg R) X.xe s1) X.xe s
def DK {M:Model}{A:Around}{E:Value->Shared->Prop}{s:Shared}{tg:Expr}{it:Addr}{u:Value}{o:Obj}{n:String}{vs:Array Value}{Q:Unit->Shared->Prop}(ho:s.heap.get? it=some o)(hc:o.cls=.type n)(hd:o.data=.fields vs)
  (hn: ["enumerate","zip","dict_itemiterator","dict_reverseitemiterator","odict_iterator","itertools.zip_longest","itertools.pairwise"].contains n=false) (hQ:Q () s):wpAny M A (letOwnedTupleGo tg (.ref it) u) Q E s:=by
 unfold letOwnedTupleGo
 cases tg <;> first
  |exact M5 hQ
  | (cases u <;> first
    |exact M5 hQ
    | (refine MZ (wpAny_load ho ?_)
       rw[hc,hd]
       show wpAny M A (if (["enumerate","zip","dict_itemiterator","dict_reverseitemiterator","odict_iterator","itertools.zip_longest","itertools.pairwise"].contains n && vs[0]? == some (rawInt _))=true then _ else _) Q E s
       rw[Nd (by intro h;rw[hn,Bool.false_and] at h;cases h)]
       exact M5 hQ))
def A2 (K:Frag)(a:Addr):It:=
 ⟨λi H=>∃xs x,dZ K H a xs/\xs[i]? =some x,λi H x H'=>H'=H/\∀xs,dZ K H a xs->xs[i]? =some x,λi H=>∃xs,dZ K H a xs/\xs.length<=i⟩
def Gv (K:Frag)(a:Addr):It:=
 ⟨λi H=>∃xs x,fS K H a xs/\xs[i]? =some x,λi H x H'=>H'=H/\∀xs,fS K H a xs->xs[i]? =some x,λi H=>∃xs,fS K H a xs/\xs.length<=i⟩
def AM (lo:Int)(n:Nat):It:=⟨λi _=>i < n,λi H x H'=>H'=H/\x=.int (lo + i),λi _=>n<=i⟩
def nN {P:Program}{w:World}{K:Frag}{tg:Expr}(a it:Addr):Turn P w K tg (A2 K a) [it] it (λi h=>h.IsListIter it a i) where
 mem:=by simp
 obj:=λi h st b hb=>by
  have e:b=it:=by simpa using hb
  subst e
  obtain⟨o,e,c,d⟩:=st
  exact⟨o,e,λv z=>by rw[d] at z;cases z⟩
 keep:=λi h h' st k=>st.at λo e=>k it (by simp) o e
 item:=by
  intro X hP hw hK hc i pins s σ H E I hf st hg
  subst hP hw hK
  obtain⟨xs,x,hq,hx⟩:=hg
  obtain⟨its,rv,p,hz⟩:=I.list hq
  obtain⟨u,hu,ru⟩:=rv.get hx
  obtain⟨f0,f1,f2,f3,f4,f5⟩:=hf it (by simp)
  refine wpAny_pyNext_list_item st p.isList (x:=u) (by simpa using hu) λh' st' sb=>?_
  have I1:Inv X pins σ H {s with heap:=h'}:=I.turned (t':=s.toks) (λb o hb e=>(sb.2 b hb).trans e) f0 f1 f3 f4 f5
  obtain⟨o,e,c,d⟩:=id st'
  exact⟨u,rfl,DK (s:={s with heap:=h'}) e c d (by decide) ⟨x,H,I1,ru,⟨rfl,λys hy=>by rw[I.list_inj hy hq];exact hx⟩,st',λb hb=>(hf b hb).1⟩⟩
 done:=by
  intro X hP hw hK hc i pins s σ H E I hf st hg
  subst hP hw hK
  obtain⟨xs,hq,hx⟩:=hg
  obtain⟨its,rv,p,hz⟩:=I.list hq
  obtain⟨f0,f1,f2,f3,f4,f5⟩:=hf it (by simp)
  have hl:=rv.length
  exact wpAny_pyNext_list_end (I.ok.hd hc) st p.isList (by simp;omega) λh' eb=>⟨rfl,I.turned (t':=s.toks) (λb o hb e=>eb b o hb e) f0 f1 f3 f4 f5⟩
 self:=λ_ _ _ _ _ st h=>wpAny_pyIter_listiter st h
def pW {P:Program}{w:World}{K:Frag}{tg:Expr}(a it:Addr):Turn P w K tg (Gv K a) [it] it (λi h=>h.IsTupleIter it a i) where
 mem:=by simp
 obj:=λi h st b hb=>by
  have e:b=it:=by simpa using hb
  subst e
  obtain⟨o,e,c,d⟩:=st
  exact⟨o,e,λv z=>by rw[d] at z;cases z⟩
 keep:=λi h h' st k=>st.at λo e=>k it (by simp) o e
 item:=by
  intro X hP hw hK hc i pins s σ H E I hf st hg
  subst hP hw hK
  obtain⟨xs,x,hq,hx⟩:=hg
  obtain⟨its,rv,p,hz⟩:=I.tuple hq
  obtain⟨u,hu,ru⟩:=rv.get hx
  obtain⟨f0,f1,f2,f3,f4,f5⟩:=hf it (by simp)
  refine wpAny_pyNext_tuple_item st (show s.heap.IsTuple a its.toArray from p) (x:=u) (by simpa using hu) λh' st' sb=>?_
  have I1:Inv X pins σ H {s with heap:=h'}:=I.turned (t':=s.toks) (λb o hb e=>(sb.2 b hb).trans e) f0 f1 f3 f4 f5
  obtain⟨o,e,c,d⟩:=id st'
  exact⟨u,rfl,DK (s:={s with heap:=h'}) e c d (by decide) ⟨x,H,I1,ru,⟨rfl,λys hy=>by rw[I.tuple_inj hy hq];exact hx⟩,st',λb hb=>(hf b hb).1⟩⟩
 done:=by
  intro X hP hw hK hc i pins s σ H E I hf st hg
  subst hP hw hK
  obtain⟨xs,hq,hx⟩:=hg
  obtain⟨its,rv,p,hz⟩:=I.tuple hq
  obtain⟨f0,f1,f2,f3,f4,f5⟩:=hf it (by simp)
  have hl:=rv.length
  exact wpAny_pyNext_tuple_end (I.ok.hd hc) st (show s.heap.IsTuple a its.toArray from p) (by simp;omega) λh' eb=>⟨rfl,I.turned (t':=s.toks) (λb o hb e=>eb b o hb e) f0 f1 f3 f4 f5⟩
 self:=λ_ _ _ _ _ st h=>wpAny_pyIter_tupleiter st h
def yv {P:Program}{w:World}{K:Frag}{tg:Expr}(it:Addr)(lo:Int)(n:Nat):Turn P w K tg (AM lo n) [it] it (λi h=>IsRangeIter h it (lo + (i:Nat) * 1) ((n:Int) - (i:Nat)) 1) where
 mem:=by simp
 obj:=λi h st b hb=>by
  have e:b=it:=by simpa using hb
  subst e
  exact⟨_,st,λv z=>by
   have z':Data.fields _=Data.cell v:=z
   cases z'⟩
 keep:=λi h h' st k=>k it (by simp) _ st
 item:=by
  intro X hP hw hK hc i pins s σ H E I hf st hg
  subst hP hw hK
  obtain⟨f0,f1,f2,f3,f4,f5⟩:=hf it (by simp)
  have W:=Walks.range (prog:=X.prog) (w:=X.w) (I.ok.hd hc) it lo 1 n
  refine W.item i s _ _ hg st λv h' tk hv st' kk=>?_
  obtain⟨t,rfl⟩:=hv
  have I1:Inv X pins σ H {s with heap:=h',toks:=tk}:=I.turned (λb o hb e=>kk b o (by simpa using hb) e) f0 f1 f3 f4 f5
  refine⟨_,rfl,DK (s:={s with heap:=h',toks:=tk}) (n:="range_iterator") st' rfl rfl (by decide) ⟨.int (lo + i),H,I1,⟨t,?_⟩,⟨rfl,rfl⟩,st',λb hb=>(hf b hb).1⟩⟩
  rw[Int.mul_one]
 done:=by
  intro X hP hw hK hc i pins s σ H E I hf st hg
  subst hP hw hK
  obtain⟨f0,f1,f2,f3,f4,f5⟩:=hf it (by simp)
  exact wpAny_pyNext_range_end (I.ok.hd hc) st (by have:n<=i:=hg;omega) λh' eb=>⟨rfl,I.turned (t':=s.toks) (λb o hb e=>eb b o hb e) f0 f1 f3 f4 f5⟩
 self:=λ_ _ _ _ _ st h=>wpAny_pyIter_rangeiter st h
section
variable {X:Cx}{tg:Expr}
def JG (K:Frag)(tl:TE):TI:=λσ H R=>tl σ H λx H1=>∃a,x=.ref a/\(∃xs,dZ K H1 a xs)/\R (A2 K a) H1
def yY {l:Expr}{tl:TE}(hl:PE X l tl):PI X tg l (JG X.K tl):=by
 intro pins s σ H R I h
 refine b6 (hl pins s σ H _ I h) λv s1 ⟨x,H1,I1,r1,q1⟩=>?_
 obtain⟨a,e,⟨xs,hq⟩,q⟩:=q1
 subst e
 cases r1
 obtain⟨its,rv,p,hz⟩:=I1.list hq
 refine Px p.isList ?_
 refine⟨s1.heap.objs.size,[s1.heap.objs.size],_,_,H1,rfl,I1.kept (t':=s1.toks) λb o e=>M4 _ e,nN a _,⟨_,Nk _ rfl,rfl,rfl⟩,λb hb=>?_,q⟩
 have e:b=s1.heap.objs.size:=by simpa using hb
 subst e
 exact I1.fpOk (M9 _) (I1.hok.fresh (M9 _))
def uU {pins:List (Addr×Obj)}{σ:St}{H:Hp}{s:Shared}{R:It->Hp->Prop}{E:Value->Shared->Prop}{lo hi:Int}{t u v:Tok}{tk:Nat}(I:Inv X pins σ H s)(h1: -(2 ^ 62)<=lo)(h2:lo < 2 ^ 62)(h3: -(2 ^ 62)<=hi)(h4:hi < 2 ^ 62)
  (q:R (AM lo (hi - lo).toNat) H):wpAny (model X.prog X.w) X.A (pyIter (.ref s.heap.objs.size)) (MA X pins σ tg R) E {s with heap:=s.heap.push {cls:=.type "range",data:=.fields #[.int lo t,.int hi u,.int 1 v]},toks:=tk}:=by
 refine wpAny_pyIter_range (IsRange.new ..) (small_one h1 h2 h3 h4) ?_
 have I1:Inv X pins σ H {s with heap:=s.heap.push {cls:=.type "range",data:=.fields #[.int lo t,.int hi u,.int 1 v]},toks:=tk}:=I.kept λb o e=>M4 _ e
 refine⟨(s.heap.push {cls:=.type "range",data:=.fields #[.int lo t,.int hi u,.int 1 v]}).objs.size,[(s.heap.push {cls:=.type "range",data:=.fields #[.int lo t,.int hi u,.int 1 v]}).objs.size],_,_,H,rfl,
  I1.kept (t':=tk) λb o e=>M4 _ e,yv _ lo (hi - lo).toNat,?_,λb hb=>?_,q⟩
 ·have e1:lo + ((0:Nat):Int) * 1=lo:=by simp
  have e2:(((hi - lo).toNat:Nat):Int) - ((0:Nat):Int)=Builtin.Range.rangeSize lo hi 1:=by rw[rangeSize_one];split <;> omega
  show IsRangeIter _ _ (lo + ((0:Nat):Int) * 1) ((((hi - lo).toNat:Nat):Int) - ((0:Nat):Int)) 1
  rw[e1,e2]
  exact Nk _ rfl
 ·have e:b=(s.heap.push {cls:=.type "range",data:=.fields #[.int lo t,.int hi u,.int 1 v]}).objs.size:=by simpa using hb
  subst e
  exact I1.fpOk (M9 _) (I1.hok.fresh (M9 _))
def Kr (ta:TA):TI:=λσ H R=>ta σ H λvs H1=>∃j:Int,vs= [.int j]/\ -(2 ^ 62)<=j/\j < 2 ^ 62/\R (AM 0 j.toNat) H1
def Kg (ta:TA):TI:=λσ H R=>ta σ H λvs H1=>∃i j:Int,vs= [.int i,.int j]/\(-(2 ^ 62)<=i/\i < 2 ^ 62/\ -(2 ^ 62)<=j/\j < 2 ^ 62)/\R (AM i (j - i).toNat) H1
theorem kZ {a:Expr}{ta:TA}{p pos:Pos}(hg:Gl X "range")(hm:X.mg "range"=none)(ha:PA X [a] ta)(hs:starEach [a] X.env= [(false,eval a X.env)]:=by rfl):PI X tg (.Call (.Name "range" p) [a] [] pos) (Kr ta):=by
 intro pins s σ H R I h
 refine Call_ (nG I hg hm boot_range (OZ (b6 (ha pos pins s σ H _ I h) λus s1 ⟨vs,H1,I1,r1,q1⟩=>?_) hs rfl))
 obtain⟨j,e,q1,q2,q⟩:=q1
 subst e
 cases r1 with
 |cons r rr=>
  cases rr
  obtain⟨t,rfl⟩:=r
  exact call_range_1 (uU I1 (by omega) (by omega) q1 q2 (by simpa using q))
theorem Ai {a b:Expr}{ta:TA}{p pos:Pos}(hg:Gl X "range")(hm:X.mg "range"=none)(ha:PA X [a,b] ta)(hs:starEach [a,b] X.env= [(false,eval a X.env),(false,eval b X.env)]:=by rfl)(hs2:starEach [b] X.env= [(false,eval b X.env)]:=by rfl) :
  PI X tg (.Call (.Name "range" p) [a,b] [] pos) (Kg ta):=by
 intro pins s σ H R I h
 refine Call_ (nG I hg hm boot_range (OZ (b6 (ha pos pins s σ H _ I h) λus s1 ⟨vs,H1,I1,r1,q1⟩=>?_) (by rw[hs,hs2]) (by rw[hs2];rfl)))
 obtain⟨i,j,e,⟨q1,q2,q3,q4⟩,q⟩:=q1
 subst e
 cases r1 with
 |cons r rr=>
  cases rr with
  |cons r' rr=>
   cases rr
   obtain⟨t,rfl⟩:=r
   obtain⟨t',rfl⟩:=r'
   exact call_range_2 (uU I1 q1 q2 q3 q4 q)
def LO (wi:TI)(g:TG)(tb:TS):TS:=λD σ H=>wi σ H λJ H1=>∃W:Nat->Nat->St->Hp->Prop,(∃m,W 0 m σ H1)/\∀i m σ H,W i m σ H->
 (J.stop i H/\D.nx σ H)\/(J.go i H/\∃N:St->Hp->Prop,(∀σ' H',N σ' H'->∃m',m' < m/\W (i + 1) m' σ' H')/\∀x H',J.yld i H x H'->g x σ H' λσ2 H2=>tb {D with nx:=N,ct:=N,bk:=D.nx} σ2 H2)
def pw (fp:List Addr)(h:Heap):List (Addr×Obj):=fp.filterMap λb=>(h.get? b).map λo=>(b,o)
def jg {fp:List Addr}{h:Heap}{b:Addr}{o:Obj}(hb:b∈fp)(e:h.get? b=some o):(b,o)∈pw fp h:=OG.mpr ⟨b,hb,by rw[e];rfl⟩
theorem A3 {fp:List Addr}{h:Heap}{p:Addr×Obj}(hp:p∈pw fp h):p.1∈fp/\h.get? p.1=some p.2:=by
 obtain⟨b,hb,e⟩:=OG.mp hp
 cases q:h.get? b with
 |none=>rw[q] at e;cases e
 |some o=>
  rw[q] at e
  have e':(b,o)=p:=Option.some.inj e
  subst e'
  exact⟨hb,q⟩
def Inv.pinned {pins:List (Addr×Obj)}{σ:St}{H:Hp}{s:Shared}{fp:List Addr}(I:Inv X pins σ H s)(hf:∀b∈fp,oQ X pins H b)(ho:∀b∈fp,∃o,s.heap.get? b=some o/\∀v,o.data≠.cell v):Inv X (pins ++ pw fp s.heap) σ H s:=
 I.pins_of λp hp=>(Nw.mp hp).elim (λz=>I.pin p (NJ _ z)) λz=>by
  obtain⟨hb,e⟩:=A3 z
  obtain⟨f0,f1,f2,_⟩:=hf p.1 hb
  obtain⟨o,e',d⟩:=ho p.1 hb
  rw[e] at e';cases e'
  exact⟨e,f0,f1,f2,d⟩
def Inv.unpinned {pins pl:List (Addr×Obj)}{σ:St}{H:Hp}{s:Shared}(I:Inv X (pins ++ pl) σ H s):Inv X pins σ H s:=I.pins_of λp hp=>I.pin p (NJ _ (Of _ hp))
def uI {iter:Expr}{body:List Stmt}{wi:TI}{g:TG}{tb:TS}{pos:Pos}(hp:PassesOwn (model X.prog X.w) X.A X.env X.xe)(hc:X.calm=true)(hi:PI X tg iter wi)(hg:PG X tg g)(hb:oJ X body tb)
  (hs:∀x,foldedSetIterable iter X.env x=pure x:=by intro _;rfl):PS X (.For tg iter body [] pos) (LO wi g tb):=by
 intro pins s σ H D I h
 refine wpAny_For (b6 (hi pins s σ H _ I h) λv s1 h1=>b6 h1 λitv s2 h2=>?_) hs
 obtain⟨it,fp,tn,J,H2,e,I2,T,st2,f2,W,⟨m0,w0⟩,turn⟩:=h2
 subst e
 have stat:∀{H':Hp},(∀b∈fp,H' b=none)->∀b∈fp,oQ X pins H' b:=λhn b hb=>⟨hn b hb,(f2 b hb).2⟩
 refine codeAny_forLoop_any (λn s'=>∃i σ' H',Inv X pins σ' H' s'/\tn i s'.heap/\(∀b∈fp,H' b=none)/\W i n σ' H') ?_ m0 ⟨0,σ,H2,I2,st2,λb hb=>(f2 b hb).1,w0⟩
 rintro n s3 ⟨i,σ3,H3,I3,st3,fr3,w3⟩
 rcases turn i n σ3 H3 w3 with⟨stop,qn⟩ | ⟨go,N,hN,step⟩
 ·refine O1 hp (b6 (T.done X rfl rfl rfl hc i pins s3 σ3 H3 X.xe I3 (stat fr3) st3 stop) λr s4 ⟨hr,I4⟩=>?_)
  subst hr
  exact PN ⟨σ3,H3,I4,qn⟩
 ·refine O1 hp (b6 (T.item X rfl rfl rfl hc i pins s3 σ3 H3 X.xe I3 (stat fr3) st3 go) λr s4 ⟨u,hr,h4⟩=>?_)
  subst hr
  refine O1 hp (b6 h4 λ_ s5 ⟨x,H5,I5,r5,y5,st5,fr5⟩=>?_)
  have I5':=I5.pinned (stat fr5) (T.obj _ _ st5)
  refine O1 hp (b6 (hg _ s5 σ3 H5 x u _ I5' r5 (step x H5 y5)) λ_ s6 ⟨σ6,H6,I6,q6⟩=>?_)
  refine O1 hp (b6 (hb _ s6 σ6 H6 _ I6 q6) λf s7 q7=>?_)
  have again:∀{σ7:St} {H7:Hp},Inv X (pins ++ pw fp s5.heap) σ7 H7 s7->N σ7 H7->∃m,m < n/\∃i σ' H',Inv X pins σ' H' s7/\tn i s7.heap/\(∀b∈fp,H' b=none)/\W i m σ' H':=λ{σ7 H7} I7 n7=>by
   obtain⟨m',hm,w7⟩:=hN σ7 H7 n7
   refine⟨m',hm,i + 1,σ7,H7,I7.unpinned,T.keep _ _ _ st5 λb hb o e=>(I7.pin (b,o) (NJ _ (NJ _ (jg hb e)))).1,λb hb=>?_,w7⟩
   obtain⟨o,e,d⟩:=T.obj _ _ st5 b hb
   exact (I7.pin (b,o) (NJ _ (NJ _ (jg hb e)))).2.1
  cases f with
  |next=>obtain⟨σ7,H7,I7,n7⟩:=q7;exact again I7 n7
  |cont=>obtain⟨σ7,H7,I7,n7⟩:=q7;exact again I7 n7
  |brk=>obtain⟨σ7,H7,I7,q7⟩:=q7;exact⟨σ7,H7,I7.unpinned,q7⟩
  |ret v=>obtain⟨x7,σ7,H7,I7,r7,q7⟩:=q7;exact⟨x7,σ7,H7,I7.unpinned,r7,q7⟩
end
def wg {K:Frag}{a:Addr}{xs:List V}{g:TG}{tb:TS}{D:Ends}{σ:St}{H:Hp}(Pv:Nat->St->Hp->Prop)(h0:Pv 0 σ H)(hl:∀i σ H,i<=xs.length->Pv i σ H->dZ K H a xs)
  (hs:∀i x σ H,xs[i]? =some x->Pv i σ H->g x σ H λσ2 H2=>tb {D with nx:=Pv (i + 1),ct:=Pv (i + 1),bk:=D.nx} σ2 H2) (hd:∀σ H,Pv xs.length σ H->D.nx σ H) :
  ∃W:Nat->Nat->St->Hp->Prop,(∃m,W 0 m σ H)/\∀i m σ H,W i m σ H->
   ((A2 K a).stop i H/\D.nx σ H)\/((A2 K a).go i H/\∃N:St->Hp->Prop,(∀σ' H',N σ' H'->∃m',m' < m/\W (i + 1) m' σ' H')/\∀x H',(A2 K a).yld i H x H'->g x σ H' λσ2 H2=>tb {D with nx:=N,ct:=N,bk:=D.nx} σ2 H2):=by
 refine⟨λi m σ H=>m=xs.length - i/\i<=xs.length/\Pv i σ H,⟨xs.length,by simp,NQ _,h0⟩,?_⟩
 rintro i m σ H ⟨rfl,hi,p⟩
 have q:=hl i σ H hi p
 by_cases hlt:i < xs.length
 ·refine .inr ⟨⟨xs,xs[i],q,by simp[hlt]⟩,Pv (i + 1),λσ' H' p'=>⟨xs.length - (i + 1),by omega,rfl,hlt,p'⟩,λx H' y=>?_⟩
  obtain⟨e,y⟩:=y
  subst e
  exact hs i x σ _ (y xs q) p
 ·have e:i=xs.length:=by omega
  subst e
  exact .inl ⟨⟨xs,q,M9 _⟩,hd σ H p⟩
def Eo {K:Frag}{a:Addr}{xs:List V}{g:TG}{tb:TS}{D:Ends}{σ:St}{H:Hp}(Pv:Nat->St->Hp->Prop)(h0:Pv 0 σ H)(hl:∀i σ H,i<=xs.length->Pv i σ H->fS K H a xs)
  (hs:∀i x σ H,xs[i]? =some x->Pv i σ H->g x σ H λσ2 H2=>tb {D with nx:=Pv (i + 1),ct:=Pv (i + 1),bk:=D.nx} σ2 H2) (hd:∀σ H,Pv xs.length σ H->D.nx σ H) :
  ∃W:Nat->Nat->St->Hp->Prop,(∃m,W 0 m σ H)/\∀i m σ H,W i m σ H->
   ((Gv K a).stop i H/\D.nx σ H)\/((Gv K a).go i H/\∃N:St->Hp->Prop,(∀σ' H',N σ' H'->∃m',m' < m/\W (i + 1) m' σ' H')/\∀x H',(Gv K a).yld i H x H'->g x σ H' λσ2 H2=>tb {D with nx:=N,ct:=N,bk:=D.nx} σ2 H2):=by
 refine⟨λi m σ H=>m=xs.length - i/\i<=xs.length/\Pv i σ H,⟨xs.length,by simp,NQ _,h0⟩,?_⟩
 rintro i m σ H ⟨rfl,hi,p⟩
 have q:=hl i σ H hi p
 by_cases hlt:i < xs.length
 ·refine .inr ⟨⟨xs,xs[i],q,by simp[hlt]⟩,Pv (i + 1),λσ' H' p'=>⟨xs.length - (i + 1),by omega,rfl,hlt,p'⟩,λx H' y=>?_⟩
  obtain⟨e,y⟩:=y
  subst e
  exact hs i x σ _ (y xs q) p
 ·have e:i=xs.length:=by omega
  subst e
  exact .inl ⟨⟨xs,q,M9 _⟩,hd σ H p⟩
def AK {lo:Int}{n:Nat}{g:TG}{tb:TS}{D:Ends}{σ:St}{H:Hp}(Pv:Nat->St->Hp->Prop)(h0:Pv 0 σ H)
  (hs:∀i σ H,i < n->Pv i σ H->g (.int (lo + i)) σ H λσ2 H2=>tb {D with nx:=Pv (i + 1),ct:=Pv (i + 1),bk:=D.nx} σ2 H2) (hd:∀σ H,Pv n σ H->D.nx σ H) :
  ∃W:Nat->Nat->St->Hp->Prop,(∃m,W 0 m σ H)/\∀i m σ H,W i m σ H->
   ((AM lo n).stop i H/\D.nx σ H)\/((AM lo n).go i H/\∃N:St->Hp->Prop,(∀σ' H',N σ' H'->∃m',m' < m/\W (i + 1) m' σ' H')/\∀x H',(AM lo n).yld i H x H'->g x σ H' λσ2 H2=>tb {D with nx:=N,ct:=N,bk:=D.nx} σ2 H2):=by
 refine⟨λi m σ H=>m=n - i/\i<=n/\Pv i σ H,⟨n,by simp,NQ _,h0⟩,?_⟩
 rintro i m σ H ⟨rfl,hi,p⟩
 by_cases hlt:i < n
 ·refine .inr ⟨hlt,Pv (i + 1),λσ' H' p'=>⟨n - (i + 1),by omega,rfl,hlt,p'⟩,λx H' y=>?_⟩
  obtain⟨e,y⟩:=y
  subst e y
  exact hs i σ _ hlt p
 ·have e:i=n:=by omega
  subst e
  exact .inl ⟨M9 _,hd σ H p⟩
abbrev R2:=V->V->Hp->VK->Prop
def la (X:Cx)(f:Value->Value->Sem Value)(r:R2):Prop:=
 ∀(pins:List (Addr×Obj)) (s:Shared) (σ:St) (H:Hp) (x y:V) (v u:Value) (Q:VK),Inv X pins σ H s->RelV x v->RelV y u->r x y H Q->
  wpAny (model X.prog X.w) X.A (f v u) (EP X pins σ Q) X.xe s
def K3 (X:Cx)(f:Value->Sem Value)(r:V->Hp->VK->Prop):Prop:=
 ∀(pins:List (Addr×Obj)) (s:Shared) (σ:St) (H:Hp) (x:V) (v:Value) (Q:VK),Inv X pins σ H s->RelV x v->r x H Q->
  wpAny (model X.prog X.w) X.A (f v) (EP X pins σ Q) X.xe s
def cg (X:Cx)(f:Value)(r:List V->Hp->VK->Prop):Prop:=
 ∀(pins:List (Addr×Obj)) (s:Shared) (σ:St) (H:Hp) (xs:List V) (us:List Value) (Q:VK),Inv X pins σ H s->Vals xs us->r xs H Q->
  wpAny (model X.prog X.w) X.A (call f us) (EP X pins σ Q) X.xe s
def Ls (X:Cx)(r:V->Hp->(Bool->Hp->Prop)->Prop):Prop:=
 ∀(pins:List (Addr×Obj)) (s:Shared) (σ:St) (H:Hp) (x:V) (v:Value) (Q:Bool->Hp->Prop),Inv X pins σ H s->RelV x v->r x H Q->
  wpAny (model X.prog X.w) X.A (truthy v) (TP X pins σ Q) X.xe s
def K9 (r:R2)(ta tb:TE):TE:=λσ H Q=>ta σ H λx H1=>tb σ H1 λy H2=>r x y H2 Q
def MM (r:V->Hp->VK->Prop)(ta:TE):TE:=λσ H Q=>ta σ H λx H1=>r x H1 Q
def rI (C:Int->Int->Prop)(g:Int->Int->V):R2:=λx y H Q=>∃i j,x=.int i/\y=.int j/\C i j/\Q (g i j) H
def yn (g:Int->Int->V):R2:=λx y H Q=>∃i j,x=.int i/\y=.int j/\Q (g i j) H
def rU (g:Int->V):V->Hp->VK->Prop:=λx H Q=>∃i,x=.int i/\Q (g i) H
section
variable {X:Cx}{a b c:Expr}{ta tb tc:TE}{pos:Pos}
def Jf (ha:PE X a ta)(hb:PE X b tb){pins:List (Addr×Obj)}{s:Shared}{σ:St}{H:Hp}{R:V->V->Hp->Prop}(I:Inv X pins σ H s)
  (h:ta σ H λx H1=>tb σ H1 λy H2=>R x y H2) {Q:Value->Shared->Prop} {f:Value->Value->Sem Value}
  (hf:∀v u s2 x y H2,Inv X pins σ H2 s2->RelV x v->RelV y u->R x y H2->wpAny (model X.prog X.w) X.A (f v u) Q X.xe s2) :
  wpAny (model X.prog X.w) X.A (eval a X.env) (λv s₁=>wpAny (model X.prog X.w) X.A (eval b X.env) (λu s₂=>wpAny (model X.prog X.w) X.A (f v u) Q X.xe s₂) X.xe s₁) X.xe s:=by
 refine b6 (ha pins s σ H _ I h) λv s1 ⟨x,H1,I1,r1,q1⟩=>?_
 refine b6 (hb pins s1 σ H1 _ I1 q1) λu s2 ⟨y,H2,I2,r2,q2⟩=>?_
 exact hf v u s2 x y H2 I2 r1 r2 q2
def oy {op:Operator}{r:R2}(ho:la X (binaryOp op) r)(ha:PE X a ta)(hb:PE X b tb):PE X (.BinOp a op b pos) (K9 r ta tb):=by
 intro pins s σ H Q I h
 exact wpAny_BinOp (Jf ha hb I h λv u s2 x y H2 I2 rx ry q=>ho pins s2 σ H2 x y v u Q I2 rx ry q)
def GQ {op:UnaryOp}{r:V->Hp->VK->Prop}(ho:K3 X (unaryOp op) r)(ha:PE X a ta):PE X (.UnaryOp op a pos) (MM r ta):=by
 intro pins s σ H Q I h
 exact UnaryOp_ (b6 (ha pins s σ H _ I h) λv s1 ⟨x,H1,I1,r1,q1⟩=>ho pins s1 σ H1 x v Q I1 r1 q1)
def Ke {f:Value->Value->Sem Value}{C:Int->Int->Prop}{g:Int->Int->Int}
  (rule:∀(i j:Int) (t u:Tok) (s:Shared) (Q:Value->Shared->Prop) (E:Value->Shared->Prop),C i j->Q (.int (g i j) s.toks) {s with toks:=s.toks + 1}->wpAny (model X.prog X.w) X.A (f (.int i t) (.int j u)) Q E s) :
  la X f (rI C λi j=>.int (g i j)):=by
 intro pins s σ H x y v u Q I rx ry h
 obtain⟨i,j,rfl,rfl,hc,q⟩:=h
 obtain⟨t,rfl⟩:=rx
 obtain⟨t',rfl⟩:=ry
 exact rule i j t t' s _ _ hc ⟨.int (g i j),H,I.tok _,⟨_,rfl⟩,q⟩
def IX {f:Value->Value->Sem Value}{g:Int->Int->Int}
  (rule:∀(i j:Int) (t u:Tok) (s:Shared) (Q:Value->Shared->Prop) (E:Value->Shared->Prop),Q (.int (g i j) s.toks) {s with toks:=s.toks + 1}->wpAny (model X.prog X.w) X.A (f (.int i t) (.int j u)) Q E s) :
  la X f (yn λi j=>.int (g i j)):=by
 intro pins s σ H x y v u Q I rx ry h
 obtain⟨i,j,rfl,rfl,q⟩:=h
 obtain⟨t,rfl⟩:=rx
 obtain⟨t',rfl⟩:=ry
 exact rule i j t t' s _ _ ⟨.int (g i j),H,I.tok _,⟨_,rfl⟩,q⟩
def Ir {f:Value->Value->Sem Value}{g:Int->Int->Bool}
  (rule:∀(i j:Int) (t u:Tok) (s:Shared) (Q:Value->Shared->Prop) (E:Value->Shared->Prop),Q (.bool (g i j)) s->wpAny (model X.prog X.w) X.A (f (.int i t) (.int j u)) Q E s) :
  la X f (yn λi j=>.bl (g i j)):=by
 intro pins s σ H x y v u Q I rx ry h
 obtain⟨i,j,rfl,rfl,q⟩:=h
 obtain⟨t,rfl⟩:=rx
 obtain⟨t',rfl⟩:=ry
 exact rule i j t t' s _ _ ⟨.bl (g i j),H,I,rfl,q⟩
def Gh (i j:Int):Prop:=0 < j/\j < 1073741824
def BK (i j:Int):Prop:=0<=j/\j<=1000000/\i.natAbs < 2 ^ 64
def DI (i j:Int):Prop:=(-(2 ^ 64) < i/\i < 2 ^ 64)\/(-(2 ^ 64) < j/\j < 2 ^ 64)
def DI.ok {i j:Int}(h:DI i j):IntMulOk i j:=by
 rcases h with⟨h1,h2⟩ | ⟨h1,h2⟩
 ·exact .of_left (intBits_le_64 h1 h2)
 ·exact .of_right (intBits_le_64 h1 h2)
def lY:la X (binaryOp .Add) (yn λi j=>.int (i + j)):=IX λ_ _ _ _ _ _ _ q=>add_int q
def kC:la X (binaryOp .Mult) (rI DI λi j=>.int (i * j)):=Ke λ_ _ _ _ _ _ _ hc q=>mul_int q hc.ok
def mq:la X (binaryOp .FloorDiv) (rI Gh λi j=>.int (i / j)):=Ke λi j _ _ _ _ _ hc q=>by
 have h1:(0:Int) < j:=hc.1
 have h2:j < 1073741824:=hc.2
 exact floordiv_int (by omega) (by rw[Int.fdiv_eq_ediv_of_nonneg i (by omega)];exact q) (.inl (PyProof.noPylong_small (by omega)))
def lU:la X (binaryOp .Mod) (rI (λ_ j=>0 < j) λi j=>.int (i % j)):=Ke λi j _ _ _ _ _ hc q=>by
 have h1:(0:Int) < j:=hc
 exact mod_int' (by omega) (by rw[Int.fmod_eq_emod_of_nonneg i (by omega)];exact q)
def Jd:la X (binaryOp .Pow) (rI BK λi j=>.int (i ^ j.toNat)):=Ke λ_ _ _ _ _ _ _ hc q=>pow_int_small hc.1 hc.2.1 hc.2.2 q
def G8:la X (binaryOp .LShift) (rI BK λi j=>.int (i * 2 ^ j.toNat)):=Ke λ_ _ _ _ _ _ _ hc q=>lshift_int_small hc.1 hc.2.1 hc.2.2 q
def Hq:la X (binaryOp .BitAnd) (yn λi j=>.int (Builtin.bitAnd i j)):=IX λ_ _ _ _ _ _ _ q=>and_int q
def Ku:la X (binaryOp .BitOr) (yn λi j=>.int (Builtin.bitOr i j)):=IX λ_ _ _ _ _ _ _ q=>or_int q
def MQ {f:Value->Sem Value}{g:Int->Int}
  (rule:∀(i:Int) (t:Tok) (s:Shared) (Q:Value->Shared->Prop) (E:Value->Shared->Prop),Q (.int (g i) s.toks) {s with toks:=s.toks + 1}->wpAny (model X.prog X.w) X.A (f (.int i t)) Q E s) :
  K3 X f (rU λi=>.int (g i)):=by
 intro pins s σ H x v Q I rx h
 obtain⟨i,rfl,q⟩:=h
 obtain⟨t,rfl⟩:=rx
 exact rule i t s _ _ ⟨.int (g i),H,I.tok _,⟨_,rfl⟩,q⟩
def nH:K3 X (unaryOp .USub) (rU λi=>.int (-i)):=MQ λ_ _ _ _ _ q=>neg_int q
end
def LH:V->V->Bool
 | .non,.non=>true | .non,.int _=>true | .int _,.non=>true | .non,.bl _=>true | .bl _,.non=>true | .non,.str _=>true | .str _,.non=>true
 | .int _,.int _=>true | .bl _,.bl _=>true | .str _,.str _=>true | .byt _,.byt _=>true
 | .int _,.str _=>true | .str _,.int _=>true | .bl _,.str _=>true | .str _,.bl _=>true
 |_,_=>false
def MP:R2:=λx y H Q=>LH x y=true/\Q (.bl (!decide (x=y))) H
def FJ {i j:Int}:decide (V.int i=V.int j)=(i == j):=by
 rw[NY]
 simp
def IB {i j:Bool}:decide (V.bl i=V.bl j)=(i == j):=by
 rw[NY]
 simp
def Fc {i j:Str}:decide (V.str i=V.str j)=(i == j):=by
 rw[NY]
 simp
def FT {i j:Array UInt8}:decide (V.byt i=V.byt j)=(i.toList == j.toList):=by
 rw[NY]
 cases i
 cases j
 simp
section
variable {X:Cx}{a b c:Expr}{ta tb tc:TE}{pos:Pos}
def dk {pins:List (Addr×Obj)}{σ:St}{H:Hp}{s:Shared}{Q:VK}{k k':Bool}(I:Inv X pins σ H s)(q:Q (.bl k) H)(e:k=k'):EP X pins σ Q (.bool k') s:=by
 subst e
 exact⟨.bl k,H,I,rfl,q⟩
theorem JP:la X (compareOp .NotEq) MP:=by
 intro pins s σ H x y v u Q I rx ry h
 obtain⟨hs,q⟩:=h
 cases x with
 |non=>
  cases rx
  cases y with
  |non=>cases ry;exact PySem.EqNone.ne_none_none (dk I q (by simp))
  |bl j=>cases ry;exact PySem.EqNone.ne_none_bool (dk I q (by simp))
  |int j=>obtain⟨t',rfl⟩:=ry;exact PySem.EqNone.ne_none_int (dk I q (by simp))
  |str j=>obtain⟨t',rfl⟩:=ry;exact PySem.EqNone.ne_none_str (dk I q (by simp))
  |_=>exact absurd (show false=true from hs) Nq
 |bl i=>
  cases rx
  cases y with
  |non=>cases ry;exact PySem.EqNone.ne_bool_none (dk I q (by simp))
  |bl j=>cases ry;exact ne_bool (dk I q (congrArg not IB))
  |str j=>obtain⟨t',rfl⟩:=ry;exact PySem.EqMixed.ne_bool_str (dk I q (by simp))
  |_=>exact absurd (show false=true from hs) Nq
 |int i=>
  obtain⟨t,rfl⟩:=rx
  cases y with
  |non=>cases ry;exact PySem.EqNone.ne_int_none (dk I q (by simp))
  |int j=>obtain⟨t',rfl⟩:=ry;exact ne_int (dk I q (congrArg not FJ))
  |str j=>obtain⟨t',rfl⟩:=ry;exact PySem.EqMixed.ne_int_str (dk I q (by simp))
  |_=>exact absurd (show false=true from hs) Nq
 |str i=>
  obtain⟨t,rfl⟩:=rx
  cases y with
  |non=>cases ry;exact PySem.EqNone.ne_str_none (dk I q (by simp))
  |bl j=>cases ry;exact PySem.EqMixed.ne_str_bool (dk I q (by simp))
  |int j=>obtain⟨t',rfl⟩:=ry;exact PySem.EqMixed.ne_str_int (dk I q (by simp))
  |str j=>obtain⟨t',rfl⟩:=ry;exact ne_str (dk I q (congrArg not Fc))
  |_=>exact absurd (show false=true from hs) Nq
 |byt i=>
  obtain⟨t,rfl⟩:=rx
  cases y with
  |byt j=>obtain⟨t',rfl⟩:=ry;exact PySem.W.ne_bytes (dk I q (congrArg not FT))
  |_=>exact absurd (show false=true from hs) Nq
 |_=>cases y <;> exact absurd (show false=true from hs) Nq
def BG:la X (compareOp .Lt) (yn λi j=>.bl (decide (i < j))):=Ir λ_ _ _ _ _ _ _ q=>lt_int q
def DE:la X (compareOp .LtE) (yn λi j=>.bl (decide (i<=j))):=Ir λ_ _ _ _ _ _ _ q=>le_int q
def zo:la X (compareOp .Gt) (yn λi j=>.bl (decide (j < i))):=Ir λ_ _ _ _ _ _ _ q=>gt_int q
def a9 (b:Expr){op:CmpOp}(h:op≠.In:=by decide)(h2:op≠.NotIn:=by decide):behindInMarks op b=false:=by
 have e1:(op == CmpOp.In)=false:=by cases op <;> first |rfl |exact absurd rfl h
 have e2:(op == CmpOp.NotIn)=false:=by cases op <;> first |rfl |exact absurd rfl h2
 cases b <;> simp[behindInMarks,e1,e2]
def ES {op:CmpOp}{r:R2}(ho:la X (compareOp op) r)(ha:PE X a ta)(hb:PE X b tb)(hm:behindInMarks op b=false):PE X (.Compare a [op] [b] pos) (K9 r ta tb):=by
 intro pins s σ H Q I h
 exact wpAny_Compare1 (Jf ha hb I h λv u s2 x y H2 I2 rx ry q=>ho pins s2 σ H2 x y v u Q I2 rx ry q) hm
def KO (t:TE):TT:=λσ H Q=>t σ H λx H'=>∃k,x=.bl k/\Q k H'
def yM {op:CmpOp}{r:R2}(ho:la X (compareOp op) r)(ha:PE X a ta)(hb:PE X b tb)(hm:behindInMarks op b=false):PT X (.Compare a [op] [b] pos) (KO (K9 r ta tb)):=by
 intro pins s σ H Q I h
 refine wpAny_isTrue_Compare1 (b6 (ha pins s σ H _ I h) λv s1 ⟨x,H1,I1,r1,q1⟩=>b6 (hb pins s1 σ H1 _ I1 q1) λu s2 ⟨y,H2,I2,r2,q2⟩=>
  b6 (ho pins s2 σ H2 x y v u _ I2 r1 r2 q2) λc s3 ⟨z,H3,I3,r3,k,e,q3⟩=>?_) hm
 subst e
 cases r3
 exact OC ⟨H3,I3,q3⟩
def Hk (r r':R2)(ta tb tc:TE):TE:=λσ H Q=>ta σ H λx H1=>tb σ H1 λy H2=>r x y H2 λz H3=>∃k,z=.bl k/\
 (if k=true then tc σ H3 λw' H4=>r' y w' H4 Q else Q (.bl false) H3)
theorem B8 {op op':CmpOp}{r r':R2}(ho:la X (compareOp op) r)(ho':la X (compareOp op') r')(ha:PE X a ta)(hb:PE X b tb)(hc:PE X c tc)
  (hm:lastMarks [op,op'] [b,c]=false:=by with_unfolding_all rfl):PE X (.Compare a [op,op'] [b,c] pos) (Hk r r' ta tb tc):=by
 intro pins s σ H Q I h
 refine Compare_chain (b6 (ha pins s σ H _ I h) λv s1 ⟨x,H1,I1,r1,q1⟩=>chain_link (b6 (hb pins s1 σ H1 _ I1 q1) λu s2 ⟨y,H2,I2,r2,q2⟩=>
  b6 (ho pins s2 σ H2 x y v u _ I2 r1 r2 q2) λd s3 ⟨z,H3,I3,r3,k,e,q3⟩=>?_)) hm
 subst e
 cases r3
 refine OC ?_
 cases k with
 |false=>exact ite_ff ⟨.bl false,H3,I3,rfl,q3⟩
 |true=>exact ite_tt (chain_last (b6 (hc pins s3 σ H3 _ I3 q3) λw' s4 ⟨z',H4,I4,r4,q4⟩=>ho' pins s4 σ H4 y z' u w' Q I4 r2 r4 q4))
def JE (K:Frag)(x:V)(H:Hp)(k:Bool):Prop:=
 match x with
 | .non=>k=false
 | .bl b=>k=b
 | .int i=>k=(i != 0)
 | .str y=>y.length<=sizeLine/\k=((y.length:Int) != 0)
 | .byt y=>y.size<=sizeLine/\k=((y.size:Int) != 0)
 | .ref p=>(∃xs,dZ K H p xs/\k= !xs.isEmpty)\/(∃xs,fS K H p xs/\k= !xs.isEmpty)\/∃kvs,H p=some (.dK kvs)/\k= !kvs.isEmpty
 |_=>False
def xG {κ:Type}{kvs:List (κ×V)}{vs:List (κ×Value)}(r:KV kvs vs):(!vs.isEmpty)= !kvs.isEmpty:=by
 cases r <;> rfl
def qE {xs:List V}{its:List Value}(r:Vals xs its):(!its.toArray.isEmpty)= !xs.isEmpty:=by
 cases r <;> simp
def nr:(sizeLine:Nat) < 2 ^ 63:=by rw[NA];decide
theorem Hy:Ls X (λx H Q=>∃k,JE X.K x H k/\Q k H):=by
 intro pins s σ H x v Q I rx h
 obtain⟨k,e,q⟩:=h
 have hl:=nr
 have hs:sizeLine=16777216:=NA
 cases x with
 |non=>
  cases rx
  have e':k=false:=e
  subst e'
  exact truthy_none ⟨H,I,q⟩
 |bl b=>
  cases rx
  have e':k=b:=e
  subst e'
  exact OC ⟨H,I,q⟩
 |int i=>
  obtain⟨t,rfl⟩:=rx
  have e':k=(i != 0):=e
  subst e'
  exact PySem.P.truthy_int ⟨H,I,q⟩
 |str y=>
  obtain⟨t,rfl⟩:=rx
  obtain⟨hy,e'⟩:y.length<=sizeLine/\k=((y.length:Int) != 0):=e
  subst e'
  exact PySem.P.truthy_str (by omega) ⟨H,I.tok _,q⟩
 |byt y=>
  obtain⟨t,rfl⟩:=rx
  obtain⟨hy,e'⟩:y.size<=sizeLine/\k=((y.size:Int) != 0):=e
  subst e'
  exact PySem.W.truthy_bytes (by omega) ⟨H,I.tok _,q⟩
 |ref p=>
  cases rx
  have e':(∃xs,dZ X.K H p xs/\k= !xs.isEmpty)\/(∃xs,fS X.K H p xs/\k= !xs.isEmpty)\/∃kvs,H p=some (.dK kvs)/\k= !kvs.isEmpty:=e
  rcases e' with⟨xs,hx,e'⟩ | ⟨xs,hx,e'⟩ | ⟨kvs,hx,e'⟩
  ·subst e'
   obtain⟨its,r,pl,hz⟩:=I.list hx
   have hlen:=r.length
   exact wpAny_truthy_list pl.isList (by simp only[Nl];omega) ⟨H,I.tok _,by rw[qE r];exact q⟩
  ·subst e'
   obtain⟨its,r,pl,hz⟩:=I.tuple hx
   have hlen:=r.length
   exact truthy_tuple pl (by simp only[Nl];omega) ⟨H,I.tok _,by rw[qE r];exact q⟩
  ·subst e'
   obtain⟨hz,hS,vs,r,m⟩:kvs.length<=sizeLine/\(p == sysModules)=false/\∃vs,KV kvs vs/\s.heap.DictOf (dN X.prog X.w) p vs:=I.hok p _ hx
   have hlen:kvs.length=vs.length:=Paired.length r
   exact wpAny_truthy_dict hS m (by omega) ⟨H,I.tok _,by rw[xG r];exact q⟩
 |_=>exact (show False from e).elim
def Ds (ha:PE X a ta)(he:∀whole,isTrue a X.env whole=(do let v <-whole;standAt a.pos;holding [v] (truthy v))) :
  PT X a (λσ H Q=>ta σ H λx H'=>∃k,JE X.K x H' k/\Q k H'):=by
 intro pins s σ H Q I h
 exact isTrue_plain (b6 (ha pins s σ H _ I h) λv s1 ⟨x,H1,I1,r1,q1⟩=>Hy pins s1 σ H1 x v Q I1 r1 q1) (he _)
theorem vals1 {x:V}{us:List Value}(r:Vals [x] us):∃u,us= [u]/\RelV x u:=by
 cases r with
 |cons r1 r2=>cases r2;exact⟨_,rfl,r1⟩
theorem vals2 {x y:V}{us:List Value}(r:Vals [x,y] us):∃u w',us= [u,w']/\RelV x u/\RelV y w':=by
 cases r with
 |cons r1 r2=>
  cases r2 with
  |cons r3 r4=>cases r4;exact⟨_,_,rfl,r1,r3⟩
def B9:cg X (.builtin "abs") (λxs H Q=>∃i,xs= [.int i]/\Q (.int (if i < 0 then -i else i)) H):=by
 intro pins s σ H xs us Q I r h
 obtain⟨i,rfl,q⟩:=h
 obtain⟨u,rfl,t,rfl⟩:=vals1 r
 exact call_abs_int λu tk=>⟨.int (if i < 0 then -i else i),H,I.tok _,⟨_,rfl⟩,q⟩
def Aq (hc:X.calm=true):cg X (.builtin "max") (λxs H Q=>∃i j,xs= [.int i,.int j]/\Q (.int (if j > i then j else i)) H):=by
 intro pins s σ H xs us Q I r h
 obtain⟨i,j,rfl,q⟩:=h
 obtain⟨u,w',rfl,⟨t,rfl⟩,⟨t',rfl⟩⟩:=vals2 r
 refine max_two_ints (I.ok.hd hc) λh' tk k=>⟨_,H,I.kept k,?_,q⟩
 by_cases hj:j > i
 ·rw[M7 hj,M7 hj];exact⟨_,rfl⟩
 ·rw[Nd hj,Nd hj];exact⟨_,rfl⟩
def Au (hc:X.calm=true):cg X (.builtin "min") (λxs H Q=>∃i j,xs= [.int i,.int j]/\Q (.int (if j < i then j else i)) H):=by
 intro pins s σ H xs us Q I r h
 obtain⟨i,j,rfl,q⟩:=h
 obtain⟨u,w',rfl,⟨t,rfl⟩,⟨t',rfl⟩⟩:=vals2 r
 refine min_two_ints (I.ok.hd hc) λh' tk k=>⟨_,H,I.kept k,?_,q⟩
 by_cases hj:j < i
 ·rw[M7 hj,M7 hj];exact⟨_,rfl⟩
 ·rw[Nd hj,Nd hj];exact⟨_,rfl⟩
def zS:cg X (.type "int") (λxs H Q=>(∃i,xs= [.int i]/\Q (.int i) H)\/∃k,xs= [.bl k]/\Q (.int (if k then 1 else 0)) H):=by
 intro pins s σ H xs us Q I r h
 rcases h with⟨i,rfl,q⟩ | ⟨k,rfl,q⟩
 ·obtain⟨u,rfl,t,rfl⟩:=vals1 r
  exact call_int_int ⟨.int i,H,I,⟨_,rfl⟩,q⟩
 ·obtain⟨u,rfl,r1⟩:=vals1 r
  cases r1
  exact call_int_bool ⟨.int (if k then 1 else 0),H,I.tok _,⟨_,rfl⟩,q⟩
def JW (K:Frag)(x:V)(H:Hp)(n:Nat):Prop:=
 match x with
 | .str y=>y.length<=sizeLine/\n=y.length
 | .byt y=>y.size<=sizeLine/\n=y.size
 | .ref p=>(∃xs,dZ K H p xs/\n=xs.length)\/∃xs,fS K H p xs/\n=xs.length
 |_=>False
theorem cq:cg X (.builtin "len") (λxs H Q=>∃x n,xs= [x]/\JW X.K x H n/\Q (.int n) H):=by
 intro pins s σ H xs us Q I r h
 obtain⟨x,n,rfl,e,q⟩:=h
 obtain⟨u,rfl,rx⟩:=vals1 r
 have hl:=nr
 have hs:sizeLine=16777216:=NA
 cases x with
 |str y=>
  obtain⟨t,rfl⟩:=rx
  obtain⟨hy,e'⟩:y.length<=sizeLine/\n=y.length:=e
  subst e'
  exact len_str (by omega) ⟨.int _,H,I.tok _,⟨_,rfl⟩,q⟩
 |byt y=>
  obtain⟨t,rfl⟩:=rx
  obtain⟨hy,e'⟩:y.size<=sizeLine/\n=y.size:=e
  subst e'
  exact PySem.W.len_bytes (by omega) ⟨.int _,H,I.tok _,⟨_,rfl⟩,q⟩
 |ref p=>
  cases rx
  have e':(∃xs,dZ X.K H p xs/\n=xs.length)\/∃xs,fS X.K H p xs/\n=xs.length:=e
  rcases e' with⟨xs,hx,e'⟩ | ⟨xs,hx,e'⟩
  ·subst e'
   obtain⟨its,r',pl,hz⟩:=I.list hx
   have hlen:=r'.length
   exact Calls.call_len_list pl.isList (by simp only[Nl];omega) ⟨.int xs.length,H,I.tok _,⟨_,by simp only[Nl];rw[hlen]⟩,q⟩
  ·subst e'
   obtain⟨its,r',pl,hz⟩:=I.tuple hx
   have hlen:=r'.length
   exact len_tuple pl (by simp only[Nl];omega) ⟨.int xs.length,H,I.tok _,⟨_,by simp only[Nl];rw[hlen]⟩,q⟩
 |_=>exact (show False from e).elim
def v5:cg X (.builtin "divmod") (λxs H Q=>∃i j,xs= [.int i,.int j]/\Gh i j/\∀p,H p=none->Q (.ref p) (upd H p (.tup [.int (i / j),.int (i % j)]))):=by
 intro pins s σ H xs us Q I r h
 obtain⟨i,j,rfl,⟨h1,h2⟩,q⟩:=h
 obtain⟨u,w',rfl,⟨t,rfl⟩,⟨t',rfl⟩⟩:=vals2 r
 refine divmod_int (by omega) ?_ (.inl (PyProof.noPylong_small (by omega)))
 rw[Int.fdiv_eq_ediv_of_nonneg i (by omega),Int.fmod_eq_emod_of_nonneg i (by omega)]
 have hn:H s.heap.objs.size=none:=I.hok.fresh (M9 _)
 refine⟨.ref s.heap.objs.size,_,?_,rfl,q _ hn⟩
 refine I.laid (λb o e=>M4 _ e) (M9 _) ⟨by simp only[NC,PQ];rw[NA];decide,[.int (i / j) s.toks,.int (i % j) (s.toks + 1)],.cons ⟨_,rfl⟩ (.cons ⟨_,rfl⟩ .nil),?_⟩
 exact⟨_,Nk s.heap rfl,rfl,0,rfl,rfl⟩
end
structure IJ (h:Heap)(x dx C:Addr)(mA:Str->Option Value):Prop where
 obj:h.get? x=some (PySem.W.instObj C dx)
 ns:h.Ns1 dx mA
 ne:dx≠x
def AY {h:Heap}{dx:Addr}{mA:Str->Option Value}(n:h.Ns1 dx mA):∃od,h.get? dx=some od/\∀name,PySem.W.lookIn name od=some (mA name):=by
 obtain⟨o,es,ep,ho,hd,hk,_,hm⟩:=n
 refine⟨o,ho,λname=>?_⟩
 have e:=hm name
 unfold nsFind findBy at e
 rw[<-Array.find?_toList] at e
 unfold PySem.W.lookIn
 rw[hd]
 dsimp only
 split
 ·rename_i y q
  rw[q] at e
  exact congrArg some e
 ·rename_i q
  rw[q] at e
  have a:es.toList.any (·.refKey)=false:=by
   rw[P4]
   intro y hy
   obtain⟨z,t,hkey⟩:=hk y (O9.mp hy)
   simp[DictEntry.refKey,hkey]
  have a':¬es.toList.any (·.refKey)=true:=by rw[a];exact Nq
  rw[Nd a']
  exact congrArg some e
def IJ.look {h:Heap}{x dx C:Addr}{mA:Str->Option Value}(I:IJ h x dx C mA):∃od,PySem.W.InstAt h x (PySem.W.instObj C dx) C (some od)/\∀name,PySem.W.lookIn name od=some (mA name):=
 let ⟨od,ho,hl⟩:=AY I.ns
 ⟨od,⟨I.obj,rfl,rfl,ho⟩,hl⟩
section
variable {P:Program}{w:World}{H H':Hp}{h h':Heap}{a C dx:Addr}{fs fs':List (Str×V)}
def E9 (hok:j5 P w H h)(e:H a=some (.ins C dx fs)):∃mA,IJ h a dx C mA/\(∀f,Jc (fs.lookup f) (mA f))/\PySem.Within mA (fs.map (·.1))/\fs.length<=1000/\H dx=some (.own a):=by
 obtain⟨d,z,ne,ob,mA,n,r,q⟩:=(show bA P w H h a (.ins C dx fs) from hok a _ e)
 exact⟨mA,⟨ob,n,ne⟩,r,q,z,d⟩
end
structure Ms (K:Frag)(C:Addr):Prop where
 pg:PySem.W.plainGet K C Str.empty=true
 hd:PySem.W.hasDictIn K C=true
 po:PySem.W.plainOver K C=true
 sa:PySem.W.findIn K (.ref C) "__setattr__"=some (some (.builtin "object.__setattr__"))
def Ms.get {K:Frag}{C:Addr}(c:Ms K C)(f:Str):PySem.W.plainGet K C f=true:=c.pg
section
variable {X:Cx}{pins:List (Addr×Obj)}{σ:St}{H:Hp}{s:Shared}{A:Around}{E:Value->Shared->Prop}{Q:Value->Shared->Prop}{c:Value}{b:Bool}
inductive oI (K:Frag)(H:Hp):V->Value->Prop where
 |non:oI K H .non (.type "NoneType")
 |bl (x:Bool):oI K H (.bl x) (.type "bool")
 |int (i:Int):oI K H (.int i) (.type "int")
 |str (x:Str):oI K H (.str x) (.type "str")
 |flt (x:UInt64):oI K H (.flt x) (.type "float")
 |lst {a:Addr} {xs:List V} (e:H a=some (.lst xs)):oI K H (.ref a) (.type "list")
 |aS {a:Addr} {o:Obj} {xs:List V} (e:H a=some (.aS o (.lst xs))):oI K H (.ref a) (.type "list")
 |tup {a:Addr} {xs:List V} (e:H a=some (.tup xs)):oI K H (.ref a) (.type "tuple")
 |dK {a:Addr} {kvs:List (Key×V)} (e:H a=some (.dK kvs)):oI K H (.ref a) (.type "dict")
 |dT {a:Addr} {kvs:List (List Key×V)} (e:H a=some (.dT kvs)):oI K H (.ref a) (.type "dict")
 |ins {a C dx:Addr} {fs:List (Str×V)} (e:H a=some (.ins C dx fs)) (cl:Ms K C) (ha:PySem.W.findIn K (.ref C) "__class__"=some (some (.builtin "object.__class__")))
   (hn:PySem.W.specialIn K (.builtin "object.__class__") "__get__"=some (some (.builtin "getset_descriptor.__get__"))) (htk:PySem.W.takesIn K (.builtin "object.__class__")=some true)
   (hm:PySem.W.mroIn K C (.type "object")=some true):oI K H (.ref a) (.ref C)
theorem jb {x:V}{u t:Value}(I:Inv X pins σ H s)(rx:RelV x u)(ty:oI X.K H x t)(e:PySem.W.kitOne X.K t c=some b)(h:∀tk,Q (.bool b) {s with toks:=tk}) :
  wpAny (model X.prog X.w) A (call (.builtin "isinstance") [u,c]) Q E s:=by
 cases ty with
 |non=>cases (show u=Value.none from rx);exact NZ PySem.W.kitx_none I.kIn True.intro e (λz=>nomatch z) h
 |bl y=>cases (show u=Value.bool y from rx);exact NZ PySem.W.kitx_bool I.kIn True.intro e (λz=>nomatch z) h
 |int i=>obtain⟨t,q⟩:=(show ∃t,u=Value.int i t from rx);cases q;exact NZ PySem.W.kitx_int I.kIn True.intro e (λz=>nomatch z) h
 |str y=>obtain⟨t,q⟩:=(show ∃t,u=Value.str y t from rx);cases q;exact NZ PySem.W.kitx_str I.kIn True.intro e (λz=>nomatch z) h
 |flt y=>obtain⟨t,q⟩:=(show ∃t,u=Value.float y t from rx);cases q;exact NZ PySem.W.kitx_float I.kIn True.intro e (λz=>nomatch z) h
 | @lst a xs ea=>
  cases (show u=Value.ref a from rx)
  obtain⟨_,_,n,_,h1⟩:=(show bA X.prog X.w H s.heap a (.lst xs) from I.hok a _ ea)
  exact NZ PySem.W.kitx_list I.kIn ⟨_,h1,rfl⟩ e (λz=>nomatch z) h
 | @aS a ob xs ea=>
  cases (show u=Value.ref a from rx)
  obtain⟨_,_,_,n,_,h1⟩:=(show bA X.prog X.w H s.heap a (.aS ob (.lst xs)) from I.hok a _ ea)
  exact NZ PySem.W.kitx_list I.kIn ⟨_,h1,rfl⟩ e (λz=>nomatch z) h
 | @tup a xs ea=>
  cases (show u=Value.ref a from rx)
  obtain⟨_,_,_,p⟩:=(show bA X.prog X.w H s.heap a (.tup xs) from I.hok a _ ea)
  obtain⟨o,h1,h2,_⟩:=p
  exact NZ PySem.W.kitx_tuple I.kIn ⟨o,h1,h2⟩ e (λz=>nomatch z) h
 | @dK a kvs ea=>
  cases (show u=Value.ref a from rx)
  obtain⟨_,_,vs,_,p⟩:=(show bA X.prog X.w H s.heap a (.dK kvs) from I.hok a _ ea)
  obtain⟨o,es,ep,h1,h2,_⟩:=p
  exact NZ PySem.W.kitx_dict I.kIn ⟨o,h1,h2.1⟩ e (λz=>nomatch z) h
 | @dT a kvs ea=>
  cases (show u=Value.ref a from rx)
  obtain⟨_,_,xs,_,o,es,ep,h1,h2,_⟩:=(show bA X.prog X.w H s.heap a (.dT kvs) from I.hok a _ ea)
  exact NZ PySem.W.kitx_dict I.kIn ⟨o,h1,h2.1⟩ e (λz=>nomatch z) h
 | @ins a C dx fs ea cl ha hn htk hm=>
  cases (show u=Value.ref a from rx)
  obtain⟨mA,O,_⟩:=E9 I.hok ea
  obtain⟨od,J,_⟩:=O.look
  exact NZ (PySem.W.kitx_own (cl.get _) cl.hd ha hn htk hm) I.kIn J e (λz=>nomatch z) h
end
structure dG (k:Nat)(A:Around):Prop where
 hd:A.handled=none
 dp:A.depth + 3 * k + 5 < recursionLimit
 un:A.units + 16 * k + 200 < cLine
 gd:A.guards=some []
def dG.mono {j k:Nat}{A:Around}(r:dG k A)(h:j<=k):dG j A:=⟨r.hd,by have:=r.dp;omega,by have:=r.un;omega,r.gd⟩
def dG.deeper {k:Nat}{A:Around}(r:dG (k + 1) A)(env:Env):dG k (A.deeper env):=
 ⟨r.hd,by have:=r.dp;show A.depth + 1 + 3 * k + 5 < _;omega,by have:=r.un;show A.units + 3 + 16 * k + 200 < _;omega,r.gd⟩
def dG.depth {k:Nat}{A:Around}(r:dG k A):A.depth < recursionLimit:=by have:=r.dp;omega
def dG.units {k:Nat}{A:Around}(r:dG k A):A.units + 64 < cLine:=by have:=r.un;omega
def Lz:TA:=λ_ H Q=>Q [] H
def Jr (ta:TE)(tr:TA):TA:=λσ H Q=>ta σ H λx H1=>tr σ H1 λxs H2=>Q (x :: xs) H2
section
variable {X:Cx}{e:Expr}{es:List Expr}{te:TE}{t:TA}{pos:Pos}
def aJ:PA X [] Lz:=λ_ _ _ _ H Q I h=>Calls.spliced_nil ⟨[],H,I,.nil,h⟩
def ao (ha:PE X e te)(hr:PA X es t)(hs:starEach (e :: es) X.env=(false,eval e X.env) :: starEach es X.env:=by rfl):PA X (e :: es) (Jr te t):=by
 intro pos pins s σ H Q I h
 rw[hs]
 show wpAny _ _ (spliced ((false,eval e X.env) :: backTo pos (starEach es X.env))) _ _ s
 refine Calls.spliced_cons (b6 (ha pins s σ H _ I h) λu s1 ⟨x,H1,I1,r1,q1⟩=>?_)
 exact b6 (hr pos pins s1 σ H1 _ I1 q1) λus s2 ⟨xs,H2,I2,r2,q2⟩=>⟨x :: xs,H2,I2,.cons r1 r2,q2⟩
def LY (t:TA):TE:=λσ H Q=>t σ H λxs H1=>xs.length<=sizeLine/\∀p,H1 p=none->Q (.ref p) (upd H1 p (.tup xs))
def Lx (t:TA):TE:=λσ H Q=>t σ H λxs H1=>xs.length<=sizeLine/\∀p,H1 p=none->Q (.ref p) (upd H1 p (.lst xs))
def yd {x1}(h:PA X es t):PE X (.Tuple es x1 pos) (LY t):=by
 intro pins s σ H Q I hq
 refine wpAny_Tuple_spliced (b6 (h pos pins s σ H _ I hq) λus s1 ⟨xs,H1,I1,r,z,q⟩=>⟨by rw[<-r.length];exact z,?_⟩)
 have hf:H1 s1.heap.objs.size=none:=I1.hok.fresh (M9 _)
 refine⟨.ref s1.heap.objs.size,upd H1 s1.heap.objs.size (.tup xs),I1.laid (t':=s1.toks) (λb u e=>M4 _ e) (M9 _) ?_,rfl,q _ hf⟩
 exact⟨z,us,r,vW.new _ _⟩
def nu (h:PA X es t):PE X (.List es pos) (Lx t):=by
 intro pins s σ H Q I hq
 refine wpAny_List_spliced (b6 (h pos pins s σ H _ I hq) λus s1 ⟨xs,H1,I1,r,z,q⟩=>⟨by rw[<-r.length];exact z,?_⟩)
 have hf:H1 s1.heap.objs.size=none:=I1.hok.fresh (M9 _)
 refine⟨.ref s1.heap.objs.size,upd H1 s1.heap.objs.size (.lst xs),I1.laid (t':=s1.toks) (λb u e=>M4 _ e) (M9 _) ?_,rfl,q _ hf⟩
 exact⟨z,us,0,r,Nk _ rfl⟩
end
abbrev Sp:=List V->Hp->VK->XK->Prop
abbrev wc:=List Env->Hp->Shared->XK->Value->Shared->Prop
structure x9 (P:Program)(w:World)(K:Frag)(mg:Str->Option Value)(base:Heap)(A:Around)(outer:List Env)(s:Shared)(H:Hp):Prop where
 frames:A.frames=some outer
 mod:Mod K mg base
 bs:∀b o,base.get? b=some o->s.heap.get? b=some o/\H b=none
 bsz:base.objs.size<=s.heap.objs.size
 funs:s.heap.FunFrames base outer
 frf:∀b∈dU outer,H b=none
 hok:j5 P w H s.heap
 bare:AllBare s.gens
def CE (outer:List Env)(P:Program)(w:World)(H:Hp)(s:Shared)(Q:VK)(u:Value)(s':Shared):Prop:=
 ∃v H',s'.os=s.os/\AllBare s'.gens/\Un (dU outer) [] H H' s.heap s'.heap/\j5 P w H' s'.heap/\RelV v u/\Q v H'
def CR (CX:wc)(outer:List Env)(P:Program)(w:World)(H:Hp)(s:Shared)(Q:VK)(E:XK)(r:Result)(s':Shared):Prop:=
 match r with
 | .ok (.ret u)=>CE outer P w H s Q u s'
 | .ok _=>False
 | .error e=>CX outer H s E e s'
structure fJ (P:Program)(w:World)(K:Frag)(mg:Str->Option Value)(base:Heap)(CX:wc)(k:Nat)(f:Addr)(fd:FuncData)(ps:List Str)(sp:Sp):Prop where
 len:∀vs H Q E,sp vs H Q E->vs.length=ps.length
 run:∀(A:Around) (outer:List Env) (s:Shared) (H:Hp) (args:Args) (us:List Value) (vs:List V) (Q:VK) (E:XK),dG k A->x9 P w K mg base A outer s H->BindsTo s fd args (ps.zip us)->Vals vs us->sp vs H Q E->
  codeAny (model P w) A (.call (.ref f) args) (CR CX outer P w H s Q E) s
def fJ.mono {P:Program}{w:World}{K:Frag}{mg:Str->Option Value}{base:Heap}{CX:wc}{j k:Nat}{f:Addr}{fd:FuncData}{ps:List Str}{sp:Sp}(F:fJ P w K mg base CX j f fd ps sp)(h:j<=k) :
  fJ P w K mg base CX k f fd ps sp:=⟨F.len,λA outer s H args us vs Q E hr=>F.run A outer s H args us vs Q E (hr.mono h)⟩
def fJ.imp {P:Program}{w:World}{K:Frag}{mg:Str->Option Value}{base:Heap}{CX:wc}{k:Nat}{f:Addr}{fd:FuncData}{ps:List Str}{sp sp':Sp}(F:fJ P w K mg base CX k f fd ps sp)
  (h:∀vs H Q E,sp' vs H Q E->sp vs H Q E):fJ P w K mg base CX k f fd ps sp':=
 ⟨λvs H Q E q=>F.len vs H Q E (h _ _ _ _ q),λA outer s H args us vs Q E hr he hb hv hs=>F.run A outer s H args us vs Q E hr he hb hv (h _ _ _ _ hs)⟩
section
variable {X:Cx}{pins:List (Addr×Obj)}{σ:St}{H:Hp}{s s':Shared}
def Inv.env0 (I:Inv X pins σ H s):x9 X.prog X.w X.K X.mg X.base X.A X.stack s H:=
 ⟨I.ok.frames,I.ok.mod,I.bs,Oe I.ok.bsz I.sz,I.stack,I.stkFree,I.hok,I.bare⟩
def Inv.after {Q:VK}{u:Value}(I:Inv X pins σ H s)(h:CE X.stack X.prog X.w H s Q u s'):EP X pins σ Q u s':=by
 obtain⟨v,H',os,bare,un,hok,r,q⟩:=h
 obtain⟨hh,g,d,t,os'⟩:=s'
 obtain rfl:os'=s.os:=os
 exact⟨v,H',I.call (h':=hh) (g':=g) (d':=d) (t':=t) (ch:=[]) un hok bare (λb z=>absurd z (by simp)),r,q⟩
end
def GN (sp:Sp)(dvs:List V)(E:XK)(t:TA):TE:=λσ H Q=>t σ H λvs H1=>sp (vs ++ dvs) H1 Q E
def Binds (K:Frag)(fd:FuncData)(ps:List Str)(ds:List Value):Prop:=
 ∀(s:Shared) (us:List Value),K.In s.heap->(us ++ ds).length=ps.length->BindsTo s fd ⟨us,[]⟩ (ps.zip (us ++ ds))
def Binds.all {K:Frag}{fd:FuncData}{ps:List Str}(h:∀us:List Value,us.length=ps.length->bindArgs fd ⟨us,[]⟩=pure (ps.zip us)):Binds K fd ps []:=λs us _ hl=>by
 rw[Pp] at hl ⊢
 exact .of_eq (h us hl)
def Passes (CX:wc)(X:Cx)(E:XK):Prop:=∀(pins:List (Addr×Obj)) (σ:St) (H:Hp) (s:Shared) (e:Value) (s':Shared),Inv X pins σ H s->CX X.stack H s E e s'->X.xe e s'
section
variable {X:Cx}{CX:wc}{k:Nat}{f C:Addr}{fd:FuncData}{ps:List Str}{sp:Sp}{dvs:List V}{ds:List Value}{E:XK}{x m:Str}{p pos apos:Pos}{e o:Expr}{es:List Expr}{ta:TE}{t:TA}
theorem IF {pins:List (Addr×Obj)}{σ:St}{H:Hp}{s:Shared}{Q:VK}{us:List Value}{vs:List V}(F:fJ X.prog X.w X.K X.mg X.base CX k f fd ps sp)(hr:dG k X.A)(hb:Binds X.K fd ps ds)(hd:Vals dvs ds)(hx:Passes CX X E)
  (I:Inv X pins σ H s) (r:Vals vs us) (h:sp (vs ++ dvs) H Q E):wpAny (model X.prog X.w) X.A (call (.ref f) us) (EP X pins σ Q) X.xe s:=by
 have r2:Vals (vs ++ dvs) (us ++ ds):=r.append hd
 have hl:(us ++ ds).length=ps.length:=by rw[<-r2.length];exact F.len _ _ _ _ h
 refine wpAny_call (O0 (F.run X.A X.stack s H ⟨us,[]⟩ (us ++ ds) (vs ++ dvs) Q E hr I.env0 (hb s us I.kIn hl) r2 h) λr s' hq=>?_)
 cases r with
 |error e=>exact hx pins σ H s e s' I hq
 |ok fl=>
  cases fl with
  |ret u=>exact I.after hq
  |next=>exact False.elim hq
  |brk=>exact False.elim hq
  |cont=>exact False.elim hq
def oW (F:fJ X.prog X.w X.K X.mg X.base CX k f fd ps sp)(hr:dG k X.A)(hg:Gl X x)(hm:X.mg x=some (.ref f))(hk:PySem.W.keepIn X.K (.ref f)=true)(hb:Binds X.K fd ps ds)(hd:Vals dvs ds)(hx:Passes CX X E)
  (ha:PA X (e :: es) t) (hdb:(x == ("__debug__":Str))=false:=by decide) (he:starEach (e :: es) X.env=(false,eval e X.env) :: starEach es X.env:=by rfl) (hpl:(backTo pos (starEach es X.env)).any (·.1)=false:=by rfl) :
  PE X (.Call (.Name x p) (e :: es) [] pos) (GN sp dvs E t):=by
 intro pins s σ H Q I h
 refine PV (mB I hg hm ?_ hdb)
 refine PySem.W.callWith_K (h₀:=X.base) I.ok.mod.kin hk (b6 (ha pos pins s σ H _ I h) λus s1 ⟨vs,H1,I1,r,q⟩=>⟨I1.kIn,?_⟩) he hpl
 exact IF F hr hb hd hx I1 r q
end
structure aE (N P:List Str)(sc:Scope):Prop where
 kind:sc.kind=.function
 co:sc.isCoroutine=false
 gen:sc.isGenerator=false
 nd:N.Nodup
 pre:N.take P.length=P
 par:∀x∈P,sc.names.lookup x=some .local\/sc.names.lookup x=some .cell
 nofree:∀y∈sc.names,y.2≠.free
theorem so {kindOf:Str->Option NameKind}{x:Str}:∀{binds:List (Str×Value)} {m:Str->Option Value},(∀v,(x,v)∉binds)->bindL kindOf binds m x=m x
 | [],_,_=>rfl
 | (n,v) :: r,m,h=>by
  unfold bindL
  rw[so λw hw=>h w (M8 _ hw)]
  split
  ·have:x≠n:=by rintro rfl;exact h v Nb
   simp[this]
  ·rfl
theorem si {kindOf:Str->Option NameKind}{x:Str}:∀{binds:List (Str×Value)} {m:Str->Option Value},(∀v,(x,v)∉binds)->bindC kindOf binds m x=m x
 | [],_,_=>rfl
 | (n,v) :: r,m,h=>by
  unfold bindC
  rw[si λw hw=>h w (M8 _ hw)]
  split
  ·rfl
  ·have:x≠n:=by rintro rfl;exact h v Nb
   simp[this]
theorem r6 {kindOf:Str->Option NameKind}{x:Str}{v:Value}:∀{P:List Str} {vs:List Value} {i:Nat} {m:Str->Option Value},P.Nodup->P[i]? =some x->vs[i]? =some v->kindOf x=some .local->
  bindL kindOf (P.zip vs) m x=some v
 | [],_,_,_,_,h,_,_=>by simp at h
 |_ :: _,[],_,_,_,_,h,_=>by simp at h
 |p :: P,w :: vs,0,m,nd,h1,h2,hk=>by
  simp at h1 h2;subst h1;subst h2
  show bindL kindOf ((p,w) :: P.zip vs) m p=_
  unfold bindL
  rw[so λv hv=>(NP.mp nd).1 (of_mem_zip hv).1,M7 hk]
  simp
 |p :: P,w :: vs,i + 1,m,nd,h1,h2,hk=>by
  show bindL kindOf ((p,w) :: P.zip vs) m x=_
  unfold bindL
  exact r6 (i:=i) (NP.mp nd).2 (by simpa using h1) (by simpa using h2) hk
theorem rR {kindOf:Str->Option NameKind}{x:Str}{v:Value}:∀{P:List Str} {vs:List Value} {i:Nat} {m:Str->Option Value},P.Nodup->P[i]? =some x->vs[i]? =some v->kindOf x≠some .local->
  bindC kindOf (P.zip vs) m x=some v
 | [],_,_,_,_,h,_,_=>by simp at h
 |_ :: _,[],_,_,_,_,h,_=>by simp at h
 |p :: P,w :: vs,0,m,nd,h1,h2,hk=>by
  simp at h1 h2;subst h1;subst h2
  show bindC kindOf ((p,w) :: P.zip vs) m p=_
  unfold bindC
  rw[si λv hv=>(NP.mp nd).1 (of_mem_zip hv).1,Nd hk]
  simp
 |p :: P,w :: vs,i + 1,m,nd,h1,h2,hk=>by
  show bindC kindOf ((p,w) :: P.zip vs) m x=_
  unfold bindC
  exact rR (i:=i) (NP.mp nd).2 (by simpa using h1) (by simpa using h2) hk
def start (N:List Str)(vs:List V):St:=vs.map some ++ List.replicate (N.length - vs.length) none
def kG (CX:wc)(P:Program)(w:World)(K:Frag)(mg:Str->Option Value)(base:Heap)(N:List Str)(qual:Str)(scope:Scope)(f:Addr)(cd:Value)(A:Around)(outer:List Env)(s:Shared)(H:Hp)(E:XK):Cx where
 prog:=P
 w:=w
 K:=K
 mg:=mg
 base:=base
 A:=A.deeper (envOfC qual scope s.heap.objs.size f cd)
 N:=N
 s₀:=s
 H₀:=H
 env:=envOfC qual scope s.heap.objs.size f cd
 outer:=outer
 stack:=envOfC qual scope s.heap.objs.size f cd :: outer
 ex:=[]
 calm:=true
 fn:=λ_=>true
 pn:=[]
 xe:=λe s'=>wpAny (model P w) (A.deeper (envOfC qual scope s.heap.objs.size f cd)) (leaving (envOfC qual scope s.heap.objs.size f cd) e) (λ_ s''=>CX outer H s E e s'') (λe' s''=>CX outer H s E e' s'') s'
def u4 {sc:Scope}{n:Nat}{x:Str}(h:sc.names.lookup x=some .cell):∃c,(cellsFrom n sc.names []).lookup x=some c:=by
 have q:=PySem.W.cellsFrom_some sc.names n [] (.inl h)
 exact Pe.mp q
def rO {CX:wc}{P:Program}{w:World}{K:Frag}{mg:Str->Option Value}{base:Heap}{N ps:List Str}{qual:Str}{scope:Scope}{f:Addr}{cd:Value}{A:Around}{outer:List Env}{s s1:Shared}{H:Hp}{E:XK}{us:List Value}{vs:List V}
  (S:aE N ps scope) (hd:A.handled=none) (e0:x9 P w K mg base A outer s H) (hl:vs.length=ps.length) (r:Vals vs us)
  (x:InCallC s s.heap.objs.size (bindL (envOfC qual scope s.heap.objs.size f cd).kindOf (ps.zip us) λ_=>none) (cellsFrom (s.heap.objs.size + 1) scope.names []) (bindC (envOfC qual scope s.heap.objs.size f cd).kindOf (ps.zip us) λ_=>none) s1) :
  Inv (kG CX P w K mg base N qual scope f cd A outer s H E) [] (start N vs) H s1:=by
 have hpl:ps.length<=N.length:=by have:=congrArg List.length S.pre;rw[Oq] at this;omega
 obtain⟨h1,tk,rfl,hk⟩:=x.done
 have noA:∀b:Addr,b∉(kG CX P w K mg base N qual scope f cd A outer s H E).ex:=λb z=>absurd (show b∈([]:List Addr) from z) (by simp)
 refine⟨⟨e0.mod,S.kind,rfl,rfl,M9 _,λy z c h1 h2=>?_,λy hy=>?_,λy c _ h=>?_,λ_=>hd,Around.frames_deeper e0.frames,.inr ⟨rfl,rfl⟩,λb z=>absurd z (noA b),e0.bs,e0.bsz,λb _ _=>noA b,λb z=>absurd z (noA b),e0.funs,e0.frf⟩,
  rfl,e0.bare,Un.kept hk,⟨_,x.toInCall.ns,λi y v h1 h2 h3=>?_⟩,λy c h=>⟨_,x.cell y c h⟩,e0.hok.fresh (M9 _),λy c h=>?_,λp hp=>absurd (show p∈([]:List (Addr×Obj)) from hp) (by simp),e0.hok.kept hk,?_⟩
 ·exact name_of_addr x.apart (OV h1) (OV h2)
 ·have hy:scope.names.lookup y=some .cell\/scope.names.lookup y=some .free:=hy
  rcases hy with hy |hy
  ·exact u4 hy
  ·exact absurd rfl (S.nofree _ (OV hy))
 ·exact Nat.le_of_lt (x.above y c (OV h))
 ·have hi:i < vs.length:=by
   unfold start at h2
   by_cases hi:i < vs.length
   ·exact hi
   ·rw[NN (by simpa using hi)] at h2
    rw[OB] at h2
    split at h2 <;> cases h2
  have ha:vs[i]? =some v:=by
   unfold start at h2
   rw[NV (by simpa using hi),Ng] at h2
   cases e:vs[i]? with
   |none=>rw[e] at h2;cases h2
   |some a=>rw[e] at h2;cases h2;rfl
  obtain⟨u,hu,rv⟩:=r.get ha
  have hp:ps[i]? =some y:=by
   rw[<-S.pre,List.getElem?_take_of_lt (by omega)];exact h1
  have ndP:ps.Nodup:=by rw[<-S.pre];exact S.nd.sublist (List.take_sublist _ _)
  refine⟨u,rv,?_⟩
  rcases S.par y (Nm hp) with k |k
  ·exact .inl ⟨k,r6 ndP hp hu k⟩
  ·obtain⟨c,e⟩:=u4 (n:=s.heap.objs.size + 1) k
   refine .inr ⟨.inl k,c,e,?_⟩
   have q:=x.cell y c e
   rw[rR ndP hp hu (by show scope.names.lookup y≠_;rw[k];decide)] at q
   exact q
 ·exact e0.hok.fresh (Nat.le_of_lt (x.above y c (OV h)))
 ·unfold start
  show _=N.length
  rw[NK,Na,OH]
  omega
theorem GC {CX:wc}{P:Program}{w:World}{K:Frag}{mg:Str->Option Value}{base:Heap}{k:Nat}{f:Addr}{name qual:Str}{params:Arguments}{body:List Stmt}{scope:Scope}{dV kV doc pm cdv ct oc:Value}{an od:Option Addr}
  {osl:Array (Option Value)} {N ps:List Str} {sp:Sp} (lk:K.lookup f=some ⟨oc,od,.func (PySem.W.fnOf name qual params body scope dV kV doc pm an cdv ct),osl⟩) (hcd:PySem.W.codeIn K cdv qual=true) (S:aE N ps scope)
  (len:∀vs H Q E,sp vs H Q E->vs.length=ps.length)
  (hbody:∀(A:Around) (outer:List Env) (s:Shared) (H:Hp) (vs:List V) (Q:VK) (E:XK),dG k (A.deeper (envOfC qual scope s.heap.objs.size f cdv))->sp vs H Q E->
   ∃t,oJ (kG CX P w K mg base N qual scope f cdv A outer s H E) body t/\t {nx:=λ_ H'=>Q .non H',rt:=Q} (start N vs) H) :
  fJ P w K mg base CX (k + 1) f (PySem.W.fnOf name qual params body scope dV kV doc pm an cdv ct) ps sp:=by
 refine⟨len,λA outer s H args us vs Q E hr e0 hb r hsp=>?_⟩
 have hl:=len _ _ _ _ hsp
 have KX:K.In s.heap:=e0.mod.kin.keeps λb o e=>(e0.bs b o e).1
 have lim:s.heap.NoLimit:=e0.mod.nolimit.keeps λb o e=>(e0.bs b o e).1
 have hkind:∀y∈ps.zip us,scope.names.lookup y.1=some .local\/(scope.names.lookup y.1=some .cell/\((cellsFrom (s.heap.objs.size + 1) scope.names []).lookup y.1).isSome=true):=λ⟨n,v⟩ hy=>by
  rcases S.par n (of_mem_zip hy).1 with q |q
  ·exact .inl q
  ·exact .inr ⟨q,PySem.W.cellsFrom_some _ _ _ (.inl q)⟩
 refine codeAny_call_function hr.depth (KX _ _ lk) rfl S.co S.gen rfl (PySem.W.codeRec_of KX hcd) (hb _ _ _ _ ?_)
 refine wpAny_newFunctionEnv_cells S.kind hkind λenv he s1 x=>?_
 subst he
 refine⟨lim.keeps x.toInCall.keep,codeAny_func ?_⟩
 obtain⟨t,ht,hq⟩:=hbody A outer s H vs Q E (hr.deeper _) hsp
 have I:Inv (kG CX P w K mg base N qual scope f cdv A outer s H E) [] (start N vs) H s1:=rO S hr.hd e0 hl r x
 refine Oo (ht [] s1 (start N vs) H _ I hq) (λfl s' hs=>?_) λe s' hs=>hs
 have fin:∀{σ':St} {H':Hp} {v:V} {u:Value},Inv (kG CX P w K mg base N qual scope f cdv A outer s H E) [] σ' H' s'->RelV v u->Q v H'->CE outer P w H s Q u s':=
  λ{σ' H' v u} J rv q=>⟨v,H',J.os,J.bare,J.base,J.hok,rv,q⟩
 cases fl with
 |ret u=>
  obtain⟨v,σ',H',J,rv,q⟩:=hs
  exact fin J rv q
 |next=>
  obtain⟨σ',H',J,q⟩:=hs
  exact fin (v:=V.non) (u:=Value.none) J rfl q
 |brk=>
  obtain⟨_,_,_,q⟩:=hs
  exact False.elim q
 |cont=>
  obtain⟨_,_,_,q⟩:=hs
  exact False.elim q
section
variable {X:Cx}{x:Str}{p pos:Pos}{e:Expr}{es:List Expr}{t:TA}{id T:String}{r:List V->Hp->VK->Prop}
def MI (r:List V->Hp->VK->Prop)(t:TA):TE:=λσ H Q=>t σ H λvs H1=>r vs H1 Q
def ba (hc:cg X (.builtin id) r)(hg:Gl X x)(hm:X.mg x=none)(hv:bootBuiltins x=some (.builtin id))(ha:PA X (e :: es) t)(hn:x≠"__name__":=by decide)(hdb:(x == ("__debug__":Str))=false:=by decide)
  (he:starEach (e :: es) X.env=(false,eval e X.env) :: starEach es X.env:=by rfl) (hpl:(backTo pos (starEach es X.env)).any (·.1)=false:=by rfl):PE X (.Call (.Name x p) (e :: es) [] pos) (MI r t):=by
 intro pins s σ H Q I h
 refine PV (nG I hg hm hv ?_ hn hdb)
 exact PyProof.Rows.callWith_builtin1 (b6 (ha pos pins s σ H _ I h) λus s1 ⟨vs,H1,I1,r1,q1⟩=>hc pins s1 σ H1 vs us Q I1 r1 q1) he hpl
def gM (hc:cg X (.type T) r)(hg:Gl X x)(hm:X.mg x=none)(hv:bootBuiltins x=some (.type T))(ha:PA X (e :: es) t)(hn:x≠"__name__":=by decide)(hdb:(x == ("__debug__":Str))=false:=by decide)
  (he:starEach (e :: es) X.env=(false,eval e X.env) :: starEach es X.env:=by rfl) (hpl:(backTo pos (starEach es X.env)).any (·.1)=false:=by rfl):PE X (.Call (.Name x p) (e :: es) [] pos) (MI r t):=by
 intro pins s σ H Q I h
 refine PV (nG I hg hm hv ?_ hn hdb)
 exact OZ (b6 (ha pos pins s σ H _ I h) λus s1 ⟨vs,H1,I1,r1,q1⟩=>hc pins s1 σ H1 vs us Q I1 r1 q1) he hpl
end
end L2
namespace HT
open PySem PyProof.Rows
section
open PySem.SeqAt
open PySem.AutoSeq1 (wpAny_loadPart')
open PySem.MeetsSeq PySem.MeetsSeq2 PySem.MeetsSeq3
end
section
variable {prog:Program}{w:World}{A:Around}{E:Value->Shared->Prop}{s:Shared}
def ra (n d:Nat):Option Int->Nat
 |none=>d
 |some v=>if v < 0 then (v + (n:Int)).toNat else min v.toNat n
def uW (n d:Nat):ra n d none=d:=rfl
def D7 (n d k:Nat):ra n d (some (k:Int))=min k n:=by
 show (if (k:Int) < 0 then ((k:Int) + (n:Int)).toNat else min (k:Int).toNat n)=min k n
 rw[Nd (by omega),NM]
end
end HT
namespace L2
open PySem PySem.Spec PyProof.Rows
abbrev TO:=St->Hp->(Option Int->Hp->Prop)->Prop
def PO (X:Cx)(e:Option Expr)(t:TO):Prop:=
 ∀(pins:List (Addr×Obj)) (s:Shared) (σ:St) (H:Hp) (Q:Option Int->Hp->Prop),Inv X pins σ H s->t σ H Q->
  wpAny (model X.prog X.w) X.A (evalPart e X.env) (λu s'=>∃o H',Inv X pins σ H' s'/\IsPart u o/\Q o H') X.xe s
def EW:TO:=λ_ H Q=>Q none H
def KS (t:TE):TO:=λσ H Q=>t σ H λx H1=>∃i,x=.int i/\Q (some i) H1
theorem intsAre_of {ns:List Int}:∀{us:List Value},Vals (ns.map V.int) us->IntsAre us ns:=by
 induction ns with
 |nil=>intro us r;rw[List.map_nil] at r;cases r;exact .nil
 |cons n ns ih=>
  intro us r
  rw[NO] at r
  cases r with
  |cons r1 r2=>
   obtain⟨t,e⟩:=r1
   subst e
   exact .cons n t (ih r2)
section
variable {X:Cx}{e:Expr}{te:TE}{lo hi:Option Expr}{tl th:TO}{pos p2:Pos}
def E4:PO X none EW:=by
 intro pins s σ H Q I h
 rw[evalPart_none]
 exact M5 ⟨none,H,I,.none,h⟩
def yZ (h:PE X e te):PO X (some e) (KS te):=by
 intro pins s σ H Q I hw
 rw[evalPart_some]
 refine b6 (h pins s σ H _ I hw) λu s1 ⟨x,H1,I1,r1,q1⟩=>?_
 obtain⟨i,rfl,q⟩:=q1
 obtain⟨t,rfl⟩:=r1
 exact⟨some i,H1,I1,.int i t,q⟩
def Mv (X:Cx)(r:V->Option Int->Option Int->Hp->VK->Prop):Prop:=
 ∀(pins:List (Addr×Obj)) (s:Shared) (σ:St) (H:Hp) (x:V) (v vl vu:Value) (lo hi:Option Int) (sl:Addr) (Q:VK),Inv X pins σ H s->RelV x v->s.heap.IsSliceOf sl vl vu .none->IsPart vl lo->IsPart vu hi->r x lo hi H Q->
  ∃T id,typeLookup (.type T) "__getitem__"=pure (some (.builtin id))/\s.TypeIs v T/\wpAny (model X.prog X.w) X.A (getItem v (.ref sl)) (EP X pins σ Q) X.xe s
def MT (r:V->Option Int->Option Int->Hp->VK->Prop)(te:TE)(tl th:TO):TE:=λσ H Q=>te σ H λx H1=>tl σ H1 λl H2=>th σ H2 λu H3=>r x l u H3 Q
def Bj {r:V->Option Int->Option Int->Hp->VK->Prop}(hr:Mv X r)(he:PE X e te)(hl:PO X lo tl)(hu:PO X hi th):PE X (.Subscript e (.Slice lo hi none p2) pos) (MT r te tl th):=by
 intro pins s σ H Q I h
 refine Subscript_ (b6 (he pins s σ H _ I h) λv s1 ⟨x,H1,I1,r1,q1⟩=>?_)
 refine wpAny_Slice (b6 (hl pins s1 σ H1 _ I1 q1) λvl s2 ⟨l,H2,I2,pl,q2⟩=>b6 (hu pins s2 σ H2 _ I2 q2) λvu s3 ⟨u,H3,I3,pu,q3⟩=>?_)
 rw[evalPart_none]
 refine M5 ?_
 have I4:Inv X pins σ H3 {s3 with heap:=s3.heap.push {cls:=.type "slice",data:=.fields #[vl,vu,.none]}}:=I3.kept (t':=s3.toks) λb ob q=>M4 _ q
 obtain⟨T,id,hT,ht,hg⟩:=hr pins {s3 with heap:=s3.heap.push {cls:=.type "slice",data:=.fields #[vl,vu,.none]}} σ H3 x v vl vu l u s3.heap.objs.size Q I4 r1 (Heap.IsSliceOf.new ..) pl pu q3
 show wpAny (model X.prog X.w) X.A (subscriptTail e (.Slice lo hi none p2) v (.ref s3.heap.objs.size)) (EP X pins σ Q) X.xe {s3 with heap:=s3.heap.push {cls:=.type "slice",data:=.fields #[vl,vu,.none]}}
 exact tail_any (ops:=[.ref s3.heap.objs.size,v]) ht hT hg (by with_unfolding_all rfl)
def xY (xs:List V)(lo hi:Option Int):List V:=(xs.drop (HT.ra xs.length 0 lo)).take (HT.ra xs.length xs.length hi - HT.ra xs.length 0 lo)
def wm (xs:List V)(lo hi:Option Int):(xY xs lo hi).length<=xs.length:=by
 unfold xY
 rw[Oq,List.length_drop]
 omega
end
def vG (n:Nat)(i:Int):Option Nat:=if 0<=i then (if i < n then some i.toNat else none) else if -(n:Int)<=i then some (i + n).toNat else none
def kg {α:Type}(xs:List α)(i:Int):Option α:=(vG xs.length i).bind λj=>xs[j]?
def yL {n:Nat}{i:Int}{j:Nat}(h:vG n i=some j):seqIndex? i n=some j/\j < n/\ -(n:Int)<=i/\i < n:=by
 unfold vG at h
 by_cases h0:0<=i
 ·rw[M7 h0] at h
  by_cases h1:i < n
  ·rw[M7 h1] at h
   have e:i.toNat=j:=Option.some.inj h
   exact⟨by rw[seqIndex_of h0 h1,e],by omega,by omega,h1⟩
  ·rw[Nd h1] at h;cases h
 ·rw[Nd h0] at h
  by_cases h1: -(n:Int)<=i
  ·rw[M7 h1] at h
   have e:(i + n).toNat=j:=Option.some.inj h
   exact⟨by rw[seqIndex_neg (by omega) h1,e],by omega,h1,by omega⟩
  ·rw[Nd h1] at h;cases h
theorem sZ {α:Type}{xs:List α}{i:Int}{v:α}(h:kg xs i=some v):∃j,seqIndex? i xs.length=some j/\xs[j]? =some v/\j < xs.length/\ -(xs.length:Int)<=i/\i < xs.length:=by
 unfold kg at h
 cases e:vG xs.length i with
 |none=>rw[e] at h;cases h
 |some j=>
  rw[e] at h
  obtain⟨h1,h2,h3,h4⟩:=yL e
  exact⟨j,h1,h,h2,h3,h4⟩
def jO {α:Type}{xs:List α}{j:Nat}{v:α}(h:xs[j]? =some v):kg xs (j:Int)=some v:=by
 have hj:j < xs.length:=(Np.mp h).1
 have e:vG xs.length (j:Int)=some j:=by
  unfold vG
  rw[M7 (by omega),M7 (by omega)];simp
 unfold kg;rw[e];exact h
def yW (b:Expr):Prop:=∀o i,subscripted b false o i=operate [o,i] (getItem o i)
def C2 (X:Cx)(r:R2):Prop:=
 ∀(value slice:Expr) (pins:List (Addr×Obj)) (s:Shared) (σ:St) (H:Hp) (x y:V) (v u:Value) (Q:VK),Inv X pins σ H s->RelV x v->RelV y u->r x y H Q->
  subscripted slice false v u=operate [v,u] (getItem v u)->wpAny (model X.prog X.w) X.A (subscriptTail value slice v u) (EP X pins σ Q) X.xe s
def MV (X:Cx)(id:String)(r:V->List V->Hp->VK->Prop):Prop:=
 ∀(pins:List (Addr×Obj)) (s:Shared) (σ:St) (H:Hp) (x:V) (xs:List V) (v:Value) (us:List Value) (Q:VK),Inv X pins σ H s->RelV x v->Vals xs us->r x xs H Q->
  wpAny (model X.prog X.w) X.A (call (.builtin id) (v :: us)) (EP X pins σ Q) X.xe s
section
variable {X:Cx}{a b:Expr}{ta tb:TE}{pos:Pos}
def C2.or {r r':R2}(h:C2 X r)(h':C2 X r'):C2 X (λx y H Q=>r x y H Q\/r' x y H Q):=by
 intro value slice pins s σ H x y v u Q I rx ry q hs
 rcases q with q |q
 ·exact h value slice pins s σ H x y v u Q I rx ry q hs
 ·exact h' value slice pins s σ H x y v u Q I rx ry q hs
def kc {r:R2}(hr:C2 X r)(ha:PE X a ta)(hb:PE X b tb)(hs:yW b):PE X (.Subscript a b pos) (K9 r ta tb):=by
 intro pins s σ H Q I h
 exact Subscript_ (Jf ha hb I h λv u s2 x y H2 I2 rx ry q=>hr a b pins s2 σ H2 x y v u Q I2 rx ry q (hs _ _))
def Ja (K:Frag):R2:=λx y H Q=>∃p xs i v,x=.ref p/\y=.int i/\dZ K H p xs/\kg xs i=some v/\Q v H
def Jw (K:Frag):R2:=λx y H Q=>∃p xs i v,x=.ref p/\y=.int i/\fS K H p xs/\kg xs i=some v/\Q v H
def Kc:R2:=λx y H Q=>∃z i c,x=.str z/\y=.int i/\z.length<=sizeLine/\kg z.cps.toList i=some c/\Q (.str ⟨#[c]⟩) H
def fB:C2 X (Ja X.K):=by
 intro value slice pins s σ H x y v u Q I rx ry h hs
 obtain⟨p,xs,i,z,rfl,rfl,hq,he,q⟩:=h
 cases rx
 obtain⟨t,rfl⟩:=ry
 obtain⟨its,r,pl,hz⟩:=I.list hq
 obtain⟨j,h1,h2,h3,h4,h5⟩:=sZ he
 obtain⟨w,ew,rw'⟩:=r.get h2
 have hl:=r.length
 have hn:=nr
 have fin:EP X pins σ Q w s:=⟨z,H,I,rw',q⟩
 by_cases h0:0<=i
 ·have hj:i.toNat=j:=by
   rw[seqIndex_of h0 h5] at h1
   exact Option.some.inj h1
  exact item_listR pl.isList h0 (by omega) (by rw[hj];simpa using ew) fin hs
 ·have hj:(i + (its.toArray.size:Int)).toNat=j:=by
   rw[seqIndex_neg (by omega) h4] at h1
   rw[Nl,<-hl]
   exact Option.some.inj h1
  exact subscriptTail_builtinR (x:=w) pl.isList.typeIs slot_list_getitem.lookup
   (wpAny_getItem_list_neg (Q:=λr s'=>r=w/\EP X pins σ Q r s') pl.isList (by omega) (by rw[Nl] <;> omega) (by omega) (by rw[hj];simpa using ew) ⟨rfl,fin⟩) hs
def Iv:C2 X (Jw X.K):=by
 intro value slice pins s σ H x y v u Q I rx ry h hs
 obtain⟨p,xs,i,z,rfl,rfl,hq,he,q⟩:=h
 cases rx
 obtain⟨t,rfl⟩:=ry
 obtain⟨its,r,pl,hz⟩:=I.tuple hq
 obtain⟨j,h1,h2,h3,h4,h5⟩:=sZ he
 obtain⟨w,ew,rw'⟩:=r.get h2
 have hl:=r.length
 have hn:=nr
 have fin:EP X pins σ Q w s:=⟨z,H,I,rw',q⟩
 exact subscriptTail_builtinR (x:=w) pl.typeIs slot_tuple_getitem.lookup
  (getItem_tuple (j:=j) (Q:=λr s'=>r=w/\EP X pins σ Q r s') pl (by omega) (by omega) (by rw[Nl,<-hl];exact h1) (by simpa using ew) ⟨rfl,fin⟩) hs
def Jk:C2 X Kc:=by
 intro value slice pins s σ H x y v u Q I rx ry h hs
 obtain⟨z,i,c,rfl,rfl,hz,he,q⟩:=h
 obtain⟨t,rfl⟩:=rx
 obtain⟨t',rfl⟩:=ry
 obtain⟨j,h1,h2,h3,h4,h5⟩:=sZ he
 have hl:z.cps.toList.length=z.length:=by simp[Str.length]
 rw[hl] at h1 h4 h5
 have hn:=nr
 exact tail_any (typeIs_str s z t) slot_str_getitem.lookup (getItem_str (c:=c) (by
  have e1:decide (i < -(2 ^ 63:Int))=false:=Nj (by omega)
  have e2:decide (i>=2 ^ 63)=false:=Nj (by omega)
  rw[e1,e2,Bool.or_false]) (by rw[h1];simpa using h2) ⟨.str ⟨#[c]⟩,H,I.tok _,⟨_,rfl⟩,q⟩) hs
def My (K:Frag):R2:=λx y H Q=>Ja K x y H Q\/Jw K x y H Q\/Kc x y H Q
def bo:C2 X (My X.K):=fB.or (Iv.or Jk)
def wX (its:List Value)(n j:Nat)(u:Value):Obj.mapSeq (·.setIfInBounds j u) {cls:=.type "list",data:=.seq its.toArray n}={cls:=.type "list",data:=.seq (its.set j u).toArray n}:=by
 simp[Obj.mapSeq]
def Inv.lst {pins:List (Addr×Obj)}{σ:St}{H:Hp}{s:Shared}{p:Addr}{xs:List V}(I:Inv X pins σ H s)(h:H p=some (.lst xs)) :
  ∃(its:List Value) (n:Nat),Vals xs its/\s.heap.get? p=some {cls:=.type "list",data:=.seq its.toArray n}/\xs.length<=sizeLine:=by
 obtain⟨z,its,n,r,e⟩:=I.hok p _ h
 exact⟨its,n,r,e,z⟩
def Inv.lstUpd {pins:List (Addr×Obj)}{σ:St}{H:Hp}{s:Shared}{p:Addr}{xs ys:List V}{its its':List Value}{n n':Nat}{f:Obj->Obj}(I:Inv X pins σ H s)(h:H p=some (.lst xs))
  (ho:s.heap.get? p=some {cls:=.type "list",data:=.seq its.toArray n}) (hf:f {cls:=.type "list",data:=.seq its.toArray n}={cls:=.type "list",data:=.seq its'.toArray n'}) (r:Vals ys its') (hz:ys.length<=sizeLine) (t:Nat) :
  Inv X pins σ (upd H p (.lst ys)) {s with heap:=s.heap.update p f,toks:=t}:=by
 have e:(s.heap.update p f).get? p=some {cls:=.type "list",data:=.seq its'.toArray n'}:=by
  rw[NX f ho (by rw[hf] <;> rfl),hf]
 refine I.write (x:=p) (e:=p) (by rw[h];trivial) (.inl rfl) (λb u hb q=>(Og _ _ (Ne.symm hb)).trans q) ⟨_,e⟩ ?_
 exact⟨hz,its',n',r,e⟩
def J2:V->V->V->Hp->(Hp->Prop)->Prop:=λo i v H Q=>∃p xs k j,o=.ref p/\i=.int k/\H p=some (.lst xs)/\vG xs.length k=some j/\Q (upd H p (.lst (xs.set j v)))
def set_list:tP X J2:=by
 intro pins s σ H o i v ov iv u Q I ro ri rv h
 obtain⟨p,xs,k,j,rfl,rfl,hp,hj,q⟩:=h
 cases ro
 obtain⟨t,rfl⟩:=ri
 obtain⟨its,n,r,ho,hz⟩:=I.lst hp
 obtain⟨h1,h2,h3,h4⟩:=yL hj
 have hl:=r.length
 have hn:=nr
 have I':Inv X pins σ (upd H p (.lst (xs.set j v))) {s with heap:=s.heap.update p (Obj.mapSeq (·.setIfInBounds j u))}:=
  I.lstUpd hp ho (wX its n j u) (r.set rv j) (by rw[Ol];exact hz) s.toks
 by_cases h0:0<=k
 ·have hk:k.toNat=j:=by
   rw[seqIndex_of h0 h4] at h1
   exact Option.some.inj h1
  exact PySem.W.ki_setAt ho h0 (by omega) (by rw[Nl,<-hl];exact h4) (by rw[hk];exact⟨_,I',q⟩)
 ·have hk:(k + (its.toArray.size:Int)).toNat=j:=by
   rw[seqIndex_neg (by omega) h3] at h1
   rw[Nl,<-hl]
   exact Option.some.inj h1
  exact PySem.W.ki_setBack ho (by omega) (by rw[Nl,<-hl];exact h3) (by omega) (by rw[hk];exact⟨_,I',q⟩)
def uH (lo hi:Option Int)(n:Nat):(sliceBounds lo hi none n).1=((HT.ra n 0 lo:Nat):Int)/\(sliceBounds lo hi none n).2.1=((HT.ra n n hi:Nat):Int)/\(sliceBounds lo hi none n).2.2=1:=by
 refine⟨?_,?_,rfl⟩
 ·cases lo with
  |none=>simp[sliceBounds,HT.ra]
  |some i=>
   simp only[sliceBounds,HT.ra,Option.getD_none,show (1:Int) > 0 by decide,Ob]
   by_cases h:i < 0
   ·simp only[h,Ob] <;> omega
   ·simp only[h,NT] <;> omega
 ·cases hi with
  |none=>simp[sliceBounds,HT.ra]
  |some i=>
   simp only[sliceBounds,HT.ra,Option.getD_none,show (1:Int) > 0 by decide,Ob]
   by_cases h:i < 0
   ·simp only[h,Ob] <;> omega
   ·simp only[h,NT] <;> omega
def rl (its:List Value)(lo hi:Option Int):slicePick its.toArray lo hi none=((its.drop (HT.ra its.length 0 lo)).take (HT.ra its.length its.length hi - HT.ra its.length 0 lo)).toArray:=by
 obtain⟨h1,h2,h3⟩:=uH lo hi its.toArray.size
 unfold slicePick
 rw[h1,h2,h3]
 simp only[sliceRange_one,pick_run,Nl] <;> rfl
def Mp (K:Frag):V->Option Int->Option Int->Hp->VK->Prop:=λx lo hi H Q=>∃a xs,x=.ref a/\dZ K H a xs/\∀p,H p=none->Q (.ref p) (upd H p (.lst (xY xs lo hi)))
def D3:Mv X (Mp X.K):=by
 intro pins s σ H x v vl vu lo hi sl Q I rx hs pl pu h
 obtain⟨a,xs,rfl,hx,q⟩:=h
 cases rx
 obtain⟨its,r,ht,hz⟩:=I.list hx
 have hlen:=r.length
 refine⟨"list",_,slot_list_getitem.lookup,ht.isList.typeIs,?_⟩
 refine wpAny_getItem_list_slice ht.isList hs pl pu .none (by simp) ?_ (by rw[Nl] <;> omega)
 rw[rl,<-hlen]
 refine⟨.ref s.heap.objs.size,_,I.laid (t':=s.toks) (o:=.lst (xY xs lo hi)) (λb ob q=>M4 _ q) (M9 _) ?_,rfl,q _ (I.hok.fresh (M9 _))⟩
 exact⟨Oe (wm xs lo hi) hz,_,0,(r.drop (HT.ra xs.length 0 lo)).take (HT.ra xs.length xs.length hi - HT.ra xs.length 0 lo),Nk _ rfl⟩
def mY:cg X (.type "list") (λxs H Q=>∃p ys,xs= [.ref p]/\(dZ X.K H p ys\/fS X.K H p ys)/\∀l,H l=none->Q (.ref l) (upd H l (.lst ys))):=by
 intro pins s σ H xs us Q I r h
 obtain⟨p,ys,rfl,hq,q⟩:=h
 obtain⟨u,rfl,rx⟩:=vals1 r
 cases rx
 have fin:∀(its:List Value),Vals ys its->ys.length<=sizeLine->∀(h':Heap) (c':Nat),(∀b o',s.heap.get? b=some o'->h'.get? b=some o')->
   h'.get? s.heap.objs.size=some {cls:=.type "list",dict:=none,data:=.seq its.toArray c',slots:=#[]}->EP X pins σ Q (.ref s.heap.objs.size) {s with heap:=h'}:=λits r' hz h' c' kp e=>
  ⟨.ref s.heap.objs.size,_,I.laid (t':=s.toks) kp (M9 _) (show bA X.prog X.w _ h' _ (.lst ys) from⟨hz,its,c',r',e⟩),rfl,q _ (I.hok.fresh (M9 _))⟩
 rcases hq with hq |hq
 ·obtain⟨its,r',pl,hz⟩:=I.list hq
  have hlen:=r'.length
  obtain⟨o,ho,hc,n,hd⟩:=pl.isList
  exact call_list_seq p (.inl rfl) ho hc hd (λh' c' kp e=>fin its r' hz h' c' kp e) (by simp only[Nl] <;> omega)
 ·obtain⟨its,r',pl,hz⟩:=I.tuple hq
  have hlen:=r'.length
  obtain⟨o,ho,hc,n,hd⟩:=pl
  exact call_list_seq p (.inr rfl) ho hc hd (λh' c' kp e=>fin its r' hz h' c' kp e) (by simp only[Nl] <;> omega)
def fG:cg X (.type "tuple") (λxs H Q=>∃p ys,xs= [.ref p]/\((dZ X.K H p ys/\∀l,H l=none->Q (.ref l) (upd H l (.tup ys)))\/(fS X.K H p ys/\Q (.ref p) H))):=by
 intro pins s σ H xs us Q I r h
 obtain⟨p,ys,rfl,h⟩:=h
 obtain⟨u,rfl,rx⟩:=vals1 r
 cases rx
 rcases h with⟨hq,q⟩ | ⟨hq,q⟩
 ·obtain⟨its,r',pl,hz⟩:=I.list hq
  have hlen:=r'.length
  refine call_tuple_list pl.isList (λh' kp=>?_) (by simp only[Nl] <;> omega)
  have I1:Inv X pins σ H {s with heap:=h'}:=I.kept (t':=s.toks) kp
  have I2:Inv X pins σ (upd H h'.objs.size (.tup ys)) {s with heap:=h'.push {cls:=.type "tuple",data:=.seq its.toArray}}:=
   I1.laid (t':=s.toks) (λb o e=>M4 _ e) (M9 _) (show bA X.prog X.w _ _ _ (.tup ys) from⟨hz,its,r',vW.new _ _⟩)
  exact⟨.ref h'.objs.size,_,I2,rfl,q _ (I1.hok.fresh (M9 _))⟩
 ·obtain⟨its,r',pl,hz⟩:=I.tuple hq
  exact call_tuple_same pl ⟨.ref p,H,I,rfl,q⟩
def Mz (K:Frag)(T:String)(x:V)(H:Hp):Prop:=match x with
 | .str _=>T="str"
 | .int _=>T="int"
 | .ref p=>(T="list"/\∃xs,dZ K H p xs)\/(T="tuple"/\∃o,K.lookup p=some o/\o.cls=.type "tuple"/\o.dict=none)\/
   (T="dict"/\((∃kvs,H p=some (.dK kvs))\/∃kvs,H p=some (.dT kvs)))\/(T="set"/\∃S n,H p=some (.set S n))
 |_=>False
theorem G9 {pins:List (Addr×Obj)}{σ:St}{H:Hp}{s:Shared}{T:String}{x:V}{v:Value}(I:Inv X pins σ H s)(r:RelV x v)(ty:Mz X.K T x H) :
  s.TypeIs v T/\∀a,v=.ref a->∃ob,s.heap.get? a=some ob/\ob.dict=none:=by
 cases x with
 |str z=>
  obtain⟨t,rfl⟩:=r
  cases (show T="str" from ty)
  exact⟨typeIs_str s z t,λ_ e=>nomatch e⟩
 |int i=>
  obtain⟨t,rfl⟩:=r
  cases (show T="int" from ty)
  exact⟨typeIs_int s i t,λ_ e=>nomatch e⟩
 |ref p=>
  cases r
  rcases ty with⟨rfl,xs,hq⟩ | ⟨rfl,o,hk,hc,hd⟩ | ⟨rfl,hk⟩ | ⟨rfl,S,n,hk⟩
  ·obtain⟨its,_,pl,_⟩:=I.list hq
   refine⟨pl.isList.typeIs,λa e=>?_⟩
   cases e
   obtain⟨o,n,e,c,hd,_⟩:=pl
   exact⟨o,e,hd⟩
  ·refine⟨⟨o,I.kIn p o hk,hc⟩,λa e=>?_⟩
   cases e
   exact⟨o,I.kIn _ o hk,hd⟩
  ·have z:∃o,s.heap.get? p=some o/\o.ExactDict:=by
    rcases hk with⟨kvs,hk⟩ | ⟨kvs,hk⟩
    ·obtain⟨_,_,_,_,o,_,_,e,ex,_⟩:=I.hok p _ hk
     exact⟨o,e,ex⟩
    ·obtain⟨_,_,_,_,o,_,_,e,ex,_⟩:=I.hok p _ hk
     exact⟨o,e,ex⟩
   obtain⟨o,e,ex⟩:=z
   refine⟨⟨o,e,ex.1⟩,λa e2=>?_⟩
   cases e2
   exact⟨o,e,ex.2.1⟩
  ·obtain⟨o,_,_,_,e,ex,_⟩:=I.hok p _ hk
   refine⟨⟨o,e,ex.1⟩,λa e2=>?_⟩
   cases e2
   exact⟨o,e,ex.2.1⟩
 |_=>exact False.elim ty
def MN (K:Frag)(T:String)(r:V->List V->Hp->VK->Prop)(to:TE)(t:TA):TE:=λσ H Q=>to σ H λx H1=>Mz K T x H1/\t σ H1 λxs H2=>r x xs H2 Q
variable {o e:Expr}{es:List Expr}{to:TE}{t:TA}{name:Str}{apos cpos:Pos}{T id:String}{r:V->List V->Hp->VK->Prop}
def v9 (pa:PlainAttrs T)(slot:Slot T name id)(hty:typeOf (.builtin id)=pure (.type "method_descriptor"))(hm:MV X id r)(ho:PE X o to)(ha:PA X (e :: es) t)
  (hbase:attributeBase o name X.env (eval o X.env)=eval o X.env:=by rfl)
  (hfew:((backTo cpos (starEach (e :: es) X.env)).all (λx=> !x.1) && (backToKw cpos (keywordEach [] X.env)).all (λx=>x.1.isSome)
   && decide ((e :: es).length + ([]:List Keyword).length + (if ([]:List Keyword).isEmpty then 0 else 1) < 30))=true:=by rfl)
  (hline:(apos.endLine == cpos.line)=true:=by rfl) (hs:starEach (e :: es) X.env=(false,eval e X.env) :: starEach es X.env:=by rfl) (hplain:(backTo cpos (starEach es X.env)).any (·.1)=false:=by rfl) :
  PE X (.Call (.Attribute o name apos) (e :: es) [] cpos) (MN X.K T r to t):=by
 intro pins s σ H Q I h
 refine wpAny_Call_method_late hbase hfew hline rfl (b6 (ho pins s σ H _ I h) λv s1 ⟨x,H1,I1,r1,ty,q1⟩=>?_)
 obtain⟨h1,h2⟩:=G9 I1 r1 ty
 refine⟨T,id,pa,slot,hty,h1,h2,?_⟩
 have hA:=ha cpos pins s1 σ H1 _ I1 q1
 rw[hs] at hA ⊢
 refine Calls.callWith_builtin (by show (false || (backTo cpos (starEach es X.env)).any (·.1))=false;rw[hplain] <;> rfl) (Calls.evalArgs_plain ?_)
 exact b6 hA λus s2 ⟨vs,H2,I2,r2,q2⟩=>hm pins s2 σ H2 x vs v us Q I2 r1 r2 q2
end
def Hh (X:Cx)(id:String)(r:V->List V->Hp->VK->Prop):Prop:=
 ∀(pins:List (Addr×Obj)) (s:Shared) (σ:St) (H:Hp) (x:V) (xs:List V) (v:Value) (us:List Value) (Q:VK),Inv X pins σ H s->RelV x v->Vals xs us->r x xs H Q->
  wpAny (model X.prog X.w) X.A (call (.builtin id) (v :: us)) (EP X pins σ Q) X.xe s
theorem Vals.one:∀{x:V} {us:List Value},Vals [x] us->∃u,us= [u]/\RelV x u
 |_,_,.cons r .nil=>⟨_,rfl,r⟩
theorem Vals.eraseIdx:∀{xs:List V} {us:List Value} (i:Nat),Vals xs us->Vals (xs.eraseIdx i) (us.eraseIdx i)
 |_,_,_,.nil=>.nil
 |_,_,0,.cons _ t=>t
 |_,_,i + 1,.cons r t=>.cons r (Vals.eraseIdx i t)
theorem Vals.reverse {xs:List V}{us:List Value}(h:Vals xs us):Vals xs.reverse us.reverse:=by
 induction h with
 |nil=>exact .nil
 |cons r t ih=>rw[P5,P5];exact Vals.append ih (.cons r .nil)
theorem Vals.rep {xs:List V}{us:List Value}(h:Vals xs us):∀k:Nat,Vals (List.replicate k xs).flatten (List.replicate k us).flatten
 | 0=>.nil
 |k + 1=>by
  rw[Oi,Oi,OQ,OQ]
  exact Vals.append h (Vals.rep h k)
theorem sC {α:Type}:∀(l:List α) (i:Nat),(l.eraseIdx i).length<=l.length
 | [],_=>M9 _
 |_ :: _,0=>Pd _
 |_ :: r,i + 1=>Nat.succ_le_succ (sC r i)
theorem foldl_rep (its:List Value):∀(k:Nat) (acc:List Value),
  List.foldl (λx1 x2=>x1 ++ x2) acc.toArray (List.replicate k its.toArray)=(acc ++ (List.replicate k its).flatten).toArray
 | 0,acc=>by simp
 |k + 1,acc=>by
  have e:acc.toArray ++ its.toArray=(acc ++ its).toArray:=by simp
  have e2:(acc ++ its) ++ (List.replicate k its).flatten=acc ++ (List.replicate (k + 1) its).flatten:=by
   rw[Oi,OQ,O5]
  rw[<-e2,<-foldl_rep its k (acc ++ its),<-e,Oi,foldl_cons]
section
variable {X:Cx}{pins:List (Addr×Obj)}{σ:St}{H:Hp}{s:Shared}{l b:Addr}{xs ys zs:List V}
def Inv.lset {its its':List Value}{n:Nat}{f:Array Value->Array Value}{t':Nat}(I:Inv X pins σ H s)(hH:H l=some (.lst xs))
  (e:s.heap.get? l=some {cls:=.type "list",data:=.seq its.toArray n}) (hf:f its.toArray=its'.toArray) (hv:Vals ys its') (hz:ys.length<=sizeLine) :
  Inv X pins σ (upd H l (.lst ys)) {s with heap:=s.heap.update l (Obj.mapSeq f),toks:=t'}:=by
 have q:=PySem.IsL.update e f
 rw[hf] at q
 refine I.write (x:=l) (e:=l) (by rw[hH];exact trivial) (.inl rfl) (λb' u hb hu=>(Og s.heap (Obj.mapSeq f) (Ne.symm hb)).trans hu) ⟨_,q⟩ ?_
 exact⟨hz,its',_,hv,q⟩
def Inv.lnew {its:List Value}{t':Nat}(I:Inv X pins σ H s)(hv:Vals ys its)(hz:ys.length<=sizeLine) :
  Inv X pins σ (upd H s.heap.objs.size (.lst ys)) {s with heap:=s.heap.push {cls:=.type "list",data:=.seq its.toArray},toks:=t'}:=
 I.laid (λ_ _ q=>M4 _ q) (M9 _) ⟨hz,its,0,hv,Nk _ rfl⟩
def Inv.fresh (I:Inv X pins σ H s):H s.heap.objs.size=none:=I.hok.fresh (M9 _)
def Inv.lstM (I:Inv X pins σ H s)(hH:H l=some (.lst xs)):xs.length<=sizeLine/\∃(its:List Value) (n:Nat),Vals xs its/\xs.length=its.length/\s.heap.get? l=some {cls:=.type "list",data:=.seq its.toArray n}:=by
 obtain⟨z,its,n,r,e⟩:=I.hok l _ hH
 exact⟨z,its,n,r,r.length,e⟩
def vj {n:Nat}(h:n<=sizeLine):Builtin.List.listTooLong n=false:=by
 unfold Builtin.List.listTooLong
 exact Nj (by omega)
end
section
variable {X:Cx}
def Ft:V->List V->Hp->VK->Prop:=λx vs H Q=>∃l xs y,x=.ref l/\vs= [y]/\H l=some (.lst xs)/\xs.length < sizeLine/\Q .non (upd H l (.lst (xs ++ [y])))
def nU:Hh X "list.append" Ft:=by
 intro pins s σ H x vs v us Q I rx rv h
 obtain⟨l,xs,y,rfl,rfl,hH,hz,q⟩:=h
 cases rx
 obtain⟨u,rfl,ru⟩:=rv.one
 obtain⟨z,its,n,r,hl,e⟩:=I.lstM hH
 refine Pa F.slot_list_append ⟨_,e,rfl⟩ F.entry_list_append (F.args_list_append_2 _ _) (PySem.list_append l its.toArray n u (by rw[Nl];omega)) ⟨e,?_⟩
 refine⟨.non,_,I.lset (its':=its ++ [u]) hH e (by simp) (r.append (.cons ru .nil)) ?_,rfl,q⟩
 rw[NK,List.length_singleton]
 omega
def EI:V->List V->Hp->VK->Prop:=λx vs H Q=>∃l b xs zs,x=.ref l/\vs= [.ref b]/\H l=some (.lst xs)/\H b=some (.lst zs)/\xs.length + zs.length<=sizeLine/\Q .non (upd H l (.lst (xs ++ zs)))
def Jm:Hh X "list.extend" EI:=by
 intro pins s σ H x vs v us Q I rx rv h
 obtain⟨l,b,xs,zs,rfl,rfl,hH,hB,hz,q⟩:=h
 cases rx
 obtain⟨u,rfl,ru⟩:=rv.one
 cases ru
 obtain⟨z,its,n,r,hl,e⟩:=I.lstM hH
 obtain⟨z2,its2,n2,r2,hl2,e2⟩:=I.lstM hB
 have hsz:its.toArray.size + its2.toArray.size<=sizeLine:=by rw[Nl,Nl];omega
 have hlong:¬(!its.toArray.isEmpty && Builtin.List.listTooLong (its.toArray.size + its2.toArray.size))=true:=by
  rw[vj hsz,Bool.and_false]
  exact Nq
 refine Pa F.slot_list_extend ⟨_,e,rfl⟩ F.entry_list_extend (F.args_list_extend_2 _ _)
  (AutoSeq1.list_extend_list_list_0 l its.toArray n b its2.toArray n2 hlong (by rw[Nl];omega) (by omega)) ⟨e,e2,?_⟩
 refine⟨.non,_,I.lset (its':=its ++ its2) hH e (by simp) (r.append r2) ?_,rfl,q⟩
 rw[NK]
 omega
def HL:V->List V->Hp->VK->Prop:=λx vs H Q=>∃l xs i k y,x=.ref l/\vs= [.int i]/\H l=some (.lst xs)/\ -(2 ^ 63)<=i/\i < 2 ^ 63/\seqIndex? i xs.length=some k/\xs[k]? =some y/\Q y (upd H l (.lst (xs.eraseIdx k)))
def CK:Hh X "list.pop" HL:=by
 intro pins s σ H x vs v us Q I rx rv h
 obtain⟨l,xs,i,k,y,rfl,rfl,hH,h1,h2,hk,hy,q⟩:=h
 cases rx
 obtain⟨u,rfl,ru⟩:=rv.one
 obtain⟨t,rfl⟩:=ru
 obtain⟨z,its,n,r,hl,e⟩:=I.lstM hH
 obtain⟨w,hw,rw'⟩:=r.get hy
 refine Pa F.slot_list_pop ⟨_,e,rfl⟩ F.entry_list_pop (F.args_list_pop_2 _ _)
  (MeetsSeq.list_pop_at l its.toArray n i t k w (fitsIndex_both h1 h2) (by rw[Nl,<-hl];exact hk) (by rw[<-OI];exact hw) (by rw[Nl];omega)) ⟨e,?_⟩
 refine⟨y,_,I.lset (its':=its.eraseIdx k) hH e ?_ (r.eraseIdx k) ?_,rw',q⟩
 ·show its.toArray.eraseIdxIfInBounds k=(its.eraseIdx k).toArray
  rw[List.eraseIdxIfInBounds_toArray]
 ·have:=sC xs k
  omega
def Lw:R2:=λx y H Q=>∃l b xs zs,x=.ref l/\y=.ref b/\H l=some (.lst xs)/\H b=some (.lst zs)/\xs.length + zs.length<=sizeLine/\∀p,H p=none->Q (.ref p) (upd H p (.lst (xs ++ zs)))
def C0:la X (binaryOp .Add) Lw:=by
 intro pins s σ H x y v u Q I rx ry h
 obtain⟨l,b,xs,zs,rfl,rfl,hH,hB,hz,q⟩:=h
 cases rx
 cases ry
 obtain⟨z,its,n,r,hl,e⟩:=I.lstM hH
 obtain⟨z2,its2,n2,r2,hl2,e2⟩:=I.lstM hB
 refine PySem.P.add_list e e2 ?_ (by rw[Nl,Nl];omega)
 have ea:its.toArray ++ its2.toArray=(its ++ its2).toArray:=by simp
 rw[ea]
 exact⟨.ref _,_,I.lnew (t':=s.toks) (r.append r2) (by rw[NK];omega),rfl,q _ I.fresh⟩
def LR:R2:=λx y H Q=>∃l k xs,x=.ref l/\y=.int k/\H l=some (.lst xs)/\ -(2 ^ 63)<=k/\k < 2 ^ 63/\xs.length * k.toNat<=sizeLine/\
 ∀p,H p=none->Q (.ref p) (upd H p (.lst (List.replicate k.toNat xs).flatten))
theorem len_rep {α:Type}(xs:List α)(k:Nat):(List.replicate k xs).flatten.length=k * xs.length:=by
 induction k with
 |zero=>simp
 |succ k ih=>rw[Oi,OQ,NK,ih,Nat.succ_mul,Nat.add_comm]
def BM:la X (binaryOp .Mult) LR:=by
 intro pins s σ H x y v u Q I rx ry h
 obtain⟨l,k,xs,rfl,rfl,hH,h1,h2,hz,q⟩:=h
 cases rx
 obtain⟨t,rfl⟩:=ry
 obtain⟨z,its,n,r,hl,e⟩:=I.lstM hH
 have hlen:its.toArray.size * k.toNat<=sizeLine:=by rw[Nl,<-hl];exact hz
 have hcap:¬its.toArray.size * k.toNat > (2 ^ 63 - 1) / 8:=by
  have:(sizeLine:Nat)<=(2 ^ 63 - 1) / 8:=by decide
  omega
 have hfit:¬(!Builtin.List.listFitsIndex k)=true:=by
  rw[fitsIndex_both h1 h2]
  exact Nq
 have hlong:¬Builtin.List.listTooLong (its.toArray.size * k.toNat)=true:=by
  rw[vj hlen]
  exact Nq
 have hnew:List.foldl (λx1 x2=>x1 ++ x2) #[] (List.replicate (if its.toArray.isEmpty=true then 0 else k.toNat) its.toArray)=(List.replicate k.toNat its).flatten.toArray:=by
  have f0:∀m:Nat,List.foldl (λx1 x2=>x1 ++ x2) #[] (List.replicate m its.toArray)=(List.replicate m its).flatten.toArray:=λm=>by
   have:=foldl_rep its m []
   rw[List.nil_append] at this
   exact this
  rw[f0]
  cases its with
  |nil=>simp
  |cons a r'=>rw[Nd (by simp)]
 refine wpAny_binaryOp_repeat_ref (T:="list") (U:="int") (by decide) ⟨_,e,rfl⟩ (λs'=>typeIs_int s' k t) noFill_list_mul F.fills_int_mul F.slot_int_rmul repeat_list F.slot_int_index.lookup
  (Pa F.slot_int_rmul (typeIs_int s k t) F.entry_int_rmul (F.args_int_rmul_2 _ _) (int___rmul___int_list k t l its.toArray n)
   ⟨e,rfl,⟨_,e,rfl⟩,Pa F.slot_list_mul ⟨_,e,rfl⟩ F.entry_list_mul (F.args_list_mul_2 _ _) (AutoListH.list___mul___list_int_3 l its.toArray n k t hfit hcap hlong) ⟨e,?_⟩⟩)
 rw[hnew]
 exact⟨.ref _,_,I.lnew (t':=s.toks) (r.rep k.toNat) (by rw[len_rep,Nat.mul_comm];exact hz),rfl,q _ I.fresh⟩
end
end L2
namespace Att
open PySem PySem.W PySem.Calls PyProof.Rows
theorem oF {P:Params}{h:Heap}:∀(ns:List Int) (vs:List Value),WellAll P h vs (ns.map WData.int)->IntsAre vs ns:=by
 intro ns
 induction ns with
 |nil=>
  intro vs w
  rw[List.map_nil] at w
  cases w
  exact .nil
 |cons n ns ih=>
  intro vs w
  rw[NO] at w
  cases w with
  |cons a b=>
   cases a
   exact .cons _ _ (ih _ b)
theorem AS {l:OpenLaw}{n:Nat}(hn:l.most=some n){P:Params}{h:Heap}{args:List WData}{vals:List Value}
  (hpre:l.row.toRowW.claim.pre args=true) (hwl:WellAll P h vals args) :
  ∃a vs ns,vals= [Value.ref a]/\args= [WData.list (ns.map WData.int)]/\h.get? a=some {cls:=.type "list",data:=.seq vs.toArray}/\IntsAre vs ns/\ns.length<=n:=by
 have hsh:WShape.hasAll [] args [.list .int]=true:=(pre_splitW hpre).1
 have hc:l.pre.holds [] {args:=args}=true:=(pre_splitW hpre).2
 obtain⟨d,r,rfl,h1,h2⟩:=hasAllW_cons hsh
 obtain rfl:=hasAllW_nil h2
 obtain⟨xs,rfl,h3⟩:=hasW_list h1
 obtain⟨ns,rfl⟩:=items_int h3
 have hlen:ns.length<=n:=by
  unfold OpenLaw.pre at hc
  have h4:(WTm.not (.lt (.lit (.int (n:Int))) (.len (.arg 0)))).holds [] {args:=[.list (ns.map .int)]}=true:=by
   have h4:=(holds_andW hc).1
   rw[hn] at h4
   exact h4
  have h5:=condW_of h4 (w_not (w_lt w_lit (w_len_list (w_arg rfl))))
  rw[Na] at h5
  refine Nat.le_of_not_lt λq=>?_
  have q':(n:Int) < ((ns.length:Nat):Int):=by omega
  first
   | (rw[Nc q'] at h5;exact absurd h5 (by decide))
   | (simp at h5;omega)
 cases hwl with
 |cons w1 w2=>
  cases w2
  cases w1 with
  |list ho hall=>exact⟨_,_,ns,rfl,rfl,ho,oF ns _ hall,hlen⟩
def Aj (l:OpenLaw)(args:List WData):l.row.toRowW.claim.post args (.bool true) args=true:=
 postW_of (r:=l.row.toRowW) (X:=(true == true))
  (show WShape.has [] (.bool true) .bool=true by first |rfl |decide |simp[WShape.has,WShape.arms,WShape.armsAll])
  (show (WTm.eq .res (.lit (.bool true))).value [] {args:=args,res:=some (.bool true),after:=args}=some (.bool (true == true)) from w_eq_bool (w_res rfl) w_lit) rfl
def vT {l:OpenLaw}{n:Nat}{q:Program}{loose:List Str}{XP:(Str->Option Value)->Heap->Prop}{YP:World->Heap->Prop}{d:DefRec}
  (hn:l.most=some n) (hdf:d.params.defaults= [])
  (call:∀(w:World) (s₀ s₁:Shared) (mg mb:Str->Option Value) (fa:Addr) (o:Obj) (pm cd doc:Value) (a:Addr) (vs:List Value) (ns:List Int),
   Ground q loose [] XP w s₀ mg mb s₁.heap->YP w s₁.heap->
   s₁.heap.get? fa=some o->o.data=.func (docDef d.name d.params d.body d.scope pm cd doc)->s₁.heap.CodeRec cd d.name->mg d.name=some (.ref fa)->
   s₁.heap.get? a=some {cls:=.type "list",data:=.seq vs.toArray}->IntsAre vs ns->ns.length<=n->s₁.gens=#[]->
   codeAny (model l.prog w) callerA (.call (.ref fa) ⟨[.ref a],[]⟩) (λr s'=>r=.ok (.ret (.bool true))/\OldK s₁.heap s'.heap/\s'.os=s₁.os/\AllBare s'.gens) s₁) :
  WalkO q loose XP YP l.row.toRowW d [] (λf vs=>PySem.call f vs):=by
 intro w s₀ s₁ mg mb G Y fa o pm cd doc dV kV ho hd hcd hD hmg hg args vals as hpre hlay hrd hwl hlo
 obtain rfl:dV=.none:=Dflts.none hD hdf
 obtain rfl:kV=.none:=Dflts.noKw hD
 obtain⟨a,vs,ns,rfl,rfl,hobj,hints,hlen⟩:=AS hn hpre hwl
 refine enter_call (O0 (call w s₀ s₁ mg mb fa o pm cd doc a vs ns G Y ho (fd_plain hd) hcd hmg hobj hints hlen hg) λr s' hq=>?_)
 obtain⟨rfl,h2,h3,h4⟩:=hq
 exact⟨.inl ⟨.bool true,.bool true,[],rfl,λ_=>rfl,.bool true,Aj l _,λ_=>⟨List.Pairwise.nil,λ_ hm=>(nomatch hm)⟩⟩,h2,h3,h4⟩
end Att
namespace L2
open PySem PySem.Spec PyProof.Rows
theorem sD:∀{vs:List Value} {ns:List Int},IntsAre vs ns->Vals (ns.map V.int) vs
 |_,_,.nil=>.nil
 |_,_,.cons n t h=>.cons ⟨t,rfl⟩ (sD h)
def HK (H:Hp):Prop:=∀b,H b=none\/∃o xs,H b=some (.aS o (.lst xs))
theorem BD {P:Program}{w:World}{K:Frag}{mg mb:Str->Option Value}{CX:wc}{k:Nat}{fa a:Addr}{fd:FuncData}{x:Str}{sp:Sp}{s₁:Shared}{vs:List Value}{ns:List Int}
  (KX:K.In s₁.heap) (hns:s₁.heap.Ns mainGlobals mg) (hb:s₁.heap.Ns builtinsNs mb) (hbb:∀x:Str,x≠"__name__"->mb x=bootBuiltins x) (hlim:s₁.heap.NoLimit) (hsys:∃mm,s₁.heap.Ns sysModules mm) (hg:s₁.gens=#[])
  (ha:s₁.heap.get? a=some {cls:=.type "list",data:=.seq vs.toArray}) (hi:IntsAre vs ns) (hl:ns.length<=sizeLine) (hr:dG k callerA)
  (F:∀base:Heap,K.In base->base.Ns mainGlobals mg->fJ P w K mg base CX k fa fd [x] sp) (hbind:∀(s:Shared) (u:Value),BindsTo s fd ⟨[u],[]⟩ [(x,u)])
  (hsp:∀H:Hp,HK H->dZ K H a (ns.map V.int)->sp [.ref a] H (λv _=>v=.bl true) λ_ _ _=>False)
  (hCX:∀H e s',CX [] H s₁ (λ_ _ _=>False) e s'->False) :
  codeAny (model P w) callerA (.call (.ref fa) ⟨[.ref a],[]⟩) (λr s'=>r=.ok (.ret (.bool true))/\OldK s₁.heap s'.heap/\s'.os=s₁.os/\AllBare s'.gens) s₁:=by
 have rv:=sD hi
 have lenV:=hi.length
 have core:∀H:Hp,HK H->dZ K H a (ns.map V.int)->j5 P w H s₁.heap->(∀b,H b≠none->b=a)->(H a≠none->K.lookup a=none)->
   codeAny (model P w) callerA (.call (.ref fa) ⟨[.ref a],[]⟩) (λr s'=>r=.ok (.ret (.bool true))/\OldK s₁.heap s'.heap/\s'.os=s₁.os/\AllBare s'.gens) s₁:=by
  intro H hO hS hok hA hK
  have base_of:∀{b:Addr} {o:Obj},s₁.heap.get? b=some o->H b=none->(sW s₁.heap H).get? b=some o:=λe n=>Cn e n
  have noA:∀{b:Addr} {o:Obj} {es:Array DictEntry} {ep:Nat},s₁.heap.get? b=some o->o.data=.dict es ep->H b=none:=λ{b o es ep} e d=>by
   cases q:H b with
   |none=>rfl
   |some u=>
    have e':b=a:=hA b (by rw[q];simp)
    subst e'
    rw[ha] at e;cases e
    have d':Data.seq vs.toArray _=Data.dict es ep:=d
    cases d'
  have nsK:∀{b:Addr} {m:Str->Option Value},s₁.heap.Ns b m->(sW s₁.heap H).Ns b m:=λ{b m} ⟨o,es,ep,e,d,r⟩=>⟨o,es,ep,base_of e (noA e d),d,r⟩
  have hKb:K.In (sW s₁.heap H):=λb o e=>base_of (KX b o e) (by
   cases q:H b with
   |none=>rfl
   |some u=>
    have e':b=a:=hA b (by rw[q];simp)
    subst e'
    rw[hK (by rw[q];simp)] at e;cases e)
  have hM:Mod K mg (sW s₁.heap H):=⟨hKb,nsK hns,⟨mb,nsK hb,hbb⟩,let ⟨mc,h1,h2⟩:=hlim;⟨mc,nsK h1,h2⟩,let ⟨mm,h1⟩:=hsys;⟨mm,nsK h1⟩⟩
  have e0:x9 P w K mg (sW s₁.heap H) callerA [] s₁ H:=⟨rfl,hM,λb o e=>Eu e,Nat.le_of_eq (A4 _ _),trivial,λb hb=>absurd (show b∈([]:List Addr) from hb) (by simp),hok,.of_eq hg⟩
  refine O0 ((F _ hKb (nsK hns)).run callerA [] s₁ H ⟨[.ref a],[]⟩ [.ref a] [.ref a] _ _ hr e0 (hbind s₁ (.ref a)) (.cons rfl .nil) (hsp H hO hS)) λr s' h=>?_
  cases r with
  |error e=>exact (hCX H e s' h).elim
  |ok fl=>
   cases fl with
   |next=>exact False.elim h
   |brk=>exact False.elim h
   |cont=>exact False.elim h
   |ret u=>
    obtain⟨v,H',os,bare,un,hok',r',q⟩:=h
    have q':v=.bl true:=q
    subst q'
    obtain rfl:u=Value.bool true:=r'
    refine⟨rfl,OldK.of_keep λb o e=>?_,os,bare⟩
    cases q:H b with
    |none=>exact un.keep b o e q (by intro z;exact absurd (show b∈([]:List Addr) from z) (by simp)) (by simp)
    |some u=>
     rcases hO b with z | ⟨ob,xs,z⟩
     ·rw[q] at z;cases z
     ·have z2:=un.frzs b ob _ z
      obtain⟨e1,_⟩:=hok b _ z
      obtain⟨e2,_⟩:=hok' b _ z2
      rw[e] at e1;cases e1
      exact e2
 cases hk:K.lookup a with
 |some o=>
  have e:=KX a o hk
  rw[ha] at e
  cases e
  refine core (λ_=>none) (λ_=>.inl rfl) (.inr ⟨_,vs.toArray,_,hk,rfl,rfl,rfl,by rw[Nl,lenV];exact hl,by simpa using rv⟩) (λb u z=>by have z':(none:Option HO)=some u:=z;cases z') (λb z=>absurd rfl z) λz=>absurd rfl z
 |none=>
  refine core (λb=>if b=a then some (.aS {cls:=.type "list",data:=.seq vs.toArray} (.lst (ns.map V.int))) else none) (λb=>?_) (.inl (.inr ⟨{cls:=.type "list",data:=.seq vs.toArray},M7 rfl⟩)) (λb u z=>?_) (λb z=>?_) λ_=>hk
  ·by_cases hb:b=a
   ·exact .inr ⟨_,_,M7 hb⟩
   ·exact .inl (Nd hb)
  ·by_cases hb:b=a
   ·have z':=(M7 hb).symm.trans z
    cases z'
    subst hb
    exact⟨ha,by rw[Na];exact hl,vs,_,rv,ha⟩
   ·have z':=(Nd hb).symm.trans z
    cases z'
  ·by_cases hb:b=a
   ·exact hb
   ·exact absurd (Nd hb) z
def Gg {l:PySem.W.OpenLaw}{n k:Nat}{q:Program}{loose:List Str}{XP:(Str->Option Value)->Heap->Prop}{YP:World->Heap->Prop}{d:DefRec}{K:Params->Frag}{CX:World->wc}{sp:World->Sp}{x:Str}
  (hn:l.most=some n) (hn2:n<=sizeLine) (hdf:d.params.defaults= []) (hi:PyProof.Rows.importsNone q=true) (hr:dG k callerA)
  (hY:∀(w:World) (h:Heap),YP w h->(K w.params).In h)
  (F:∀(w:World) (mg:Str->Option Value) (fa:Addr) (h:Heap),(K w.params).In h->h.Ns mainGlobals mg->mg d.name=some (.ref fa)->
   ∃fd:FuncData,(∀(s:Shared) (u:Value),BindsTo s fd ⟨[u],[]⟩ [(x,u)])/\
    ∀base:Heap,(K w.params).In base->base.Ns mainGlobals mg->fJ l.prog w (K w.params) mg base (CX w) k fa fd [x] (sp w))
  (hsp:∀(w:World) (H:Hp) (a:Addr) (ns:List Int),ns.length<=n->HK H->dZ (K w.params) H a (ns.map V.int)->sp w [.ref a] H (λv _=>v=.bl true) λ_ _ _=>False)
  (hCX:∀(w:World) (H:Hp) (s:Shared) (e:Value) (s':Shared),CX w [] H s (λ_ _ _=>False) e s'->False) :
  PySem.W.WalkO q loose XP YP l.row.toRowW d [] (λf vs=>PySem.call f vs):=by
 refine Att.vT hn hdf λw s₀ s₁ mg mb fa o pm cd doc a vs ns G Y ho hd hcd hmg hobj hints hlen hg=>?_
 have KX:=hY w _ Y
 obtain⟨fd,hb,hF⟩:=F w mg fa _ KX G.T.g hmg
 exact BD KX G.T.g G.T.b G.T.builtins G.T.nolimit (let ⟨mm,h1,_⟩:=(G.T.seer hi).mods;⟨mm,h1⟩) hg hobj hints (Oe hlen hn2) hr hF hb (λH hO hS=>hsp w H a ns hlen hO hS) λH e s'=>hCX w H s₁ e s'
def iF (s:Stmt):Arguments:=match s with
 | .FunctionDef _ a _ _ _ _ _ _ _ _=>a
 |_=>{posonlyargs:=[],args:=[],vararg:=none,kwonlyargs:=[],kw_defaults:=[],kwarg:=none,defaults:=[]}
def bO (s:Stmt):List Stmt:=match s with
 | .FunctionDef _ _ b _ _ _ _ _ _ _=>b
 |_=>[]
def aq (s:Stmt):Scope:=match s with
 | .FunctionDef _ _ _ _ _ _ sc _ _ _=>sc
 |_=>{kind:=.function,names:=[],isGenerator:=false,isCoroutine:=false}
abbrev yh:wc:=λ_ _ _ _ _ _=>False
abbrev E0:XK:=λ_ _ _=>False
def Gz {X:Cx}:Passes yh X E0:=λ_ _ _ _ _ _ _ h=>h.elim
structure A8 (K:Frag)(x qual:Str)(st:Stmt)(f:Addr)(fd:FuncData):Prop where
 ex:∃(oc:Value) (od:Option Addr) (kV doc pm:Value) (an:Option Addr) (cdv ct:Value) (osl:Array (Option Value)),
  fd=PySem.W.fnOf x qual (iF st) (bO st) (aq st) .none kV doc pm an cdv ct/\K.lookup f=some ⟨oc,od,.func fd,osl⟩/\PySem.W.codeIn K cdv qual=true
 kp:PySem.W.keepIn K (.ref f)=true
section
variable {P:Program}{w:World}{K:Frag}{mg:Str->Option Value}{base:Heap}
def A8.ok {x qual:Str}{st:Stmt}{f:Addr}{fd:FuncData}{N ps:List Str}{k:Nat}{sp:Sp}(F:A8 K x qual st f fd)(S:aE N ps (aq st))(len:∀vs H Q E,sp vs H Q E->vs.length=ps.length)
  (hbody:∀(cdv:Value) (A:Around) (outer:List Env) (s:Shared) (H:Hp) (vs:List V) (Q:VK) (E:XK),dG k (A.deeper (envOfC qual (aq st) s.heap.objs.size f cdv))->sp vs H Q E->
   ∃t,oJ (kG yh P w K mg base N qual (aq st) f cdv A outer s H E).nox (bO st) t/\t {nx:=λ_ H'=>Q .non H',rt:=Q} (start N vs) H):fJ P w K mg base yh (k + 1) f fd ps sp:=by
 obtain⟨oc,od,kV,doc,pm,an,cdv,ct,osl,rfl,lk,hcd⟩:=F.ex
 refine GC lk hcd S len λA outer s H vs Q E hr hsp=>?_
 obtain⟨t,h,q⟩:=hbody cdv A outer s H vs Q E hr hsp
 exact⟨t,h.nox,q⟩
def A8.binds {x qual:Str}{st:Stmt}{f:Addr}{fd:FuncData}{ps:List Str}(F:A8 K x qual st f fd)
  (h:∀(kV doc pm:Value) (an:Option Addr) (cdv ct:Value) (us:List Value),us.length=ps.length->bindArgs (PySem.W.fnOf x qual (iF st) (bO st) (aq st) .none kV doc pm an cdv ct) ⟨us,[]⟩=pure (ps.zip us)):Binds K fd ps []:=by
 obtain⟨oc,od,kV,doc,pm,an,cdv,ct,osl,rfl,lk,hcd⟩:=F.ex
 exact .all (h kV doc pm an cdv ct)
def xV {x qual:Str}{st:Stmt}{f:Addr}{oc:Value}{od an:Option Addr}{osl:Array (Option Value)}{kV doc pm cdv ct:Value}(l:K.lookup f=some ⟨oc,od,.func (PySem.W.fnOf x qual (iF st) (bO st) (aq st) .none kV doc pm an cdv ct),osl⟩)
  (c:PySem.W.codeIn K cdv qual=true) (k:PySem.W.keepIn K (.ref f)=true):A8 K x qual st f (PySem.W.fnOf x qual (iF st) (bO st) (aq st) .none kV doc pm an cdv ct):=⟨⟨oc,od,kV,doc,pm,an,cdv,ct,osl,rfl,l,c⟩,k⟩
end
section
variable {X:Cx}
def pv (i:Nat){x:Str}{pos:Pos}(hN:X.N[i]? =some x:=by rfl)(hv:xw X.env.scope x:=by first |exact Or.inl rfl |exact Or.inr (Or.inl rfl) |exact Or.inr (Or.inr rfl))(hd:(x == ("__debug__":Str))=false:=by decide)
  (hcd:(x == ("__classdict__":Str))=false:=by decide):PE X (.Name x pos) (EF i):=iL hN hv hd hcd
end
def qI {A B:Prop}(h:B):if false=true then A else B:=by
 rw[Nd Nq]
 exact h
def vQ {A B:Prop}(h:A):if true=true then A else B:=by
 rw[M7 rfl]
 exact h
def LS (o:Obj):Prop:=∃vs q t,o.data=.fields vs/\vs[1]? =some (.str q t)
def Kt (H:Hp)(b:Addr):HO->Prop
 | .tbl ps=>∃more:Array Value,H b=some (.tbl (ps ++ more))/\∀c,Value.ref c∈more.toList->∃o,H c=some (.aS o (.own 0))/\LS o
 |o=>H b=some o
theorem Kt.of {H:Hp}{b:Addr}{o:HO}(h:H b=some o):Kt H b o:=by
 cases o with
 |tbl ps=>exact⟨#[],by rw[h];simp,λc hc=>by simp at hc⟩
 |_=>exact h
def ak (H H':Hp):Prop:=∀b o,H b=some o->Kt H' b o
def ak.refl (H:Hp):ak H H:=λ_ _ h=>Kt.of h
theorem Kt.some {H:Hp}{b:Addr}{o:HO}(h:Kt H b o):∃u,H b=Option.some u/\((∀ps,o≠.tbl ps)->u=o)/\((∃ps,o=.tbl ps)->∃ps,u=.tbl ps):=by
 cases o with
 |tbl ps=>obtain⟨m,e,_⟩:=h;exact⟨_,e,λz=>absurd rfl (z ps),λ_=>⟨_,rfl⟩⟩
 |_=>exact⟨_,h,λ_=>rfl,λ⟨ps,z⟩=>by cases z⟩
theorem Kt.step {H H':Hp}{b:Addr}{o:HO}(h:Kt H b o)(s:ak H H'):Kt H' b o:=by
 cases o with
 |tbl ps=>
  obtain⟨m,e,k⟩:=h
  obtain⟨m2,e2,k2⟩:=s b _ e
  refine⟨m ++ m2,by rw[e2,Array.append_assoc],λc hc=>?_⟩
  rw[Array.toList_append,Nw] at hc
  rcases hc with hc |hc
  ·obtain⟨o,eo,io⟩:=k c hc;exact⟨o,s c _ eo,io⟩
  ·exact k2 c hc
 |lst xs=>exact s b _ h
 |tup xs=>exact s b _ h
 |dK xs=>exact s b _ h
 |dT xs=>exact s b _ h
 |set S n=>exact s b _ h
 |ins C dx fs=>exact s b _ h
 |own x=>exact s b _ h
 |xd fs=>exact s b _ h
 |met f x=>exact s b _ h
 |fE lo hi=>exact s b _ h
 |aS o u=>exact s b _ h
 |ext φ=>exact s b _ h
def ak.trans {H H1 H2:Hp}(a:ak H H1)(b:ak H1 H2):ak H H2:=λc o h=>(a c o h).step b
theorem ak.free {H H':Hp}(e:ak H H'){l:Addr}(h:H' l=Option.none):H l=Option.none:=by
 cases q:H l with
 |none=>rfl
 |some o=>
  obtain⟨u,z,_⟩:=(e l o q).some
  rw[z] at h
  cases h
def ak.seq {K:Frag}{H H':Hp}{a:Addr}{xs:List V}(e:ak H H')(h:dZ K H a xs):dZ K H' a xs:=by
 rcases h with (h | ⟨o,h⟩) |h
 ·exact .inl (.inl (e _ _ h))
 ·exact .inl (.inr ⟨o,e _ _ h⟩)
 ·exact .inr h
end L2
end
namespace L2.ST
open PySem PySem.SetTable
abbrev jH (xs:Array Nat):Prop:=xs.toList.Pairwise (· < ·)
def iB {xs:Array Nat}(h:jH xs){i k d:Nat}(hik:i < k)(hk:k < xs.size):xs.getD i d < xs.getD k d:=by
 have hi:i < xs.size:=Nat.lt_trans hik hk
 have:=Pb.mp h i k (by simpa using hi) (by simpa using hk) hik
 simpa[Array.getD,hi,hk] using this
theorem CM {xs:Array Nat}{j:Nat}(h:jH xs):∀(fuel lo hi:Nat),lo<=hi->hi<=xs.size->hi - lo<=fuel->
  (∀i,i < lo->xs.getD i j < j)->(∀i,hi<=i->i < xs.size->j<=xs.getD i j)->
  below.go xs j fuel lo hi<=xs.size/\(∀i,i < below.go xs j fuel lo hi->xs.getD i j < j)/\(∀i,below.go xs j fuel lo hi<=i->i < xs.size->j<=xs.getD i j):=by
 intro fuel
 induction fuel with
 |zero=>
  intro lo hi h1 h2 h3 h4 h5
  have:lo=hi:=by omega
  subst this
  exact⟨h2,h4,h5⟩
 |succ fuel ih=>
  intro lo hi h1 h2 h3 h4 h5
  unfold below.go
  by_cases hlt:lo < hi
  ·rw[M7 hlt]
   dsimp only
   by_cases hm:xs.getD ((lo + hi) / 2) j < j
   ·rw[M7 hm]
    refine ih _ _ (by omega) h2 (by omega) (λi hi'=>?_) h5
    by_cases e:i=(lo + hi) / 2
    ·rw[e];exact hm
    ·exact Nat.lt_trans (iB h (show i < (lo + hi) / 2 by omega) (by omega)) hm
   ·rw[Nd hm]
    refine ih _ _ (by omega) (by omega) (by omega) h4 (λi hi' hs=>?_)
    by_cases e:i=(lo + hi) / 2
    ·rw[e];omega
    ·have:=iB (d:=j) h (show (lo + hi) / 2 < i by omega) hs
     omega
  ·rw[Nd hlt]
   have:lo=hi:=by omega
   subst this
   exact⟨h2,h4,h5⟩
def bY {xs:Array Nat}(h:jH xs)(j:Nat) :
  below xs j<=xs.size/\(∀i,i < below xs j->xs.getD i j < j)/\(∀i,below xs j<=i->i < xs.size->j<=xs.getD i j):=
 CM h xs.size 0 xs.size (NQ _) (M9 _) (by omega) (λi hi=>by omega) (λi h1 h2=>by omega)
def Aw {xs:Array Nat}(h:jH xs){i j:Nat}(hi:xs[i]? =some j):below xs j=i:=by
 obtain⟨b1,b2,b3⟩:=bY h j
 have hs:i < xs.size:=(N5.mp hi).1
 have hv:xs.getD i j=j:=by rw[NS,hi];rfl
 rcases P6 i (below xs j) with c |c |c
 ·have:=b2 i c;omega
 ·exact c.symm
 ·have hb:below xs j < xs.size:=by omega
  have q:=b3 (below xs j) (M9 _) hb
  have:=iB (d:=j) h c hs
  omega
def zt (j:Nat):has #[] j=false:=by
 unfold has
 simp
def sP {t:SetTable}(h:jH t.place){i j:Nat}(hi:t.place[i]? =some j):t.slot j=.live i:=by
 unfold slot
 dsimp only
 rw[Aw h hi,M7 (by simp[hi])]
def yj {t:SetTable}(hd:t.dummies=#[]){j:Nat}(hj:j∉t.place):t.slot j=.empty:=by
 unfold slot
 dsimp only
 have:¬(t.place[below t.place j]? == some j)=true:=by
  intro e
  have e':t.place[below t.place j]? =some j:=by simpa using e
  obtain⟨h1,h2⟩:=N5.mp e'
  exact hj (Array.mem_iff_getElem.mpr ⟨_,h1,h2⟩)
 rw[Nd this,hd,zt]
 rfl
def wU (mask:Nat)(p:Probe):Probe:=
 if p.more > 0 then {p with j:=p.j + 1,more:=p.more - 1} else
 {p with j:=(leap mask p.i p.perturb).1,more:=runEnd mask (leap mask p.i p.perturb).1 - (leap mask p.i p.perturb).1,i:=(leap mask p.i p.perturb).1,perturb:=(leap mask p.i p.perturb).2}
def A0 (mask i perturb:Nat):Probe:={j:=i,more:=runEnd mask i - i,i,perturb,dummy:=none}
def st (mask:Nat)(h:Int):Probe:=A0 mask (bits h % (mask + 1)) (bits h)
def Dq (t:SetTable)(p:Probe):t.advance p=wU t.mask p:=rfl
def C4 (t:SetTable)(h:Int):t.probeStart h=st t.mask h:=rfl
def dI (mask:Nat):Nat->Probe->Probe
 | 0,p=>p
 |n + 1,p=>dI mask n (wU mask p)
theorem kA (mask:Nat):∀(n m:Nat) (p:Probe),dI mask (n + m) p=dI mask m (dI mask n p)
 | 0,m,p=>by rw[Ow];rfl
 |n + 1,m,p=>by rw[Nat.add_right_comm];exact kA mask n m (wU mask p)
def C1 {mask:Nat}{p:Probe}(h:p.dummy=none):(wU mask p).dummy=none:=by
 unfold wU;split <;> exact h
def i8 {mask i:Nat}(h:i<=mask):i<=runEnd mask i/\runEnd mask i<=mask/\runEnd mask i - i<=9:=by
 unfold runEnd;split <;> omega
def In (mask:Nat)(p:Probe):Prop:=p.j + p.more<=mask/\p.more<=9
def IE {mask i q:Nat}(h:i<=mask):In mask (A0 mask i q):=by
 have:=i8 h
 unfold In A0;dsimp only;omega
def mi (mask i q:Nat):(leap mask i q).1<=mask:=by
 unfold leap;exact Nat.lt_succ_iff.mp (Nat.mod_lt _ (Nat.succ_pos _))
def Hj {mask:Nat}{p:Probe}(h:In mask p):In mask (wU mask p):=by
 unfold wU
 by_cases hm:p.more > 0
 ·rw[M7 hm];unfold In at *;dsimp only;omega
 ·rw[Nd hm]
  have:=i8 (mi mask p.i p.perturb)
  unfold In;dsimp only;omega
theorem uk {mask:Nat}:∀(n:Nat) {p:Probe},In mask p->In mask (dI mask n p)
 | 0,_,h=>h
 |n + 1,_,h=>uk n (Hj h)
def GU (mask:Nat)(h:Int):In mask (st mask h):=IE (Nat.lt_succ_iff.mp (Nat.mod_lt _ (Nat.succ_pos _)))
theorem vM (mask:Nat):∀(k:Nat) (p:Probe),p.more=k->dI mask (k + 1) p={p with j:=(leap mask p.i p.perturb).1,more:=runEnd mask (leap mask p.i p.perturb).1 - (leap mask p.i p.perturb).1,i:=(leap mask p.i p.perturb).1,perturb:=(leap mask p.i p.perturb).2}
 | 0,p,h=>by
  show wU mask p=_
  unfold wU
  rw[Nd (by omega)]
 |k + 1,p,h=>by
  have e:wU mask p={p with j:=p.j + 1,more:=p.more - 1}:=by unfold wU;rw[M7 (by omega)]
  show dI mask (k + 1) (wU mask p)=_
  rw[e,vM mask k _ (by dsimp only;omega)]
def nR (mask i q:Nat):dI mask (runEnd mask i - i + 1) (A0 mask i q)=A0 mask (leap mask i q).1 (leap mask i q).2:=by
 exact vM mask _ (A0 mask i q) rfl
theorem jn (mask i q:Nat):∀(k:Nat),k<=runEnd mask i - i->(dI mask k (A0 mask i q))={A0 mask i q with j:=i + k,more:=runEnd mask i - i - k}
 | 0,_=>rfl
 |k + 1,h=>by
  rw[kA mask k 1,jn mask i q k (by omega)]
  show wU mask _=_
  unfold wU
  rw[M7 (by dsimp only;omega)]
  simp only[Probe.mk.injEq]
  refine⟨by omega,by omega,?_⟩
  trivial
def fK (mask:Nat):Nat->Nat×Nat->Nat×Nat
 | 0,x=>x
 |k + 1,x=>fK mask k (leap mask x.1 x.2)
theorem ot (mask:Nat):∀(k i q:Nat),i<=mask->∃n,n<=10 * k/\dI mask n (A0 mask i q)=A0 mask (fK mask k (i,q)).1 (fK mask k (i,q)).2
 | 0,i,q,_=>⟨0,M9 _,rfl⟩
 |k + 1,i,q,h=>by
  obtain⟨n,hn,e⟩:=ot mask k (leap mask i q).1 (leap mask i q).2 (mi _ _ _)
  have:=i8 h
  refine⟨(runEnd mask i - i + 1) + n,by omega,?_⟩
  rw[kA,nR,e]
  rfl
theorem rJ (mask:Nat):∀(a b:Nat) (x:Nat×Nat),fK mask (a + b) x=fK mask b (fK mask a x)
 | 0,b,x=>by rw[Ow];rfl
 |a + 1,b,x=>by rw[Nat.add_right_comm];exact rJ mask a b (leap mask x.1 x.2)
theorem wI (mask:Nat):∀(k:Nat) (x:Nat×Nat),x.1<=mask->(fK mask k x).1<=mask
 | 0,_,h=>h
 |k + 1,x,_=>wI mask k _ (mi mask x.1 x.2)
theorem lq (mask:Nat):∀(k:Nat) (x:Nat×Nat),(fK mask k x).2=x.2 / 32 ^ k
 | 0,x=>by simp[fK]
 |k + 1,x=>by
  show (fK mask k (leap mask x.1 x.2)).2=_
  rw[lq mask k,Nat.pow_succ,Nat.mul_comm,<-Nat.div_div_eq_div_mul]
  rfl
def nx (mask i:Nat):Nat:=(i * 5 + 1) % (mask + 1)
def Be (mask:Nat):Nat->Nat->Nat
 | 0,i=>i
 |k + 1,i=>Be mask k (nx mask i)
theorem oZ (mask:Nat):∀(a b i:Nat),Be mask (a + b) i=Be mask b (Be mask a i)
 | 0,b,i=>by rw[Ow];rfl
 |a + 1,b,i=>by rw[Nat.add_right_comm];exact oZ mask a b (nx mask i)
theorem pL (mask:Nat):∀(k i:Nat),fK mask k (i,0)=(Be mask k i,0)
 | 0,_=>rfl
 |k + 1,i=>by
  show fK mask k (leap mask i 0)=_
  have:leap mask i 0=(nx mask i,0):=by simp[leap,nx]
  rw[this,pL mask k]
  rfl
def AR (mask:Nat):Prop:=mask=7\/mask=31\/mask=127
def JN (mask:Nat)(hm:AR mask):Be mask (mask + 1) 0=0/\∀j,j<=mask->∃k,k<=mask/\Be mask k 0=j:=by
 have h7:∀j:Nat,j < 8->∃k,k < 8/\Be 7 k 0=j:=by decide +kernel
 have h31:∀j:Nat,j < 32->∃k,k < 32/\Be 31 k 0=j:=by decide +kernel
 have h127:∀j:Nat,j < 128->∃k,k < 128/\Be 127 k 0=j:=by decide +kernel
 rcases hm with rfl |rfl |rfl
 ·exact⟨by decide +kernel,λj hj=>let ⟨k,a,b⟩:=h7 j (by omega);⟨k,by omega,b⟩⟩
 ·exact⟨by decide +kernel,λj hj=>let ⟨k,a,b⟩:=h31 j (by omega);⟨k,by omega,b⟩⟩
 ·exact⟨by decide +kernel,λj hj=>let ⟨k,a,b⟩:=h127 j (by omega);⟨k,by omega,b⟩⟩
def JV {mask:Nat}(hm:AR mask){i j:Nat}(hi:i<=mask)(hj:j<=mask):∃k,k<=mask/\Be mask k i=j:=by
 obtain⟨z,o⟩:=JN mask hm
 obtain⟨a,ha,ea⟩:=o i hi
 obtain⟨b,hb,eb⟩:=o j hj
 have back:Be mask (mask + 1 - a) i=0:=by
  rw[<-ea,<-oZ,show a + (mask + 1 - a)=mask + 1 by omega];exact z
 by_cases hab:a<=b
 ·refine⟨b - a,by omega,?_⟩
  rw[<-ea,<-oZ,show a + (b - a)=b by omega];exact eb
 ·refine⟨mask + 1 - a + b,by omega,?_⟩
  rw[oZ,back];exact eb
def qA {mask:Nat}(hm:AR mask){i q j:Nat}(hi:i<=mask)(hq:q < 2 ^ 64)(hj:j<=mask):∃k,k<=mask + 13/\(fK mask k (i,q)).1=j:=by
 have hz:(fK mask 13 (i,q)).2=0:=by
  rw[lq]
  exact Nat.div_eq_of_lt (ND hq (by decide))
 obtain⟨k,hk,e⟩:=JV hm (wI mask 13 (i,q) hi) hj
 refine⟨13 + k,by omega,?_⟩
 rw[rJ]
 have:fK mask 13 (i,q)=((fK mask 13 (i,q)).1,0):=Prod.ext rfl hz
 rw[this,pL]
 exact e
def zE (h:Int):bits h < 2 ^ 64:=by
 unfold bits
 have:=Int.emod_lt_of_pos h (show (0:Int) < 2 ^ 64 by decide)
 have:=Int.emod_nonneg h (show (2 ^ 64:Int)≠0 by decide)
 omega
def CL {mask:Nat}(hm:AR mask)(h:Int){j:Nat}(hj:j<=mask):∃n,n < 10 * turns mask/\(dI mask n (st mask h)).j=j:=by
 have hi:bits h % (mask + 1)<=mask:=Nat.lt_succ_iff.mp (Nat.mod_lt _ (Nat.succ_pos _))
 obtain⟨k,hk,e⟩:=qA hm hi (zE h) hj
 obtain⟨n,hn,q⟩:=ot mask k (bits h % (mask + 1)) (bits h) hi
 refine⟨n,by unfold turns;omega,?_⟩
 show (dI mask n (A0 mask _ _)).j=j
 rw[q];exact e
theorem uT {t:SetTable}{hashAt:Nat->Int}{h:Int}:∀(n fuel:Nat) (p:Probe),n < fuel->p.dummy=none->
  (∀m,m < n->∃i,t.slot (dI t.mask m p).j=.live i/\hashAt i≠h)->t.slot (dI t.mask n p).j=.empty->
  probe.go t hashAt h fuel p=some (.empty (dI t.mask n p).j none):=by
 intro n
 induction n with
 |zero=>
  intro fuel p hf hd _ he
  obtain⟨f,rfl⟩:∃f,fuel=f + 1:=⟨fuel - 1,by omega⟩
  unfold probe.go
  have he':t.slot p.j=.empty:=he
  rw[he',hd]
  rfl
 |succ n ih=>
  intro fuel p hf hd hl he
  obtain⟨f,rfl⟩:∃f,fuel=f + 1:=⟨fuel - 1,by omega⟩
  unfold probe.go
  obtain⟨i,e,ne⟩:=hl 0 (by omega)
  have e':t.slot p.j=.live i:=e
  rw[e']
  dsimp only
  rw[Nd (by simpa using ne),Dq]
  exact ih f (wU t.mask p) (by omega) (C1 hd) (λm hm=>hl (m + 1) (by omega)) he
theorem DS {t:SetTable}{hashAt:Nat->Int}{h:Int}:∀(n fuel:Nat) (p:Probe),n < fuel->
  (∀m,m<=n->∃i,t.slot (dI t.mask m p).j=.live i)->(∃i,t.slot (dI t.mask n p).j=.live i/\hashAt i=h)->
  ∃j i next,probe.go t hashAt h fuel p=some (.candidate j i next)/\t.slot j=.live i/\hashAt i=h:=by
 intro n
 induction n with
 |zero=>
  intro fuel p hf _ he
  obtain⟨f,rfl⟩:∃f,fuel=f + 1:=⟨fuel - 1,by omega⟩
  obtain⟨i,e,eh⟩:=he
  have e':t.slot p.j=.live i:=e
  unfold probe.go
  rw[e']
  dsimp only
  rw[M7 (by simpa using eh)]
  exact⟨p.j,i,_,rfl,e',eh⟩
 |succ n ih=>
  intro fuel p hf hl he
  obtain⟨f,rfl⟩:∃f,fuel=f + 1:=⟨fuel - 1,by omega⟩
  obtain⟨i,e⟩:=hl 0 (by omega)
  have e':t.slot p.j=.live i:=e
  unfold probe.go
  rw[e']
  dsimp only
  by_cases hh:hashAt i=h
  ·rw[M7 (by simpa using hh)]
   exact⟨p.j,i,_,rfl,e',hh⟩
  ·rw[Nd (by simpa using hh),Dq]
   exact ih f (wU t.mask p) (by omega) (λm hm=>hl (m + 1) (by omega)) he
def Reach (mask:Nat)(L:Nat->Prop)(h:Int)(j:Nat):Prop:=∃n,n < 10 * turns mask/\(dI mask n (st mask h)).j=j/\∀m,m < n->L (dI mask m (st mask h)).j
def Reach.mono {mask:Nat}{L L':Nat->Prop}{h:Int}{j:Nat}(r:Reach mask L h j)(k:∀x,L x->L' x):Reach mask L' h j:=
 let ⟨n,a,b,c⟩:=r;⟨n,a,b,λm hm=>k _ (c m hm)⟩
structure Tab (t:SetTable)(hs:List Int):Prop where
 mask:AR t.mask
 dum:t.dummies=#[]
 rise:jH t.place
 le:∀j,j∈t.place->j<=t.mask
 size:t.place.size=hs.length
 load:t.place.size * 5 < t.mask * 3
 reach:∀(i j:Nat) (h:Int),t.place[i]? =some j->hs[i]? =some h->Reach t.mask (· ∈t.place) h j
 plain:t.plain=true
theorem bw {α:Type}[DecidableEq α]:∀{l m:List α},l.Nodup->(∀x,x∈l->x∈m)->l.length<=m.length
 | [],_,_,_=>NQ _
 |a :: l,m,hn,hs=>by
  have ha:=hs a (Nb ..)
  have hl:=NP.mp hn
  have:=bw (l:=l) (m:=m.erase a) hl.2 λx hx=>by
   refine (List.mem_erase_of_ne ?_).mpr (hs x (M8 _ hx))
   rintro rfl;exact hl.1 hx
  rw[PX ha] at this
  have:0 < m.length:=List.length_pos_of_mem ha
  simp only[NC];omega
def yk {mask:Nat}{xs:Array Nat}(hl:xs.size<=mask):∃j,j<=mask/\j∉xs:=by
 refine Classical.byContradiction λhc=>?_
 have all:∀j,j∈List.range (mask + 1)->j∈xs.toList:=λj hj=>by
  have:=Ny.mp hj
  refine Classical.byContradiction λhn=>hc ⟨j,by omega,λz=>hn (by simpa using z)⟩
 have:=bw OW all
 simp at this
 omega
theorem tT {P:Nat->Prop}(h:∃n,P n):∃n,P n/\∀m,m < n->¬P m:=by
 obtain⟨n,hn⟩:=h
 induction n using Nat.strongRecOn with
 |_ n ih=>
  by_cases hc:∃m,m < n/\P m
  ·obtain⟨m,hm,hp⟩:=hc
   exact ih m hm hp
  ·exact⟨n,hn,λm hm hp=>hc ⟨m,hm,hp⟩⟩
section
variable {t:SetTable}{hs:List Int}
def Tab.load' (T:Tab t hs):t.place.size<=t.mask:=by have:=T.load;omega
def Tab.slotL (T:Tab t hs){j:Nat}(hj:j∈t.place):∃i,t.slot j=.live i/\t.place[i]? =some j:=by
 obtain⟨i,hi,e⟩:=Array.mem_iff_getElem.mp hj
 have q:t.place[i]? =some j:=by rw[NI hi,e]
 exact⟨i,sP T.rise q,q⟩
def Tab.slotE (T:Tab t hs){j:Nat}(hj:j∉t.place):t.slot j=.empty:=yj T.dum hj
def Tab.first (T:Tab t hs)(h:Int):∃n,n < 10 * turns t.mask/\(dI t.mask n (st t.mask h)).j∉t.place/\∀m,m < n->(dI t.mask m (st t.mask h)).j∈t.place:=by
 obtain⟨j,hj,hn⟩:=yk T.load'
 obtain⟨n,h1,h2⟩:=CL T.mask h hj
 obtain⟨k,hk,hlt⟩:=tT (P:=λn=>(dI t.mask n (st t.mask h)).j∉t.place) ⟨n,by rw[h2];exact hn⟩
 refine⟨k,?_,hk,λm hm=>Classical.byContradiction λz=>hlt m hm z⟩
 rcases N7 n k with c |c
 ·exact absurd (show (dI t.mask n (st t.mask h)).j∉t.place by rw[h2];exact hn) (hlt n c)
 ·omega
def Tab.absent (T:Tab t hs){hashAt:Nat->Int}(ha:∀i,i < hs.length->some (hashAt i)=hs[i]?){h:Int}(hn:h∉hs) :
  ∃j,t.probe hashAt h (t.probeStart h)=some (.empty j none)/\j∉t.place/\j<=t.mask/\Reach t.mask (· ∈t.place) h j:=by
 obtain⟨n,h1,h2,h3⟩:=T.first h
 refine⟨(dI t.mask n (st t.mask h)).j,?_,h2,?_,⟨n,h1,rfl,h3⟩⟩
 ·unfold probe
  rw[C4]
  refine uT n _ _ h1 rfl (λm hm=>?_) (T.slotE h2)
  obtain⟨i,e,q⟩:=T.slotL (h3 m hm)
  refine⟨i,e,λz=>hn ?_⟩
  have hi:i < hs.length:=by rw[<-T.size];exact (N5.mp q).1
  have:=ha i hi
  rw[z] at this
  exact Nm this.symm
 ·have:=uk n (GU t.mask h)
  unfold In at this;omega
def Tab.present (T:Tab t hs){hashAt:Nat->Int}(ha:∀i,i < hs.length->some (hashAt i)=hs[i]?){h:Int}(hm:h∈hs) :
  ∃j i next,t.probe hashAt h (t.probeStart h)=some (.candidate j i next)/\t.slot j=.live i/\i < hs.length/\hs[i]? =some h:=by
 obtain⟨i,hi,e⟩:=NL.mp hm
 have hi':hs[i]? =some h:=by rw[M1 hi,e]
 have hp:i < t.place.size:=by rw[T.size];exact hi
 obtain⟨n,h1,h2,h3⟩:=T.reach i t.place[i] h (NI hp) hi'
 have hj:(dI t.mask n (st t.mask h)).j∈t.place:=by rw[h2];exact P7 hp
 obtain⟨j',i',nx,g1,g2,g3⟩:=DS (t:=t) (hashAt:=hashAt) (h:=h) n (10 * turns t.mask) (st t.mask h) h1 (λm hm=>by
   rcases N7 m n with c |c
   ·obtain⟨i,e,_⟩:=T.slotL (h3 m c);exact⟨i,e⟩
   ·have:m=n:=by omega
    subst this
    obtain⟨i,e,_⟩:=T.slotL hj;exact⟨i,e⟩)
  ⟨i,by rw[h2];exact sP T.rise (NI hp),by
   have:=ha i hi
   rw[hi'] at this
   exact Option.some.inj this⟩
 have hi2:i' < t.place.size:=by
  unfold slot at g2
  dsimp only at g2
  split at g2
  ·rename_i c
   have c':t.place[below t.place j']? =some j':=by simpa using c
   cases g2
   exact (N5.mp c').1
  ·split at g2 <;> cases g2
 refine⟨j',i',nx,by unfold probe;rw[C4];exact g1,g2,by rw[<-T.size];exact hi2,?_⟩
 have:=ha i' (by rw[<-T.size];exact hi2)
 rw[g3] at this
 exact this.symm
end
def bq {α:Type}(xs:Array α)(p:Nat)(x:α)(_:p<=xs.size):(insertAt xs p x).toList=xs.toList.take p ++ x :: xs.toList.drop p:=by
 unfold insertAt
 simp[Array.toList_extract,List.extract_eq_take_drop]
 rw[OE (by simp)]
def nz (t:SetTable)(j:Nat)(hd:t.dummies=#[]):(t.put j).1={t with place:=insertAt t.place (below t.place j) j}/\(t.put j).2=below t.place j:=by
 unfold put
 dsimp only
 rw[hd,zt]
 exact⟨by simp,rfl⟩
section
variable {t:SetTable}{hs:List Int}
def mQ {α:Type}{xs:Array α}{p:Nat}{x y:α}(hp:p<=xs.size):y∈insertAt xs p x↔y∈xs\/y=x:=by
 rw[<-O9,bq xs p x hp,Nw,M6,<-O9]
 have:y∈xs.toList↔y∈xs.toList.take p\/y∈xs.toList.drop p:=by
  conv=>lhs;rw[<-PB p xs.toList]
  exact Nw
 rw[this]
 constructor
 ·rintro (a |a |a)
  ·exact .inl (.inl a)
  ·exact .inr a
  ·exact .inl (.inr a)
 ·rintro ((a |a) |a)
  ·exact .inl a
  ·exact .inr (.inr a)
  ·exact .inr (.inl a)
def qW {xs:Array Nat}(h:jH xs){j:Nat}(hj:j∉xs):jH (insertAt xs (below xs j) j):=by
 obtain⟨b1,b2,b3⟩:=bY h j
 unfold jH
 rw[bq _ _ _ b1]
 have hl:∀y,y∈xs.toList.take (below xs j)->y < j:=λy hy=>by
  obtain⟨i,hi,e⟩:=NL.mp hy
  have hi1:i < below xs j:=by simp at hi;omega
  have hi2:i < xs.size:=by omega
  have:=b2 i hi1
  rw[NS,NI hi2] at this
  simp at e this
  omega
 have hr:∀y,y∈xs.toList.drop (below xs j)->j < y:=λy hy=>by
  obtain⟨i,hi,e⟩:=NL.mp hy
  have hi2:below xs j + i < xs.size:=by simp at hi;omega
  have:=b3 (below xs j + i) (by omega) hi2
  rw[NS,NI hi2] at this
  simp at e this
  rcases N7 j y with c |c
  ·exact c
  ·have:j=y:=by omega
   exact absurd (by rw[this,<-e];exact P7 _) hj
 refine List.pairwise_append.mpr ⟨List.Pairwise.sublist (List.take_sublist ..) h,Pq.mpr ⟨λy hy=>hr y hy,List.Pairwise.sublist (List.drop_sublist ..) h⟩,λa ha b hb=>?_⟩
 rcases M6.mp hb with rfl |hb
 ·exact hl a ha
 ·exact Nat.lt_trans (hl a ha) (hr b hb)
def vd {α:Type}(l:List α)(p:Nat)(x:α)(hp:p<=l.length)(i:Nat):(l.take p ++ x :: l.drop p)[i]? =if i < p then l[i]? else if i=p then some x else l[i - 1]?:=by
 rcases P6 i p with c |c |c
 ·rw[M7 c,NV (by simp;omega),List.getElem?_take_of_lt c]
 ·subst c
  rw[Nd (NR _),M7 rfl,NN (by simp;omega),Oq,Nat.min_eq_left hp,Nat.sub_self]
  rfl
 ·rw[Nd (by omega),Nd (by omega),NN (by simp;omega),Oq,Nat.min_eq_left hp]
  obtain⟨k,rfl⟩:∃k,i=p + 1 + k:=⟨i - (p + 1),by omega⟩
  rw[show p + 1 + k - p=k + 1 by omega,List.getElem?_cons_succ,List.getElem?_drop]
  congr 1
  omega
def Tab.put (T:Tab t hs){j:Nat}{h:Int}(hj:j∉t.place)(hm:j<=t.mask)(r:Reach t.mask (· ∈t.place) h j)(hf:(t.place.size + 1) * 5 < t.mask * 3) :
  Tab (t.put j).1 (hs.take (t.put j).2 ++ h :: hs.drop (t.put j).2)/\(t.put j).2<=hs.length:=by
 obtain⟨e1,e2⟩:=nz t j T.dum
 obtain⟨b1,b2,b3⟩:=bY T.rise j
 have hsz:(insertAt t.place (below t.place j) j).size=t.place.size + 1:=by
  rw[<-OU,bq _ _ _ b1]
  simp;omega
 have hl:below t.place j<=hs.length:=by rw[<-T.size];exact b1
 rw[e1,e2]
 refine⟨⟨T.mask,T.dum,qW T.rise hj,λy hy=>?_,?_,?_,λi y g hy hg=>?_,T.plain⟩,hl⟩
 ·rcases (mQ b1).mp hy with z |z
  ·exact T.le y z
  ·rw[z];exact hm
 ·show (insertAt t.place _ j).size=_
  rw[hsz,T.size];simp;omega
 ·show (insertAt t.place _ j).size * 5 < t.mask * 3
  rw[hsz];exact hf
 ·show Reach t.mask (· ∈insertAt t.place (below t.place j) j) g y
  have hy':(t.place.toList.take (below t.place j) ++ j :: t.place.toList.drop (below t.place j))[i]? =some y:=by
   rw[<-bq _ _ _ b1,OI];exact hy
  rw[vd _ _ _ (by simpa using b1)] at hy'
  rw[vd _ _ _ hl] at hg
  have old:∀{g y},Reach t.mask (· ∈t.place) g y->Reach t.mask (· ∈insertAt t.place (below t.place j) j) g y:=λr=>r.mono λx hx=>(mQ b1).mpr (.inl hx)
  split at hy'
  ·rename_i c
   rw[M7 c] at hg
   exact old (T.reach i y g (by simpa using hy') hg)
  ·rename_i c
   rw[Nd c] at hg
   split at hy'
   ·rename_i c2
    rw[M7 c2] at hg
    cases hg;cases hy'
    exact old r
   ·rename_i c2
    rw[Nd c2] at hg
    exact old (T.reach (i - 1) y g (by simpa using hy') hg)
end
abbrev own (o:Array (Option Nat))(j:Nat):Option Nat:=o.getD j none
theorem Ae {mask:Nat}{o:Array (Option Nat)}(hsz:o.size=mask + 1):∀(fuel i q:Nat) (j:Nat),i<=mask->layClean.free mask o fuel i q=some j->
  ∃n,n < 10 * fuel/\(dI mask n (A0 mask i q)).j=j/\(∀m,m < n->(own o (dI mask m (A0 mask i q)).j).isSome=true)/\own o j=none/\j<=mask:=by
 intro fuel
 induction fuel with
 |zero=>intro i q j _ h;unfold layClean.free at h;cases h
 |succ fuel ih=>
  intro i q j hi h
  unfold layClean.free at h
  have hr:=i8 hi
  have ind:∀k,k<=runEnd mask i - i->o.getD (i + k) (some 0)=own o (i + k):=λk hk=>by
   have:i + k < o.size:=by omega
   simp[own,Array.getD,this]
  cases hf:(List.range (runEnd mask i + 1 - i)).find? λk=>(o.getD (i + k) (some 0)).isNone with
  |some k=>
   rw[hf] at h
   dsimp only at h
   have hk:=List.find?_eq_some_iff_getElem.mp hf
   obtain⟨hn,ix,hix,eix,hbef⟩:=hk
   have ek:ix=k:=by simpa using eix
   subst ek
   have hix':ix < runEnd mask i + 1 - i:=by simpa using hix
   cases h
   refine⟨ix,by omega,?_,λm hm=>?_,?_,by omega⟩
   ·rw[jn mask i q ix (by omega)]
   ·rw[jn mask i q m (by omega)]
    have:=hbef m hm
    simp only[List.getElem_range] at this
    rw[ind m (by omega)] at this
    dsimp only
    cases e:own o (i + m) with
    |none=>rw[e] at this;simp at this
    |some _=>rfl
   ·rw[ind ix (by omega)] at hn
    cases e:own o (i + ix) with
    |none=>rfl
    |some _=>rw[e] at hn;simp at hn
  |none=>
   rw[hf] at h
   dsimp only at h
   obtain⟨n,h1,h2,h3,h4,h5⟩:=ih _ _ j (mi mask i q) h
   have hnone:=List.find?_eq_none.mp hf
   refine⟨(runEnd mask i - i + 1) + n,by omega,?_,λm hm=>?_,h4,h5⟩
   ·rw[kA,nR];exact h2
   ·rcases N7 m (runEnd mask i - i + 1) with c |c
    ·rw[jn mask i q m (by omega)]
     have:=hnone m (Ny.mpr (by omega))
     rw[ind m (by omega)] at this
     dsimp only
     cases e:own o (i + m) with
     |none=>rw[e] at this;simp at this
     |some _=>rfl
    ·obtain⟨k,rfl⟩:∃k,m=(runEnd mask i - i + 1) + k:=⟨m - (runEnd mask i - i + 1),by omega⟩
     rw[kA,nR]
     exact h3 k (by omega)
theorem Ag {mask:Nat}{o:Array (Option Nat)}(hsz:o.size=mask + 1):∀(fuel i q k:Nat),i<=mask->k < fuel->own o (fK mask k (i,q)).1=none->∃j,layClean.free mask o fuel i q=some j:=by
 intro fuel
 induction fuel with
 |zero=>intro i q k _ hk;omega
 |succ fuel ih=>
  intro i q k hi hk hn
  unfold layClean.free
  cases hf:(List.range (runEnd mask i + 1 - i)).find? λk=>(o.getD (i + k) (some 0)).isNone with
  |some k=>exact⟨_,rfl⟩
  |none=>
   dsimp only
   cases k with
   |zero=>
    have hr:=i8 hi
    have:=List.find?_eq_none.mp hf 0 (Ny.mpr (by omega))
    have e:own o i=none:=hn
    have hi2:i < o.size:=by omega
    simp[own,Array.getD,hi2] at e this
    rw[e] at this;simp at this
   |succ k=>exact ih _ _ k (mi mask i q) (by omega) hn
structure Lay (mask:Nat)(o:Array (Option Nat))(hs:List Int):Prop where
 size:o.size=mask + 1
 all:∀k h,hs[k]? =some h->∃j,own o j=some k/\Reach mask (λx=>(own o x).isSome=true) h j
 one:∀j j' k,own o j=some k->own o j'=some k->j=j'
 le:∀j k,own o j=some k->j<=mask/\k < hs.length
def mL {o:Array (Option Nat)}{j x k:Nat}(hj:j < o.size):own (o.setIfInBounds j (some k)) x=if x=j then some k else own o x:=by
 unfold own
 rw[NS,NS,Array.getElem?_setIfInBounds]
 by_cases e:x=j
 ·subst e;simp[hj]
 ·rw[Nd e,Nd (λz=>e z.symm)]
def Cd {mask:Nat}(hm:AR mask){o:Array (Option Nat)}{hs:List Int}(L:Lay mask o hs)(h:Int)(hl:hs.length<=mask) :
  ∃j,layClean.free mask o (turns mask) (bits h % (mask + 1)) (bits h)=some j/\Lay mask (o.setIfInBounds j (some hs.length)) (hs ++ [h]):=by
 have hi:bits h % (mask + 1)<=mask:=Nat.lt_succ_iff.mp (Nat.mod_lt _ (Nat.succ_pos _))
 have hfree:∃j,j<=mask/\own o j=none:=by
  refine Classical.byContradiction λhc=>?_
  have hall:∀j,j<=mask->∃k,own o j=some k:=λj hj=>by
   cases e:own o j with
   |none=>exact absurd ⟨j,hj,e⟩ hc
   |some k=>exact⟨k,rfl⟩
  have nd:((List.range (mask + 1)).map λj=>(own o j).getD 0).Nodup:=by
   refine N0.mpr ?_
   refine Ox ?_ OW
   intro a b ha hb hab e
   obtain⟨ka,ea⟩:=hall a (by have:=Ny.mp ha;omega)
   obtain⟨kb,eb⟩:=hall b (by have:=Ny.mp hb;omega)
   rw[ea,eb] at e
   simp at e
   subst e
   exact hab (L.one a b ka ea eb)
  have:=bw (m:=List.range hs.length) nd λx hx=>by
   obtain⟨j,hj,rfl⟩:=Nh.mp hx
   obtain⟨k,e⟩:=hall j (by have:=Ny.mp hj;omega)
   rw[e]
   exact Ny.mpr (L.le j k e).2
  simp at this
  omega
 obtain⟨j0,hj0,hn0⟩:=hfree
 obtain⟨k,hk,ek⟩:=qA hm hi (zE h) hj0
 obtain⟨j,hj⟩:=Ag L.size (turns mask) _ (bits h) k hi (by unfold turns;omega) (by rw[ek];exact hn0)
 refine⟨j,hj,?_⟩
 obtain⟨n,h1,h2,h3,h4,h5⟩:=Ae L.size _ _ _ _ hi hj
 have hjs:j < o.size:=by rw[L.size];omega
 have grow:∀x,(own o x).isSome=true->(own (o.setIfInBounds j (some hs.length)) x).isSome=true:=λx hx=>by
  rw[mL hjs];split
  ·rfl
  ·exact hx
 refine⟨by rw[Array.size_setIfInBounds];exact L.size,λk g hg=>?_,λa b c ea eb=>?_,λa c ea=>?_⟩
 ·rcases N7 k hs.length with c |c
  ·rw[NV c] at hg
   obtain⟨x,ex,rx⟩:=L.all k g hg
   refine⟨x,?_,rx.mono grow⟩
   rw[mL hjs,Nd (λz=>?_)]
   ·exact ex
   ·subst z;rw[ex] at h4;cases h4
  ·rw[NN c] at hg
   have:k=hs.length:=by
    have:=(Np.mp hg).1
    simp at this;omega
   subst this
   simp at hg
   subst hg
   exact⟨j,by rw[mL hjs,M7 rfl],n,h1,h2,λm hm=>grow _ (h3 m hm)⟩
 ·rw[mL hjs] at ea eb
  split at ea
  ·cases ea
   split at eb
   ·omega
   ·have:=(L.le _ _ eb).2;omega
  ·split at eb
   ·cases eb
    have:=(L.le _ _ ea).2;omega
   ·exact L.one _ _ _ ea eb
 ·rw[mL hjs] at ea
  rw[NK]
  split at ea
  ·cases ea;simp;omega
  ·have:=L.le _ _ ea;simp;omega
theorem yV {mask:Nat}(hm:AR mask):∀(rest hs:List Int) (o:Array (Option Nat)),Lay mask o hs->hs.length + rest.length<=mask->
  ∃o',rest.foldl (init:=some (o,hs.length)) (λacc h=>do
   let (owner,k) <-acc
   let j <-layClean.free mask owner (turns mask) (bits h % (mask + 1)) (bits h)
   pure (owner.setIfInBounds j (some k),k + 1))=some (o',hs.length + rest.length)/\Lay mask o' (hs ++ rest)
 | [],hs,o,L,_=>⟨o,rfl,by rw[Pp];exact L⟩
 |h :: rest,hs,o,L,hl=>by
  simp only[NC] at hl
  obtain⟨j,e,L'⟩:=Cd hm L h (by omega)
  obtain⟨o',e',L2⟩:=yV hm rest (hs ++ [h]) _ L' (by simp;omega)
  refine⟨o',?_,by rw[O5] at L2;exact L2⟩
  rw[foldl_cons]
  simp only[Option.bind_eq_bind,Option.bind_some,e,Option.pure_def]
  have el:(hs ++ [h]).length=hs.length + 1:=by simp
  rw[el] at e'
  simp only[Option.bind_eq_bind,Option.pure_def] at e'
  rw[e']
  simp;omega
def yJ (n j:Nat):own (Array.replicate n none) j=none:=by
 unfold own
 rw[NS,Array.getElem?_replicate]
 split <;> rfl
def Ep (mask:Nat):Lay mask (Array.replicate (mask + 1) none) []:=
 ⟨by simp,λk h e=>by simp at e,λj j' k e _=>by (rw[yJ] at e;cases e),λj k e=>by (rw[yJ] at e;cases e)⟩
def sQ {mask:Nat}(hm:AR mask)(hs:Array Int)(hl:hs.size * 5 < mask * 3)(finger moves:Nat)(led:Bool) :
  ∃t order,laid mask finger moves led true hs=some (t,order)/\t.led=led/\t.mask=mask/\order.toList.Nodup/\(∀k,k∈order.toList↔k < hs.size)/\
   Tab t (order.toList.map λk=>hs.toList.getD k 0):=by
 obtain⟨o,e,L⟩:=yV hm hs.toList [] _ (Ep mask) (by simp;omega)
 simp only[List.nil_append] at L
 have ec:layClean mask hs=some o:=by
  unfold layClean
  rw[<-Array.foldl_toList]
  simp only[PQ] at e
  rw[e];rfl
 have hlive:∀j k,(j,k)∈((List.range (mask + 1)).filterMap λj=>(o.getD j none).map (j, ·))↔own o j=some k:=λj k=>by
  rw[OG]
  constructor
  ·rintro⟨x,_,q⟩
   cases ex:o.getD x none with
   |none=>rw[ex] at q;cases q
   |some y=>rw[ex] at q;simp at q;rw[<-q.1,<-q.2];exact ex
  ·intro q
   refine⟨j,Ny.mpr (by have:=(L.le j k q).1;omega),?_⟩
   have:o.getD j none=some k:=q
   rw[this];rfl
 have hpw:((List.range (mask + 1)).filterMap λj=>(o.getD j none).map (j, ·)).Pairwise (λa b=>a.1 < b.1):=by
  refine List.pairwise_filterMap.mpr ?_
  refine List.Pairwise.imp ?_ List.pairwise_lt_range
  intro a b hab x hx y hy
  cases ea:o.getD a none with
  |none=>rw[ea] at hx;cases hx
  |some u=>
   cases eb:o.getD b none with
   |none=>rw[eb] at hy;cases hy
   |some v=>
    rw[ea] at hx;rw[eb] at hy
    simp at hx hy
    rw[<-hx,<-hy];exact hab
 generalize hlv:((List.range (mask + 1)).filterMap λj=>(o.getD j none).map (j, ·))=live at hlive hpw
 refine⟨{mask,place:=(live.map (·.1)).toArray,dummies:=#[],finger,led,moves,plain:=true},(live.map (·.2)).toArray,?_,rfl,rfl,?_,λk=>?_,?_⟩
 ·unfold laid
  rw[ec]
  simp only[Option.bind_eq_bind,Option.bind_some,Option.pure_def,hlv]
 ·have:(live.map (·.2)).Nodup:=by
   refine N0.mpr (Ox ?_ hpw)
   intro a b ha hb hab ee
   have h1:=(hlive a.1 a.2).mp ha
   have h2:=(hlive b.1 b.2).mp hb
   rw[ee] at h1
   have:=L.one _ _ _ h1 h2
   omega
  simpa using this
 ·rw[Nh]
  constructor
  ·rintro⟨x,hx,rfl⟩
   have:=(L.le x.1 x.2 ((hlive x.1 x.2).mp hx)).2
   simpa using this
  ·intro hk
   have hk':k < hs.toList.length:=by simpa using hk
   obtain⟨j,ej,_⟩:=L.all k _ (M1 hk')
   exact⟨(j,k),(hlive j k).mpr ej,rfl⟩
 ·have hord:live.length=hs.size:=by
   have a1:(live.map (·.2)).Nodup:=by
    refine N0.mpr (Ox ?_ hpw)
    intro a b ha hb hab ee
    have h1:=(hlive a.1 a.2).mp ha
    have h2:=(hlive b.1 b.2).mp hb
    rw[ee] at h1
    have:=L.one _ _ _ h1 h2
    omega
   have b1:=bw (m:=List.range hs.size) a1 λx hx=>by
    obtain⟨y,hy,rfl⟩:=Nh.mp hx
    have:=(L.le y.1 y.2 ((hlive y.1 y.2).mp hy)).2
    exact Ny.mpr (by simpa using this)
   have b2:=bw (l:=List.range hs.size) (m:=live.map (·.2)) OW λx hx=>by
    have hk':x < hs.toList.length:=by simpa using Ny.mp hx
    obtain⟨j,ej,_⟩:=L.all x _ (M1 hk')
    exact Nh.mpr ⟨(j,x),(hlive j x).mpr ej,rfl⟩
   simp at b1 b2
   omega
  refine⟨hm,rfl,?_,λj hj=>?_,?_,?_,λi j h hi hh=>?_,rfl⟩
  ·show (live.map (·.1)).toArray.toList.Pairwise _
   rw[Oa]
   exact N0.mpr hpw
  ·have:j∈live.map (·.1):=by simpa using hj
   obtain⟨x,hx,rfl⟩:=Nh.mp this
   exact (L.le x.1 x.2 ((hlive x.1 x.2).mp hx)).1
  ·simp
  ·show (live.map (·.1)).toArray.size * 5 < mask * 3
   simp[hord];exact hl
  ·have hi':(live.map (·.1))[i]? =some j:=by simpa using hi
   have hh':((live.map (·.2)).map λk=>hs.toList.getD k 0)[i]? =some h:=by simpa using hh
   rw[Ng] at hi'
   rw[Ng,Ng] at hh'
   cases ex:live[i]? with
   |none=>rw[ex] at hi';cases hi'
   |some x=>
    rw[ex] at hi' hh'
    simp at hi' hh'
    have hxl:=(hlive x.1 x.2).mp (Nm ex)
    have hk:=(L.le _ _ hxl).2
    have hk2:x.2 < hs.size:=by simpa using hk
    obtain⟨j2,ej2,r⟩:=L.all x.2 h (by
     rw[M1 hk]
     simp[hk2] at hh'
     simpa using hh')
    have:j2=j:=by rw[<-hi'];exact L.one _ _ _ ej2 hxl
    subst this
    refine r.mono λy hy=>?_
    show y∈(live.map (·.1)).toArray
    cases ey:own o y with
    |none=>rw[ey] at hy;cases hy
    |some k=>
     have:y∈live.map (·.1):=Nh.mpr ⟨(y,k),(hlive y k).mpr ey,rfl⟩
     simpa using this
abbrev Pr:=Int×Int
def hp (p:Pr):Int:=reduceHash (Builtin.Tuple.tupleHashOf [hashInt p.1,hashInt p.2])
def Sm (p:Pr):Prop:=(0<=p.1/\p.1 < 8)/\(0<=p.2/\p.2 < 8)
def ql:List Pr:=(List.range 64).map λk=>(((k / 8:Nat):Int),((k % 8:Nat):Int))
def lX {p:Pr}(h:Sm p):p∈ql:=by
 unfold ql
 obtain⟨⟨a,b⟩,c,d⟩:=h
 refine Nh.mpr ⟨p.1.toNat * 8 + p.2.toNat,Ny.mpr (by omega),?_⟩
 refine Prod.ext ?_ ?_ <;> dsimp only <;> omega
def Dt:(ql.map hp).Nodup:=by decide +kernel
theorem l9 {α β:Type}{f:α->β}:∀{l:List α},(l.map f).Nodup->∀a b,a∈l->b∈l->f a=f b->a=b
 | [],_,_,_,h,_,_=>by cases h
 |x :: l,hn,a,b,ha,hb,e=>by
  have hn':=NP.mp hn
  rcases M6.mp ha with ea |ha
  ·rcases M6.mp hb with eb |hb
   ·rw[ea,eb]
   ·exact absurd (Nh.mpr ⟨b,hb,by rw[<-e,ea]⟩) hn'.1
  ·rcases M6.mp hb with eb |hb
   ·exact absurd (Nh.mpr ⟨a,ha,by rw[e,eb]⟩) hn'.1
   ·exact l9 hn'.2 a b ha hb e
def HS {p q:Pr}(hp1:Sm p)(hq:Sm q)(e:hp p=hp q):p=q:=l9 Dt p q (lX hp1) (lX hq) e
def xX {l:List Pr}(hn:l.Nodup)(h:∀p,p∈l->Sm p):l.length<=64:=by
 have:=bw (m:=ql) hn λx hx=>lX (h x hx)
 simpa[ql] using this
section
variable {prog:Program}{w:World}{A:Around}{E:Value->Shared->Prop}{s:Shared}
abbrev bJ (prog:Program)(w:World)(h:Heap)(p:Pr)(a:Addr):Prop:=IsTupleKey (intKind prog w) h [p.1,p.2] a
def bJ.inj {h:Heap}{p q:Pr}{a:Addr}(x:bJ prog w h p a)(y:bJ prog w h q a):p=q:=by
 have:=IsTupleKey.inj x y
 simp at this
 exact Prod.ext this.1 this.2
structure tP (f:Pr->Int)(prog:Program)(w:World)(led:Bool)(h:Heap)(S:Addr)(ps:List (Addr×Pr)):Prop where
 ex:∃o ep t,h.get? S=some o/\o.ExactSet/\o.data=.set (ps.map λq=>(f q.2,Value.ref q.1)).toArray ep t/\Tab t (ps.map λq=>f q.2)/\t.led=led
 at':∀q,q∈ps->bJ prog w h q.2 q.1/\Sm q.2
 nd:(ps.map (·.2)).Nodup
def ke {t:SetTable}{hs:List Int}(T:Tab t hs){n:Nat}(e:n=hs.length):t.fits n=true:=by
 unfold SetTable.fits SetTable.fill
 have:=T.load'
 simp[T.size,T.dum,e]
 rw[T.size] at this;exact this
def BZ (a:Addr)(wanted:Nat):setRelay a wanted=(do
  let (es,_,t) <-setState a
  if SetTable.sizeAbove wanted > sizeLine then unsupported "set:memory"
  let (es,t) <-(do
   let some (t,order):=t.relaid (es.map (·.1)) wanted |unsupported "internal:set-table-without-room"
   let es':=order.filterMap (es[·]?)
   if es'.size != es.size then unsupported "internal:set-table-lost-an-element"
   pure (es',t))
  storeSet a es t):=rfl
def AV (a:Addr)(x:Value)(h:Int)(fuel:Nat):setSearchFrom a x h true (fuel + 1) none=(do
  let (es,_,t) <-setState a
  if t.gaveWay then unsupported "set:on-a-table-that-gave-way"
  let some met:=t.probe (λi=>(es[i]?.map (·.1)).getD 0) h (t.probeStart h) |unsupported "internal:set-table-without-an-empty-slot"
  match met with
  | .empty j dummy=>
   match dummy with
   |none=>return .free j false
   |some d=>
    if true && t.slot d != .dummy then rule "set.search.the-dummy-was-taken";return <-setSearchFrom a x h true fuel none
    return .free d true
  | .candidate j i next=>
   if !t.led then
    if <-searchCouldBeSeen x ((es.filter (·.1 == h)).toList.map (·.2)) then unsupported "set:the-search-would-show-the-table"
   let some (_,y):=es[i]? |unsupported "internal:set-entry"
   let equal <-holding [y] (eqBool y x)
   let (es',_,t') <-setState a
   if true && equal then return .there none
   let some same:=t'.sameMemory t.moves t.mask |unsupported "set.changed-during-lookup:is-the-new-block-at-the-old-address"
   let still <-match (if same then t'.slot j else .empty) with
    | .live i'=>match es'[i']? with
     |some (_,y')=>do pure (if <-isSame y' y then some i' else none)
     |none=>pure none
    |_=>pure none
   match still with
   |none=>rule "set.search.anew";setSearchFrom a x h true fuel none
   |some i'=>if equal then return .there (some i') else setSearchFrom a x h true fuel (some next)):=rfl
theorem vZ (n:Nat){v:Value}(h:carriedByValue v=true):ofAClassStatement n v=pure false:=by
 cases v with
 |ref a=>simp[carriedByValue] at h
 |_=>first |rfl | (unfold ofAClassStatement;rfl)
def yq (n:Nat){v:Value}{k:Int}(h:(intKind prog w).is k v=true):hashByValue n v=pure true:=by
 obtain⟨t,rfl⟩:=OP h
 cases n <;> rfl
def nh {p:Pr}{a:Addr}{Q:Bool->Shared->Prop}(hk:bJ prog w s.heap p a)(h:Q false s):wpAny (model prog w) A (ofAClassStatement 8 (.ref a)) Q E s:=by
 have hT:=hk.typeIs
 obtain⟨o,items,n,ho,hc,hd,hi⟩:=hk
 unfold ofAClassStatement
 refine MZ (wpAny_typeOf hT ?_)
 dsimp only
 rw[M7 (by decide)]
 refine MZ (M5 ?_)
 simp only[Pn,Nr,NT]
 refine MZ (wpAny_seqItems ho hd ?_)
 dsimp only
 refine MZ ?_
 rw[<-Array.forIn_toList]
 refine wpAny_forIn_list _ (λrest r s'=>r.1=none/\s'=s/\∀v∈rest,carriedByValue v=true) _ ?_ ?_ _ _ ⟨rfl,rfl,hi.byValue⟩
 ·rintro v rest r s' ⟨hr,rfl,hall⟩
  rw[vZ _ (hall v Nb)]
  refine MZ (M5 ?_)
  simp only[Nr,NT]
  exact M5 ⟨rfl,rfl,λu hu'=>hall u (M8 _ hu')⟩
 ·rintro⟨r1,r2⟩ s' ⟨hr,rfl,_⟩
  simp only at hr
  subst hr
  exact M5 h
def wJ {p:Pr}{a:Addr}{Q:Bool->Shared->Prop}(hk:bJ prog w s.heap p a)(h:Q true s):wpAny (model prog w) A (hashByValue 8 (.ref a)) Q E s:=by
 have hT:=hk.typeIs
 obtain⟨o,items,n,ho,hc,hd,hi⟩:=hk
 unfold hashByValue
 refine MZ (wpAny_specialOf hT F.slot_tuple_hash.lookup ?_)
 dsimp only
 refine MZ (wpAny_seqItems ho hd ?_)
 simp only[Option.getD_some]
 refine MZ ?_
 rw[<-Array.forIn_toList]
 refine wpAny_forIn_list _ (λrest r s'=>r.1=none/\s'=s/\∀v∈rest,∃k,(intKind prog w).is k v=true) _ ?_ ?_ _ _ ⟨rfl,rfl,λv hv=>?_⟩
 ·rintro v rest r s' ⟨hr,rfl,hall⟩
  obtain⟨k,hk⟩:=hall v Nb
  rw[yq _ hk]
  refine MZ (M5 ?_)
  simp only[Pn,Nr,NT]
  exact M5 ⟨rfl,rfl,λu hu'=>hall u (M8 _ hu')⟩
 ·rintro⟨r1,r2⟩ s' ⟨hr,rfl,_⟩
  simp only at hr
  subst hr
  exact M5 h
 ·generalize items.toList=l at *
  cases hi with
  |cons h1 hi=>
   cases hi with
   |cons h2 hi=>
    cases hi
    rcases M6.mp hv with rfl |hv
    ·exact⟨_,h1⟩
    ·rcases M6.mp hv with rfl |hv
     ·exact⟨_,h2⟩
     ·cases hv
def xy {p:Pr}{a:Addr}(hk:bJ prog w s.heap p a):∀(l:List Value) {Q:Bool->Shared->Prop},(∀v∈l,∃q b,v=.ref b/\bJ prog w s.heap q b)->Q false s->wpAny (model prog w) A (searchCouldBeSeen (.ref a) l) Q E s:=by
 intro l Q hl h
 unfold searchCouldBeSeen
 refine MZ ?_
 refine wpAny_forIn_list _ (λrest r s'=>r.1=none/\s'=s/\∀v∈rest,∃q b,v=.ref b/\bJ prog w s.heap q b) _ ?_ ?_ _ _ ⟨rfl,rfl,hl⟩
 ·rintro v rest r s' ⟨hr,rfl,hall⟩
  obtain⟨q,b,rfl,hb⟩:=hall v Nb
  have hrest:=λu hu'=>hall u (M8 _ hu')
  dsimp only
  split
  ·exact M5 ⟨rfl,rfl,hrest⟩
  ·refine MZ (wpAny_eqIsQuiet_tuple hk ?_)
   simp only[Pn,Nr,NT]
   refine MZ (wpAny_eqIsQuiet_tuple hb ?_)
   simp only[Pn,Nr,NT]
   refine MZ (nh hk ?_)
   simp only[Nr,NT]
   refine MZ (nh hb ?_)
   simp only[Nr,NT]
   exact M5 ⟨rfl,rfl,hrest⟩
 ·rintro⟨r1,r2⟩ s' ⟨hr,rfl,_⟩
  simp only at hr
  subst hr
  exact M5 h
end
section
variable {prog:Program}{w:World}{A:Around}{E:Value->Shared->Prop}{s:Shared}
def oj (t:SetTable)(hs:Array Int)(wanted:Nat)(hp:t.plain=true):t.relaid hs wanted=laid (sizeAbove wanted - 1) t.finger (t.movedTo (sizeAbove wanted - 1)) t.led true hs:=by
 unfold relaid;rw[hp]
def Bl:sizeAbove (grown 5)=32/\sizeAbove (grown 19)=128:=by decide +kernel
theorem filterMap_get {α:Type}(es:Array α):∀(order:List Nat),(∀k,k∈order->k < es.size)->∃l:List α,order.filterMap (λi=>es[i]?)=l/\l.length=order.length/\(∀(i k:Nat),order[i]? =some k->l[i]? =es[k]?)/\∀x,x∈l->∃k,k∈order/\es[k]? =some x
 | [],_=>⟨[],rfl,rfl,λi k h=>by simp at h,λx hx=>by cases hx⟩
 |k :: r,h=>by
  obtain⟨l,e1,e2,e3,e4⟩:=filterMap_get es r λx hx=>h x (M8 _ hx)
  have hk:=h k (Nb ..)
  refine⟨es[k] :: l,by rw[OT,NI hk,e1],by simp[e2],λi x hi=>?_,λx hx=>?_⟩
  ·cases i with
   |zero=>simp at hi;subst hi;simp[hk]
   |succ i=>simp at hi;simpa using e3 i x hi
  ·rcases M6.mp hx with rfl |hx
   ·exact⟨k,Nb ..,by simp[hk]⟩
   ·obtain⟨y,hy,q⟩:=e4 x hx
    exact⟨y,M8 _ hy,q⟩
abbrev dF (f:Pr->Int)(q:Addr×Pr):Int×Value:=(f q.2,Value.ref q.1)
def tW (f:Pr->Int){mask:Nat}(hm:AR mask){ps:List (Addr×Pr)}(hl:ps.length * 5 < mask * 3)(finger moves:Nat)(led:Bool) :
  ∃(t:SetTable) (order:Array Nat) (ps':List (Addr×Pr)),laid mask finger moves led true ((ps.map (dF f)).toArray.map (·.1))=some (t,order)/\order.filterMap (λi=>(ps.map (dF f)).toArray[i]?)=(ps'.map (dF f)).toArray/\ps'.length=ps.length/\
   (∀q,q∈ps'↔q∈ps)/\Tab t (ps'.map λq=>f q.2)/\t.led=led:=by
 obtain⟨t,order,e,el,em,nd,mem,T⟩:=sQ hm ((ps.map (dF f)).toArray.map (·.1)) (by simpa using hl) finger moves led
 have hsz:((ps.map (dF f)).toArray.map (·.1)).size=ps.length:=by simp
 obtain⟨ps',f1,f2,f3,f4⟩:=filterMap_get ps.toArray order.toList λk hk=>by
  have:=(mem k).mp hk;rw[hsz] at this;simpa using this
 have hlen:order.toList.length=ps.length:=by
  have a1:=bw (m:=List.range ps.length) nd λx hx=>Ny.mpr (by have:=(mem x).mp hx;rwa [hsz] at this)
  have a2:=bw (l:=List.range ps.length) (m:=order.toList) OW λx hx=>(mem x).mpr (by rw[hsz];exact Ny.mp hx)
  simp at a1 a2 ⊢;omega
 refine⟨t,order,ps',e,?_,by omega,λq=>⟨λhq=>?_,λhq=>?_⟩,?_,el⟩
 ·apply Array.toList_inj.mp
  rw[Array.toList_filterMap,<-f1]
  simp only[Oa]
  rw[List.map_filterMap]
  congr 1
  funext i
  simp
 ·obtain⟨k,_,q2⟩:=f4 q hq
  rw[O2] at q2
  exact Nm q2
 ·obtain⟨k,hk,q2⟩:=NL.mp hq
  have hko:k∈order.toList:=(mem k).mpr (by rw[hsz];exact hk)
  obtain⟨i,hi,e2⟩:=NL.mp hko
  have:=f3 i k (by rw[M1 hi,e2])
  rw[O2,M1 hk,q2] at this
  exact Nm this
 ·have:(order.toList.map λk=>((ps.map (dF f)).toArray.map (·.1)).toList.getD k 0)=ps'.map λq=>f q.2:=by
   apply O6
   intro i
   rw[Ng,Ng]
   cases hi:order.toList[i]? with
   |none=>
    have:ps'[i]? =none:=Pc.mpr (by rw[f2];exact Pc.mp hi)
    rw[this];rfl
   |some k=>
    have hk:k < ps.length:=by have:=(mem k).mp (Nm hi);rwa [hsz] at this
    have:=f3 i k hi
    rw[O2,M1 hk] at this
    rw[this]
    simp[hk]
  rw[<-this];exact T
theorem om:∀{l m:List Int},m.Nodup->(∀x,x∈m->x∈l)->l.length<=m.length->l.Nodup
 | [],_,_,_,_=>PD
 |a :: l,m,hn,hs,hl=>by
  by_cases ha:a∈m
  ·have hnot:a∉l:=λz=>by
    have:=bw (m:=l) hn λx hx=>by
     rcases M6.mp (hs x hx) with e |e
     ·rw[e];exact z
     ·exact e
    simp only[NC] at hl;omega
   refine NP.mpr ⟨hnot,om (m:=m.erase a) (hn.erase a) (λx hx=>?_) ?_⟩
   ·have:=(hn.mem_erase_iff).mp hx
    rcases M6.mp (hs x this.2) with e |e
    ·exact absurd e this.1
    ·exact e
   ·rw[PX ha];simp only[NC] at hl;omega
  ·have:=bw (m:=l) hn λx hx=>by
    rcases M6.mp (hs x hx) with e |e
    ·exact absurd (e▸hx) ha
    ·exact e
   simp only[NC] at hl;omega
def sY (a:Addr)(es:Array (Int×Value)):byScan (.ref a) es=false:=by unfold byScan Value.scannable;simp
def xK {t:SetTable}(h:AR t.mask):t.gaveWay=false:=by
 unfold SetTable.gaveWay
 rcases h with e |e |e <;> rw[e] <;> decide
def tP.add {f:Pr->Int}(hinj:∀p q,Sm p->Sm q->f p=f q->p=q){led:Bool}{S a:Addr}{ps:List (Addr×Pr)}{p:Pr}{Q:Bool->Shared->Prop}(P:tP f prog w led s.heap S ps)(hk:bJ prog w s.heap p a)(hs:Sm p)(hu:A.units < cLine)
  (h:∀(b:Bool) (h':Heap) (ps':List (Addr×Pr)),Heap.SameBut S s.heap h'->tP f prog w led h' S ps'->(∀q,q∈ps'->q∈ps\/q=(a,p))->(∀q,q∈ps->q∈ps')->(∃q,q∈ps'/\q.2=p)->Q b {s with heap:=h'}) :
  wpAny (model prog w) A (setAddHashed S (.ref a) (f p)) Q E s:=by
 obtain⟨o,ep,t,ho,hex,hd,T,hled⟩:=P.ex
 have hfit:t.fits (ps.map (dF f)).toArray.size=true:=ke T (by simp)
 have ha:∀i,i < (ps.map λq=>f q.2).length->some ((((ps.map (dF f)).toArray)[i]?.map (·.1)).getD 0)=(ps.map λq=>f q.2)[i]?:=λi hi=>by
  have hi':i < ps.length:=by simpa using hi
  simp[hi']
 unfold setAddHashed
 refine N6 ?_
 unfold setAddHashedIn
 refine MZ (N3 ho hd hfit ?_)
 dsimp only
 rw[sY]
 simp only[Nr,NT]
 unfold setSearch
 rw[AV]
 refine MZ (MZ (N3 ho hd hfit ?_))
 dsimp only
 rw[xK T.mask]
 simp only[Nr,NT]
 by_cases hm:f p∈ps.map λq=>f q.2
 ·
  obtain⟨j,i,nx,e1,e2,e3,e4⟩:=T.present ha hm
  rw[e1]
  dsimp only
  have hi:i < ps.length:=by simpa using e3
  have e5:f (ps[i].2)=f p:=by
   rw[Ng,M1 hi] at e4
   simpa using e4
  have hq:=P.at' ps[i] (Oh hi)
  have e6:ps[i].2=p:=hinj _ _ hq.2 hs e5
  have hget:((ps.map (dF f)).toArray)[i]? =some (f ps[i].2,.ref ps[i].1):=by simp[hi]
  have rest:wpAny (model prog w) A (do
    let some (_,y):=((ps.map (dF f)).toArray)[i]? |unsupported "internal:set-entry"
    let equal <-holding [y] (eqBool y (.ref a))
    let (es',_,t') <-setState S
    if true && equal then return SetFound.there none
    let some same:=t'.sameMemory t.moves t.mask |unsupported "set.changed-during-lookup:is-the-new-block-at-the-old-address"
    let still <-match (if same then t'.slot j else .empty) with
     | .live i'=>match es'[i']? with
      |some (_,y')=>do pure (if <-isSame y' y then some i' else none)
      |none=>pure none
     |_=>pure none
    match still with
    |none=>rule "set.search.anew";setSearchFrom S (.ref a) (f p) true 99999 none
    |some i'=>if equal then return .there (some i') else setSearchFrom S (.ref a) (f p) true 99999 (some nx))
    (λr s'=>s'=s/\r=.there none) E s:=by
   rw[hget]
   dsimp only
   refine MZ (N6 (wpAny_eqBool_tuple hu hq.1 hk ?_))
   rw[Nc (by rw[e6])]
   refine MZ (N3 ho hd hfit ?_)
   dsimp only
   simp only[PK,Ob]
   exact M5 ⟨rfl,rfl⟩
  have fin:∀r s',s'=s/\r=SetFound.there none->wpAny (model prog w) A (match r with
    | .free slot wasDummy=>(do
     let (es,_,t) <-setState S
     let (t,p'):=t.put slot
     let byValue <-if t.plain then hashByValue 8 (.ref a) else pure true
     let t:=if byValue then t else {t with plain:=false}
     storeSet S (SetTable.insertAt es p' (f p,.ref a)) t
     if !wasDummy && t.tooFull then setRelay S (SetTable.grown (es.size + 1))
     return true)
    |_=>pure false) Q E s':=by
   rintro r s' ⟨rfl,rfl⟩
   exact M5 (h false s'.heap ps (Heap.SameBut.refl ..) P (λq hq=>.inl hq) (λq hq=>hq) ⟨ps[i],Oh hi,e6⟩)
  cases hl:led with
  |true=>
   rw[hled,hl]
   simp only[Pn,Nr,NT]
   exact Oo rest (λr s' hr=>fin r s' hr) λ_ _ x=>x
  |false=>
   rw[hled,hl]
   simp only[Bool.not_false,Ob]
   refine MZ (xy hk _ (λv hv=>?_) ?_)
   ·obtain⟨x,hx,rfl⟩:=Nh.mp hv
    have hx':x∈(ps.map (dF f)).toArray:=(Array.mem_filter.mp (O9.mp hx)).1
    have hx2:x∈ps.map (dF f):=by simpa using hx'
    obtain⟨q,hq,rfl⟩:=Nh.mp hx2
    exact⟨q.2,q.1,rfl,(P.at' q hq).1⟩
   ·simp only[Nr,NT]
    exact Oo rest (λr s' hr=>fin r s' hr) λ_ _ x=>x
 ·
  obtain⟨j,e1,e2,e3,e4⟩:=T.absent ha hm
  rw[e1]
  dsimp only
  refine M5 ?_
  dsimp only
  refine MZ (N3 ho hd hfit ?_)
  dsimp only
  obtain⟨q1,q2⟩:=nz t j T.dum
  have hpl:(t.put j).1.plain=true:=by rw[q1];exact T.plain
  rw[hpl]
  simp only[Ob]
  refine MZ (wJ hk ?_)
  simp only[Ob]
  have hb:(t.put j).2<=ps.length:=by
   rw[q2]
   have:=(bY T.rise j).1
   rw[T.size] at this;simpa using this
  have hins:insertAt (ps.map (dF f)).toArray (t.put j).2 (f p,Value.ref a)=((ps.take (t.put j).2 ++ (a,p) :: ps.drop (t.put j).2).map (dF f)).toArray:=by
   apply Array.toList_inj.mp
   rw[bq _ _ _ (by simpa using hb)]
   simp[List.map_take,List.map_drop]
  rw[hins]
  generalize hps':ps.take (t.put j).2 ++ (a,p) :: ps.drop (t.put j).2=ps1
  have mem1:∀q,q∈ps1↔q∈ps\/q=(a,p):=λq=>by
   rw[<-hps',Nw,M6]
   conv=>rhs;rw[<-PB (t.put j).2 ps,Nw]
   constructor
   ·rintro (z |z |z)
    ·exact .inl (.inl z)
    ·exact .inr z
    ·exact .inl (.inr z)
   ·rintro ((z |z) |z)
    ·exact .inl z
    ·exact .inr (.inr z)
    ·exact .inr (.inl z)
  have len1:ps1.length=ps.length + 1:=by rw[<-hps'];simp;omega
  have nd1:(ps1.map (·.2)).Nodup:=by
   have hnot:p∉ps.map (·.2):=λz=>by
    obtain⟨q,hq,e⟩:=Nh.mp z
    exact hm (Nh.mpr ⟨q,hq,by rw[e]⟩)
   have perm:(ps1.map (·.2)).Perm (p :: ps.map (·.2)):=by
    rw[<-hps']
    have:(ps.take (t.put j).2 ++ (a,p) :: ps.drop (t.put j).2).Perm ((a,p) :: ps):=by
     refine List.perm_middle.trans ?_
     rw[PB]
    exact this.map (·.2)
   exact perm.nodup_iff.mpr (NP.mpr ⟨hnot,P.nd⟩)
  have ne:∀b q,bJ prog w s.heap q b->b≠S:=λb q ⟨o',_,_,ho',_,hd',_⟩ e=>by
   subst e
   rw[ho] at ho';cases ho'
   rw[hd] at hd';cases hd'
  have at1:∀{h':Heap},Heap.SameBut S s.heap h'->∀q,q∈ps1->bJ prog w h' q.2 q.1/\Sm q.2:=λ{h'} hsb q hq=>by
   have key:∀{b:Addr} {q:Pr},bJ prog w s.heap q b->bJ prog w h' q b:=λ{b q} hb=>by
    have hne:=ne b q hb
    obtain⟨o',i',n',ho',r'⟩:=hb
    exact⟨o',i',n',(hsb.2 b hne).trans ho',r'⟩
   rcases (mem1 q).mp hq with z |z
   ·exact⟨key (P.at' q z).1,(P.at' q z).2⟩
   ·subst z;exact⟨key hk,hs⟩
  have hlen64:ps1.length<=64:=by
   have:=xX nd1 λx hx=>by
    obtain⟨q,hq,rfl⟩:=Nh.mp hx
    exact (at1 (Heap.SameBut.refl ..) q hq).2
   simpa using this
  have hsize:((ps1.map (dF f)).toArray).size<=sizeLine:=by rw[NA];simp;omega
  refine MZ (P8 ho hd ?_ hsize)
  have ho1:(s.heap.update S (Obj.putSet (ps1.map (dF f)).toArray (t.put j).1)).get? S=some {o with data:=.set (ps1.map (dF f)).toArray (ep + 1) (t.put j).1}:=by
   have:=NX (Obj.putSet (ps1.map (dF f)).toArray (t.put j).1) ho (by rw[PY _ _ hd];rfl)
   rw[PY _ _ hd] at this;exact this
  have sb1:=Heap.SameBut.update s.heap S (Obj.putSet (ps1.map (dF f)).toArray (t.put j).1)
  have hex1:({o with data:=.set (ps1.map (dF f)).toArray (ep + 1) (t.put j).1}:Obj).ExactSet:=hex
  have psz:(t.put j).1.place.size=ps.length + 1:=by
   rw[q1]
   show (insertAt t.place (below t.place j) j).size=_
   rw[<-OU,bq _ _ _ (bY T.rise j).1]
   have:=T.size
   simp at this ⊢
   have:=(bY T.rise j).1
   omega
  have dum1:(t.put j).1.dummies=#[]:=by rw[q1];exact T.dum
  have mask1:(t.put j).1.mask=t.mask:=by rw[q1]
  have tsz:t.place.size=ps.length:=by simpa using T.size
  simp only[Bool.not_false,Bool.true_and]
  cases htf:(t.put j).1.tooFull with
  |false=>
   simp only[Nr,NT]
   have hload:(t.place.size + 1) * 5 < t.mask * 3:=by
    unfold SetTable.tooFull SetTable.fill at htf
    rw[psz,dum1,mask1] at htf
    simp at htf
    rw[tsz];exact htf
   obtain⟨T1,_⟩:=T.put e2 e3 e4 hload
   refine MZ (M5 (M5 (h true _ ps1 sb1 ⟨⟨_,ep + 1,_,ho1,hex1,rfl,?_,?_⟩,at1 sb1,nd1⟩ (λq hq=>(mem1 q).mp hq) (λq hq=>(mem1 q).mpr (.inl hq)) ⟨(a,p),(mem1 _).mpr (.inr rfl),rfl⟩)))
   ·rw[<-hps']
    simpa[List.map_take,List.map_drop] using T1
   ·rw[q1];exact hled
  |true=>
   simp only[Ob]
   have hfull:t.mask * 3<=(ps.length + 1) * 5:=by
    unfold SetTable.tooFull SetTable.fill at htf
    rw[psz,dum1,mask1] at htf
    simpa using htf
   have hload:=T.load
   rw[tsz] at hload
   have hcase:∃mask',AR mask'/\sizeAbove (grown (ps.length + 1)) - 1=mask'/\sizeAbove (grown (ps.length + 1))<=sizeLine/\(ps.length + 1) * 5 < mask' * 3:=by
    rcases T.mask with e |e |e
    ·have:ps.length + 1=5:=by rw[e] at hfull hload;omega
     rw[this,Bl.1]
     exact⟨31,.inr (.inl rfl),rfl,by rw[NA];decide,by decide⟩
    ·have:ps.length + 1=19:=by rw[e] at hfull hload;omega
     rw[this,Bl.2]
     exact⟨127,.inr (.inr rfl),rfl,by rw[NA];decide,by decide⟩
    ·rw[e] at hfull;omega
   obtain⟨mask',hm3,em,hline,hl2⟩:=hcase
   have hes:(ps.map (dF f)).toArray.size + 1=ps.length + 1:=by simp
   rw[hes,BZ]
   have hfit1:(t.put j).1.fits ((ps1.map (dF f)).toArray).size=true:=by
    unfold SetTable.fits SetTable.fill
    have hpl2:ps.length + 1<=t.mask:=by
     rcases T.mask with e |e |e <;> rw[e] at hload ⊢ <;> omega
    rw[psz,dum1,mask1]
    simp[len1,hpl2]
   refine MZ (MZ (N3 ho1 rfl hfit1 ?_))
   dsimp only
   rw[Nd (by omega)]
   rw[oj _ _ _ hpl,em]
   obtain⟨t2,order,ps2,g1,g2,g3,g4,g5,g6⟩:=tW f hm3 (ps:=ps1) (by rw[len1];exact hl2) (t.put j).1.finger ((t.put j).1.movedTo mask') (t.put j).1.led
   rw[g1]
   simp only[bind_pure_comp,pure_bind]
   rw[g2]
   have hne:((ps2.map (dF f)).toArray.size != (ps1.map (dF f)).toArray.size)=false:=by simp[g3]
   rw[hne]
   simp only[Nr,NT]
   have hsize2:((ps2.map (dF f)).toArray).size<=sizeLine:=by rw[NA];simp;omega
   refine MZ (M5 ?_)
   refine P8 ho1 rfl ?_ hsize2
   have ho2:((s.heap.update S (Obj.putSet (ps1.map (dF f)).toArray (t.put j).1)).update S (Obj.putSet (ps2.map (dF f)).toArray t2)).get? S=some {o with data:=.set (ps2.map (dF f)).toArray (ep + 1 + 1) t2}:=by
    have:=NX (Obj.putSet (ps2.map (dF f)).toArray t2) ho1 (by rw[PY (ep:=ep + 1) _ _ rfl];rfl)
    rw[PY (ep:=ep + 1) _ _ rfl] at this;exact this
   have sb2:=sb1.trans (Heap.SameBut.update _ S (Obj.putSet (ps2.map (dF f)).toArray t2))
   have nd2:(ps2.map (·.2)).Nodup:=by
    have hmem:∀q,q∈ps2.map (·.2)↔q∈ps1.map (·.2):=λq=>by
     rw[Nh,Nh]
     exact⟨λ⟨x,hx,e⟩=>⟨x,(g4 x).mp hx,e⟩,λ⟨x,hx,e⟩=>⟨x,(g4 x).mpr hx,e⟩⟩
    have hnd:(ps2.map λq=>f q.2).Nodup:=by
     refine om (m:=ps1.map λq=>f q.2) ?_ (λx hx=>?_) (by simp[g3])
     ·have:(ps1.map λq=>f q.2)=(ps1.map (·.2)).map f:=by simp
      rw[this]
      refine N0.mpr (Ox ?_ nd1)
      intro x y hx hy hxy e
      obtain⟨q,hq,rfl⟩:=Nh.mp hx
      obtain⟨r,hr,rfl⟩:=Nh.mp hy
      exact hxy (hinj _ _ (at1 sb1 q hq).2 (at1 sb1 r hr).2 e)
     ·obtain⟨q,hq,rfl⟩:=Nh.mp hx
      exact Nh.mpr ⟨q,(g4 q).mpr hq,rfl⟩
    have:(ps2.map λq=>f q.2)=(ps2.map (·.2)).map f:=by simp
    rw[this] at hnd
    exact (N0.mp hnd).imp λhxy e=>hxy (by rw[e])
   refine M5 (h true _ ps2 sb2 ⟨⟨_,ep + 1 + 1,t2,ho2,hex,rfl,g5,?_⟩,λq hq=>at1 sb2 q ((g4 q).mp hq),nd2⟩ (λq hq=>(mem1 q).mp ((g4 q).mp hq)) (λq hq=>(g4 q).mpr ((mem1 q).mpr (.inl hq))) ⟨(a,p),(g4 _).mpr ((mem1 _).mpr (.inr rfl)),rfl⟩)
   rw[g6,q1];exact hled
end
def dY (w:World):Bool:= !(w.params.followText "set-order")
def Ba (prog:Program)(w:World)(p:Pr):Int:=tupleKeyHash (intKind prog w) [p.1,p.2]
def Ei (prog:Program)(w:World):∀p q,Sm p->Sm q->Ba prog w p=Ba prog w q->p=q:=λp q h1 h2 e=>HS h1 h2 e
section
variable {prog:Program}{w:World}{A:Around}{E:Value->Shared->Prop}{s:Shared}{R:Result->Shared->Prop}{I:Addr}{fp wr:List Addr}{n:Nat}{P:Nat->Value->Prop}{St:Nat->Heap->Prop}
def cU (prog:Program)(w:World)(h:Heap)(vs:List Value)(ps:List Pr):Prop:=vs.length=ps.length/\∀(i:Nat) (v:Value) (p:Pr),vs[i]? =some v->ps[i]? =some p->∃a,v=.ref a/\bJ prog w h p a/\Sm p
abbrev pd (prog:Program)(w:World)(h:Heap)(S:Addr)(vs:List Value)(ps:List Pr)(k:Nat):Prop:=∃qs:List (Addr×Pr),tP (Ba prog w) prog w (dY w) h S qs/\
 (∀q,q∈qs->Value.ref q.1∈vs.take k/\q.2∈ps.take k)/\∀p,p∈ps.take k->p∈qs.map (·.2)
theorem me (W:Walks prog w A.in1 I fp wr n P St)(S:Addr)(hSf:S∉fp){vs:List Value}{ps:List Pr}(hn:vs.length=n)(hP:∀i v,P i v->vs[i]? =some v)(hu:A.in1.units < cLine)(h₀:Heap)
  (hps:cU prog w h₀ vs ps) (hwr:∀b o,b∈S :: wr->h₀.get? b=some o->False):∀(k i:Nat) (s:Shared),n - i=k->i<=n->St i s.heap->(∀b o,h₀.get? b=some o->s.heap.get? b=some o)->pd prog w s.heap S vs ps i->
   (∀h' tk,(∀b o,b∉S :: wr->s.heap.get? b=some o->h'.get? b=some o)->pd prog w h' S vs ps n->R (.ok (.ret .none)) {s with heap:=h',toks:=tk})->
   codeAny (model prog w) A (.builtin "set.update.loop" ⟨[.ref S,.ref I],[]⟩) R s:=by
 have nw:S∉wr:=λh=>hSf (W.sub _ h)
 intro k
 induction k with
 |zero=>
  intro i s hk hi hst hk0 hF hR
  obtain rfl:i=n:=by omega
  refine Om Oy ?_
  rw[OA N4 _]
  show wpAny _ A.in1 (pyNext (.ref I) >>= λr=>_) _ _ s
  refine MZ (W.done s _ _ hst λh' tk hm=>?_)
  show wpAny _ A.in1 (ret Value.none) _ _ _
  refine M5 (hR h' tk (λb o hb e=>hm b o (λz=>hb (M8 _ z)) e) ?_)
  obtain⟨qs,Q1,Q2,Q3⟩:=hF
  obtain⟨o,ep,t,ho,r⟩:=Q1.ex
  refine⟨qs,⟨⟨o,ep,t,hm S o nw ho,r⟩,λq hq=>⟨?_,(Q1.at' q hq).2⟩,Q1.nd⟩,Q2,Q3⟩
  obtain⟨m,hm1,hm2⟩:=NL.mp (OL (Q2 q hq).1)
  have hm1':m < ps.length:=by rw[<-hps.1];exact hm1
  obtain⟨a,ea,ha,_⟩:=hps.2 m vs[m] ps[m] (M1 hm1) (M1 hm1')
  rw[hm2] at ea
  cases ea
  obtain⟨o',it',n',ho',r'⟩:=(Q1.at' q hq).1
  obtain⟨o2,it2,n2,ho2,r2⟩:=ha
  have:o'=o2:=Option.some.inj (ho'.symm.trans (hk0 _ _ ho2))
  subst this
  exact⟨o',it',n',hm _ _ (λz=>hwr _ _ (M8 _ z) ho2) ho',r'⟩
 |succ k ih=>
  intro i s hk hi hst hk0 hF hR
  have hlt:i < n:=by omega
  refine Om Oy ?_
  rw[OA N4 _]
  show wpAny _ A.in1 (pyNext (.ref I) >>= λr=>_) _ _ s
  refine MZ (W.item i s _ _ hlt hst λv h1 tk1 hv hst1 hm=>?_)
  have hvi:=hP i v hv
  have hip:i < ps.length:=by rw[<-hps.1,hn];exact hlt
  obtain⟨a,rfl,ha,hsm⟩:=hps.2 i v ps[i] hvi (M1 hip)
  have k1:∀b o,h₀.get? b=some o->h1.get? b=some o:=λb o e=>hm b o (λz=>hwr b o (M8 _ z) e) (hk0 b o e)
  obtain⟨qs,Q1,Q2,Q3⟩:=hF
  have old:∀{q:Addr×Pr} {h:Heap},q∈qs->(∀b o,h₀.get? b=some o->h.get? b=some o)->bJ prog w h q.2 q.1:=λ{q h} hq kk=>by
   obtain⟨m,hm1,hm2⟩:=NL.mp (OL (Q2 q hq).1)
   have hm1':m < ps.length:=by rw[<-hps.1];exact hm1
   obtain⟨a,ea,ha,_⟩:=hps.2 m vs[m] ps[m] (M1 hm1) (M1 hm1')
   rw[hm2] at ea
   cases ea
   obtain⟨o',it',n',ho',r'⟩:=(Q1.at' q hq).1
   obtain⟨o2,it2,n2,ho2,r2⟩:=ha
   have:o'=o2:=Option.some.inj (ho'.symm.trans (hk0 _ _ ho2))
   subst this
   exact⟨o',it',n',kk _ _ ho2,r'⟩
  have P1:tP (Ba prog w) prog w (dY w) h1 S qs:=by
   obtain⟨o,ep,t,ho,r⟩:=Q1.ex
   exact⟨⟨o,ep,t,hm S o nw ho,r⟩,λq hq=>⟨old hq k1,(Q1.at' q hq).2⟩,Q1.nd⟩
  have ha1:bJ prog w h1 ps[i] a:=by
   obtain⟨o',it',n',ho',r'⟩:=ha
   exact⟨o',it',n',k1 _ _ ho',r'⟩
  show wpAny _ A.in1 (holding [Value.ref a] (setAdd S (.ref a)) >>= λ_=>_) _ _ _
  refine MZ (N6 ?_)
  unfold setAdd
  refine N6 (MZ (wpAny_pyHash_tuple hu ha1 ?_))
  refine tP.add (Ei prog w) (s:={s with heap:=h1,toks:=tk1 + ([ps[i].1,ps[i].2].length + 1)}) P1 ha1 hsm hu λb h2 qs' sb P2 m1 m2 m3=>?_
  have sbS:∀b o,h₀.get? b=some o->h2.get? b=some o:=λb o e=>(sb.2 b (λz=>hwr b o (by rw[z];exact Nb) e)).trans (k1 b o e)
  refine M5 ⟨plainId_quiet N4 _,ih (i + 1) _ (by omega) hlt (W.frame _ _ _ hst1 λb hb o e=>?_) sbS ⟨qs',P2,λq hq=>?_,λp hp=>?_⟩ λh' tk hm' F'=>?_⟩
  ·rw[sb.2 b λz=>hSf (by rw[<-z];exact hb)];exact e
  ·have htk:∀{α:Type} {l:List α} {x:α},x∈l.take i->x∈l.take (i + 1):=λ{α l x} hx=>by
    rw[Oc];exact Of _ hx
   rcases m1 q hq with z |z
   ·exact⟨htk (Q2 q z).1,htk (Q2 q z).2⟩
   ·subst z
    refine⟨?_,?_⟩
    ·rw[Oc,hvi];exact NJ _ (by simp)
    ·rw[Oc,M1 hip];exact NJ _ (by simp)
  ·rw[Oc,M1 hip] at hp
   rcases Nw.mp hp with z |z
   ·obtain⟨q,hq,rfl⟩:=Nh.mp (Q3 p z)
    exact Nh.mpr ⟨q,m2 q hq,rfl⟩
   ·have:p=ps[i]:=by simpa using z
    obtain⟨q,hq,e⟩:=m3
    exact Nh.mpr ⟨q,hq,by rw[e,this]⟩
  ·refine hR h' tk (λb o hb e=>hm' b o hb ?_) F'
   show h2.get? b=some o
   rw[sb.2 b λz=>hb (by rw[z];exact Nb)]
   exact hm b o (λz=>hb (M8 _ z)) e
def nZ (a:Value){Q1:Value->Shared->Prop}
  (h:Q1 (.ref s.heap.objs.size) {s with heap:=s.heap.push {cls:=.type "set",dict:=none,data:=.set #[] 0 (.fresh 0 0 (dY w))}}) :
  codeAny (model prog w) A (.call (.builtin "set.__new__") ⟨[.type "set",a],[]⟩) (wants Q1 E) s:=by
 refine codeAny_of_tree ?_
 show wpAny _ A.in1 (do (checkBuiltinCall "set.__new__" ⟨[.type "set",a],[]⟩);again (.builtin "set.__new__" ⟨[.type "set",a],[]⟩)) _ _ s
 refine MZ (wpAny_of_eq (F.newCall_set_1 a) (M5 ⟨plainId_quiet F.plain_set_new _,Om F.entry_set_new ?_⟩))
 rw[OA F.plain_set_new _]
 (unfold Builtin.«set.__new__» Builtin.Frozenset.newClass)
 have hsub0:=sub_set_self
 obtain⟨hp0,g0,d0,tk0,os0⟩:=s
 dsimp only
 wp_walk
 (refine PJ (M5 ?_))
 dsimp only
 simp only[newObj]
 (refine MZ (wpAny_alloc (M5 ?_)))
 exact M5 h
def sd (led:Bool):Tab (.fresh 0 0 led) []:=
 ⟨.inl rfl,rfl,List.Pairwise.nil,λj h=>(by cases (O9.mpr h)),rfl,(by show (0:Nat) * 5 < 7 * 3;decide),λi j h e=>(by simp[SetTable.fresh] at e),rfl⟩
structure Src (prog:Program)(w:World)(h:Heap)(l:Addr)(vs:List Value)(T:String)(itO:Obj)(St:Addr->Nat->Heap->Prop):Prop where
 ty:∃o,h.get? l=some o/\o.cls=.type T
 ns:isSubtype (.type T) (.type "set")=pure false
 nf:isSubtype (.type T) (.type "frozenset")=pure false
 nd:(Value.type T == Value.type "dict")=false
 it:∀(A:Around) (s1:Shared) (Q:Value->Shared->Prop) (E:Value->Shared->Prop),(∀b o,h.get? b=some o->s1.heap.get? b=some o)->Q (.ref s1.heap.objs.size) {s1 with heap:=s1.heap.push itO}->wpAny (model prog w) A (pyIter (.ref l)) Q E s1
 st:∀(h1:Heap),(∀b o,h.get? b=some o->h1.get? b=some o)->St h1.objs.size 0 (h1.push itO)
 wk:∀(A:Around) (I:Addr),A.handled=none->l≠I->Walks prog w A I [I,l] [I] vs.length (λi v=>vs[i]? =some v) (St I)
def Src.list {h:Heap}{l:Addr}{vs:List Value}(hl:h.IsList l vs.toArray):Src prog w h l vs "list" {cls:=.type "list_iterator",data:=.fields #[.ref l,.int 0 0]} (λI i h'=>h'.IsListIter I l i/\h'.IsList l vs.toArray):=by
 obtain⟨o,ho,hc,n,hd⟩:=id hl
 refine⟨⟨o,ho,hc⟩,F.sub_list_set,F.sub_list_frozenset,by decide,λA s1 Q E k hQ=>Px ⟨o,k _ _ ho,hc,n,hd⟩ hQ,λh1 k=>⟨⟨_,Nk _ rfl,rfl,rfl⟩,⟨o,M4 _ (k _ _ ho),hc,n,hd⟩⟩,λA I hh hne=>?_⟩
 have:=Walks.list (prog:=prog) (w:=w) hh I l hne vs.toArray
 simpa using this
def sub_tuple_set:isSubtype (.type "tuple") (.type "set")=pure false:=by rw[P0];kernel_rfl
def sub_tuple_frozenset:isSubtype (.type "tuple") (.type "frozenset")=pure false:=by rw[P0];kernel_rfl
def Src.tuple {h:Heap}{l:Addr}{vs:List Value}(hl:h.IsTuple l vs.toArray):Src prog w h l vs "tuple" {cls:=.type "tuple_iterator",data:=.fields #[.ref l,.int 0 0]} (λI i h'=>h'.IsTupleIter I l i/\h'.IsTuple l vs.toArray):=by
 obtain⟨o,ho,hc,n,hd⟩:=id hl
 refine⟨⟨o,ho,hc⟩,sub_tuple_set,sub_tuple_frozenset,by decide,λA s1 Q E k hQ=>wpAny_pyIter_tuple ⟨o,k _ _ ho,hc,n,hd⟩ hQ,λh1 k=>⟨⟨_,Nk _ rfl,rfl,rfl⟩,⟨o,M4 _ (k _ _ ho),hc,n,hd⟩⟩,λA I hh hne=>?_⟩
 have:=Walks.tuple (prog:=prog) (w:=w) hh I l hne vs.toArray
 simpa using this
set_option maxHeartbeats 3200000 in
theorem pA {l:Addr}{vs:List Value}{ps:List Pr}{T:String}{itO:Obj}{St:Addr->Nat->Heap->Prop}{Q:Value->Shared->Prop}(X:Src prog w s.heap l vs T itO St)(hh:A.handled=none)(hu:A.units + 64 < cLine)(hps:cU prog w s.heap vs ps)
  (h:∀(h':Heap) (tk:Nat),pd prog w h' s.heap.objs.size vs ps vs.length->(∀b o,s.heap.get? b=some o->h'.get? b=some o)->Q (.ref s.heap.objs.size) {s with heap:=h',toks:=tk}) :
  wpAny (model prog w) A (call (.type "set") [.ref l]) Q E s:=by
 obtain⟨c0,tl0,hmro0⟩:=N8.mro
 have hmade0:=N8.made
 have hsub0:=N8.sub
 refine wpAny_call (codeAny_of_tree ?_)
 show wpAny _ _ (callAny (.type "set") ⟨[.ref l],[]⟩) _ _ _
 refine M5 ⟨Code.quiet_builtin _ (by decide +kernel),Om F.entry_type_call ?_⟩
 (rw[Around.under_plain (weight_type_call_type "set" [.ref l] []) rfl])
 have g1:=N8.notType
 have g2:=N8.canCreate
 have g3:=F.typeCall_set_1 (.ref l)
 repeat (any_goals (first |assumption |wp_step))
 refine O0 (nZ (.ref l) (E:=E) (Q1:=λobj s1=>obj=.ref s.heap.objs.size/\s1={s with heap:=s.heap.push {cls:=.type "set",dict:=none,data:=.set #[] 0 (.fresh 0 0 (dY w))}}) ⟨rfl,rfl⟩) λr s1 hr=>?_
 cases r with
 |error e=>exact hr
 |ok fl=>
  cases fl with
  |ret obj=>
   obtain⟨rfl,rfl⟩:=hr
   generalize hO:({cls:=.type "set",dict:=none,data:=.set #[] 0 (.fresh 0 0 (dY w))}:Obj)=O
   have hS0:(s.heap.push O).get? s.heap.objs.size=some O:=Nk _ (by rw[<-hO];rfl)
   have hT0:Shared.TypeIs {s with heap:=s.heap.push O} (.ref s.heap.objs.size) "set":=⟨_,hS0,by rw[<-hO]⟩
   have g4:=N8.init.lookup
   have g5:=N8.init.bind (.ref s.heap.objs.size)
   repeat (any_goals (first |assumption |wp_step))
   refine O0 (codeAny_call_builtin (R:=wants (λr s2=>r=.none/\∃h' tk,s2={s with heap:=h',toks:=tk}/\pd prog w h' s.heap.objs.size vs ps vs.length/\(∀b o,s.heap.get? b=some o->h'.get? b=some o)) E)
    N8.init.plain F.entry_set_init (check_set_init_1 hT0 ?_)) λr2 s2 hr2=>?_
   ·obtain⟨ol,hol,hcl⟩:=X.ty
    have hol':(s.heap.push O).get? l=some ol:=M4 _ hol
    have e1:=X.ns
    have e2:=X.nf
    have e3:=X.nd
    have hTl:Shared.TypeIs {s with heap:=s.heap.push O} (.ref l) T:=⟨ol,hol',hcl⟩
    have hdat:O.data=.set #[] 0 (.fresh 0 0 (dY w)):=by rw[<-hO]
    (unfold Builtin.«set.__init__» noKeywords Builtin.Frozenset.updateFrom)
    subst hO
    obtain⟨oc,od,odt,osl⟩:=ol
    simp only at hcl
    subst hcl
    (generalize hPI0:pyIter=PI0)
    wp_walk
    subst hPI0
    have kp:∀b o,s.heap.get? b=some o->(s.heap.push {cls:=.type "set",dict:=none,data:=.set #[] 0 (.fresh 0 0 (dY w))}).get? b=some o:=λb o e=>M4 _ e
    refine X.it _ _ _ _ kp ?_
    refine MZ (wpAny_runValue ?_)
    have hlS:l < s.heap.objs.size:=Nf hol
    have hh3:A.in1.in1.in1.handled=none:=by simp[hh]
    have hneI:l≠(s.heap.push {cls:=.type "set",dict:=none,data:=.set #[] 0 (.fresh 0 0 (dY w))}).objs.size:=by
     rw[OJ];exact NG (P9 hlS)
    have hSf:s.heap.objs.size∉ [(s.heap.push {cls:=.type "set",dict:=none,data:=.set #[] 0 (.fresh 0 0 (dY w))}).objs.size,l]:=by
     rw[OJ]
     intro z
     rcases M6.mp z with e |z
     ·exact absurd e (NG (Nat.lt_succ_self _))
     ·exact absurd (Nz.mp z) (Nat.ne_of_gt hlS)
    refine me (X.wk _ _ hh3 hneI) s.heap.objs.size hSf rfl (λi v e=>e) (by simp;omega) s.heap hps (λb o hb e=>?_) (vs.length - 0) 0 _ (by omega) (NQ _) (X.st _ kp) (λb o e=>M4 _ (kp b o e)) ?_ ?_
    ·have hlt:=Nf e
     rw[OJ] at hb
     rcases M6.mp hb with z |z
     ·exact absurd hlt (by rw[z];exact NR _)
     ·rw[Nz.mp z] at hlt
      exact absurd hlt (Nat.not_lt.mpr (Pd _))
    ·refine⟨[],⟨⟨_,0,_,M4 _ hS0,⟨rfl,rfl,rfl⟩,rfl,sd _,rfl⟩,λq hq=>(by cases hq),PD⟩,λq hq=>(by cases hq),λp hp=>(by simp at hp)⟩
    ·intro h' tk hm F'
     show wpAny _ _ _ _ _ _
     refine M5 ?_
     show wpAny _ _ (ret Value.none) _ _ _
     refine M5 ⟨rfl,h',tk,rfl,F',λb o e=>hm b o (λz=>?_) (M4 _ (kp b o e))⟩
     have hlt:=Nf e
     rw[OJ] at z
     rcases M6.mp z with z |z
     ·exact absurd hlt (by rw[z];exact NR _)
     ·rw[Nz.mp z] at hlt
      exact absurd hlt (Nat.not_lt.mpr (Pd _))
   ·cases r2 with
    |error e=>exact hr2
    |ok fl2=>
     cases fl2 with
     |ret r=>
      obtain⟨rfl,h',tk,rfl,hF,hk⟩:=hr2
      repeat (any_goals (first |assumption |wp_step))
      exact h _ _ hF hk
     |_=>exact hr2.elim
  |_=>exact hr.elim
end
end L2.ST
namespace L2.SO
open PySem PySem.W PyProof.Rows
def j3 {α:Type}(lt:Nat->Nat->Bool):KasT α->α
 | .ret a=>a
 | .ask i j k=>j3 lt (k (lt i j))
theorem fj {α β:Type}(lt:Nat->Nat->Bool)(f:α->KasT β):∀t:KasT α,j3 lt (t.bind f)=j3 lt (f (j3 lt t))
 | .ret _=>rfl
 | .ask i j k=>fj lt f (k (lt i j))
def uS {α:Type}(n:Nat)(lt:Nat->Nat->Bool):KasT α->Prop
 | .ret _=>True
 | .ask i j k=>i < n/\j < n/\uS n lt (k (lt i j))
theorem hX {α β:Type}{n:Nat}{lt:Nat->Nat->Bool}{f:α->KasT β}:∀{t:KasT α},uS n lt t->uS n lt (f (j3 lt t))->uS n lt (t.bind f)
 | .ret _,_,h=>h
 | .ask i j k,h,h'=>⟨h.1,h.2.1,hX h.2.2 h'⟩
section
variable {n:Nat}{key:Nat->Int}
abbrev oh (key:Nat->Int)(i j:Nat):Bool:=decide (key i < key j)
abbrev Kp (key:Nat->Int)(p:Array Nat)(k:Nat):Int:=key (p.getD k 0)
structure Pm (n:Nat)(p:Array Nat):Prop where
 sz:p.size=n
 nd:p.toList.Nodup
 lt:∀x,x∈p->x < n
def Pm.at {p:Array Nat}(P:Pm n p){k:Nat}(hk:k < n):p.getD k 0 < n:=by
 have h:k < p.size:=by rw[P.sz];exact hk
 simp only[Array.getD,h,dif_pos]
 exact P.lt _ (P7 h)
def Pm.ne {p:Array Nat}(P:Pm n p){i k:Nat}(hi:i < n)(hk:k < n)(hne:i≠k):p.getD i 0≠p.getD k 0:=by
 have h1:i < p.toList.length:=by simpa using (by rw[P.sz];exact hi:i < p.size)
 have h2:k < p.toList.length:=by simpa using (by rw[P.sz];exact hk:k < p.size)
 have h1':i < p.size:=by rw[P.sz];exact hi
 have h2':k < p.size:=by rw[P.sz];exact hk
 have a1:p.getD i 0=p.toList[i]:=by simp[Array.getD,h1']
 have a2:p.getD k 0=p.toList[k]:=by simp[Array.getD,h2']
 rw[a1,a2]
 have q:=Pb.mp P.nd
 rcases N7 i k with c |c
 ·exact q i k h1 h2 c
 ·exact (q k i h2 h1 (by omega)).symm
def Pm.perm {p q:Array Nat}(P:Pm n p)(h:q.Perm p):Pm n q:=by
 have h':=Array.perm_iff_toList_perm.mp h
 exact⟨by rw[h.size_eq];exact P.sz,h'.nodup_iff.mpr P.nd,λx hx=>P.lt x (by simpa using h'.mem_iff.mp (by simpa using hx))⟩
def vP (n:Nat):Pm n (List.toArray (List.range n)):=⟨by simp,by simpa using OW,λx hx=>by simpa using hx⟩
def Inj (n:Nat)(key:Nat->Int):Prop:=∀i j,i < n->j < n->key i=key j->i=j
def Pm.tri {p:Array Nat}(P:Pm n p)(hi:Inj n key){i k:Nat}(h1:i < n)(h2:k < n)(hne:i≠k):Kp key p i < Kp key p k\/Kp key p k < Kp key p i:=by
 have:Kp key p i≠Kp key p k:=λe=>P.ne h1 h2 hne (hi _ _ (P.at h1) (P.at h2) e)
 omega
def Up (key:Nat->Int)(p:Array Nat)(m:Nat):Prop:=∀i j,i < j->j < m->Kp key p i < Kp key p j
def Dn (key:Nat->Int)(p:Array Nat)(m:Nat):Prop:=∀i j,i < j->j < m->Kp key p j < Kp key p i
def Up.snoc {p:Array Nat}{m:Nat}(U:Up key p m)(h1:1<=m)(h:Kp key p (m - 1) < Kp key p m):Up key p (m + 1):=λi j hij hj=>by
 rcases N7 j m with c |c
 ·exact U i j hij c
 ·have:j=m:=by omega
  subst this
  rcases N7 i (j - 1) with d |d
  ·exact Int.lt_trans (U i (j - 1) d (by omega)) h
  ·have:i=j - 1:=by omega
   rw[this];exact h
def Dn.snoc {p:Array Nat}{m:Nat}(U:Dn key p m)(h1:1<=m)(h:Kp key p m < Kp key p (m - 1)):Dn key p (m + 1):=λi j hij hj=>by
 rcases N7 j m with c |c
 ·exact U i j hij c
 ·have:j=m:=by omega
  subst this
  rcases N7 i (j - 1) with d |d
  ·exact Int.lt_trans h (U i (j - 1) d (by omega))
  ·have:i=j - 1:=by omega
   rw[this];exact h
theorem qc {p:Array Nat}(P:Pm n p)(hi:Inj n key):∀(f m:Nat),1<=m->m + f<=n->Up key p m->
  ∃r,(j3 (oh key) (kas_asc p f m)=r/\uS n (oh key) (kas_asc p f m))/\m<=r/\r<=m + f/\Up key p r/\(r < m + f->Kp key p r < Kp key p (r - 1))
 | 0,m,_,_,U=>⟨m,⟨rfl,trivial⟩,M9 _,M9 _,U,λh=>absurd h (NR _)⟩
 |f + 1,m,h1,hn,U=>by
  have b1:p.getD m 0 < n:=P.at (by omega)
  have b2:p.getD (m - 1) 0 < n:=P.at (by omega)
  unfold kas_asc j3 uS
  by_cases c:Kp key p m < Kp key p (m - 1)
  ·rw[show oh key (p.getD m 0) (p.getD (m - 1) 0)=true from Nc c]
   simp only[Ob]
   exact⟨m,⟨rfl,b1,b2,trivial⟩,M9 _,by omega,U,λ_=>c⟩
  ·rw[show oh key (p.getD m 0) (p.getD (m - 1) 0)=false from Nj c]
   simp only[Nr,NT]
   have up:Kp key p (m - 1) < Kp key p m:=(P.tri hi (by omega) (by omega) (by omega)).resolve_right c
   obtain⟨r,⟨e,o⟩,a,b,u,d⟩:=qc P hi f (m + 1) (by omega) (by omega) (U.snoc h1 up)
   exact⟨r,⟨e,b1,b2,o⟩,by omega,by omega,u,λh=>d (by omega)⟩
theorem rX {p:Array Nat}(P:Pm n p)(hi:Inj n key):∀(f m:Nat),1<=m->m + f<=n->Dn key p m->
  ∃r,(j3 (oh key) (kas_desc f p m 0)=(p,r,0)/\uS n (oh key) (kas_desc f p m 0))/\m<=r/\r<=m + f/\Dn key p r
 | 0,m,_,_,U=>⟨m,⟨rfl,trivial⟩,M9 _,M9 _,U⟩
 |f + 1,m,h1,hn,U=>by
  have b1:p.getD m 0 < n:=P.at (by omega)
  have b2:p.getD (m - 1) 0 < n:=P.at (by omega)
  unfold kas_desc j3 uS
  by_cases c:Kp key p m < Kp key p (m - 1)
  ·rw[show oh key (p.getD m 0) (p.getD (m - 1) 0)=true from Nc c]
   simp only[Ob,NR,gt_iff_lt,NT]
   obtain⟨r,⟨e,o⟩,a,b,u⟩:=rX P hi f (m + 1) (by omega) (by omega) (U.snoc h1 c)
   exact⟨r,⟨e,b1,b2,o⟩,by omega,by omega,u⟩
  ·rw[show oh key (p.getD m 0) (p.getD (m - 1) 0)=false from Nj c]
   simp only[Nr,NT]
   unfold j3 uS
   have up:Kp key p (m - 1) < Kp key p m:=(P.tri hi (by omega) (by omega) (by omega)).resolve_right c
   rw[show oh key (p.getD (m - 1) 0) (p.getD m 0)=true from Nc up]
   simp only[Ob]
   exact⟨m,⟨rfl,b1,b2,b2,b1,trivial⟩,M9 _,by omega,U⟩
def Cr {p:Array Nat}{j k:Nat}(hj:j<=p.size)(hk:k < j):(kas_rev p 0 j).getD k 0=p.getD (j - 1 - k) 0:=by
 unfold kas_rev
 rw[NS,getElem?_mirror_all hj k,M7 ⟨NQ _,hk⟩,NS]
 congr 2
 omega
def HC {p:Array Nat}{m:Nat}(hm:m<=p.size)(D:Dn key p m):Up key (kas_rev p 0 m) m:=λi j hij hj=>by
 unfold Kp
 rw[Cr hm (by omega),Cr hm hj]
 exact D (m - 1 - j) (m - 1 - i) (by omega) (by omega)
def Pm.rev {p:Array Nat}(P:Pm n p)(j:Nat):Pm n (kas_rev p 0 j):=P.perm (mirror_perm ..)
def w8 {p:Array Nat}(P:Pm n p)(hi:Inj n key)(h1:1<=n) :
  ∃m q,(j3 (oh key) (kas_count n p)=(m,q)/\uS n (oh key) (kas_count n p))/\Pm n q/\1<=m/\m<=n/\Up key q m:=by
 obtain⟨r,⟨e,o⟩,a,b,u,d⟩:=qc P hi (n - 1) 1 (M9 _) (by omega) (λi j hij hj=>by omega)
 have rest:∃m q,(j3 (oh key) (if (r == n)=true then KasT.ret (r,p) else if r > 1 then .ask (p.getD 0 0) (p.getD (r - 1) 0) λc=>if c=true then .ret (r,p) else kas_descPart r n (kas_rev p 0 r) else kas_descPart r n p)=(m,q)/\
   uS n (oh key) (if (r == n)=true then KasT.ret (r,p) else if r > 1 then .ask (p.getD 0 0) (p.getD (r - 1) 0) λc=>if c=true then .ret (r,p) else kas_descPart r n (kas_rev p 0 r) else kas_descPart r n p))/\Pm n q/\1<=m/\m<=n/\Up key q m:=by
  by_cases c:(r == n)=true
  ·rw[M7 c]
   exact⟨r,p,⟨rfl,trivial⟩,P,a,by omega,u⟩
  ·rw[Nd c]
   have hrn:r≠n:=by simpa using c
   have dd:=d (by omega)
   by_cases c2:r > 1
   ·rw[M7 c2]
    unfold j3 uS
    rw[show oh key (p.getD 0 0) (p.getD (r - 1) 0)=true from Nc (u 0 (r - 1) (by omega) (by omega))]
    simp only[Ob]
    exact⟨r,p,⟨rfl,P.at (by omega),P.at (by omega),trivial⟩,P,a,by omega,u⟩
   ·rw[Nd c2]
    have hr1:r=1:=by omega
    subst hr1
    unfold kas_descPart
    rw[fj]
    have D2:Dn key p 2:=λi j hij hj=>by
     have e1:i=0:=by omega
     have e2:j=1:=by omega
     rw[e1,e2];exact dd
    obtain⟨x,⟨e2,o2⟩,a2,b2,u2⟩:=rX P hi (n - 2) 2 (by omega) (by omega) D2
    obtain⟨y,⟨e3,o3⟩,a3,b3,u3,_⟩:=qc (P.rev x) hi (n - x) x (by omega) (by omega) (HC (by rw[P.sz];omega) u2)
    rw[show n - (1 + 1)=n - 2 from rfl,show (1 + 1:Nat)=2 from rfl]
    have t3:uS n (oh key) (kas_tail3 x n p):=by
     unfold kas_tail3
     exact hX o3 trivial
    refine⟨y,kas_rev p 0 x,⟨?_,hX o2 ?_⟩,P.rev x,by omega,by omega,u3⟩
    ·rw[e2]
     simp only[NR,gt_iff_lt,NT]
     unfold kas_tail3
     rw[fj,e3]
     rfl
    ·rw[e2]
     simp only[NR,gt_iff_lt,NT]
     exact t3
 obtain⟨m,q,⟨f1,f2⟩,f3⟩:=rest
 refine⟨m,q,⟨?_,?_⟩,f3⟩
 ·unfold kas_count
  rw[fj,e]
  exact f1
 ·unfold kas_count
  refine hX o ?_
  rw[e]
  exact f2
theorem place_spec {p:Array Nat}{k:Nat}(P:Pm n p)(hi:Inj n key)(hk:k < n)(U:Up key p k):∀(f l r:Nat),l<=r->r<=k->r - l<=f->(∀i,i < l->Kp key p i < Kp key p k)->(∀i,r<=i->i < k->Kp key p k < Kp key p i)->
  ∃x,(j3 (oh key) (kas_place p k f l r)=x/\uS n (oh key) (kas_place p k f l r))/\x<=k/\(∀i,i < x->Kp key p i < Kp key p k)/\(∀i,x<=i->i < k->Kp key p k < Kp key p i)
 | 0,l,r,h1,h2,h3,a,b=>⟨l,⟨rfl,trivial⟩,by omega,a,λi hi=>b i (by omega)⟩
 |f + 1,l,r,h1,h2,h3,a,b=>by
  unfold kas_place
  by_cases c:l>=r
  ·rw[M7 c]
   exact⟨l,⟨rfl,trivial⟩,by omega,a,λi hi=>b i (by omega)⟩
  ·rw[Nd c]
   have b1:p.getD k 0 < n:=P.at hk
   have b2:p.getD ((l + r) / 2) 0 < n:=P.at (by omega)
   unfold j3 uS
   by_cases d:Kp key p k < Kp key p ((l + r) / 2)
   ·rw[show oh key (p.getD k 0) (p.getD ((l + r) / 2) 0)=true from Nc d]
    simp only[Ob]
    have side:∀i,(l + r) / 2<=i->i < k->Kp key p k < Kp key p i:=λi h1 h2=>by
     rcases N7 ((l + r) / 2) i with z |z
     ·exact Int.lt_trans d (U _ _ z h2)
     ·have:i=(l + r) / 2:=by omega
      rw[this];exact d
    obtain⟨x,⟨e1,e2⟩,e3⟩:=place_spec P hi hk U f l ((l + r) / 2) (by omega) (by omega) (by omega) a side
    exact⟨x,⟨e1,b1,b2,e2⟩,e3⟩
   ·rw[show oh key (p.getD k 0) (p.getD ((l + r) / 2) 0)=false from Nj d]
    simp only[Nr,NT]
    have d':Kp key p ((l + r) / 2) < Kp key p k:=(P.tri hi (by omega) hk (by omega)).resolve_right d
    have side:∀i,i < (l + r) / 2 + 1->Kp key p i < Kp key p k:=λi h=>by
     rcases N7 i ((l + r) / 2) with z |z
     ·exact Int.lt_trans (U _ _ z (by omega)) d'
     ·have:i=(l + r) / 2:=by omega
      rw[this];exact d'
    obtain⟨x,⟨e1,e2⟩,e3⟩:=place_spec P hi hk U f ((l + r) / 2 + 1) r (by omega) h2 (by omega) side b
    exact⟨x,⟨e1,b1,b2,e2⟩,e3⟩
def By {p:Array Nat}{k l j:Nat}(hk:k < p.size)(hl:l<=k):(bubble p k (k - l)).getD j 0=if j=l then p.getD k 0 else if l < j/\j<=k then p.getD (j - 1) 0 else p.getD j 0:=by
 rw[NS,getElem?_bubble hk (k - l) (by omega) j,show k - (k - l)=l by omega]
 simp only[NS]
 split
 ·rfl
 ·split <;> rfl
theorem vE (hi:Inj n key):∀(f k:Nat) (p:Array Nat),Pm n p->1<=k->k + f=n->Up key p k->∃q,(j3 (oh key) (kas_bin f p k)=q/\uS n (oh key) (kas_bin f p k))/\Pm n q/\Up key q n
 | 0,k,p,P,_,e,U=>⟨p,⟨rfl,trivial⟩,P,by rw[<-e];exact U⟩
 |f + 1,k,p,P,h1,e,U=>by
  have hk:k < n:=by omega
  obtain⟨l,⟨el,ol⟩,hl,a,b⟩:=place_spec P hi hk U k 0 k (NQ _) (M9 _) (by omega) (λi h=>by omega) (λi h h'=>by omega)
  have side:Up key (bubble p k (k - l)) (k + 1):=λi j hij hj=>by
   have hks:k < p.size:=by rw[P.sz];exact hk
   unfold Kp
   rw[By hks hl,By hks hl]
   by_cases i1:i=l
   ·rw[M7 i1,Nd (by omega)]
    by_cases j2:l < j/\j<=k
    ·rw[M7 j2];exact b _ (by omega) (by omega)
    ·omega
   ·rw[Nd i1]
    by_cases i2:l < i/\i<=k
    ·rw[M7 i2,Nd (by omega),M7 (by omega)]
     exact U _ _ (by omega) (by omega)
    ·rw[Nd i2]
     by_cases j1:j=l
     ·rw[M7 j1];exact a _ (by omega)
     ·rw[Nd j1]
      by_cases j2:l < j/\j<=k
      ·rw[M7 j2]
       rcases N7 i (j - 1) with z |z
       ·exact U _ _ z (by omega)
       ·omega
      ·rw[Nd j2];exact U _ _ hij (by omega)
  obtain⟨q,⟨q1,q2⟩,q3⟩:=vE hi f (k + 1) (bubble p k (k - l)) (P.perm (bubble_perm ..)) (by omega) (by omega) side
  refine⟨q,⟨?_,?_⟩,q3⟩
  ·unfold kas_bin;rw[fj,el];exact q1
  ·unfold kas_bin;refine hX ol ?_;rw[el];exact q2
def AL (hi:Inj n key)(h2:2<=n):∃q,(j3 (oh key) (kas_sort n)=q/\uS n (oh key) (kas_sort n))/\Pm n q/\Up key q n:=by
 obtain⟨m,q,⟨e,o⟩,P,a,b,u⟩:=w8 (vP n) hi (by omega)
 by_cases c:m < n
 ·obtain⟨q',⟨e1,o1⟩,r⟩:=vE hi (n - m) m q P a (by omega) u
  refine⟨q',⟨?_,?_⟩,r⟩
  ·unfold kas_sort;rw[fj,e];dsimp only;rw[M7 c,Nat.max_eq_left a];exact e1
  ·unfold kas_sort;refine hX o ?_;rw[e];dsimp only;rw[M7 c,Nat.max_eq_left a];exact o1
 ·refine⟨q,⟨?_,?_⟩,P,λi j hij hj=>u i j hij (by omega)⟩
  ·unfold kas_sort;rw[fj,e];dsimp only;rw[Nd c];rfl
  ·unfold kas_sort;refine hX o ?_;rw[e];dsimp only;rw[Nd c];trivial
theorem wp_run {α:Type}{n:Nat}{lt:Nat->Nat->Bool}{cmp:Nat->Nat->(Bool->Shared->Prop)->Shared->Prop}{Q:α->Shared->Prop}{s:Shared} :
  ∀(t:KasT α),(∀i j C,i < n->j < n->C (lt i j) s->cmp i j C s)->uS n lt t->Q (j3 lt t) s->t.kasWp cmp Q s
 | .ret a,_,_,h=>h
 | .ask i j k,hc,ho,h=>hc i j _ ho.1 ho.2.1 (wp_run (k (lt i j)) hc ho.2.2 h)
end
end L2.SO
namespace L2.ST
open PySem PySem.SetTable PySem.W PyProof.Rows
def code (p:Pr):Int:=p.1 * 8 + p.2
def zI {p q:Pr}(h1:Sm p)(h2:Sm q):code p < code q↔p.1 < q.1\/(p.1=q.1/\p.2 < q.2):=by
 unfold code Sm at *;omega
def code_inj {p q:Pr}(h1:Sm p)(h2:Sm q)(e:code p=code q):p=q:=by
 unfold code Sm at *
 refine Prod.ext ?_ ?_ <;> omega
section
variable {prog:Program}{w:World}{A:Around}{E:Value->Shared->Prop}{s:Shared}
abbrev rC (ps:List Pr)(i:Nat):Int:=code (ps.getD i (0,0))
def CH {ps:List Pr}(nd:ps.Nodup)(hs:∀p,p∈ps->Sm p):L2.SO.Inj ps.length (rC ps):=λi j hi hj e=>by
 have a1:ps.getD i (0,0)=ps[i]:=by simp[hi]
 have a2:ps.getD j (0,0)=ps[j]:=by simp[hj]
 unfold rC at e
 rw[a1,a2] at e
 have e':=code_inj (hs _ (Oh hi)) (hs _ (Oh hj)) e
 have q:=Pb.mp nd
 rcases P6 i j with c |c |c
 ·exact absurd e' (q i j hi hj c)
 ·exact c
 ·exact absurd e'.symm (q j i hj hi c)
theorem EN {a b:Addr}{p q:Pr}{Q:Bool->Shared->Prop}(ha:bJ prog w s.heap p a)(hb:bJ prog w s.heap q b)(hp:Sm p)(hq:Sm q)(h:Q (decide (code p < code q)) s) :
  wpAny (model prog w) A (keyLt' (tuples' true) (.ref a) (.ref b)) Q E s:=by
 obtain⟨oa,ia,na,hoa,hca,hda,hia⟩:=ha
 obtain⟨ob,ib,nb,hob,hcb,hdb,hib⟩:=hb
 obtain⟨l1,rfl⟩:∃l,ia=List.toArray l:=⟨ia.toList,by simp⟩
 obtain⟨l2,rfl⟩:∃l,ib=List.toArray l:=⟨ib.toList,by simp⟩
 simp only[Oa] at hia hib
 cases hia with
 | @cons _ v1 _ _ h1 hia=>
  cases hia with
  | @cons _ v2 _ _ h2 hia=>
   cases hia
   cases hib with
   | @cons _ u1 _ _ g1 hib=>
    cases hib with
    | @cons _ u2 _ _ g2 hib=>
     cases hib
     obtain⟨t1,rfl⟩:=OP h1
     obtain⟨t2,rfl⟩:=OP h2
     obtain⟨t3,rfl⟩:=OP g1
     obtain⟨t4,rfl⟩:=OP g2
     refine kat_lt hoa hda hob hdb ?_
     have hc:=zI hp hq
     refine kat_cons (wpAny_eqBool_int ?_)
     by_cases e1:p.1=q.1
     ·rw[show (p.1 == q.1)=true by simpa using e1]
      refine kat_yes (kat_cons (wpAny_eqBool_int ?_))
      by_cases e2:p.2=q.2
      ·rw[show (p.2 == q.2)=true by simpa using e2]
       refine kat_yes (kat_nil ?_)
       have:decide (code p < code q)=false:=Nj (by rw[hc];omega)
       rw[this] at h
       simpa using h
      ·rw[show (p.2 == q.2)=false by simpa using e2]
       refine kat_no ?_
       show wpAny _ _ (oneLt' false _ _) _ _ _
       refine kat_one _ _ (lt_int ?_)
       have:decide (code p < code q)=decide (p.2 < q.2):=by
        by_cases z:p.2 < q.2
        ·rw[Nc z];exact Nc (hc.mpr (.inr ⟨e1,z⟩))
        ·rw[Nj z];exact Nj (by rw[hc];omega)
       rw[this] at h;exact h
     ·rw[show (p.1 == q.1)=false by simpa using e1]
      refine kat_no ?_
      show wpAny _ _ (oneLt' true _ _) _ _ _
      refine oneLt_int ?_
      have:decide (code p < code q)=decide (p.1 < q.1):=by
       by_cases z:p.1 < q.1
       ·rw[Nc z];exact Nc (hc.mpr (.inl z))
       ·rw[Nj z];exact Nj (by rw[hc];omega)
      rw[this] at h;exact h
theorem zD:∀{vs:List Value} {ps:List Pr},cU prog w s.heap vs ps->∃fs,KatTups s.heap vs fs/\fs.length=vs.length/\∀v∈fs,∃(i:Int) (t:Tok),v=.int i t
 | [],ps,_=>⟨[],KatTups.nil,rfl,λv hv=>by cases hv⟩
 |v :: vs,[],h=>by have:=h.1;simp at this
 |v :: vs,p :: ps,h=>by
  obtain⟨a,rfl,⟨o,items,n,ho,hc,hd,hi⟩,_⟩:=h.2 0 v p rfl rfl
  obtain⟨fs,k,e,f⟩:=zD (vs:=vs) (ps:=ps) ⟨by simpa using h.1,λi v p h1 h2=>h.2 (i + 1) v p (by simpa using h1) (by simpa using h2)⟩
  obtain⟨l1,rfl⟩:∃l,items=List.toArray l:=⟨items.toList,by simp⟩
  simp only[Oa] at hi
  cases hi with
  | @cons _ v1 _ _ h1 hi=>
   obtain⟨t1,rfl⟩:=OP h1
   exact⟨_ :: fs,KatTups.cons ho hc hd rfl k,by simp[e],λv hv=>by
    rcases M6.mp hv with z |z
    ·exact⟨_,_,z⟩
    ·exact f v z⟩
def u7 {a:Addr}{vs:List Value}{ps:List Pr}{n:Nat}{P:PySem.Fin->Shared->Prop}(ho:s.heap.get? a=some (seqObj "list" vs.toArray n))(hps:cU prog w s.heap vs ps)(nd:ps.Nodup)(h64:vs.length < 64)
  (h:∀(h':Heap) (c:Nat) (ix:Array Nat),L2.SO.Pm vs.length ix->L2.SO.Up (rC ps) ix vs.length->(∀b o,b≠a->s.heap.get? b=some o->h'.get? b=some o)->
   h'.get? a=some (seqObj "list" (ix.toList.map λi=>vs.getD i Value.none).toArray c)->P (.done (.ret .none)) {s with heap:=h'}) :
  wpAny (model prog w) A (Builtin.«list.sort» ⟨[.ref a],[]⟩) P E s:=by
 have ha:a < s.heap.objs.size:=Nf ho
 obtain⟨e1,ho1⟩:∃e1,(s.heap.update a (Obj.mapSeq λ_=>(#[]:Array Value))).get? a=some (seqObj "list" #[] e1):=⟨_,get?_update_seq ho λ_=>#[]⟩
 generalize hH1:(s.heap.update a (Obj.mapSeq λ_=>(#[]:Array Value)))=H1 at ho1
 have sb1:Heap.SameBut a s.heap H1:=by rw[<-hH1];exact Heap.SameBut.update ..
 have kp2:∀b o,H1.get? b=some o->((H1.push (seqObj "tuple" vs.toArray 0)).push (seqObj "list" #[] 0)).get? b=some o:=λb o e=>M4 _ (M4 _ e)
 generalize hH2:((H1.push (seqObj "tuple" vs.toArray 0)).push (seqObj "list" #[] 0))=H2 at kp2
 have kp:∀b o,b≠a->s.heap.get? b=some o->H2.get? b=some o:=λb o hb e=>kp2 b o ((sb1.2 b hb).trans e)
 have ho2:=kp2 _ _ ho1
 have hps2:cU prog w H2 vs ps:=⟨hps.1,λi v p h1 h2=>by
  obtain⟨b,e,⟨o,it,m,hb,hc,hd,r⟩,hs⟩:=hps.2 i v p h1 h2
  refine⟨b,e,⟨o,it,m,kp b o (λz=>?_) hb,hc,hd,r⟩,hs⟩
  subst z
  rw[ho] at hb;cases hb
  exact absurd hc (by simp[seqObj])⟩
 have hz:vs.length<=sizeLine:=by rw[NA];omega
 rw[list_sort_plain]
 refine MZ (listItems_at ho rfl (MZ (listUpdate_at ho rfl ?_ (by simpa using hz) (NQ _))))
 rw[hH1]
 refine MZ (seqEpoch_at (s:={s with heap:=H1}) ho1 rfl (MZ (wpAny_newTuple ?_ (by simpa using hz))))
 refine MZ (PL ?_ (NQ _))
 refine N6 ?_
 show wpAny (model prog w) A _ P E {s with heap:=(H1.push (seqObj "tuple" vs.toArray 0)).push (seqObj "list" #[] 0)}
 rw[hH2]
 have fin:∀(ix:Array Nat) (st:SortSt),L2.SO.Pm vs.length ix->L2.SO.Up (rC ps) ix vs.length->(arrOf st).map (·.2)=List.toArray (ix.toList.map λi=>vs.getD i Value.none)->failedOf st=none->
   wpAny (model prog w) A (do
    let sorted:=(arrOf st).map (·.2)
    let touched:=(<-seqEpoch a) != e1
    Builtin.List.listUpdate (.ref a) λ_=>sorted
    if let some e:=failedOf st then rule "list.sort.comparison-raised";throw e
    if touched then rule "list.sort.modified";raiseError "ValueError" "list modified during sort"
    ret .none) P E {s with heap:=H2}:=λix st P1 U1 hout hf=>by
  dsimp only
  rw[hout]
  have hsz:(List.toArray (ix.toList.map λi=>vs.getD i Value.none)).size=vs.length:=by simp[P1.sz]
  refine MZ (seqEpoch_at (s:={s with heap:=H2}) ho2 rfl ?_)
  refine MZ (listUpdate_at (s:={s with heap:=H2}) ho2 rfl ?_ (NQ _) (Oe (Nat.le_of_eq hsz) (Nat.le_succ_of_le hz)))
  rw[hf]
  simp only[bne_self_eq_false,Nr,NT]
  obtain⟨c2,hc2⟩:∃c2,(H2.update a (Obj.mapSeq λ_=>List.toArray (ix.toList.map λi=>vs.getD i Value.none))).get? a=some (seqObj "list" (List.toArray (ix.toList.map λi=>vs.getD i Value.none)) c2):=⟨_,get?_update_seq ho2 λ_=>List.toArray (ix.toList.map λi=>vs.getD i Value.none)⟩
  exact M5 (h _ c2 ix P1 U1 (λb o hb e=>((Heap.SameBut.update H2 a _).2 b hb).trans (kp b o hb e)) hc2)
 by_cases h2:vs.length < 2
 ·have h2':vs.toArray.size < 2:=by simpa using h2
  dsimp only
  rw[M7 h2',M7 h2']
  refine MZ (M5 ?_)
  rw[StateT.run_pure]
  refine MZ (M5 ?_)
  refine fin (List.toArray (List.range vs.length)) (SortSt.mk' general' (vs.toArray.zip vs.toArray) #[] 7 none) (L2.SO.vP _) (λi j hij hj=>by omega) ?_ rfl
  have:∀{l:List Value},l.length < 2->((l.toArray.zip l.toArray).map (·.2))=List.toArray ((List.range l.length).map λi=>l.getD i Value.none):=λ{l} hl=>by
   match l,hl with
   | [],_=>simp
   | [x],_=>simp
  exact (this h2).trans (by simp)
 ·have h2':¬vs.toArray.size < 2:=by simpa using h2
  dsimp only
  rw[Nd h2',Nd h2']
  obtain⟨fs,kt,fl,ff⟩:=zD (s:={s with heap:=H2}) hps2
  refine MZ (kat_kind (s:={s with heap:=H2}) (T:=.type "int") kt (by omega) (λv hv=>?_) (by decide) ?_)
  ·obtain⟨i,t,rfl⟩:=ff v hv
   exact .now
  ·rw[show ((Value.type "int" != Value.type "tuple"):Bool)=true by decide]
   have hinj:L2.SO.Inj vs.length (rC ps):=by
    rw[hps.1]
    refine CH nd λp hp=>?_
    obtain⟨i,hi,e⟩:=NL.mp hp
    have hi':i < vs.length:=by rw[hps.1];exact hi
    obtain⟨_,_,_,hs⟩:=hps.2 i vs[i] p (M1 hi') (by rw[M1 hi,e])
    exact hs
   obtain⟨ix,⟨er,ok⟩,P1,U1⟩:=L2.SO.AL hinj (by omega)
   refine MZ (Oo (kat_run (s:={s with heap:=H2}) (κ:=tuples' true) (ks:=vs) (Q:=λst s'=>s'={s with heap:=H2}/\arrOf st=ix.map (kas_item (vs.toArray.zip vs.toArray))/\failedOf st=none)
    (G:=λp s'=>p=ix/\s'={s with heap:=H2}) rfl (by omega) h64 (λp st s' a1 a2 a3 a4=>?_) (L2.SO.wp_run (n:=vs.length) (lt:=L2.SO.oh (rC ps)) _ (λi j C hi hj hC=>?_) ok ⟨er,rfl⟩)) ?_ λ_ _ x=>x)
   ·obtain⟨rfl,rfl⟩:=a4
    exact⟨rfl,a2,a3⟩
   ·unfold kas_ask
    have hi':i < ps.length:=by rw[<-hps.1];exact hi
    have hj':j < ps.length:=by rw[<-hps.1];exact hj
    obtain⟨b1,eb1,hb1,s1⟩:=hps2.2 i vs[i] ps[i] (M1 hi) (M1 hi')
    obtain⟨b2,eb2,hb2,s2⟩:=hps2.2 j vs[j] ps[j] (M1 hj) (M1 hj')
    have e1:vs.getD i Value.none=.ref b1:=by rw[<-eb1];simp[hi]
    have e2:vs.getD j Value.none=.ref b2:=by rw[<-eb2];simp[hj]
    rw[e1,e2]
    refine EN (s:={s with heap:=H2}) hb1 hb2 s1 s2 ?_
    have:L2.SO.oh (rC ps) i j=decide (code ps[i] < code ps[j]):=by
     unfold L2.SO.oh rC;simp[hi',hj']
    rw[<-this];exact hC
   ·rintro⟨⟨⟩,st⟩ s' ⟨rfl,har,hf⟩
    exact fin ix st P1 U1 (kat_snds rfl har) hf
end
def bR:Slot "set_iterator" "__next__" "set_iterator.__next__":=
 Slot.of (owner:="set_iterator") (n:="__next__") (by rw[typeLookup_type,builtinLookup_eq_fast];kernel_rfl) (by decide +kernel) (by decide +kernel) (by decide +kernel) (by first |exact .inl (by decide +kernel) |exact .inr (by decide +kernel)) (by rw[P0];kernel_rfl)
def i9:entryFor table "set_iterator.__next__"=some Builtin.«set_iterator.__next__»:=entryFor_of_tree (by kernel_rfl)
def jY (a:Value):argsOk "set_iterator.__next__" ⟨[a],[]⟩:=by unfold argsOk;kernel_rfl
def pB:entryFor table "set.__iter__"=some Builtin.«frozenset.__iter__»:=entryFor_alias (id':="frozenset.__iter__") (by kernel_rfl) rfl (by decide +kernel) (by kernel_rfl)
def jX:Slot "set_iterator" "__iter__" "set_iterator.__iter__":=
 Slot.of (owner:="set_iterator") (n:="__iter__") (by rw[typeLookup_type,builtinLookup_eq_fast];kernel_rfl) (by decide +kernel) (by decide +kernel) (by decide +kernel) (by first |exact .inl (by decide +kernel) |exact .inr (by decide +kernel)) (by rw[P0];kernel_rfl)
def nt:entryFor table "set_iterator.__iter__"=some Builtin.«dict_keyiterator.__iter__»:=entryFor_alias (id':="dict_keyiterator.__iter__") (by kernel_rfl) rfl (by decide +kernel) (by kernel_rfl)
def oK (a:Value):argsOk "set_iterator.__iter__" ⟨[a],[]⟩:=by unfold argsOk;kernel_rfl
def FA (a:Addr)(slot given ep0:Nat):setNext a slot given ep0=(do
  let (es,epoch,t) <-setState a
  if (<-ask).params.followText "set-order" then
   if epoch != ep0 then unsupported "set_iterator.__next__:elements-changed"
   return ((<-setWalk a)[given]?).map λe=>(e.2,slot)
  if !t.plain && es.size > 1 then unsupported "set_iterator.__next__:the-table-is-plain-no-more"
  let u:Unit <-(show Sem Unit from do if !t.led && !es.isEmpty then unsupported "set:maker-not-led")
  let i:=SetTable.below t.place slot
  return match es[i]?,t.place[i]? with
   |some (_,x),some j=>some (x,j + 1)
   |_,_=>none):=by
 unfold setNext setsByText
 simp only[bind_assoc,pure_bind]
 rfl
def Fy (a:Addr):setWalk a=(do
  let (es,epoch,t) <-setState a
  if (<-ask).params.followText "set-order" then return pickOrder ((<-ask).params.setOrder a epoch) es
  if !t.plain && es.size > 1 then return (<-drawOrder es.size es.toList).toArray
  let u:Unit <-(show Sem Unit from do if !t.led && es.size > 1 then unsupported "set:maker-not-led")
  return es):=by
 unfold setWalk setsByText
 simp only[bind_assoc,pure_bind]
 rfl
def Cs (a:Addr):setDrawn a=(do
  let (es,_,t) <-setState a
  let byText <-(do return (<-ask).params.followText "set-order")
  return !byText && (!t.plain && es.size > 1)):=rfl
theorem gS {α:Type}:∀(l:List α) (i:Nat) (h:i < l.length),(l[i] :: l.eraseIdx i).Perm l
 |a :: l,0,_=>List.Perm.refl _
 |a :: l,i + 1,h=>by
  have hi:i < l.length:=by simpa using h
  show (l[i] :: a :: l.eraseIdx i).Perm (a :: l)
  exact (List.Perm.swap ..).trans ((gS l i hi).cons a)
theorem sO {α:Type}(next:Nat->Nat):∀(fuel k:Nat) (left:List α) (out:Array α),left.length=fuel->(pickOrder.go next fuel k left out).toList.Perm (out.toList ++ left)
 | 0,k,left,out,h=>by
  have:left= []:=List.length_eq_zero_iff.mp h
  subst this
  unfold pickOrder.go
  simp
 |fuel + 1,k,left,out,h=>by
  unfold pickOrder.go
  have hlt:next k % left.length < left.length:=Nat.mod_lt _ (by omega)
  rw[M1 hlt]
  dsimp only
  refine (sO next fuel (k + 1) _ _ (by rw[List.length_eraseIdx_of_lt hlt];omega)).trans ?_
  rw[Array.toList_push,O5]
  refine List.Perm.append_left _ ?_
  exact gS left _ hlt
def kL {α:Type}(next:Nat->Nat)(xs:Array α):(pickOrder next xs).toList.Perm xs.toList:=by
 have:=sO next xs.size 0 xs.toList #[] (by simp)
 simpa[pickOrder] using this
section
variable {prog:Program}{w:World}{A:Around}{E:Value->Shared->Prop}{s:Shared}
def told (w:World)(S:Addr)(ep:Nat)(es:Array (Int×Value)):Array (Int×Value):=if w.params.followText "set-order" then pickOrder (w.params.setOrder S ep) es else es
def nF (w:World)(S:Addr)(ep:Nat)(es:Array (Int×Value)):(told w S ep es).toList.Perm es.toList:=by
 unfold told;split
 ·exact kL _ _
 ·exact List.Perm.refl _
abbrev wj (S:Addr)(slot k n ep:Nat):Obj:={cls:=.type "set_iterator",data:=.fields #[.int (slot:Int) 0,.int (k:Int) 0,.ref S,.int (n:Int) 0,.int (ep:Int) 0]}
structure mz (w:World)(S:Addr)(o:Obj)(es:Array (Int×Value))(ep:Nat)(t:SetTable)(I:Addr)(k:Nat)(h:Heap):Prop where
 set:h.get? S=some o
 data:o.data=.set es ep t
 cls:o.cls=.type "set"
 tab:Tab t (es.toList.map (·.1))
 led:t.led=dY w
 it:∃slot,h.get? I=some (wj S slot k es.size ep)/\(dY w=true->slot=if k=0 then 0 else t.place.getD (k - 1) 0 + 1)
def mz.fits {S I:Addr}{o:Obj}{es:Array (Int×Value)}{ep k:Nat}{t:SetTable}{h:Heap}(X:mz w S o es ep t I k h):t.fits es.size=true:=ke X.tab (by simp)
theorem zv {S I:Addr}{o:Obj}{es:Array (Int×Value)}{ep k slot:Nat}{t:SetTable}{Q:Option (Value×Nat)->Shared->Prop}(X:mz w S o es ep t I k s.heap)(hk:k<=es.size)(hs:dY w=true->slot=if k=0 then 0 else t.place.getD (k - 1) 0 + 1)
  (h:∀(r:Option (Value×Nat)),(k < es.size->∃x nx,r=some (x,nx)/\(told w S ep es)[k]?.map (·.2)=some x/\(dY w=true->nx=t.place.getD k 0 + 1))->(k=es.size->r=none)->Q r s) :
  wpAny (model prog w) A (setNext S slot k ep) Q E s:=by
 rw[FA]
 refine MZ (N3 X.set X.data X.fits ?_)
 dsimp only
 refine MZ (PJ ?_)
 dsimp only
 cases hb:w.params.followText "set-order" with
 |true=>
  rw[M7 (show (model prog w).w.params.followText "set-order"=true from hb)]
  simp only[bne_self_eq_false,Nr,NT]
  rw[Fy]
  refine MZ (MZ (N3 X.set X.data X.fits ?_))
  dsimp only
  refine MZ (PJ ?_)
  dsimp only
  rw[M7 (show (model prog w).w.params.followText "set-order"=true from hb)]
  refine MZ (PJ (M5 (M5 ?_)))
  have et:told w S ep es=pickOrder (w.params.setOrder S ep) es:=by unfold told;rw[M7 hb]
  have hsz:(pickOrder (w.params.setOrder S ep) es).size=es.size:=by
   have:=(kL (w.params.setOrder S ep) es).length_eq;simpa using this
  refine h _ (λhlt=>?_) (λe=>?_)
  ·have hlt':k < (pickOrder (w.params.setOrder S ep) es).size:=by rw[hsz];exact hlt
   refine⟨(pickOrder (w.params.setOrder S ep) es)[k].2,slot,?_,?_,λz=>?_⟩
   ·show Option.map _ (pickOrder (w.params.setOrder S ep) es)[k]? =_
    rw[NI hlt'];rfl
   ·rw[et,NI hlt'];rfl
   ·unfold dY at z;rw[hb] at z;cases z
  ·show Option.map _ (pickOrder (w.params.setOrder S ep) es)[k]? =_
   rw[Pt (by rw[hsz];omega)];rfl
 |false=>
  rw[Nd (show ¬(model prog w).w.params.followText "set-order"=true by intro z;rw[show (model prog w).w.params.followText "set-order"=false from hb] at z;cases z)]
  have hl:dY w=true:=by unfold dY;rw[hb];rfl
  rw[X.tab.plain,X.led,hl]
  simp only[Pn,Bool.false_and,Nr,NT]
  have et:told w S ep es=es:=by unfold told;rw[hb];simp
  have hps:t.place.size=es.size:=by simpa using X.tab.size
  have hbl:below t.place slot=k:=by
   rw[hs hl]
   obtain⟨b1,b2,b3⟩:=bY X.tab.rise (if k=0 then 0 else t.place.getD (k - 1) 0 + 1)
   by_cases k0:k=0
   ·subst k0
    simp only[Ob] at b1 b2 b3 ⊢
    rcases Nat.eq_zero_or_pos (below t.place 0) with z |z
    ·exact z
    ·have:=b2 0 z;omega
   ·rw[Nd k0] at b1 b2 b3 ⊢
    have hk1:k - 1 < t.place.size:=by omega
    rcases P6 (below t.place (t.place.getD (k - 1) 0 + 1)) k with z |z |z
    ·have q:=b3 (k - 1) (by omega) hk1
     have e:t.place.getD (k - 1) (t.place.getD (k - 1) 0 + 1)=t.place.getD (k - 1) 0:=by simp[Array.getD,hk1]
     omega
    ·exact z
    ·have hks:k < t.place.size:=by omega
     have q:=b2 k z
     have e:t.place.getD k (t.place.getD (k - 1) 0 + 1)=t.place.getD k 0:=by simp[Array.getD,hks]
     have:=iB (d:=0) X.tab.rise (show k - 1 < k by omega) hks
     omega
  refine M5 ?_
  rw[hbl]
  refine h _ (λhlt=>?_) (λe=>?_)
  ·have hlt2:k < t.place.size:=by omega
   refine⟨es[k].2,t.place[k] + 1,?_,?_,λ_=>?_⟩
   ·rw[NI hlt,NI hlt2]
   ·rw[et,NI hlt];rfl
   ·simp[Array.getD,hlt2]
  ·rw[Pt (by omega)]
def AW {S I:Addr}{o:Obj}{es:Array (Int×Value)}{ep:Nat}{t:SetTable}(hh:A.handled=none)(hne:S≠I) :
  Walks prog w A I [I,S] [I] es.size (λi v=>(told w S ep es)[i]?.map (·.2)=some v) (λi h=>mz w S o es ep t I i h) where
 sub:=λb hb=>M6.mpr (.inl (Nz.mp hb))
 frame:=λi h h' X k=>by
  obtain⟨slot,e,r⟩:=X.it
  exact⟨k S (by simp) _ X.set,X.data,X.cls,X.tab,X.led,slot,k I (by simp) _ e,r⟩
 item:=λi s Q E hi X hQ=>by
  obtain⟨slot,e,r⟩:=X.it
  have hT:s.TypeIs (.ref I) "set_iterator":=⟨_,e,rfl⟩
  unfold pyNext
  refine MZ (wpAny_attempt (wpAny_callSpecial?_slot (name:=Str.ofString "__next__") hT bR (OX bR hT i9 ?_ (jY _))))
  unfold Builtin.«set_iterator.__next__»
  refine MZ (m:=slotArgs "__next__" 0 _) (M5 ?_)
  dsimp only
  unfold fieldsOf
  refine MZ (MZ (wpAny_load e (M5 ?_)))
  dsimp only
  unfold setEntries
  refine MZ (MZ (N3 X.set X.data X.fits (M5 ?_)))
  dsimp only
  rw[Nd (by simp)]
  refine MZ ?_
  simp only[NM]
  refine zv X (Nat.le_of_lt hi) r λrr h1 _=>?_
  obtain⟨x,nx,rfl,h2,h3⟩:=h1 hi
  dsimp only
  refine MZ (PF e rfl (by simp) ?_)
  have e2:=NX (Obj.mapFields λvs=>vs.setIfInBounds 0 (rawInt (nx:Int))) e rfl
  refine MZ (PF e2 rfl (by simp) ?_)
  refine M5 ⟨x,rfl,M5 ?_⟩
  have sb:=(Heap.SameBut.update s.heap I (Obj.mapFields λvs=>vs.setIfInBounds 0 (rawInt (nx:Int)))).trans (Heap.SameBut.update _ I (Obj.mapFields λvs=>vs.setIfInBounds 1 (rawInt ((i:Int) + 1))))
  refine hQ x _ _ h2 ⟨(sb.2 S hne).trans X.set,X.data,X.cls,X.tab,X.led,nx,?_,λz=>?_⟩ λb o hb eb=>(sb.2 b (by simpa using hb)).trans eb
  ·exact NX (Obj.mapFields λvs=>vs.setIfInBounds 1 (rawInt ((i:Int) + 1))) e2 rfl
  ·rw[Nd (by omega)];exact h3 z
 done:=λs Q E X hQ=>by
  obtain⟨slot,e,r⟩:=X.it
  have hT:s.TypeIs (.ref I) "set_iterator":=⟨_,e,rfl⟩
  unfold pyNext
  refine MZ (wpAny_attempt (wpAny_callSpecial?_slot (name:=Str.ofString "__next__") hT bR (OX bR hT i9 ?_ (jY _))))
  unfold Builtin.«set_iterator.__next__»
  refine MZ (m:=slotArgs "__next__" 0 _) (M5 ?_)
  dsimp only
  unfold fieldsOf
  refine MZ (MZ (wpAny_load e (M5 ?_)))
  dsimp only
  unfold setEntries
  refine MZ (MZ (N3 X.set X.data X.fits (M5 ?_)))
  dsimp only
  rw[Nd (by simp)]
  refine MZ ?_
  simp only[NM]
  refine zv X (M9 _) r λrr _ h1=>?_
  rw[h1 rfl]
  dsimp only
  refine MZ (PF e rfl (by simp) ?_)
  (show wpAny _ _ (newExc (.type "StopIteration") [] >>= λx=>raiseNew x) _ _ _)
  refine MZ ?_
  simp only[newExc,newTuple]
  (refine MZ (Py ?_ (by size_fits)))
  (refine MZ (m:=firstArgMember _ _) (wpAny_of_eq (a:=Value.none) (by first |rfl | (simp only[firstArgMember];rfl)) ?_))
  (refine Py ?_ (by size_fits))
  simp only[raiseNew]
  refine MZ (wpAny_handled ?_)
  (rw[show A.in1.handled=none from hh])
  refine MZ (M5 (wpAny_throw ?_))
  refine MZ (wpAny_isInstance (T:="StopIteration") (b:=true) ⟨_,Nk _ rfl,rfl⟩ isSubtype_stop (M5 (hQ _ _ λb o hb eb=>?_)))
  exact M4 _ (M4 _ (((Heap.SameBut.update ..).2 b (by simpa using hb)).trans eb))
 self:=λi s Q E X hQ=>by
  obtain⟨slot,e,r⟩:=X.it
  have hT:s.TypeIs (.ref I) "set_iterator":=⟨_,e,rfl⟩
  refine wpAny_pyIter_slot hT jX (OX jX hT nt ?_ (oK _))
  show wpAny _ _ (ret (.ref I)) _ _ s
  exact M5 ⟨_,rfl,"set_iterator",_,hT,bR.lookup,hQ⟩
def Cc {S:Addr}{o:Obj}{es:Array (Int×Value)}{ep:Nat}{t:SetTable}{Q:Value->Shared->Prop}(ho:s.heap.get? S=some o)(hd:o.data=.set es ep t)(hc:o.cls=.type "set")(T:Tab t (es.toList.map (·.1)))(hl:t.led=dY w)
  (h:Q (.ref s.heap.objs.size) {s with heap:=s.heap.push (wj S 0 0 es.size ep)}):wpAny (model prog w) A (pyIter (.ref S)) Q E s:=by
 have hT:s.TypeIs (.ref S) "set":=⟨o,ho,hc⟩
 have hf:t.fits es.size=true:=ke T (by simp)
 refine wpAny_pyIter_slot hT F.slot_set_iter (OX F.slot_set_iter hT pB ?_ (F.args_set_iter_1 _))
 unfold Builtin.«frozenset.__iter__» Builtin.Frozenset.slot0
 refine MZ (MZ (m:=slotArgs "__iter__" 0 _) (M5 (M5 ?_)))
 unfold Builtin.Frozenset.sizeOf setEntries
 refine MZ (MZ (MZ (N3 ho hd hf (M5 (M5 ?_)))))
 rw[Cs]
 refine MZ (MZ (N3 ho hd hf ?_))
 dsimp only
 refine MZ (MZ (PJ (M5 (M5 ?_))))
 rw[T.plain]
 simp only[Pn,Bool.false_and,Bool.and_false,Nr,NT]
 refine MZ (M5 ?_)
 unfold setEpoch
 refine MZ (MZ (N3 ho hd hf (M5 ?_)))
 refine MZ (Py (M5 ⟨_,rfl,"set_iterator",_,⟨_,Nk _ rfl,rfl⟩,bR.lookup,h⟩))
def oi {S:Addr}{o:Obj}{es:Array (Int×Value)}{ep:Nat}{t:SetTable}{Q:List Value->Shared->Prop}(hh:A.handled=none)(ho:s.heap.get? S=some o)(hd:o.data=.set es ep t)(hc:o.cls=.type "set")(T:Tab t (es.toList.map (·.1)))(hl:t.led=dY w)
  (hn:es.size<=64) (h:∀h' tk vs,vs=(told w S ep es).toList.map (·.2)->(∀b o,s.heap.get? b=some o->h'.get? b=some o)->Q vs {s with heap:=h',toks:=tk}):wpAny (model prog w) A (collect (.ref S)) Q E s:=by
 have hz:es.size<=sizeLine:=by rw[NA];omega
 unfold collect
 (refine MZ (wpAny_runValue (Om F.entry_proto_collect ?_)))
 (rw[OA F.plain_proto_collect _])
 show wpAny _ A.in1 (newList [] >>= λl=>again (.builtin "list.__iadd__" ⟨[l,.ref S],[]⟩)) _ _ s
 refine MZ (Py ?_)
 (refine M5 ⟨plainId_quiet F.plain_list_iadd _,Om F.entry_list_iadd ?_⟩)
 (rw[OA F.plain_list_iadd _])
 show wpAny _ A.in1 (Builtin.List.listExtendWith (.ref s.heap.objs.size) (.ref S) (.ref s.heap.objs.size)) _ _ {s with heap:=s.heap.push (seqObj "list" #[] 0)}
 generalize hH:s.heap.push (seqObj "list" #[] 0)=H1
 have kp1:∀b o,s.heap.get? b=some o->H1.get? b=some o:=λb o e=>by rw[<-hH];exact M4 _ e
 have hD:H1.get? s.heap.objs.size=some (seqObj "list" #[] 0):=by rw[<-hH];exact Nk _ rfl
 have hHs:H1.objs.size=s.heap.objs.size + 1:=by rw[<-hH];exact OJ ..
 have hSD:S≠s.heap.objs.size:=NG (Nf ho)
 have hT:Shared.TypeIs {s with heap:=H1} (.ref S) "set":=⟨o,kp1 _ _ ho,hc⟩
 unfold Builtin.List.listExtendWith
 refine MZ (wpAny_typeOf hT ?_)
 have h1:Builtin.List.listSameRef (.ref s.heap.objs.size) (.ref S)=false:=by simp[Builtin.List.listSameRef,Ne.symm hSD]
 have h2:(Value.type "set" == Value.type "list")=false:=by decide
 have h3:(Value.type "set" == Value.type "tuple")=false:=by decide
 rw[h1,h2,h3]
 simp only[Bool.or_false,Nr,NT]
 refine MZ (Cc (s:={s with heap:=H1}) (kp1 _ _ ho) hd hc T hl ?_)
 refine MZ (N6 ?_)
 unfold Builtin.List.listLengthHint
 have hT2:Shared.TypeIs {s with heap:=H1.push (wj S 0 0 es.size ep)} (.ref S) "set":=⟨o,M4 _ (kp1 _ _ ho),hc⟩
 refine MZ (wpAny_specialOf hT2 F.slot_set_len.lookup ?_)
 wp_delta
 refine MZ (wpAny_isInstance hT2 (b:=true) (by rw[P0];kernel_rfl) ?_)
 show wpAny _ A.in1 (typeOf (Value.ref S) >>= λ_=>_) _ _ _
 refine MZ (wpAny_typeOf hT2 ?_)
 refine M5 ?_
 show wpAny _ A.in1 (rule "list.extend.makes-room" >>= λ_=>Builtin.List.listTouch (.ref s.heap.objs.size) >>= λ_=>again (.builtin "list.extend.loop" ⟨[.ref s.heap.objs.size,.ref H1.objs.size,.ref s.heap.objs.size],[]⟩)) _ _ _
 refine MZ (wpAny_rule (MZ ?_))
 generalize hH2:H1.push (wj S 0 0 es.size ep)=H2
 have kp2:∀b o,H1.get? b=some o->H2.get? b=some o:=λb o e=>by rw[<-hH2];exact M4 _ e
 have hI:H2.get? H1.objs.size=some (wj S 0 0 es.size ep):=by rw[<-hH2];exact Nk _ rfl
 have hS0:=kp2 _ _ hD
 show wpAny _ A.in1 (updateSeq s.heap.objs.size (·.push .none) >>= λ_=>updateSeq s.heap.objs.size (·.pop)) _ _ _
 refine MZ (wpAny_updateSeq (s:={s with heap:=H2}) hS0 rfl ?_)
 have hS2:=NX (Obj.mapSeq (·.push Value.none)) hS0 rfl
 refine wpAny_updateSeq (hz:=by seq_fits) hS2 rfl ?_
 have hS3:=NX (Obj.mapSeq (·.pop)) hS2 rfl
 have oth:∀b o,b≠s.heap.objs.size->H2.get? b=some o->((H2.update s.heap.objs.size (Obj.mapSeq (·.push Value.none))).update s.heap.objs.size (Obj.mapSeq (·.pop))).get? b=some o:=λb o hb e=>
  ((Heap.SameBut.update _ s.heap.objs.size (Obj.mapSeq (·.pop))).2 b hb).trans (((Heap.SameBut.update H2 s.heap.objs.size (Obj.mapSeq (·.push Value.none))).2 b hb).trans e)
 have hIS:S≠H1.objs.size:=by rw[hHs];exact NG (P9 (Nf ho))
 have hID:H1.objs.size≠s.heap.objs.size:=by rw[hHs];exact Nat.succ_ne_self _
 have hDf:s.heap.objs.size∉ [H1.objs.size,S]:=λz=>by
  rcases M6.mp z with e |z
  ·exact hID e.symm
  ·exact hSD (Nz.mp z).symm
 have X0:mz w S o es ep t H1.objs.size 0 ((H2.update s.heap.objs.size (Obj.mapSeq (·.push Value.none))).update s.heap.objs.size (Obj.mapSeq (·.pop))):=
  ⟨oth _ _ hSD (kp2 _ _ (kp1 _ _ ho)),hd,hc,T,hl,0,oth _ _ hID hI,λ_=>rfl⟩
 refine M5 ⟨plainId_quiet F.plain_extend_loop _,codeAny_extend_loopS (AW (A:=A.in1) (o:=o) (t:=t) hh hIS).toS hz _ hDf _ es.size 0 _ _ _ rfl (NQ _) X0 hS3 (ItemsOf.nil _) λs' acc' c' hm hS' hacc=>?_⟩
 show wpAny _ A (load s.heap.objs.size >>= λ_=>_) _ _ s'
 refine MZ (wpAny_load hS' (M5 ?_))
 obtain⟨h',g',d',tk',os'⟩:=s'
 have eg:g'=s.gens:=hm.gens
 have ed:d'=s.drawn:=hm.drawn
 have eo:os'=s.os:=hm.os
 subst eg ed eo
 refine h h' tk' acc'.toList ?_ λb ob e=>hm.heap b ob (λhb=>?_) (oth b ob (NG (Nf e)) (kp2 _ _ (kp1 _ _ e)))
 ·have hts:(told w S ep es).size=es.size:=by have:=(nF w S ep es).length_eq;simpa using this
  apply O6
  intro i
  rw[Ng]
  by_cases hi:i < es.size
  ·have hi1:i < acc'.size:=by rw[hacc.1];exact hi
   have q:=hacc.2 i acc'[i] (NI hi1)
   rw[OI,OI,NI hi1]
   exact q.symm
  ·rw[OI,OI,Pt (by rw[hacc.1];omega),Pt (by omega)];rfl
 ·have hlt:=Nf e
  rcases M6.mp hb with z |z
  ·rw[z] at hlt;exact NR _ hlt
  ·rw[Nz.mp z,hHs] at hlt;exact absurd hlt (Nat.not_lt.mpr (Pd _))
end
end L2.ST
namespace OM
abbrev Pr:=Int×Int
def EJ (p q:Pr):Prop:=p.1 < q.1\/(p.1=q.1/\p.2 < q.2)
def jF (p:Pr):¬EJ p p:=by unfold EJ;omega
def Ah {p q r:Pr}(a:EJ p q)(b:EJ q r):EJ p r:=by unfold EJ at *;omega
abbrev we (l:List Pr):Prop:=l.Pairwise EJ
theorem iH:∀{l m:List Pr},we l->we m->(∀x,x∈l↔x∈m)->l=m
 | [],[],_,_,_=>rfl
 | [],b :: m,_,_,h=>absurd ((h b).mpr (Nb ..)) (by simp)
 |a :: l,[],_,_,h=>absurd ((h a).mp (Nb ..)) (by simp)
 |a :: l,b :: m,hl,hm,h=>by
  have hl':=Pq.mp hl
  have hm':=Pq.mp hm
  have e:a=b:=by
   rcases M6.mp ((h a).mp (Nb ..)) with e |e
   ·exact e
   ·rcases M6.mp ((h b).mpr (Nb ..)) with e' |e'
    ·exact e'.symm
    ·exact absurd (Ah (hm'.1 a e) (hl'.1 b e')) (jF _)
  subst e
  congr 1
  refine iH hl'.2 hm'.2 λx=>⟨λhx=>?_,λhx=>?_⟩
  ·rcases M6.mp ((h x).mp (M8 _ hx)) with e |e
   ·subst e;exact absurd (hl'.1 x hx) (jF _)
   ·exact e
  ·rcases M6.mp ((h x).mpr (M8 _ hx)) with e |e
   ·subst e;exact absurd (hm'.1 x hx) (jF _)
   ·exact e
def gN {l:List Pr}(h:we l):l.Nodup:=h.imp λ{a b} hab e=>by subst e;exact jF _ hab
def lL {l:List Pr}(p:Pr->Bool)(h:we l):we (l.filter p):=h.sublist PM
def eQ (n:Nat):List Pr:=(List.range (n * n)).map λk=>(((k / n:Nat):Int),((k % n:Nat):Int))
def cu {n:Nat}{p:Pr}:p∈eQ n↔(0<=p.1/\p.1 < n)/\(0<=p.2/\p.2 < n):=by
 unfold eQ
 rw[Nh]
 constructor
 ·rintro⟨k,hk,rfl⟩
  have hk:=Ny.mp hk
  have hn:0 < n:=by
   rcases Nat.eq_zero_or_pos n with e |e
   ·subst e;omega
   ·exact e
  have h1:k / n < n:=Nat.div_lt_of_lt_mul hk
  have h2:k % n < n:=Nat.mod_lt _ hn
  generalize k / n=q at h1
  generalize k % n=r at h2
  exact⟨⟨Int.natCast_nonneg _,by dsimp only;omega⟩,⟨Int.natCast_nonneg _,by dsimp only;omega⟩⟩
 ·rintro⟨⟨a0,a1⟩,⟨b0,b1⟩⟩
  have hn:0 < n:=by omega
  refine⟨p.1.toNat * n + p.2.toNat,Ny.mpr ?_,?_⟩
  ·have h1:p.1.toNat + 1<=n:=by omega
   have h2:p.2.toNat < n:=by omega
   have:=Nat.mul_le_mul_right n h1
   rw[Nat.add_mul] at this
   omega
  ·have h2:p.2.toNat < n:=by omega
   have e1:(p.1.toNat * n + p.2.toNat) / n=p.1.toNat:=by
    rw[Nat.mul_comm,Nat.mul_add_div hn,Nat.div_eq_of_lt h2];rfl
   have e2:(p.1.toNat * n + p.2.toNat) % n=p.2.toNat:=by
    rw[Nat.mul_comm,Nat.mul_add_mod,Nat.mod_eq_of_lt h2]
   rw[e1,e2]
   refine Prod.ext ?_ ?_ <;> dsimp only <;> omega
def mO (n:Nat):we (eQ n):=by
 unfold eQ
 refine N0.mpr (Ox ?_ List.pairwise_lt_range)
 intro a b ha hb hab
 have ha:=Ny.mp ha
 have hb:=Ny.mp hb
 have hn:0 < n:=by
  rcases Nat.eq_zero_or_pos n with e |e
  ·subst e;omega
  ·exact e
 have h1:a / n<=b / n:=Nat.div_le_div_right (Nat.le_of_lt hab)
 have e1:=Nat.div_add_mod a n
 have e2:=Nat.div_add_mod b n
 unfold EJ
 dsimp only
 rcases N7 (a / n) (b / n) with c |c
 ·left;omega
 ·right
  have e:a / n=b / n:=by omega
  rw[e] at e1
  omega
open Classical in
noncomputable def b4 (n:Nat)(R:Int->Int->Prop):List Pr:=(eQ n).filter λp=>decide (R p.1 p.2)
def a7 {n:Nat}{R:Int->Int->Prop}{p:Pr}:p∈b4 n R↔((0<=p.1/\p.1 < n)/\(0<=p.2/\p.2 < n))/\R p.1 p.2:=by
 unfold b4
 rw[NF,cu]
 simp
def de (n:Nat)(R:Int->Int->Prop):we (b4 n R):=lL _ (mO n)
def yf {n:Nat}{R S:Int->Int->Prop}(h:∀a b:Int,0<=a->a < n->0<=b->b < n->(R a b↔S a b)):b4 n R=b4 n S:=by
 refine iH (de n R) (de n S) λx=>?_
 rw[a7,a7]
 constructor
 ·rintro⟨⟨⟨a,b⟩,c,d⟩,r⟩;exact⟨⟨⟨a,b⟩,c,d⟩,(h _ _ a b c d).mp r⟩
 ·rintro⟨⟨⟨a,b⟩,c,d⟩,r⟩;exact⟨⟨⟨a,b⟩,c,d⟩,(h _ _ a b c d).mpr r⟩
def Wn (n:Nat)(l:List Pr):Prop:=∀p,p∈l->(0<=p.1/\p.1 < n)/\(0<=p.2/\p.2 < n)
abbrev Mem (l:List Pr)(a b:Int):Prop:=(a,b)∈l
def AA {n:Nat}{l:List Pr}(w:Wn n l)(r:we l):b4 n (Mem l)=l:=by
 refine iH (de n _) r λx=>?_
 rw[a7]
 exact⟨λh=>h.2,λh=>⟨w x h,h⟩⟩
def ug (n:Nat)(R:Int->Int->Prop):Wn n (b4 n R):=λ_ h=>(a7.mp h).1
def Bq (n:Nat)(R:Int->Int->Prop):(b4 n R).length<=n * n:=by
 unfold b4
 refine Oe (Ov ..) ?_
 unfold eQ;simp
inductive Tr (R:Int->Int->Prop):Int->Int->Prop
 |one {a b}:R a b->Tr R a b
 |more {a b c}:R a b->Tr R b c->Tr R a c
theorem Tr.trans {R:Int->Int->Prop}{a b c:Int}(h:Tr R a b)(k:Tr R b c):Tr R a c:=by
 induction h with
 |one r=>exact .more r k
 |more r _ ih=>exact .more r (ih k)
theorem Tr.least {R S:Int->Int->Prop}(f:∀a b,R a b->S a b)(t:∀a b c,S a b->S b c->S a c){a b:Int}(h:Tr R a b):S a b:=by
 induction h with
 |one r=>exact f _ _ r
 |more r _ ih=>exact t _ _ _ (f _ _ r) ih
structure Ord (n:Nat)(l:List Pr):Prop where
 lo:1<=n
 hi:n<=8
 wn:Wn n l
 ris:we l
 irr:∀a,(a,a)∉l
 tr:∀a b c,(a,b)∈l->(b,c)∈l->(a,c)∈l
def Ord.tr_mem {n:Nat}{l:List Pr}(O:Ord n l){a b:Int}:Tr (Mem l) a b↔(a,b)∈l:=
 ⟨λh=>h.least (λ_ _ r=>r) λa b c=>O.tr a b c,λh=>.one h⟩
def Ord.closed {n:Nat}{l:List Pr}(O:Ord n l):b4 n (Tr (Mem l))=l:=by
 rw[yf (S:=Mem l) λa b _ _ _ _=>O.tr_mem,AA O.wn O.ris]
def GZ {n:Nat}{l:List Pr}(h1:1<=n)(h8:n<=8)(w:Wn n l)(hr:∀a,¬Tr (Mem l) a a):Ord n (b4 n (Tr (Mem l))):=
 ⟨h1,h8,ug n _,de n _,λa h=>hr a (a7.mp h).2,λa b c h k=>a7.mpr ⟨⟨(a7.mp h).1.1,(a7.mp k).1.2⟩,(a7.mp h).2.trans (a7.mp k).2⟩⟩
theorem eY {l m:List Pr}(hl:l.Nodup)(h:∀x,x∈l->x∈m):l.length<=m.length:=by
 induction l generalizing m with
 |nil=>exact NQ _
 |cons a l ih=>
  have ha:=h a (Nb ..)
  have hl':=NP.mp hl
  have:=ih (m:=m.erase a) hl'.2 λx hx=>by
   refine (List.mem_erase_of_ne ?_).mpr (h x (M8 _ hx))
   rintro rfl;exact hl'.1 hx
  rw[PX ha] at this
  have:0 < m.length:=List.length_pos_of_mem ha
  simp only[NC];omega
def sub_eq {l m:List Pr}(hl:we l)(hm:we m)(h:∀x,x∈l->x∈m)(e:l.length=m.length):l=m:=by
 refine iH hl hm λx=>⟨h x,λhx=>Classical.byContradiction λhn=>?_⟩
 have:=eY (l:=x :: l) (m:=m) (NP.mpr ⟨hn,gN hl⟩) λy hy=>by
  rcases M6.mp hy with e |e
  ·subst e;exact hx
  ·exact h y e
 simp only[NC] at this
 omega
def more (l:List Pr):List Pr:=l.flatMap λp=>(l.filter λq=>decide (q.1=p.2)).map λq=>(p.1,q.2)
def qG {l:List Pr}{x:Pr}:x∈more l↔∃b,(x.1,b)∈l/\(b,x.2)∈l:=by
 unfold more
 rw[List.mem_flatMap]
 constructor
 ·rintro⟨p,hp,hx⟩
  obtain⟨q,hq,rfl⟩:=Nh.mp hx
  obtain⟨hq,e⟩:=NF.mp hq
  have e:q.1=p.2:=by simpa using e
  exact⟨p.2,hp,by rw[<-e];exact hq⟩
 ·rintro⟨b,h1,h2⟩
  exact⟨(x.1,b),h1,Nh.mpr ⟨(b,x.2),NF.mpr ⟨h2,by simp⟩,rfl⟩⟩
noncomputable def km (n:Nat)(l:List Pr):List Pr:=b4 n (Mem (l ++ more l))
structure Gr (n:Nat)(ps l:List Pr):Prop where
 wn:Wn n l
 ris:we l
 sub:∀x,x∈ps->x∈l
 sup:∀x,x∈l->Tr (Mem ps) x.1 x.2
def AJ {n:Nat}{ps:List Pr}(w:Wn n ps):Gr n ps (b4 n (Mem ps)):=
 ⟨ug n _,de n _,λx hx=>a7.mpr ⟨w x hx,hx⟩,λ_ hx=>.one (a7.mp hx).2⟩
def CP {n:Nat}{ps l:List Pr}(B:Gr n ps l):Wn n (l ++ more l):=λx hx=>by
 rcases Nw.mp hx with h |h
 ·exact B.wn x h
 ·obtain⟨b,h1,h2⟩:=qG.mp h
  exact⟨(B.wn _ h1).1,(B.wn _ h2).2⟩
def vK {n:Nat}{ps l:List Pr}(B:Gr n ps l):Gr n ps (km n l)/\∀x,x∈l->x∈km n l:=by
 have hs:∀x,x∈l->x∈km n l:=λx hx=>a7.mpr ⟨B.wn x hx,Of _ hx⟩
 refine⟨⟨ug n _,de n _,λx hx=>hs x (B.sub x hx),λx hx=>?_⟩,hs⟩
 rcases Nw.mp (a7.mp hx).2 with h |h
 ·exact B.sup _ h
 ·obtain⟨b,h1,h2⟩:=qG.mp h
  exact (B.sup _ h1).trans (B.sup _ h2)
def Bi {n:Nat}{ps l:List Pr}(B:Gr n ps l)(e:(km n l).length=l.length):km n l=b4 n (Tr (Mem ps)):=by
 obtain⟨B2,hs⟩:=vK B
 have q:l=km n l:=sub_eq B.ris B2.ris hs e.symm
 refine iH B2.ris (de n _) λx=>⟨λh=>a7.mpr ⟨B2.wn x h,B2.sup x h⟩,λh=>?_⟩
 rw[<-q]
 have tr:∀a b c:Int,(a,b)∈l->(b,c)∈l->(a,c)∈l:=λa b c h1 h2=>by
  rw[q]
  exact a7.mpr ⟨⟨(B.wn _ h1).1,(B.wn _ h2).2⟩,NJ _ (qG.mpr ⟨b,h1,h2⟩)⟩
 exact (a7.mp h).2.least (S:=Mem l) (λa b r=>B.sub _ r) tr
abbrev Tb:=Nat->Nat->Bool
def Tb.set (M:Tb)(a b:Nat):Tb:=λx y=>if x=a/\y=b then true else M x y
def FZ (M:Tb)(m:Nat):Prop:=∀k a b,k < m->M a k=true->M k b=true->M a b=true
def Phase (M0 M:Tb)(m:Nat)(D:Nat->Nat->Prop):Prop:=∀a b,M a b=true↔M0 a b=true\/(D a b/\M0 a m=true/\M0 m b=true)
def Phase.start (M:Tb)(m:Nat):Phase M M m λ_ _=>False:=λa b=>by simp
def Phase.row {M0 M:Tb}{m:Nat}{D:Nat->Nat->Prop}(P:Phase M0 M m D)(a:Nat):M a m=true↔M0 a m=true:=by
 rw[P]
 exact⟨λh=>h.elim id λh=>h.2.1,.inl⟩
def Phase.col {M0 M:Tb}{m:Nat}{D:Nat->Nat->Prop}(P:Phase M0 M m D)(b:Nat):M m b=true↔M0 m b=true:=by
 rw[P]
 exact⟨λh=>h.elim id λh=>h.2.2,.inl⟩
def Phase.step {M0 M:Tb}{m:Nat}{D:Nat->Nat->Prop}(P:Phase M0 M m D)(x y:Nat) :
  Phase M0 (if M x m=true/\M m y=true then M.set x y else M) m (λa b=>D a b\/(a=x/\b=y)):=λa b=>by
 have r:=P.row x
 have c:=P.col y
 by_cases h:M x m=true/\M m y=true
 ·rw[M7 h]
  unfold Tb.set
  by_cases e:a=x/\b=y
  ·rw[M7 e]
   obtain⟨rfl,rfl⟩:=e
   simp only[true_iff]
   exact .inr ⟨.inr (by simp),r.mp h.1,c.mp h.2⟩
  ·rw[Nd e,P]
   constructor
   ·rintro (q | ⟨d,q⟩)
    ·exact .inl q
    ·exact .inr ⟨.inl d,q⟩
   ·rintro (q | ⟨d |d,q⟩)
    ·exact .inl q
    ·exact .inr ⟨d,q⟩
    ·exact absurd d e
 ·rw[Nd h,P]
  constructor
  ·rintro (q | ⟨d,q⟩)
   ·exact .inl q
   ·exact .inr ⟨.inl d,q⟩
  ·rintro (q | ⟨d | ⟨rfl,rfl⟩,q1,q2⟩)
   ·exact .inl q
   ·exact .inr ⟨d,q1,q2⟩
   ·exact absurd ⟨r.mpr q1,c.mpr q2⟩ h
def Phase.done {M0 M:Tb}{m n:Nat}{D:Nat->Nat->Prop}(P:Phase M0 M m D)(hD:∀a b,a < n->b < n->D a b)(hM:∀a b,M0 a b=true->a < n/\b < n)(T:FZ M0 m) :
  FZ M (m + 1)/\∀a b,M a b=true->a < n/\b < n:=by
 have hM':∀a b,M a b=true->a < n/\b < n:=λa b h=>by
  rcases (P a b).mp h with q | ⟨_,q1,q2⟩
  ·exact hM a b q
  ·exact⟨(hM _ _ q1).1,(hM _ _ q2).2⟩
 have put:∀a b,M0 a m=true->M0 m b=true->M a b=true:=λa b h1 h2=>(P a b).mpr (.inr ⟨hD a b (hM _ _ h1).1 (hM _ _ h2).2,h1,h2⟩)
 refine⟨λk a b hk h1 h2=>?_,hM'⟩
 rcases N7 k m with c |c
 ·rcases (P a k).mp h1 with q1 | ⟨_,q1,q1'⟩
  ·rcases (P k b).mp h2 with q2 | ⟨_,q2,q2'⟩
   ·exact (P a b).mpr (.inl (T k a b c q1 q2))
   ·exact put a b (T k a m c q1 q2) q2'
  ·rcases (P k b).mp h2 with q2 | ⟨_,q2,q2'⟩
   ·exact put a b q1 (T k m b c q1' q2)
   ·exact put a b q1 q2'
 ·have e:k=m:=by omega
  subst e
  exact put a b ((P.row a).mp h1) ((P.col b).mp h2)
structure Tab (n:Nat)(ps:List Pr)(M:Tb):Prop where
 inn:∀a b,M a b=true->a < n/\b < n
 sub:∀a b:Nat,((a:Int),(b:Int))∈ps->M a b=true
 sup:∀a b:Nat,M a b=true->Tr (Mem ps) a b
def Tab.phase {n:Nat}{ps:List Pr}{M0 M:Tb}{m:Nat}{D:Nat->Nat->Prop}(T:Tab n ps M0)(P:Phase M0 M m D):Tab n ps M:=
 ⟨λa b h=>by
  rcases (P a b).mp h with q | ⟨_,q1,q2⟩
  ·exact T.inn a b q
  ·exact⟨(T.inn _ _ q1).1,(T.inn _ _ q2).2⟩,
  λa b h=>(P a b).mpr (.inl (T.sub a b h)),
  λa b h=>by
  rcases (P a b).mp h with q | ⟨_,q1,q2⟩
  ·exact T.sup a b q
  ·exact (T.sup _ _ q1).trans (T.sup _ _ q2)⟩
def Tab.all {n:Nat}{ps:List Pr}{M:Tb}(w:Wn n ps)(T:Tab n ps M)(H:FZ M n)(a b:Nat):M a b=true↔Tr (Mem ps) a b:=by
 refine⟨T.sup a b,λh=>?_⟩
 have key:∀{x y:Int},Tr (Mem ps) x y->M x.toNat y.toNat=true:=λ{x y} h=>by
  induction h with
  | @one x y r=>
   have:=w _ r
   refine T.sub _ _ ?_
   have e1:((x.toNat:Nat):Int)=x:=by simp only at this;omega
   have e2:((y.toNat:Nat):Int)=y:=by simp only at this;omega
   rw[e1,e2];exact r
  | @more x y z r _ ih=>
   have:=w _ r
   have e1:((x.toNat:Nat):Int)=x:=by simp only at this;omega
   have e2:((y.toNat:Nat):Int)=y:=by simp only at this;omega
   have q:M x.toNat y.toNat=true:=T.sub _ _ (by rw[e1,e2];exact r)
   exact H y.toNat _ _ (T.inn _ _ q).2 q ih
 have:=key h
 simpa using this
end OM
namespace L2.ST
open PySem PySem.SetTable PySem.W PyProof.Rows
section
variable {prog:Program}{w:World}{A:Around}{E:Value->Shared->Prop}{s:Shared}
def Ji {ps:List Pr}(hs:∀p,p∈ps->Sm p){ix:Array Nat}(P:L2.SO.Pm ps.length ix)(U:L2.SO.Up (rC ps) ix ps.length):OM.we (ix.toList.map λi=>ps.getD i (0,0)):=by
 refine N0.mpr (Pb.mpr λi j hi hj hij=>?_)
 have hi':i < ix.size:=by simpa using hi
 have hj':j < ix.size:=by simpa using hj
 have q:=U i j hij (by rw[<-P.sz];exact hj')
 unfold L2.SO.Kp rC at q
 have ei:ix.getD i 0=ix.toList[i]:=by simp[Array.getD,hi']
 have ej:ix.getD j 0=ix.toList[j]:=by simp[Array.getD,hj']
 rw[ei,ej] at q
 have ai:ix.toList[i] < ps.length:=P.lt _ (by simp)
 have aj:ix.toList[j] < ps.length:=P.lt _ (by simp)
 have bi:Sm (ps.getD ix.toList[i] (0,0)):=by rw[OF,M1 ai];exact hs _ (Oh ai)
 have bj:Sm (ps.getD ix.toList[j] (0,0)):=by rw[OF,M1 aj];exact hs _ (Oh aj)
 exact (zI bi bj).mp q
def Ho {n:Nat}{ix:Array Nat}(P:L2.SO.Pm n ix){k:Nat}(hk:k < n):k∈ix.toList:=by
 refine Classical.byContradiction λhn=>?_
 have:=bw (l:=k :: ix.toList) (m:=List.range n) (NP.mpr ⟨hn,P.nd⟩) λx hx=>by
  rcases M6.mp hx with e |e
  ·rw[e];exact Ny.mpr hk
  ·exact Ny.mpr (P.lt x (by simpa using e))
 simp[P.sz] at this
 omega
theorem JU {h:Heap}{vs:List Value}{ps:List Pr}(hps:cU prog w h vs ps){ix:Array Nat}(P:L2.SO.Pm vs.length ix) :
  cU prog w h (ix.toList.map λi=>vs.getD i Value.none) (ix.toList.map λi=>ps.getD i (0,0)):=by
 refine⟨by simp,λi v p h1 h2=>?_⟩
 rw[Ng] at h1 h2
 cases e:ix.toList[i]? with
 |none=>rw[e] at h1;cases h1
 |some k=>
  rw[e] at h1 h2
  have hk:k < vs.length:=P.lt k (by simpa using Nm e)
  have hk':k < ps.length:=by rw[<-hps.1];exact hk
  simp[hk,hk'] at h1 h2
  exact hps.2 k v p (by rw[M1 hk,h1]) (by rw[M1 hk',h2])
def As {v:Value}{vs:List Value}{ps:List Pr}{Q:Value->Shared->Prop}(hps:cU prog w s.heap vs ps)(nd:ps.Nodup)(h64:vs.length < 64)
  (hcol:∀(Q':List Value->Shared->Prop),(∀h' tk,(∀b o,s.heap.get? b=some o->h'.get? b=some o)->Q' vs {s with heap:=h',toks:=tk})->wpAny (model prog w) A.in1 (collect v) Q' (λe s'=>E e s') s)
  (h:∀(h1 h':Heap) (tk:Nat) (D:Addr) (out:List Value) (qs:List Pr) (c:Nat),(∀b o,s.heap.get? b=some o->h1.get? b=some o)->D=h1.objs.size->(∀b o,h1.get? b=some o->h'.get? b=some o)->h'.get? D=some (seqObj "list" out.toArray c)->cU prog w h' out qs->(∀u,u∈out->u∈vs)->OM.we qs->(∀p,p∈qs↔p∈ps)->
   Q (.ref D) {s with heap:=h',toks:=tk}):wpAny (model prog w) A (call (.builtin "sorted") [v]) Q E s:=by
 have hsm:∀p,p∈ps->Sm p:=λp hp=>by
  obtain⟨i,hi,e⟩:=NL.mp hp
  have hi':i < vs.length:=by rw[hps.1];exact hi
  obtain⟨_,_,_,hs⟩:=hps.2 i vs[i] p (M1 hi') (by rw[M1 hi,e])
  exact hs
 (refine PR kind_sorted plain_sorted entry_sorted (args_sorted1 _) ?_)
 unfold Builtin.«sorted»
 refine MZ (m:=checkCount "sorted" 1 1 ([v]:List Value).length) (M5 ?_)
 refine MZ (hcol _ λh1 tk1 k1=>?_)
 have hz:vs.length<=sizeLine:=by rw[NA];omega
 refine MZ (PL ?_ hz)
 show wpAny _ _ _ _ _ {s with heap:=h1.push (seqObj "list" vs.toArray 0),toks:=tk1}
 have hoL:(h1.push (seqObj "list" vs.toArray 0)).get? h1.objs.size=some (seqObj "list" vs.toArray 0):=Nk _ rfl
 have kp:∀b o,s.heap.get? b=some o->(h1.push (seqObj "list" vs.toArray 0)).get? b=some o:=λb o e=>M4 _ (k1 b o e)
 have hp1:cU prog w (h1.push (seqObj "list" vs.toArray 0)) vs ps:=⟨hps.1,λi v p a b=>by
  obtain⟨c,e,⟨o,it,n,ho,r⟩,hs⟩:=hps.2 i v p a b
  exact⟨c,e,⟨o,it,n,kp _ _ ho,r⟩,hs⟩⟩
 have hne:∀b o,s.heap.get? b=some o->b≠h1.objs.size:=λb o e=>NG (Nf (k1 b o e))
 refine MZ (N6 (OX slot_list_sort ⟨_,hoL,rfl⟩ entry_list_sort ?_ (args_list_sort _)))
 refine u7 (s:={s with heap:=h1.push (seqObj "list" vs.toArray 0),toks:=tk1}) hoL hp1 nd h64 λh' c ix P U hk ho=>?_
 refine⟨_,rfl,M5 ⟨_,rfl,?_⟩⟩
 have kk:∀b o,s.heap.get? b=some o->h'.get? b=some o:=λb o e=>hk b o (hne b o e) (kp b o e)
 have P':L2.SO.Pm ps.length ix:=by rw[<-hps.1];exact P
 have k2:∀b o,h1.get? b=some o->h'.get? b=some o:=λb o e=>hk b o (NG (Nf e)) (M4 _ e)
 refine h h1 h' tk1 h1.objs.size _ (ix.toList.map λi=>ps.getD i (0,0)) c k1 rfl k2 ho (JU ⟨hps.1,λi v p a b=>?_⟩ P) (λu hu=>?_) (Ji hsm P' (by rw[<-hps.1];exact U)) λp=>⟨λhp=>?_,λhp=>?_⟩
 ·obtain⟨c,e,⟨o,it,n,ho,r⟩,hs⟩:=hps.2 i v p a b
  exact⟨c,e,⟨o,it,n,kk _ _ ho,r⟩,hs⟩
 ·obtain⟨i,hi,rfl⟩:=Nh.mp hu
  have:i < vs.length:=P.lt i (by simpa using hi)
  rw[OF,M1 this]
  exact Oh this
 ·obtain⟨i,hi,rfl⟩:=Nh.mp hp
  have:i < ps.length:=P'.lt i (by simpa using hi)
  rw[OF,M1 this]
  exact Oh this
 ·obtain⟨i,hi,e⟩:=NL.mp hp
  refine Nh.mpr ⟨i,Ho P' hi,?_⟩
  rw[OF,M1 hi,e];rfl
end
end L2.ST
namespace L2
open PySem PySem.Spec PyProof.Rows
abbrev Pr:=Int×Int
abbrev Sm:=L2.ST.Sm
section
variable {X:Cx}{pins:List (Addr×Obj)}{σ:St}{H H':Hp}{s:Shared}
def ie (H H':Hp):Prop:=(∀b xs,H b=some (.tup xs)->H' b=some (.tup xs))/\∀b o u,H b=some (.aS o u)->H' b=some (.aS o u)
def ie.trans {H H1 H2:Hp}(a:ie H H1)(b:ie H1 H2):ie H H2:=⟨λc xs h=>b.1 c xs (a.1 c xs h),λc o u h=>b.2 c o u (a.2 c o u h)⟩
def ak.grow {H H':Hp}(e:ak H H'):ie H H':=⟨λb xs h=>e b _ h,λb o u h=>e b _ h⟩
def ie.new {H:Hp}{l:Addr}{o:HO}(h:H l=none):ie H (upd H l o):=⟨λb xs e=>by rw[au (aB e h)];exact e,λb o' u e=>by rw[au (aB e h)];exact e⟩
def ak.new {H:Hp}{l:Addr}{o:HO}(h:H l=none):ak H (upd H l o):=λb u e=>Kt.of (by rw[au (aB e h)];exact e)
def fS.grow {K:Frag}{a:Addr}{xs:List V}(h:fS K H a xs)(g:ie H H'):fS K H' a xs:=by
 rcases h with (h | ⟨o,h⟩) |h
 ·exact .inl (.inl (g.1 _ _ h))
 ·exact .inl (.inr ⟨o,g.2 _ _ _ h⟩)
 ·exact .inr h
def ie.list {a:Addr}{ys:List V}{o:HO}(h:H a=some (.lst ys)):ie H (upd H a o):=
 ⟨λb xs e=>by rw[au (GG e h (by intro z;cases z))];exact e,λb o' u e=>by rw[au (GG e h (by intro z;cases z))];exact e⟩
theorem qZ {α β:Type}{f:α->β}:∀{l:List α} {m:List β},m.Perm (l.map f)->∃l':List α,m=l'.map f/\l'.Perm l:=by
 intro l m h
 generalize hk:l.map f=k at h
 induction h generalizing l with
 |nil=>
  have:l= []:=by simpa using hk
  exact⟨[],rfl,by rw[this]⟩
 | @cons x m1 m2 _ ih=>
  cases l with
  |nil=>cases hk
  |cons a l=>
   simp only[NO,List.cons.injEq] at hk
   obtain⟨l',e,p⟩:=ih hk.2
   exact⟨a :: l',by rw[NO,hk.1,e],p.cons a⟩
 |swap x y m1=>
  cases l with
  |nil=>cases hk
  |cons a l=>
   cases l with
   |nil=>simp at hk
   |cons b l=>
    simp only[NO,List.cons.injEq] at hk
    exact⟨b :: a :: l,by rw[NO,NO,hk.1,hk.2.1,hk.2.2],List.Perm.swap ..⟩
 |trans _ _ ih1 ih2=>
  obtain⟨l1,e1,p1⟩:=ih2 hk
  obtain⟨l2,e2,p2⟩:=ih1 e1.symm
  exact⟨l2,e2,p2.trans p1⟩
def aO (K:Frag)(H:Hp):List V->List Pr->Prop:=Paired λv p=>∃a,v=.ref a/\fS K H a [.int p.1,.int p.2]
def aO.grow {K:Frag}{vs:List V}{ps:List Pr}(h:aO K H vs ps)(g:ie H H'):aO K H' vs ps:=Paired.mapP h λv p ⟨a,e,q⟩=>⟨a,e,q.grow g⟩
theorem Paired.getP {α β:Type}{F:α->β->Prop}:∀{l:List α} {m:List β} {i:Nat} {x:α},Paired F l m->l[i]? =some x->∃y,m[i]? =some y/\F x y
 |_,_,_,_,.nil,e=>by simp at e
 |_,_,0,_,.cons r _,e=>by simp at e;subst e;exact⟨_,rfl,r⟩
 |_,_,i + 1,x,.cons _ t,e=>by
  obtain⟨u,h1,h2⟩:=Paired.getP (i:=i) (x:=x) t (by simpa using e)
  exact⟨u,by simpa using h1,h2⟩
theorem Paired.getQ {α β:Type}{F:α->β->Prop}:∀{l:List α} {m:List β} {i:Nat} {y:β},Paired F l m->m[i]? =some y->∃x,l[i]? =some x/\F x y
 |_,_,_,_,.nil,e=>by simp at e
 |_,_,0,_,.cons r _,e=>by simp at e;subst e;exact⟨_,rfl,r⟩
 |_,_,i + 1,x,.cons _ t,e=>by
  obtain⟨u,h1,h2⟩:=Paired.getQ (i:=i) (y:=x) t (by simpa using e)
  exact⟨u,by simpa using h1,h2⟩
theorem tO (I:Inv X pins σ H s){a:Addr}{p:Pr}(h:fS X.K H a [.int p.1,.int p.2]):L2.ST.bJ X.prog X.w s.heap p a:=by
 obtain⟨its,r,⟨o,ho,hc,n,hd⟩,_⟩:=I.tuple h
 cases r with
 |cons r1 r=>
  cases r with
  |cons r2 r=>
   cases r
   obtain⟨t1,rfl⟩:=r1
   obtain⟨t2,rfl⟩:=r2
   exact⟨o,_,n,ho,hc,hd,.cons (intKind_is ..) (.cons (intKind_is ..) .nil)⟩
def pairs_at (I:Inv X pins σ H s){vs:List V}{us:List Value}{ps:List Pr}(hv:Vals vs us)(h:aO X.K H vs ps)(hs:∀p,p∈ps->Sm p):L2.ST.cU X.prog X.w s.heap us ps:=by
 refine⟨by rw[<-hv.length];exact Paired.length h,λi u p e1 e2=>?_⟩
 obtain⟨v,ev,a,rfl,q⟩:=Paired.getQ h e2
 obtain⟨u',eu,ru⟩:=hv.get ev
 rw[e1] at eu;cases eu
 cases ru
 exact⟨a,rfl,tO I q,hs p (Nm e2)⟩
theorem qH (I:Inv X pins σ H s){vs:List V}{us:List Value}{ps:List Pr}(hv:Vals vs us)(h:aO X.K H vs ps){h':Heap}(k:∀b o,s.heap.get? b=some o->h'.get? b=some o):∀{out:List Value} {qs:List Pr},
  (∀u,u∈out->u∈us)->L2.ST.cU X.prog X.w h' out qs->∃ws,Vals ws out/\aO X.K H ws qs
 | [],[],_,_=>⟨[],.nil,.nil⟩
 | [],_ :: _,_,hp=>by have:=hp.1;simp at this
 |_ :: _,[],_,hp=>by have:=hp.1;simp at this
 |u :: out,q :: qs,hm,hp=>by
  obtain⟨ws,a1,a2⟩:=qH I hv h k (out:=out) (qs:=qs) (λx hx=>hm x (M8 _ hx)) ⟨by have:=hp.1;simpa using this,λi v p e1 e2=>hp.2 (i + 1) v p (by simpa using e1) (by simpa using e2)⟩
  obtain⟨i,hi,e⟩:=NL.mp (hm u (Nb ..))
  have hi':i < vs.length:=by rw[hv.length];exact hi
  obtain⟨u',eu,ru⟩:=hv.get (M1 hi')
  rw[M1 hi,e] at eu
  cases eu
  obtain⟨p,ep,a,ea,qa⟩:=Paired.getP h (M1 hi')
  rw[ea] at ru
  cases ru
  obtain⟨b,eb,hb,_⟩:=hp.2 0 (.ref a) q rfl rfl
  cases eb
  have pa:L2.ST.bJ X.prog X.w h' p a:=by
   obtain⟨o,it,n,ho,r⟩:=tO I qa
   exact⟨o,it,n,k _ _ ho,r⟩
  have:p=q:=L2.ST.bJ.inj pa hb
  subst this
  exact⟨.ref a :: ws,.cons rfl a1,.cons ⟨a,rfl,qa⟩ a2⟩
def yc (I:Inv X pins σ H s){vs:List V}{us:List Value}{ps:List Pr}(hv:Vals vs us)(hp:aO X.K H vs ps)(hlen:ps.length < 64){Q:VK}
  (q:∀l ws qs,H l=none->aO X.K H ws qs->OM.we qs->(∀p,p∈qs↔p∈ps)->Q (.ref l) (upd H l (.lst ws)))
  {h1 h':Heap} {tk:Nat} {D:Addr} {out:List Value} {qs:List Pr} {c:Nat} (k1:∀b o,s.heap.get? b=some o->h1.get? b=some o) (eD:D=h1.objs.size) (k2:∀b o,h1.get? b=some o->h'.get? b=some o)
  (ho:h'.get? D=some (seqObj "list" out.toArray c)) (hpq:L2.ST.cU X.prog X.w h' out qs) (hm:∀u,u∈out->u∈us) (hr:OM.we qs) (hmem:∀p,p∈qs↔p∈ps):EP X pins σ Q (.ref D) {s with heap:=h',toks:=tk}:=by
 obtain⟨ws,r1,r2⟩:=qH I hv hp (λb o e=>k2 b o (k1 b o e)) hm hpq
 have I1:Inv X pins σ H {s with heap:=h1,toks:=tk}:=I.kept k1
 have hf:H D=none:=by rw[eD];exact I1.hok.fresh (M9 _)
 have hz:ws.length<=sizeLine:=by
  have e1:=r1.length
  have e2:out.length=qs.length:=hpq.1
  have e3:=OM.eY (OM.gN hr) λx hx=>(hmem x).mp hx
  rw[NA];omega
 have I2:Inv X pins σ (upd H D (.lst ws)) {s with heap:=h',toks:=tk}:=I1.laid (t':=tk) k2 (by rw[eD];exact M9 _) (show bA X.prog X.w _ h' _ (.lst ws) from⟨hz,out,c,r1,ho⟩)
 exact⟨.ref D,_,I2,rfl,q D ws qs hf r2 hr hmem⟩
abbrev vq (qs:List (Addr×Pr)):List V:=qs.map λq=>V.ref q.1
abbrev pq (qs:List (Addr×Pr)):List Pr:=qs.map (·.2)
def GF (prog:Program)(w:World)(S:Addr)(qs:List (Addr×Pr))(h:Heap):Prop:=∃o ep t,h.get? S=some o/\o.ExactSet/\o.data=.set (qs.map λq=>(L2.ST.Ba prog w q.2,Value.ref q.1)).toArray ep t/\L2.ST.Tab t (qs.map λq=>L2.ST.Ba prog w q.2)/\t.led=L2.ST.dY w
def AQ (prog:Program)(w:World)(S:Addr)(qs:List (Addr×Pr)):HO:=.ext (GF prog w S qs)
def JY (P:Program)(w:World)(K:Frag):List V->Hp->VK->Prop:=λxs H Q=>∃a vs ps,xs= [.ref a]/\(dZ K H a vs\/fS K H a vs)/\aO K H vs ps/\(∀p,p∈ps->Sm p)/\
 ∀S qs,H S=none->aO K H (vq qs) (pq qs)->(pq qs).Nodup->(∀p,p∈pq qs↔p∈ps)->Q (.ref S) (upd H S (AQ P w S qs))
def BE (hc:X.calm=true)(hu:X.A.units + 64 < cLine):cg X (.type "set") (JY X.prog X.w X.K):=by
 intro pins s σ H xs us Q I r h
 obtain⟨a,vs,ps,rfl,hq,hp,hs,q⟩:=h
 obtain⟨u,rfl,rx⟩:=vals1 r
 cases rx
 have hh:=I.ok.hd hc
 have core:∀{its:List Value} {T:String} {itO:Obj} {St:Addr->Nat->Heap->Prop},Vals vs its->L2.ST.Src X.prog X.w s.heap a its T itO St->wpAny (model X.prog X.w) X.A (call (.type "set") [.ref a]) (EP X pins σ Q) X.xe s:=λ{its T itO St} rv src=>by
  refine L2.ST.pA src hh hu (pairs_at I rv hp hs) λh' tk F k=>?_
  obtain⟨qs,P1,P2,P3⟩:=F
  have hlen:its.length=vs.length:=rv.length.symm
  have back:∀qv:Addr×Pr,qv∈qs->∃b,b=qv.1/\fS X.K H b [.int qv.2.1,.int qv.2.2]:=λqv hqv=>by
   obtain⟨i,hi,e⟩:=NL.mp (OL (P2 qv hqv).1)
   have hi':i < vs.length:=by rw[<-hlen];exact hi
   obtain⟨u',eu,ru⟩:=rv.get (M1 hi')
   rw[M1 hi,e] at eu
   cases eu
   obtain⟨p,ep,b,eb,qb⟩:=Paired.getP hp (M1 hi')
   rw[eb] at ru
   cases ru
   have pa:L2.ST.bJ X.prog X.w h' p qv.1:=by
    obtain⟨o,it,n,ho,r⟩:=tO I qb
    exact⟨o,it,n,k _ _ ho,r⟩
   have:p=qv.2:=L2.ST.bJ.inj pa (P1.at' qv hqv).1
   subst this
   exact⟨_,rfl,qb⟩
  have hpv:∀{l:List (Addr×Pr)},(∀x,x∈l->x∈qs)->aO X.K H (vq l) (pq l):=λ{l}=>by
   induction l with
   |nil=>intro _;exact .nil
   |cons y l ih=>
    intro hl
    obtain⟨b,eb,qb⟩:=back y (hl y (Nb ..))
    subst eb
    exact .cons ⟨_,rfl,qb⟩ (ih λx hx=>hl x (M8 _ hx))
  have hmem:∀p,p∈pq qs↔p∈ps:=λp=>by
   have hpl:ps.length=its.length:=by rw[hlen];exact (Paired.length hp).symm
   constructor
   ·intro hx
    obtain⟨qv,hqv,rfl⟩:=Nh.mp hx
    exact OL (P2 qv hqv).2
   ·intro hx
    exact P3 p (by rw[<-hpl,OE (M9 _)];exact hx)
  have hf:H s.heap.objs.size=none:=I.hok.fresh (M9 _)
  obtain⟨o,ep,t,ho,r1⟩:=P1.ex
  have new:bA X.prog X.w (upd H s.heap.objs.size (AQ X.prog X.w s.heap.objs.size qs)) h' s.heap.objs.size (AQ X.prog X.w s.heap.objs.size qs):=
   ⟨⟨o,ep,t,ho,r1⟩,⟨o,ho⟩,λh1 h2 ⟨o1,ep1,t1,g1,g2⟩ kk=>⟨o1,ep1,t1,kk _ g1,g2⟩⟩
  exact⟨.ref _,_,I.laid (t':=tk) k (M9 _) new,rfl,q _ qs hf (hpv λx hx=>hx) P1.nd hmem⟩
 rcases hq with hq |hq
 ·obtain⟨its,rv,pl,hz⟩:=I.list hq
  exact core rv (L2.ST.Src.list pl.isList)
 ·obtain⟨its,rv,pl,hz⟩:=I.tuple hq
  exact core rv (L2.ST.Src.tuple pl)
def wH (P:Program)(w:World)(K:Frag):List V->Hp->VK->Prop:=λxs H Q=>∃S qs,xs= [.ref S]/\H S=some (AQ P w S qs)/\aO K H (vq qs) (pq qs)/\(∀p,p∈pq qs->Sm p)/\(pq qs).Nodup/\qs.length < 64/\
 ∀l ws rs,H l=none->aO K H ws rs->OM.we rs->(∀p,p∈rs↔p∈pq qs)->Q (.ref l) (upd H l (.lst ws))
def uF (hc:X.calm=true):cg X (.builtin "sorted") (wH X.prog X.w X.K):=by
 intro pins s σ H xs us Q I r h
 obtain⟨S,qs,rfl,hS,hp,hs,nd,hl,q⟩:=h
 obtain⟨u,rfl,rx⟩:=vals1 r
 cases rx
 have hh:=I.ok.hd hc
 obtain⟨⟨o,ep,t,ho,hex,hd,T,hled⟩,_,_⟩:GF X.prog X.w S qs s.heap/\_:=I.hok S _ hS
 have T':L2.ST.Tab t ((qs.map λq=>(L2.ST.Ba X.prog X.w q.2,Value.ref q.1)).toArray.toList.map (·.1)):=by
  rw[Oa,PH];exact T
 have htp:=L2.ST.nF X.w S ep (qs.map λq=>(L2.ST.Ba X.prog X.w q.2,Value.ref q.1)).toArray
 have hmem:∀x,x∈(L2.ST.told X.w S ep (qs.map λq=>(L2.ST.Ba X.prog X.w q.2,Value.ref q.1)).toArray).toList->∃q,q∈qs/\x=(L2.ST.Ba X.prog X.w q.2,Value.ref q.1):=λx hx=>by
  have:=htp.mem_iff.mp hx
  simp only[Oa] at this
  obtain⟨q,hq,e⟩:=Nh.mp this
  exact⟨q,hq,e.symm⟩
 obtain⟨q2,e2,p2⟩:∃q2:List (Addr×Pr),(L2.ST.told X.w S ep (qs.map λq=>(L2.ST.Ba X.prog X.w q.2,Value.ref q.1)).toArray).toList=q2.map (λq=>(L2.ST.Ba X.prog X.w q.2,Value.ref q.1))/\q2.Perm qs:=by
  have:=htp
  simp only[Oa] at this
  exact qZ this
 have hp2:aO X.K H (vq q2) (pq q2):=by
  have key:∀{l:List (Addr×Pr)},(∀x,x∈l->x∈qs)->aO X.K H (vq l) (pq l):=λ{l}=>by
   induction l with
   |nil=>intro _;exact .nil
   |cons y l ih=>
    intro hl
    obtain⟨i,hi,e⟩:=NL.mp (hl y (Nb ..))
    obtain⟨p,ep',a,ea,qa⟩:=Paired.getP (l:=vq qs) (m:=pq qs) (i:=i) (x:=.ref y.1) hp (by simp[hi,e])
    have:p=y.2:=by simp[hi,e] at ep';exact ep'.symm
    subst this
    exact .cons ⟨a,ea,qa⟩ (ih λx hx=>hl x (M8 _ hx))
  exact key λx hx=>p2.mem_iff.mp hx
 have hv2:Vals (vq q2) (q2.map λq=>Value.ref q.1):=by
  induction q2 with
  |nil=>exact .nil
  |cons y l ih=>exact .cons rfl (by
    clear ih e2 p2 hp2
    induction l with
    |nil=>exact .nil
    |cons z l ih2=>exact .cons rfl ih2)
 have hm2:∀p,p∈pq q2↔p∈pq qs:=λp=>(p2.map (·.2)).mem_iff
 have hpa:=pairs_at I hv2 hp2 λp hpp=>hs p ((hm2 p).mp hpp)
 have hl2:q2.length < 64:=by rw[p2.length_eq];exact hl
 refine L2.ST.As (v:=.ref S) hpa ((p2.map (·.2)).nodup_iff.mpr nd) (by simpa using hl2) (λQ' hQ'=>L2.ST.oi (by simpa using hh) ho hd hex.1 T' hled (by simp;omega) λh' tk vs ev k=>?_) λh1 h' tk D out qs' c k1 eD k2 ho' hpq hm hr hmem'=>?_
 ·rw[ev,e2]
  rw[PH]
  exact hQ' h' tk k
 ·exact yc I hv2 hp2 (by simpa using hl2) (λl ws rs a1 a2 a3 a4=>q l ws rs a1 a2 a3 λp=>(a4 p).trans (hm2 p)) k1 eD k2 ho' hpq hm hr hmem'
end
def nq (cells:List (Str×Addr)):List (Str×NameKind)->List (Str×Addr)->List (Str×Addr)
 | [],cs=>cs
 | (n,k) :: r,cs=>nq cells r (if k == .free then (n,(cells.lookup n).getD 0) :: cs else cs)
def qz {scope:Scope}{env:Env}(h:∀y∈scope.names,y.2=.free->∃c,env.cells.lookup y.1=some c):closureFor scope env=pure (nq env.cells scope.names []):=by
 unfold closureFor
 have key:∀(l:List (Str×NameKind)) (cs:List (Str×Addr)),(∀y∈l,y.2=.free->∃c,env.cells.lookup y.1=some c)->
   (forIn l cs (λ(x:Str×NameKind) (r:List (Str×Addr))=>if (x.2 == NameKind.free)=true then (do let a <-cellOf env x.1;pure (ForInStep.yield ((x.1,a) :: r)):Sem _) else pure (ForInStep.yield r)):Sem (List (Str×Addr)))=pure (nq env.cells l cs):=by
  intro l
  induction l with
  |nil=>intro cs _;rfl
  |cons y l ih=>
   intro cs hy
   obtain⟨n,k⟩:=y
   rw[List.forIn_cons]
   unfold nq
   by_cases hk:(k == NameKind.free)=true
   ·have hk':k=.free:=by simpa using hk
    obtain⟨c,hc⟩:=hy (n,k) (Nb ..) hk'
    have hce:cellOf env n=pure c:=by unfold cellOf;rw[hc]
    simp only[hk,Ob]
    have hc':env.cells.lookup n=some c:=hc
    rw[hce,hc']
    simp only[pure_bind,Option.getD_some]
    exact ih _ λz hz=>hy z (M8 _ hz)
   ·simp only[hk,NT,Nr]
    simp only[pure_bind]
    exact ih _ λz hz=>hy z (M8 _ hz)
 have:=key scope.names [] h
 simp only[bind_pure_comp] at this ⊢
 first
  |exact this
  | (rw[this];rfl)
  | (simpa using this)
theorem nK {cells:List (Str×Addr)}{x:Str}:∀{l:List (Str×NameKind)} {cs:List (Str×Addr)},((x,NameKind.free)∈l\/cs.lookup x=some ((cells.lookup x).getD 0))->(nq cells l cs).lookup x=some ((cells.lookup x).getD 0)
 | [],cs,h=>by
  rcases h with h |h
  ·cases h
  ·exact h
 | (n,k) :: r,cs,h=>by
  unfold nq
  refine nK ?_
  by_cases hk:(k == NameKind.free)=true
  ·rw[M7 hk]
   by_cases hx:x=n
   ·subst hx;right;simp
   ·rcases h with h |h
    ·rcases M6.mp h with e |e
     ·injection e with e1 _;exact absurd e1 hx
     ·exact .inl e
    ·right
     rw[Pf,show (x == n)=false by simpa using hx]
     exact h
  ·rw[Nd hk]
   rcases h with h |h
   ·rcases M6.mp h with e |e
    ·injection e with _ e2;exact absurd (by rw[<-e2];rfl) hk
    ·exact .inl e
   ·exact .inr h
theorem nQ {cells:List (Str×Addr)}{x:Str}{c:Addr}:∀{l:List (Str×NameKind)} {cs:List (Str×Addr)},(nq cells l cs).lookup x=some c->((x,NameKind.free)∈l/\c=(cells.lookup x).getD 0)\/cs.lookup x=some c
 | [],cs,h=>.inr h
 | (n,k) :: r,cs,h=>by
  unfold nq at h
  rcases nQ h with⟨a,b⟩ |a
  ·exact .inl ⟨M8 _ a,b⟩
  ·by_cases hk:(k == NameKind.free)=true
   ·rw[M7 hk,Pf] at a
    by_cases hx:x=n
    ·subst hx
     simp at a
     have:k=.free:=by simpa using hk
     subst this
     exact .inl ⟨Nb ..,a.symm⟩
    ·rw[show (x == n)=false by simpa using hx] at a
     exact .inr a
   ·rw[Nd hk] at a
    exact .inr a
theorem nV {f:Str->NameKind->NameKind}{x:Str}:∀(l:List (Str×NameKind)),(l.map λy=>(y.1,f y.1 y.2)).lookup x=(l.lookup x).map (f x)
 | []=>rfl
 | (n,k) :: l=>by
  rw[NO,Pf,Pf]
  by_cases hx:x=n
  ·subst hx;simp
  ·have hb:(x == n)=false:=by simpa using hx
   simp only[hb]
   exact nV l
def pM (scope:Scope)(env:Env)(x:Str):(relabel scope env).names.lookup x=(scope.names.lookup x).map λk=>if (k == .free && env.scope.kind == .function && env.kindOf x == some .cell) then .cell else k:=by
 have e:(relabel scope env).names=scope.names.map λy=>(y.1,if (y.2 == .free && env.scope.kind == .function && env.kindOf y.1 == some .cell) then .cell else y.2):=by
  unfold relabel
  dsimp only
  refine OD λy _=>?_
  obtain⟨n,k⟩:=y
  dsimp only
  split <;> rfl
 rw[e]
 exact nV (f:=λn k=>if (k == .free && env.scope.kind == .function && env.kindOf n == some .cell) then .cell else k) scope.names
def iO (X:Cx)(NB:List Str)(scope:Scope)(C:Addr)(ex:List Addr)(s3:Shared)(H3:Hp)(pn:List (Addr×Obj)):Cx:=
 {X with N:=NB,s₀:=s3,H₀:=H3,env:=compEnvC scope (nq X.env.cells scope.names []) C X.env,outer:=X.stack,ex:=ex,fn:=λ_=>false,pn:=pn,xe:=λ_ _=>False}
def cT (own:Nat)(ixs:List Nat)(σ:St):St:=List.replicate own none ++ ixs.map λi=>(σ[i]?).join
structure cO (X:Cx)(NB:List Str)(own:Nat)(ixs:List Nat)(scope:Scope):Prop where
 kind:scope.kind=.function
 nocell:∀y∈scope.names,y.2≠.cell
 names:∀y∈scope.names,scope.names.lookup y.1=some y.2
 frees:∀y∈scope.names,y.2=.free->X.env.kindOf y.1=some .cell\/X.env.kindOf y.1=some .free
 nd:NB.Nodup
 len:NB.length=own + ixs.length
 at':∀k,k < ixs.length->NB[own + k]? =X.N[ixs.getD k 0]?/\∀x,NB[own + k]? =some x->(x,NameKind.free)∈scope.names
section
variable {X:Cx}{NB:List Str}{own:Nat}{ixs:List Nat}{scope:Scope}{pins:List (Addr×Obj)}{σ:St}{H:Hp}{s:Shared}
def Ay (S:cO X NB own ixs scope)(I:Inv X pins σ H s){fp:List Addr}(hfp:∀b∈fp,oQ X pins H b)(hob:∀b∈fp,∃o,s.heap.get? b=some o){h1:Heap}{tk:Nat}
  (hn:h1.Ns s.heap.objs.size (λ_=>none)) (hk:∀b o,s.heap.get? b=some o->h1.get? b=some o) :
  Inv (iO X NB scope s.heap.objs.size fp s H (X.pn ++ pins)) [] (cT own ixs σ) H {s with heap:=h1,toks:=tk}:=by
 have stk:=I.stack
 have frees:∀{x:Str},(x,NameKind.free)∈scope.names->∃c,X.env.cells.lookup x=some c:=λ{x} hx=>I.ok.has x (S.frees _ hx rfl)
 have clE:∀{x:Str} {c:Addr},(nq X.env.cells scope.names []).lookup x=some c->(x,NameKind.free)∈scope.names/\X.env.cells.lookup x=some c:=λ{x c} h=>by
  rcases nQ h with⟨a,b⟩ |a
  ·obtain⟨c',e⟩:=frees a
   rw[e] at b
   exact⟨a,by rw[e,b];rfl⟩
  ·simp at a
 have kindB:∀x,(iO X NB scope s.heap.objs.size fp s H (X.pn ++ pins)).env.kindOf x=(scope.names.lookup x).map λk=>if (k == .free && X.env.scope.kind == .function && X.env.kindOf x == some .cell) then .cell else k:=λx=>pM scope X.env x
 have isFree:∀{x:Str},((iO X NB scope s.heap.objs.size fp s H (X.pn ++ pins)).env.kindOf x=some .cell\/(iO X NB scope s.heap.objs.size fp s H (X.pn ++ pins)).env.kindOf x=some .free)->(x,NameKind.free)∈scope.names:=λ{x} h=>by
  rw[kindB] at h
  cases e:scope.names.lookup x with
  |none=>rw[e] at h;simp at h
  |some k=>
   have hm:=OV e
   cases k with
   |free=>exact hm
   |cell=>exact absurd rfl (S.nocell _ hm)
   |_=>rw[e] at h;simp at h
 have neN:∀b o,s.heap.get? b=some o->b≠s.heap.objs.size:=λb o e=>NG (Nf e)
 have cellN:∀{x:Str} {c:Addr},X.env.cells.lookup x=some c->c < s.heap.objs.size:=λ{x c} e=>by
  obtain⟨v,o,ho,_⟩:=I.cell x c e
  exact Nf ho
 have ok:(iO X NB scope s.heap.objs.size fp s H (X.pn ++ pins)).Ok:=by
  refine⟨I.ok.mod,S.kind,I.ok.glob,I.ok.blt,M9 _,λx y c h1 h2=>I.ok.inj x y c (clE h1).2 (clE h2).2,λx hx=>?_,λx c h=>(by cases h),I.ok.hd,I.ok.frames,.inl rfl,λb hb=>?_,I.bs,Oe I.ok.bsz I.sz,λb o e hb=>?_,λb hb hs=>?_,stk,I.stkFree⟩
  ·have hm:=isFree hx
   exact⟨_,nK (.inl hm)⟩
  ·obtain⟨_,f1,f2,f3,f4,f5⟩:=hfp b hb
   refine⟨?_,λx c h z=>f4 x c (clE h).2 z⟩
   obtain⟨o,ho⟩:=hob b hb
   exact neN b o ho
  ·obtain⟨_,f1,f2,f3,f4,f5⟩:=hfp b hb
   rcases f3 with f3 |f3
   ·exact I.ok.noex b o e f3
   ·exact absurd (ND (Nf e) (Oe I.ok.bsz f3)) (NR _)
  ·obtain⟨_,f1,f2,f3,f4,f5⟩:=hfp b hb
   rcases M6.mp (I.stkSub b hs) with z |z
   ·exact f1 z
   ·exact f2 z
 refine⟨ok,rfl,I.bare,Un.kept hk,⟨_,hn,λi x v h1' h2' h3'=>?_⟩,λx c h=>?_,I.hok.fresh (M9 _),λx c h=>I.freeC x c (clE h).2,λp hp=>?_,I.hok.kept hk,?_⟩
 ·
  have h1':NB[i]? =some x:=h1'
  have hown:own<=i:=by
   refine Classical.byContradiction λhc=>?_
   have hlt:i < own:=Nat.lt_of_not_le hc
   unfold cT at h2'
   rw[NV (by simpa using hlt),OB,M7 hlt] at h2'
   cases h2'
  obtain⟨k,rfl⟩:∃k,i=own + k:=⟨i - own,by omega⟩
  have hk':k < ixs.length:=by
   have:=(Np.mp h1').1
   rw[S.len] at this;omega
  obtain⟨e1,e2⟩:=S.at' k hk'
  have hm:=e2 x h1'
  unfold cT at h2'
  rw[NN (by simp),OH,Nat.add_sub_cancel_left,Ng,M1 hk'] at h2'
  simp only[Option.map_some,Option.some.injEq] at h2'
  have hix:ixs.getD k 0=ixs[k]:=by simp[hk']
  have hσ:σ[ixs[k]]? =some (some v):=by
   cases e:σ[ixs[k]]? with
   |none=>rw[e] at h2';cases h2'
   |some o=>rw[e] at h2';simp at h2';rw[h2']
  rw[e1,hix] at h1'
  have hkind:=S.frees _ hm rfl
  have hvis:xw X.env.scope x:=hkind.elim (λz=>.inr (.inl z)) (λz=>.inr (.inr z))
  obtain⟨m,hm',hl⟩:=I.loc
  obtain⟨u,r,look⟩:=hl _ x v h1' hσ hvis
  refine⟨u,r,.inr ⟨?_,?_⟩⟩
  ·rw[kindB]
   have hfr:scope.names.lookup x=some .free:=S.names _ hm
   rw[hfr]
   simp only[Option.map_some]
   split
   ·exact .inl rfl
   ·exact .inr rfl
  ·rcases look with⟨z,_⟩ | ⟨_,c,hc,hcell⟩
   ·rcases hkind with q |q
    ·rw[q] at z;cases z
    ·rw[q] at z;cases z
   ·refine⟨c,?_,?_⟩
    ·have:=nK (cells:=X.env.cells) (cs:=[]) (.inl hm)
     rw[hc] at this
     exact this
    ·obtain⟨o,ho,hd⟩:=hcell
     exact⟨o,hk _ _ ho,hd⟩
 ·obtain⟨v,o,ho,hd⟩:=I.cell x c (clE h).2
  exact⟨v,o,hk _ _ ho,hd⟩
 ·have hp':p∈X.pn ++ pins:=by
   rcases Nw.mp hp with z |z
   ·exact z
   ·cases z
  obtain⟨e,n,ne,nf,d⟩:=I.pin p hp'
  refine⟨hk _ _ e,n,neN _ _ e,λz=>?_,d⟩
  rcases M6.mp (I.stkSub _ z) with q |q
  ·exact ne q
  ·exact nf q
 ·show (cT own ixs σ).length=NB.length
  unfold cT
  rw[S.len];simp
end
abbrev yB (ifs:List Expr)(env:Env):Sem Bool:=forIn ifs true λc r=>if r=true then do let ok <-isTrue c env (eval c env);pure (ForInStep.yield ok) else pure (ForInStep.yield r)
theorem zR {prog:Program}{w:World}{A:Around}{R:Result->Shared->Prop}{s:Shared}{elt target iter:Expr}{ifs:List Expr}{scope:Scope}{pos:Pos}{it acc:Value}{env:Env}(I:Nat->Shared->Prop)
  (turn:∀n s,I n s->wpAny (model prog w) A (pyNext it) (λr s1=>match r with
   |none=>R (.ok .next) s1
   |some v=>wpAny (model prog w) A (letOwnedTupleGo target it v) (λ_ s1'=>wpAny (model prog w) A (assign target env v) (λ_ s2=>
     wpAny (model prog w) A (yB ifs env) (λok s3=>
      if ok=true then wpAny (model prog w) A (eval elt env) (λx s4=>wpAny (model prog w) A (call (.builtin "list.append") [acc,x]) (λ_ s5=>∃m,m < n/\I m s5) (λ_ _=>False) s4) (λ_ _=>False) s3
      else ∃m,m < n/\I m s3) (λ_ _=>False) s2) (λ_ _=>False) s1') (λ_ _=>False) s1) (λ_ _=>False) s)
  (n:Nat) (h:I n s):codeAny (model prog w) A (.compLoop (.ListComp elt [⟨target,iter,ifs,0⟩] scope pos) 0 it acc env) R s:=by
 refine codeAny_loop rfl I (λn s hI=>?_) n h
 (show wpAny _ A ((compTurn (.ListComp elt [⟨target,iter,ifs,0⟩] scope pos) 0 it acc env).onRaise (λx=>do (noteFrame x env);theTreesLotGoes x)) _ _ s)
 refine wpAny_noted ?_
 rw[compTurn_list]
 refine MZ (wpAny_standAt (MZ (Oo (turn n s hI) (λr s1 h1=>?_) λ_ _ z=>z.elim)))
 cases r with
 |none=>exact M5 h1
 |some v=>
  refine MZ (Oo h1 (λ_ s1' h1'=>?_) λ_ _ z=>z.elim)
  refine MZ (Oo h1' (λ_ s2 h2=>MZ (Oo h2 (λok s3 h3=>?_) λ_ _ z=>z.elim)) λ_ _ z=>z.elim)
  cases ok with
  |false=>exact M5 ⟨rfl,h3⟩
  |true=>exact MZ (MZ (Oo h3 (λx s4 h4=>MZ (Oo h4 (λ_ s5 h5=>M5 (M5 ⟨rfl,h5⟩)) λ_ _ z=>z.elim)) λ_ _ z=>z.elim))
def Dr (X:Cx)(ifs:List Expr)(t:TT):Prop:=
 ∀(pins:List (Addr×Obj)) (s:Shared) (σ:St) (H:Hp) (Q:Bool->Hp->Prop),Inv X pins σ H s->t σ H Q->wpAny (model X.prog X.w) X.A (yB ifs X.env) (TP X pins σ Q) X.xe s
def IY:TT:=λ_ H Q=>Q true H
def uO {X:Cx}:Dr X [] IY:=λpins s σ H Q I h=>M5 ⟨H,I,h⟩
def yS {X:Cx}{c:Expr}{t:TT}(h:PT X c t):Dr X [c] t:=λpins s σ H Q I q=>wpAny_tests_one (h pins s σ H Q I q)
def xE (own:Nat)(ixs:List Nat)(wi:TI)(g:TG)(tt:TT)(te:TE)(σ:St)(H:Hp)(Q:VK):Prop:=wi σ H λJ H1=>∀D,H1 D=none->∃W:Nat->Nat->St->Hp->Prop,(∃m,W 0 m (cT own ixs σ) (upd H1 D (.lst [])))/\∀i m σ' H',W i m σ' H'->
 (J.stop i H'/\(∃acc,H' D=some (.lst acc))/\Q (.ref D) H')\/
 (J.go i H'/\∃N:St->Hp->Prop,(∀σ2 H2,N σ2 H2->∃m',m' < m/\W (i + 1) m' σ2 H2)/\∀x H2,J.yld i H' x H2->g x σ' H2 λσ3 H3=>tt σ3 H3 λb H4=>
  if b=true then te σ3 H4 λv H5=>∃acc,H5 D=some (.lst acc)/\acc.length < sizeLine/\N σ3 (upd H5 D (.lst (acc ++ [v]))) else N σ3 H4)
section
variable {X:Cx}{NB:List Str}{own:Nat}{ixs:List Nat}{scope:Scope}{elt tg iter:Expr}{ifs:List Expr}{pos:Pos}{wi:TI}{g:TG}{tt:TT}{te:TE}
def sM (hc:X.calm=true)(S:cO X NB own ixs scope)
  (hg:∀C ex s3 H3 pn,PG (iO X NB scope C ex s3 H3 pn) tg g) (ht:∀C ex s3 H3 pn,Dr (iO X NB scope C ex s3 H3 pn) ifs tt) (he:∀C ex s3 H3 pn,PE (iO X NB scope C ex s3 H3 pn) elt te)
  {pins:List (Addr×Obj)} {σ:St} {H1:Hp} {s2:Shared} {it:Addr} {fp:List Addr} {tn:Nat->Heap->Prop} {J:It} {Q:VK} (I2:Inv X pins σ H1 s2) (T:Turn X.prog X.w X.K tg J fp it tn) (st2:tn 0 s2.heap) (f2:∀b∈fp,oQ X pins H1 b)
  (hQ:∀D,H1 D=none->∃W:Nat->Nat->St->Hp->Prop,(∃m,W 0 m (cT own ixs σ) (upd H1 D (.lst [])))/\∀i m σ' H',W i m σ' H'->
   (J.stop i H'/\(∃acc,H' D=some (.lst acc))/\Q (.ref D) H')\/
   (J.go i H'/\∃N:St->Hp->Prop,(∀σ2 H2,N σ2 H2->∃m',m' < m/\W (i + 1) m' σ2 H2)/\∀x H2,J.yld i H' x H2->g x σ' H2 λσ3 H3=>tt σ3 H3 λb H4=>
    if b=true then te σ3 H4 λv H5=>∃acc,H5 D=some (.lst acc)/\acc.length < sizeLine/\N σ3 (upd H5 D (.lst (acc ++ [v]))) else N σ3 H4))
  {E:Value->Shared->Prop} {RR:Value->Addr->Result->Shared->Prop}
  (fin:∀D C H' s' m,Inv X pins σ H' s'->Q (.ref D) H'->s'.heap.Ns C m->H' C=none->C≠X.env.locals->(∀x c,X.env.cells.lookup x=some c->c≠C)->X.s₀.heap.objs.size<=C->(∀p∈X.pn ++ pins,p.1≠C)->RR (.ref D) C (.ok .next) s') :
  wpAny (model X.prog X.w) X.A (newList []) (λacc s3=>wpAny (model X.prog X.w) X.A (newFunctionEnv scope X.env.globals (nq X.env.cells scope.names []) [] X.env.qual none .none (some X.env)) (λcenv s4=>
   codeAny (model X.prog X.w) X.A (.compStart (.ListComp elt [⟨tg,iter,ifs,0⟩] scope pos) 0 (.ref it) acc {cenv with scope:=relabel scope X.env}) (RR acc cenv.locals) s4) E s3) E s2:=by
 refine PL ?_ (NQ _)
 have hD:H1 s2.heap.objs.size=none:=I2.hok.fresh (M9 _)
 obtain⟨W,⟨m0,w0⟩,turn⟩:=hQ s2.heap.objs.size hD
 generalize hs3:({s2 with heap:=s2.heap.push (seqObj "list" ([]:List Value).toArray 0)}:Shared)=s3
 have I3:Inv X pins σ (upd H1 s2.heap.objs.size (.lst [])) s3:=by
  rw[<-hs3]
  exact I2.lnew (ys:=[]) (its:=[]) (t':=s2.toks) .nil (NQ _)
 have k3:∀b o,s2.heap.get? b=some o->s3.heap.get? b=some o:=λb o e=>by rw[<-hs3];exact M4 _ e
 have sz3:s3.heap.objs.size=s2.heap.objs.size + 1:=by rw[<-hs3];exact OJ ..
 have ob2:∀b∈fp,∃o,s2.heap.get? b=some o:=λb hb=>let ⟨o,e,_⟩:=T.obj 0 _ st2 b hb;⟨o,e⟩
 have neD:∀b∈fp,b≠s2.heap.objs.size:=λb hb=>let ⟨o,e⟩:=ob2 b hb;NG (Nf e)
 have f3:∀b∈fp,oQ X pins (upd H1 s2.heap.objs.size (.lst [])) b:=λb hb=>by
  obtain⟨a1,a2⟩:=f2 b hb
  exact⟨by rw[au (neD b hb)];exact a1,a2⟩
 have st3:tn 0 s3.heap:=T.keep _ _ _ st2 λb _ o e=>k3 b o e
 refine wpAny_newFunctionEnv S.nocell (λy hy=>by simp at hy) (λh4 hn4 sb4=>?_) S.kind
 have k4:∀b o,s3.heap.get? b=some o->h4.get? b=some o:=λb o e=>sb4.extBut b o (NG (Nf e)) (M4 _ e)
 have I4:Inv (iO X NB scope s3.heap.objs.size fp s3 (upd H1 s2.heap.objs.size (.lst [])) (X.pn ++ pins)) [] (cT own ixs σ) (upd H1 s2.heap.objs.size (.lst [])) {s3 with heap:=h4,toks:=s3.toks + ([]:List (Str×Value)).length}:=
  Ay S I3 f3 (λb hb=>let ⟨o,e⟩:=ob2 b hb;⟨o,k3 _ _ e⟩) (by simpa using hn4) k4
 have st4:tn 0 h4:=T.keep _ _ _ st3 λb _ o e=>k4 b o e
 generalize hB:iO X NB scope s3.heap.objs.size fp s3 (upd H1 s2.heap.objs.size (.lst [])) (X.pn ++ pins)=B at I4
 have hgB:PG B tg g:=by rw[<-hB];exact hg _ _ _ _ _
 have htB:Dr B ifs tt:=by rw[<-hB];exact ht _ _ _ _ _
 have heB:PE B elt te:=by rw[<-hB];exact he _ _ _ _ _
 have eP:B.prog=X.prog:=by rw[<-hB];rfl
 have eW:B.w=X.w:=by rw[<-hB];rfl
 have eK:B.K=X.K:=by rw[<-hB];rfl
 have eA:B.A=X.A:=by rw[<-hB];rfl
 have eC:B.calm=true:=by rw[<-hB];exact hc
 have eX:B.xe=λ_ _=>False:=by rw[<-hB];rfl
 have eE:B.env=compEnvC scope (nq X.env.cells scope.names []) s3.heap.objs.size X.env:=by rw[<-hB];rfl
 have ex:B.ex=fp:=by rw[<-hB];rfl
 have eL:B.env.locals=s3.heap.objs.size:=by rw[eE];rfl
 have stat:∀{H':Hp},(∀b∈fp,H' b=none)->∀b∈fp,oQ B [] H' b:=λ{H'} hn b hb=>by
  obtain⟨a1,a2,a3,a4,a5,a6⟩:=f3 b hb
  obtain⟨o,eo⟩:=ob2 b hb
  refine⟨hn b hb,?_,λz=>?_,.inl (by rw[ex];exact hb),λx c e z=>?_,λp hp z=>?_⟩
  ·rw[eL];exact NG (Nf (k3 _ _ eo))
  ·have hz:b∈dU X.stack:=by rw[<-hB] at z;exact z
   rcases M6.mp (I3.stkSub b hz) with q |q
   ·exact a2 q
   ·exact a3 q
  ·rw[eE] at e
   rcases nQ e with⟨m1,m2⟩ |m1
   ·obtain⟨c',e'⟩:=I3.ok.has x (S.frees _ m1 rfl)
    rw[e'] at m2
    exact a5 x c' e' (by rw[<-z,m2];rfl)
   ·simp at m1
  ·have hp':p∈X.pn ++ pins:=by
    rw[<-hB] at hp
    rcases Nw.mp hp with q |q
    ·exact q
    ·cases q
   exact a6 p hp' z
 have back:∀{σ':St} {H':Hp} {s':Shared},Inv B [] σ' H' s'->Inv X pins σ H' s':=λ{σ' H' s'} J'=>by
  have u:=J'.base
  have os:=J'.os
  have bare:=J'.bare
  have hok:=J'.hok
  subst hB
  exact I3.call' (ch:=fp) os u hok bare λb hb=>by
   obtain⟨a1,a2,a3,a4,a5,a6⟩:=f3 b hb
   exact⟨a4,a2,a5,a6⟩
 have loop:∀s5:Shared,s5={s3 with heap:=h4,toks:=s3.toks + ([]:List (Str×Value)).length}->
   codeAny (model X.prog X.w) X.A (.compLoop (.ListComp elt [⟨tg,iter,ifs,0⟩] scope pos) 0 (.ref it) (.ref s2.heap.objs.size) (compEnvC scope (nq X.env.cells scope.names []) s3.heap.objs.size X.env)) (RR (.ref s2.heap.objs.size) s3.heap.objs.size) s5:=by
  rintro s5 rfl
  refine zR (λn s'=>∃i σ' H',Inv B [] σ' H' s'/\tn i s'.heap/\(∀b∈fp,H' b=none)/\W i n σ' H') ?_ m0 ⟨0,_,_,I4,st4,λb hb=>(f3 b hb).1,w0⟩
  rintro n s6 ⟨i,σ6,H6,I6,st6,fr6,w6⟩
  rcases turn i n σ6 H6 w6 with⟨stop,⟨acc,hacc⟩,qn⟩ | ⟨go,N,hN,step⟩
  ·have:=T.done B eP eW eK eC i [] s6 σ6 H6 (λ_ _=>False) I6 (stat fr6) st6 stop
   rw[eA] at this
   refine b6 this λr s7 ⟨hr,I7⟩=>?_
   subst hr
   obtain⟨m7,hn7,_⟩:=I7.loc
   rw[eL] at hn7
   have J7:=back I7
   refine fin _ _ H6 s7 m7 J7 qn hn7 (by rw[<-eL];exact I7.free) (λz=>?_) (λx c e z=>?_) ?_ λp hp z=>?_
   ·have:=I3.lt
    rw[<-z] at this
    exact NR _ this
   ·obtain⟨v,o,ho,_⟩:=I3.cell x c e
    exact absurd (Nf ho) (by rw[z];exact NR _)
   ·exact I3.sz
   ·have:=Nf (I3.pin p hp).1
    rw[z] at this
    exact NR _ this
  ·have hitem:=T.item B eP eW eK eC i [] s6 σ6 H6 (λ_ _=>False) I6 (stat fr6) st6 go
   rw[eA] at hitem
   refine b6 hitem λr s7 ⟨u,hr,h7⟩=>?_
   subst hr
   refine b6 h7 λ_ s8 ⟨x,H8,I8,r8,y8,st8,fr8⟩=>?_
   have I8':=I8.pinned (stat fr8) (T.obj _ _ st8)
   have ha:=hgB _ s8 σ6 H8 x u _ I8' r8 (step x H8 y8)
   rw[eP,eW,eA,eE,eX] at ha
   refine b6 ha λ_ s9 ⟨σ9,H9,I9,q9⟩=>?_
   have hb:=htB _ s9 σ9 H9 _ I9 q9
   rw[eP,eW,eA,eE,eX] at hb
   refine b6 hb λok s10 ⟨H10,I10,q10⟩=>?_
   have again:∀{σ7:St} {H7:Hp} {s7:Shared},Inv B ([] ++ pw fp s8.heap) σ7 H7 s7->N σ7 H7->∃m,m < n/\∃i σ' H',Inv B [] σ' H' s7/\tn i s7.heap/\(∀b∈fp,H' b=none)/\W i m σ' H':=λ{σ7 H7 s7} I7 n7=>by
    obtain⟨m',hm,w7⟩:=hN σ7 H7 n7
    refine⟨m',hm,i + 1,σ7,H7,I7.unpinned,T.keep _ _ _ st8 λb hb o e=>(I7.pin (b,o) (NJ _ (NJ _ (jg hb e)))).1,λb hb=>?_,w7⟩
    obtain⟨o,e,d⟩:=T.obj _ _ st8 b hb
    exact (I7.pin (b,o) (NJ _ (NJ _ (jg hb e)))).2.1
   cases ok with
   |false=>
    simp only[Nr,NT] at q10 ⊢
    exact again I10 q10
   |true=>
    simp only[Ob] at q10 ⊢
    have hv:=heB _ s10 σ9 H10 _ I10 q10
    rw[eP,eW,eA,eE,eX] at hv
    refine b6 hv λy s11 ⟨v,H11,I11,r11,acc,hacc,hz,q11⟩=>?_
    have hap:=nU (X:=B) _ s11 σ9 H11 (.ref s2.heap.objs.size) [v] (.ref s2.heap.objs.size) [y] (λz H'=>z=.non/\N σ9 H') I11 rfl (.cons r11 .nil) ⟨_,acc,v,rfl,rfl,hacc,hz,rfl,q11⟩
    rw[eP,eW,eA,eX] at hap
    exact b6 hap λ_ s12 ⟨_,H12,I12,_,_,q12⟩=>again I12 q12
 exact codeAny_compStart_list (loop _ rfl) (T.self X.A 0 _ _ _ st4 (loop _ rfl))
def vC (hc:X.calm=true)(S:cO X NB own ixs scope)(hi:PI X tg iter wi)
  (hg:∀C ex s3 H3 pn,PG (iO X NB scope C ex s3 H3 pn) tg g) (ht:∀C ex s3 H3 pn,Dr (iO X NB scope C ex s3 H3 pn) ifs tt) (he:∀C ex s3 H3 pn,PE (iO X NB scope C ex s3 H3 pn) elt te)
  (hs:∀x,foldedSetIterable iter X.env x=pure x:=by intro _;rfl) :
  PE X (.ListComp elt [⟨tg,iter,ifs,0⟩] scope pos) (xE own ixs wi g tt te):=by
 intro pins s σ H Q I h
 rw[eval_ListComp]
 refine wpAny_comprehension_free (use:=none) rfl hs (qz λy hy e=>I.ok.has _ (S.frees y hy e)) S.kind (λy hy e=>by rw[S.names y hy,e]) ?_
 refine b6 (hi pins s σ H _ I h) λv s1 h1=>b6 h1 λitv s2 h2=>?_
 obtain⟨it,fp,tn,J,H2,e,I2,T,st2,f2,q2⟩:=h2
 subst e
 refine sM hc S hg ht he I2 T st2 f2 q2 (RR:=λacc C=>compPost (model X.prog X.w) X.A X.xe none (EP X pins σ Q) acc C) λD C H' s' m J' q hn hC n1 n2 n3 n4=>?_
 refine⟨m,hn,λh'' sb=>⟨.ref D,H',?_,rfl,q⟩⟩
 exact J'.turned (t':=s'.toks) (it:=C) (λb o hb e=>sb.extBut b o hb e) hC n1 (.inr n3) n2 n4
def Dl {i:Nat}{y:Str}{py spos:Pos}(hc:X.calm=true)(S:cO X NB own ixs scope)(hi:PI X tg iter wi)
  (hg:∀C ex s3 H3 pn,PG (iO X NB scope C ex s3 H3 pn) tg g) (ht:∀C ex s3 H3 pn,Dr (iO X NB scope C ex s3 H3 pn) ifs tt) (he:∀C ex s3 H3 pn,PE (iO X NB scope C ex s3 H3 pn) elt te)
  (hN:X.N.Nodup) (hy:X.N[i]? =some y) (hl:X.env.scope.names.lookup y=some .local)
  (hsw:swapsWith (.ListComp elt [⟨tg,iter,ifs,0⟩] scope pos) (some (.Name y py)) spos.line X.env=pure true)
  (hs:∀x,foldedSetIterable iter X.env x=pure x:=by intro _;rfl) :
  PS X (.Assign [.Name y py] (.ListComp elt [⟨tg,iter,ifs,0⟩] scope pos) spos) (λD σ H=>xE own ixs wi g tt te σ H λv H'=>D.nx (σ.set i (some v)) H'):=by
 intro pins s σ H D I h
 rw[exec_Assign_Name_used _ _ _ _ hsw]
 refine MZ (wpAny_standAt (MZ ?_))
 show wpAny _ X.A (comprehension (.ListComp elt [⟨tg,iter,ifs,0⟩] scope pos) scope X.env _ (newList []) false (eval iter X.env) (some (assign (.Name y py) X.env)) >>= λ_=>pure ()) _ _ s
 refine MZ (Oo (wpAny_comprehension_free (use:=some (assign (.Name y py) X.env)) (Q:=λ_ s'=>SP X pins D .next s') rfl hs (qz λy hy e=>I.ok.has _ (S.frees y hy e)) S.kind (λy hy e=>by rw[S.names y hy,e]) ?_)
  (λ_ s' hq=>M5 (M5 hq)) λ_ _ e=>e)
 refine b6 (hi pins s σ H _ I h) λv s1 h1=>b6 h1 λitv s2 h2=>?_
 obtain⟨it,fp,tn,J,H2,e,I2,T,st2,f2,q2⟩:=h2
 subst e
 refine sM hc S hg ht he I2 T st2 f2 q2 (Q:=λv H'=>D.nx (σ.set i (some v)) H') (RR:=λacc C=>compPost (model X.prog X.w) X.A X.xe (some (assign (.Name y py) X.env)) (λ_ s'=>SP X pins D .next s') acc C) λD' C H' s' m J' q hn hC n1 n2 n3 n4=>?_
 show wpAny _ X.A (assign (.Name y py) X.env (.ref D')) _ _ s'
 refine wpAny_assign_Name (sy J' hN hy (.inl hl) (v:=.ref D') rfl (λs'' I'' ⟨a,sb,ha⟩=>?_) (.inr hl))
 have hCa:C≠a:=by
  rcases ha with z |z
  ·rw[z];exact n1
  ·exact (n2 _ _ z).symm
 refine⟨m,hn.sameBut sb hCa,λh3 sb3=>⟨_,H',?_,q⟩⟩
 exact I''.turned (t':=s''.toks) (it:=C) (λb o hb e=>sb3.extBut b o hb e) hC n1 (.inr n3) n2 n4
end
section
variable {own:Nat}{ixs:List Nat}{g:TG}{tt:TT}{te:TE}{σ:St}{H:Hp}{Q:VK}{K:Frag}{D a:Addr}{xs:List V}
abbrev dQ (g:TG)(tt:TT)(te:TE)(D:Addr)(x:V)(σ:St)(H:Hp)(N:St->Hp->Prop):Prop:=g x σ H λσ3 H3=>tt σ3 H3 λb H4=>
  if b=true then te σ3 H4 λv H5=>∃acc,H5 D=some (.lst acc)/\acc.length < sizeLine/\N σ3 (upd H5 D (.lst (acc ++ [v]))) else N σ3 H4
def AN (Pv:Nat->St->Hp->Prop)(h0:Pv 0 (cT own ixs σ) (upd H D (.lst [])))(hl:∀i σ H,i<=xs.length->Pv i σ H->dZ K H a xs)
  (hs:∀i x σ H,xs[i]? =some x->Pv i σ H->dQ g tt te D x σ H (Pv (i + 1))) (hd:∀σ H,Pv xs.length σ H->(∃acc,H D=some (.lst acc))/\Q (.ref D) H) :
  ∃W:Nat->Nat->St->Hp->Prop,(∃m,W 0 m (cT own ixs σ) (upd H D (.lst [])))/\∀i m σ' H',W i m σ' H'->
   ((A2 K a).stop i H'/\(∃acc,H' D=some (.lst acc))/\Q (.ref D) H')\/
   ((A2 K a).go i H'/\∃N:St->Hp->Prop,(∀σ2 H2,N σ2 H2->∃m',m' < m/\W (i + 1) m' σ2 H2)/\∀x H2,(A2 K a).yld i H' x H2->dQ g tt te D x σ' H2 N):=by
 refine⟨λi m σ H=>m=xs.length - i/\i<=xs.length/\Pv i σ H,⟨xs.length,by simp,NQ _,h0⟩,?_⟩
 rintro i m σ H ⟨rfl,hi,p⟩
 have q:=hl i σ H hi p
 by_cases hlt:i < xs.length
 ·refine .inr ⟨⟨xs,xs[i],q,by simp[hlt]⟩,Pv (i + 1),λσ' H' p'=>⟨xs.length - (i + 1),by omega,rfl,hlt,p'⟩,λx H' y=>?_⟩
  obtain⟨e,y⟩:=y
  subst e
  exact hs i x σ _ (y xs q) p
 ·have e:i=xs.length:=by omega
  subst e
  exact .inl ⟨⟨xs,q,M9 _⟩,hd σ H p⟩
def xF {lo:Int}{n:Nat}(Pv:Nat->St->Hp->Prop)(h0:Pv 0 (cT own ixs σ) (upd H D (.lst [])))
  (hs:∀i σ H,i < n->Pv i σ H->dQ g tt te D (.int (lo + i)) σ H (Pv (i + 1))) (hd:∀σ H,Pv n σ H->(∃acc,H D=some (.lst acc))/\Q (.ref D) H) :
  ∃W:Nat->Nat->St->Hp->Prop,(∃m,W 0 m (cT own ixs σ) (upd H D (.lst [])))/\∀i m σ' H',W i m σ' H'->
   ((AM lo n).stop i H'/\(∃acc,H' D=some (.lst acc))/\Q (.ref D) H')\/
   ((AM lo n).go i H'/\∃N:St->Hp->Prop,(∀σ2 H2,N σ2 H2->∃m',m' < m/\W (i + 1) m' σ2 H2)/\∀x H2,(AM lo n).yld i H' x H2->dQ g tt te D x σ' H2 N):=by
 refine⟨λi m σ H=>m=n - i/\i<=n/\Pv i σ H,⟨n,by simp,NQ _,h0⟩,?_⟩
 rintro i m σ H ⟨rfl,hi,p⟩
 by_cases hlt:i < n
 ·refine .inr ⟨hlt,Pv (i + 1),λσ' H' p'=>⟨n - (i + 1),by omega,rfl,hlt,p'⟩,λx H' y=>?_⟩
  obtain⟨e,y⟩:=y
  subst e y
  exact hs i σ _ hlt p
 ·have e:i=n:=by omega
  subst e
  exact .inl ⟨M9 _,hd σ H p⟩
end
mutual
inductive Rep (K:Frag)(H:Hp):V->PyData->Prop
 |non:Rep K H .non .none
 |bl (b:Bool):Rep K H (.bl b) (.bool b)
 |int (i:Int):Rep K H (.int i) (.int i)
 |str (x:Str):Rep K H (.str x) (.str x)
 |tup {a:Addr} {xs:List V} {ds:List PyData}:fS K H a xs->kJ K H xs ds->Rep K H (.ref a) (.tuple ds)
 |lst {a:Addr} {xs:List V} {ds:List PyData}:dZ K H a xs->kJ K H xs ds->Rep K H (.ref a) (.list ds)
inductive kJ (K:Frag)(H:Hp):List V->List PyData->Prop
 |nil:kJ K H [] []
 |cons {x:V} {xs:List V} {d:PyData} {ds:List PyData}:Rep K H x d->kJ K H xs ds->kJ K H (x :: xs) (d :: ds)
end
section
variable {X:Cx}{pins:List (Addr×Obj)}{σ:St}{H H':Hp}{s:Shared}
mutual
theorem Rep.reads (I:Inv X pins σ H s):∀{x:V} {d:PyData} {u:Value},Rep X.K H x d->RelV x u->∃as,Reads s.heap u d as
 |_,_,_,.non,r=>by cases r;exact⟨_,.none⟩
 |_,_,_,.bl b,r=>by cases r;exact⟨_,.bool b⟩
 |_,_,_,.int i,r=>by obtain⟨t,rfl⟩:=r;exact⟨_,.int i t⟩
 |_,_,_,.str x,r=>by obtain⟨t,rfl⟩:=r;exact⟨_,.str x t⟩
 |_,_,_,.tup h hs,r=>by
  cases r
  obtain⟨its,rv,⟨o,ho,hc,n,hd⟩,_⟩:=I.tuple h
  obtain⟨as,q⟩:=kJ.reads I hs rv
  exact⟨_,.tuple ho hc hd (by simpa using q)⟩
 |_,_,_,.lst h hs,r=>by
  cases r
  obtain⟨its,rv,pl,_⟩:=I.list h
  obtain⟨o,ho,hc,n,hd⟩:=pl.isList
  obtain⟨as,q⟩:=kJ.reads I hs rv
  exact⟨_,.list ho hc hd (by simpa using q)⟩
theorem kJ.reads (I:Inv X pins σ H s):∀{xs:List V} {ds:List PyData} {us:List Value},kJ X.K H xs ds->Vals xs us->∃as,ReadsAll s.heap us ds as
 |_,_,_,.nil,r=>by cases r;exact⟨_,.nil⟩
 |_,_,_,.cons h hs,r=>by
  cases r with
  |cons r1 r2=>
   obtain⟨as,q⟩:=Rep.reads I h r1
   obtain⟨bs,q'⟩:=kJ.reads I hs r2
   exact⟨_,.cons q q'⟩
end
def IM (K:Frag)(neg:Bool):R2:=λx y H Q=>∃d e,Rep K H x d/\Rep K H y e/\SeqAt.shaped d=true/\SeqAt.shaped e=true/\Q (.bl (if neg then !PyData.eqv d e else PyData.eqv d e)) H
def hV (hu:X.A.units + 64 < cLine):la X (compareOp .Eq) (IM X.K false):=by
 intro pins s σ H x y v u Q I rx ry h
 obtain⟨d,e,h1,h2,s1,s2,q⟩:=h
 obtain⟨as,r1⟩:=h1.reads I rx
 obtain⟨bs,r2⟩:=h2.reads I ry
 exact SeqAt.compareEq_shaped r1 r2 s1 s2 hu ⟨.bl _,H,I,rfl,q⟩
def fk (hu:X.A.units + 64 < cLine):la X (compareOp .NotEq) (IM X.K true):=by
 intro pins s σ H x y v u Q I rx ry h
 obtain⟨d,e,h1,h2,s1,s2,q⟩:=h
 obtain⟨as,r1⟩:=h1.reads I rx
 obtain⟨bs,r2⟩:=h2.reads I ry
 exact SeqAt.compareNe_shaped r1 r2 s1 s2 hu ⟨.bl _,H,I,rfl,q⟩
def D6 (K:Frag)(neg:Bool):R2:=λx y H Q=>∃p xs d ds,y=.ref p/\(dZ K H p xs\/fS K H p xs)/\kJ K H xs ds/\Rep K H x d/\SeqAt.shaped d=true/\(∀e,e∈ds->SeqAt.shaped e=true)/\
 Q (.bl (if neg then !(ds.any λe=>PyData.eqv e d) else ds.any λe=>PyData.eqv e d)) H
theorem kJ.at' {K:Frag}:∀{xs:List V} {ds:List PyData} {i:Nat} {x:V},kJ K H xs ds->xs[i]? =some x->∃d,ds[i]? =some d/\Rep K H x d
 |_,_,_,_,.nil,e=>by simp at e
 |_,_,0,_,.cons r _,e=>by simp at e;subst e;exact⟨_,rfl,r⟩
 |_,_,i + 1,x,.cons _ t,e=>by
  obtain⟨u,h1,h2⟩:=kJ.at' (i:=i) (x:=x) t (by simpa using e)
  exact⟨u,by simpa using h1,h2⟩
open Classical in
theorem vU (I:Inv X pins σ H s)(d:PyData):∀{xs:List V} {us:List Value} {ds:List PyData},Vals xs us->kJ X.K H xs ds->(∀e,e∈ds->SeqAt.shaped e=true)->∃f:Value->Bool,us.any f=(ds.any λe=>PyData.eqv e d)/\∀u,u∈us->∃e as,e∈ds/\Reads s.heap u e as/\f u=PyData.eqv e d:=by
 intro xs us ds hv hr hs
 let f:Value->Bool:=λu=>if h:∃e as,SeqAt.shaped e=true/\Reads s.heap u e as then PyData.eqv (Classical.choose h) d else false
 have hf:∀{u:Value} {e:PyData} {as:List Addr},SeqAt.shaped e=true->Reads s.heap u e as->f u=PyData.eqv e d:=λ{u e as} h1 h2=>by
  have hx:∃e as,SeqAt.shaped e=true/\Reads s.heap u e as:=⟨e,as,h1,h2⟩
  show (if h:∃e as,SeqAt.shaped e=true/\Reads s.heap u e as then PyData.eqv (Classical.choose h) d else false)=_
  rw[dif_pos hx]
  obtain⟨bs,q1,q2⟩:=Classical.choose_spec hx
  rw[SeqAt.Reads.unique _ _ _ _ _ (Pu q1) q2 h2]
 refine⟨f,?_,?_⟩
 ·induction hv generalizing ds with
  |nil=>cases hr;rfl
  | @cons x u xs us r1 r2 ih=>
   cases hr with
   | @cons _ _ e es h1 h2=>
    obtain⟨as,q⟩:=h1.reads I r1
    rw[O3,O3,hf (hs e (Nb ..)) q,ih h2 λz hz=>hs z (M8 _ hz)]
 ·intro u hu
  obtain⟨i,hi,e0⟩:=NL.mp hu
  have hi':i < xs.length:=by rw[hv.length];exact hi
  obtain⟨u',eu,ru⟩:=hv.get (M1 hi')
  rw[M1 hi,e0] at eu
  cases eu
  obtain⟨e,ee,re⟩:=kJ.at' hr (M1 hi')
  obtain⟨as,q⟩:=re.reads I ru
  have hm:=Nm ee
  exact⟨e,as,hm,q,hf (hs e hm) q⟩
inductive E1 (K:Frag)(H:Hp):V->String->Prop
 |non:E1 K H .non "NoneType"
 |bl (b:Bool):E1 K H (.bl b) "bool"
 |int (i:Int):E1 K H (.int i) "int"
 |str (x:Str):E1 K H (.str x) "str"
 |tup {a:Addr} {xs:List V}:fS K H a xs->E1 K H (.ref a) "tuple"
 |lst {a:Addr} {xs:List V}:dZ K H a xs->E1 K H (.ref a) "list"
 |dic {a:Addr} {kvs:List (Key×V)}:H a=some (.dK kvs)->E1 K H (.ref a) "dict"
def LG (K:Frag):List V->Hp->VK->Prop:=λxs H Q=>∃x T t b,xs= [x,.ty T]/\E1 K H x t/\PySem.W.kitOne K (.type t) (.type T)=some b/\Q (.bl b) H
theorem BR:cg X (.builtin "isinstance") (LG X.K):=by
 intro pins s σ H xs us Q I r h
 obtain⟨x,T,t,b,rfl,ty,e,q⟩:=h
 obtain⟨u,c,rfl,rx,rc⟩:=vals2 r
 cases rc
 have fin:∀tk,EP X pins σ Q (.bool b) {s with toks:=tk}:=λtk=>⟨.bl b,H,I.tok tk,rfl,q⟩
 cases ty with
 |non=>exact jb I rx .non e fin
 |bl b=>exact jb I rx (.bl b) e fin
 |int i=>exact jb I rx (.int i) e fin
 |str z=>exact jb I rx (.str z) e fin
 |dic hk=>exact jb I rx (.dK hk) e fin
 |tup hq=>
  cases rx
  obtain⟨its,rv,⟨o,h1,h2,_⟩,_⟩:=I.tuple hq
  exact NZ PySem.W.kitx_tuple I.kIn ⟨o,h1,h2⟩ e (λz=>nomatch z) fin
 |lst hq=>
  cases rx
  obtain⟨its,rv,pl,_⟩:=I.list hq
  obtain⟨o,h1,h2,_⟩:=pl.isList
  exact NZ PySem.W.kitx_list I.kIn ⟨o,h1,h2⟩ e (λz=>nomatch z) fin
def vt {A:Around}{its:List Value}{bs:List Bool}(hv:Vals (bs.map V.bl) its):TruthOf X.prog X.w A (λi v=>its[i]? =some v) (λi=>bs.getD i false):=λi v s Q E hi hq=>by
 have hl:=hv.length
 have hi2:i < bs.length:=by
  have:=(Np.mp hi).1
  rw[<-hl] at this;simpa using this
 obtain⟨u,eu,ru⟩:=hv.get (i:=i) (x:=.bl bs[i]) (by simp[hi2])
 rw[hi] at eu;cases eu
 cases ru
 refine OC ?_
 have:bs.getD i false=bs[i]:=by simp[hi2]
 rw[<-this];exact hq
theorem range_all (bs:List Bool):(List.range bs.length).all (λi=>bs.getD i false)=bs.all id:=by
 induction bs with
 |nil=>rfl
 |cons b bs ih=>
  rw[NC,List.range_succ_eq_map,all_cons,List.all_map,all_cons,<-ih]
  rfl
theorem range_any (bs:List Bool):(List.range bs.length).any (λi=>bs.getD i false)=bs.any id:=by
 induction bs with
 |nil=>rfl
 |cons b bs ih=>
  rw[NC,List.range_succ_eq_map,O3,List.any_map,O3,<-ih]
  rfl
def yw (K:Frag)(f:List Bool->Bool):List V->Hp->VK->Prop:=λxs H Q=>∃a bs,xs= [.ref a]/\dZ K H a (bs.map V.bl)/\Q (.bl (f bs)) H
def pk (hc:X.calm=true){a:Addr}{bs:List Bool}{Q:VK}(I:Inv X pins σ H s)(hq:dZ X.K H a (bs.map V.bl)){f:List Bool->Bool}{g:(Nat->Bool)->Nat->Bool}(hfg:g (λi=>bs.getD i false) bs.length=f bs)(q:Q (.bl (f bs)) H) :
  wpAny (model X.prog X.w) X.A.in1 (pyIter (.ref a)) (λit s2=>∃Ii fp wr n P St tr,it=.ref Ii/\Walks X.prog X.w X.A.in1 Ii fp wr n P St/\St 0 s2.heap/\TruthOf X.prog X.w X.A.in1 P tr/\
   ∀h' tk,(∀b o,b∉wr->s2.heap.get? b=some o->h'.get? b=some o)->EP X pins σ Q (.bool (g tr n)) {s2 with heap:=h',toks:=tk}) X.xe s:=by
 obtain⟨its,rv,pl,hz⟩:=I.list hq
 have hh:X.A.in1.handled=none:=I.ok.hd hc
 have hlen:its.length=bs.length:=by rw[<-rv.length];simp
 obtain⟨o,ho,_⟩:=id pl.isList
 refine Px pl.isList ?_
 have W:=Walks.list (prog:=X.prog) (w:=X.w) hh s.heap.objs.size a (NG (Nf ho)) its.toArray
 refine⟨s.heap.objs.size,_,_,_,_,_,λi=>bs.getD i false,rfl,W,⟨⟨_,Nk _ rfl,rfl,rfl⟩,pl.isList.push _⟩,?_,λh' tk k=>?_⟩
 ·have:=vt (X:=X) (A:=X.A.in1) rv
  simpa using this
 ·have e:its.toArray.size=bs.length:=by simpa using hlen
  rw[e,hfg]
  have I1:Inv X pins σ H {s with heap:=s.heap.push {cls:=.type "list_iterator",data:=.fields #[.ref a,.int 0 0]}}:=I.kept (t':=s.toks) λb o e=>M4 _ e
  have hf:H s.heap.objs.size=none:=I.hok.fresh (M9 _)
  have fp:=I.fpOk (H':=H) (b:=s.heap.objs.size) (M9 _) hf
  refine⟨.bl _,H,I1.turned (it:=s.heap.objs.size) (t':=tk) (λb o hb e=>k b o (by simpa using hb) e) hf fp.2.1 fp.2.2.2.1 fp.2.2.2.2.1 fp.2.2.2.2.2,rfl,q⟩
def mC (hc:X.calm=true):cg X (.builtin "all") (yw X.K λbs=>bs.all id):=by
 intro pins s σ H xs us Q I r h
 obtain⟨a,bs,rfl,hq,q⟩:=h
 obtain⟨u,rfl,rx⟩:=vals1 r
 cases rx
 exact call_all_walk (pk hc I hq (f:=λbs=>bs.all id) (g:=λtr n=>(List.range n).all tr) (range_all bs) q)
def wC (hc:X.calm=true):cg X (.builtin "any") (yw X.K λbs=>bs.any id):=by
 intro pins s σ H xs us Q I r h
 obtain⟨a,bs,rfl,hq,q⟩:=h
 obtain⟨u,rfl,rx⟩:=vals1 r
 cases rx
 exact call_any_walk (pk hc I hq (f:=λbs=>bs.any id) (g:=λtr n=>(List.range n).any tr) (range_any bs) q)
def Bu:cg X (.type "range") (λxs H Q=>∃n:Int,xs= [.int n]/\∀p,H p=none->Q (.ref p) (upd H p (.fE 0 n))):=by
 intro pins s σ H xs us Q I r h
 obtain⟨n,rfl,q⟩:=h
 obtain⟨u,rfl,rx⟩:=vals1 r
 obtain⟨t,rfl⟩:=rx
 refine call_range_1 ⟨.ref s.heap.objs.size,upd H s.heap.objs.size (.fE 0 n),?_,rfl,q _ (I.hok.fresh (M9 _))⟩
 exact I.laid (λb o e=>M4 _ e) (M9 _) ⟨_,_,_,Nk _ rfl⟩
def rf (hc:X.calm=true):cg X (.type "list") (λxs H Q=>∃p n,xs= [.ref p]/\H p=some (.fE 0 n)/\0<=n/\n<=1000/\∀l,H l=none->Q (.ref l) (upd H l (.lst ((List.range n.toNat).map λ(i:Nat)=>V.int (i:Int))))):=by
 intro pins s σ H xs us Q I r h
 obtain⟨p,n,rfl,hp,h0,h1,q⟩:=h
 obtain⟨u,rfl,rx⟩:=vals1 r
 cases rx
 obtain⟨t,u,v,hr⟩:∃t u v,s.heap.get? p=some {cls:=.type "range",data:=.fields #[.int 0 t,.int n u,.int 1 v]}:=I.hok p _ hp
 have hsz:Builtin.Range.rangeSize 0 n 1=(n.toNat:Int):=by rw[rangeSize_one];split <;> omega
 refine call_list_range (I.ok.hd hc) hr (small_one (by omega) (by omega) (by omega) (by omega)) hsz (by omega) λh' tk acc c k hS hacc=>?_
 have hv:Vals ((List.range n.toNat).map λ(i:Nat)=>V.int (i:Int)) acc.toList:=by
  have key:∀(m:Nat) (us:List Value) (j:Nat),us.length=m->(∀(i:Nat) (v:Value),us[i]? =some v->∃t,v=Value.int ((j + i:Nat):Int) t)->Vals ((List.range' j m).map λ(i:Nat)=>V.int (i:Int)) us:=by
   intro m
   induction m with
   |zero=>intro us j hl _;cases us with
    |nil=>exact .nil
    |cons a b=>simp at hl
   |succ m ih=>
    intro us j hl hh
    cases us with
    |nil=>simp at hl
    |cons u us=>
     rw[List.range'_succ,NO]
     refine .cons (by have:=hh 0 u rfl;simp at this;exact this) (ih us (j + 1) (by simpa using hl) λi v hi=>?_)
     obtain⟨t,e⟩:=hh (i + 1) v (by simpa using hi)
     exact⟨t,by rw[e];congr 2;omega⟩
  have:=key n.toNat acc.toList 0 (by simpa using hacc.1) λi v hi=>by
   obtain⟨t,e⟩:=hacc.2 i v (by simpa using hi)
   exact⟨t,by rw[e];simp⟩
  rw[List.range_eq_range'];exact this
 refine⟨.ref s.heap.objs.size,_,I.laid (t':=tk) k (M9 _) (show bA X.prog X.w _ h' _ (.lst _) from⟨by simp;rw[NA];omega,acc.toList,c,hv,by simpa using hS⟩),rfl,q _ (I.hok.fresh (M9 _))⟩
end
def Rc (h:Heap)(e:Addr)(cls:Value)(T:Addr)(fl:Value):Prop:=∃oe vs oT ts,h.get? e=some oe/\oe.cls=cls/\oe.dict=none/\oe.data=.fields vs/\vs[1]? =some (.ref T)/\vs[2]? =some .none/\T≠e/\h.get? T=some oT/\oT.data=.fields ts/\ts[3]? =some fl
abbrev Keeps (F:List Addr)(ch:List Addr)(h h':Heap):Prop:=∀b o,h.get? b=some o->b∉F->b∉ch->h'.get? b=some o
abbrev Slots (F:List Addr)(h h':Heap):Prop:=∀b o,h.get? b=some o->b∈F->∃sl,h'.get? b=some {o with slots:=sl}
section
variable {M:Model}{A:Around}{E:Value->Shared->Prop}{s:Shared}{base:Heap}{env:Env}{outer:List Env}{L e:Addr}{cls:Value}{Q:Unit->Shared->Prop}
def Dg {oe:Obj}{vs:Array Value}{head:Value}{hadNext:Bool}(hfr:A.frames=some (env :: outer))(hl:s.heap.FunFrames base (env :: outer))(hf:env.frame=some L)(he:s.heap.get? e=some oe)(hc:oe.cls=cls)(hdd:oe.dict=none)(hd:oe.data=.fields vs)(hsz:1 < vs.size)(h2:vs[2]? =some .none)
  (h:∀h' T,Keeps (dU (env :: outer)) [e] s.heap h'->Slots (dU (env :: outer)) s.heap h'->s.heap.get? T=none->Rc h' e cls T (rawInt L)->Q () {s with heap:=h'}) :
  wpAny M A (do let a <-frameOf env;let pl <-entryPlaceOf L hadNext;let b <-EntryCells.newEntry head a .none (rawInt L) .none pl;setField (.ref e) 1 b) Q E s:=by
 have eF:e∉dU (env :: outer):=λz=>by
  obtain⟨_,o,q,n⟩:=hl.mem z
  rw[he] at q;cases q;exact n _ hd
 refine MZ (wpAny_frameOf_fun hfr hl hf λh1 s1=>?_)
 refine MZ (wpAny_entryPlaceOf λpl hpl=>?_)
 unfold EntryCells.newEntry newFields
 refine MZ (Py ?_ (hpl.sizeOk5 _ _ _ _ _))
 have e1:h1.get? e=some oe:=(s1.2.1 e eF).trans he
 have e2:=M4 (h:=h1) {cls:=.type "traceback",dict:=none,data:=.fields ([head,.ref L,.none,rawInt L,.none] ++ (if pl.isEmpty then List.replicate 6 Value.none else pl)).toArray} e1
 have tn:h1.objs.size≠e:=Nat.ne_of_gt (Nf e1)
 refine PF e2 hd hsz (h _ h1.objs.size (λb o q hb hn=>?_) (λb o q hb=>?_) ?_ ?_)
 ·have hbe:b≠e:=by simpa using hn
  have q1:h1.get? b=some o:=(s1.2.1 b hb).trans q
  rw[Og _ _ (Ne.symm hbe)]
  exact M4 _ q1
 ·obtain⟨sl,q1⟩:=s1.2.2 b o q
  have hbe:b≠e:=λz=>eF (z▸hb)
  refine⟨sl,?_⟩
  rw[Og _ _ (Ne.symm hbe)]
  exact M4 _ q1
 ·cases q:s.heap.get? h1.objs.size with
  |none=>rfl
  |some o=>obtain⟨sl,q1⟩:=s1.2.2 _ o q;exact absurd (Nf q1) (NR _)
 ·have d3:=Obj.data_mapFields hd (·.setIfInBounds 1 (Value.ref h1.objs.size))
  have e3:=NX (Obj.mapFields (·.setIfInBounds 1 (Value.ref h1.objs.size))) e2 (Obj.isFreed_of_fields d3)
  refine⟨_,_,_,_,e3,(Obj.cls_mapFields _ _).trans hc,?_,d3,by simp[hsz],by rw[Array.getElem?_setIfInBounds_ne (by omega)];exact h2,tn,(Og _ _ (Ne.symm tn)).trans (Nk h1 rfl),rfl,?_⟩
  ·unfold Obj.mapFields
   split <;> exact hdd
  ·rcases hpl with rfl | ⟨_,_,_,_,_,_,_,rfl⟩ <;> simp
def ym {oe:Obj}{vs:Array Value}(hfr:A.frames=some (env :: outer))(hl:s.heap.FunFrames base (env :: outer))(hf:env.frame=some L)(he:s.heap.get? e=some oe)(hc:oe.cls=cls)(hdd:oe.dict=none)(hd:oe.data=.fields vs)(h1:vs[1]? =some .none)(h2:vs[2]? =some .none)
  (h:∀h' T,Keeps (dU (env :: outer)) [e] s.heap h'->Slots (dU (env :: outer)) s.heap h'->s.heap.get? T=none->Rc h' e cls T (rawInt L)->Q () {s with heap:=h'}):wpAny M A (noteFrame (.ref e) env) Q E s:=by
 unfold noteFrame
 simp only[hf]
 refine MZ (wpAny_field he hd h1 ?_)
 rw[Nd (by decide)]
 exact Dg hfr hl hf he hc hdd hd (N5.mp h1).1 h2 h
def sx {T0:Addr}(hfr:A.frames=some (env :: outer))(hl:s.heap.FunFrames base (env :: outer))(hf:env.frame=some L)(r:Rc s.heap e cls T0 .none)
  (h:∀h' T,Keeps (dU (env :: outer)) [e,T0] s.heap h'->Slots (dU (env :: outer)) s.heap h'->(s.heap.get? T=none\/T=T0)->Rc h' e cls T (rawInt L)->Q () {s with heap:=h'}):wpAny M A (noteFrame (.ref e) env) Q E s:=by
 obtain⟨oe,vs,oT,ts,he,hc,hdd,hd,h1,h2,hTe,hT,hdT,h3⟩:=r
 have tF:T0∉dU (env :: outer):=λz=>by
  obtain⟨_,o,q,n⟩:=hl.mem z
  rw[hT] at q;cases q;exact n _ hdT
 unfold noteFrame
 simp only[hf]
 refine MZ (wpAny_field he hd h1 ?_)
 rw[M7 (show (Value.ref T0 != Value.none)=true from by simp)]
 refine MZ (wpAny_field hT hdT h3 ?_)
 rw[Nd (show ¬((Value.none == rawInt L)=true) from by simp[rawInt])]
 refine MZ (PF hT hdT (N5.mp h3).1 ?_)
 have oth:∀b,b≠T0->(s.heap.update T0 (Obj.mapFields (·.setIfInBounds 3 Value.none))).get? b=s.heap.get? b:=λb hb=>Og _ _ (Ne.symm hb)
 have nf:∀b o,s.heap.get? b=some o->(∀ws,o.data≠.fields ws)->b≠T0:=λb o q n z=>by
  rw[z,hT] at q;cases q;exact n _ hdT
 refine Dg (base:=base) hfr (hl.of_keeps λb o q n=>⟨o,(oth b (nf b o q n)).trans q,rfl⟩) hf ((oth e (Ne.symm hTe)).trans he) hc hdd hd (N5.mp h1).1 h2 λh' T kp sl tn rc=>?_
 refine h h' T (λb o q hb hn=>?_) (λb o q hb=>?_) ?_ rc
 ·simp only[M6,N9,Pg,not_or] at hn
  exact kp b o ((oth b hn.2).trans q) hb (by simp[hn.1])
 ·exact sl b o ((oth b λz=>tF (z▸hb)).trans q) hb
 ·by_cases z:T=T0
  ·exact .inr z
  ·exact .inl ((oth T z).symm.trans tn)
def oX {T:Addr}{fl:Value}(r:Rc s.heap e cls T fl)(h:∀h',Keeps [] [T] s.heap h'->Rc h' e cls T .none->Q () {s with heap:=h'}):wpAny M A (setFlight (.ref e) none) Q E s:=by
 obtain⟨oe,vs,oT,ts,he,hc,hdd,hd,h1,h2,hTe,hT,hdT,h3⟩:=r
 have sz:3 < ts.size:=(N5.mp h3).1
 unfold setFlight
 refine MZ (wpAny_field he hd h1 ?_)
 rw[M7 (show (Value.ref T != Value.none)=true from by simp)]
 refine PF hT hdT sz (h _ (λb o q _ hn=>?_) ?_)
 ·have hb:b≠T:=by simpa using hn
  exact (Og _ _ (Ne.symm hb)).trans q
 ·have d3:=Obj.data_mapFields hdT (·.setIfInBounds 3 ((none:Option Addr).elim Value.none λf=>rawInt f))
  exact⟨oe,vs,_,_,(Og _ _ hTe).trans he,hc,hdd,hd,h1,h2,hTe,NX _ hT (Obj.isFreed_of_fields d3),d3,by simp[sz]⟩
end
section
variable {P:Program}{w:World}
theorem bA.there {H:Hp}{h:Heap}{a:Addr}{o:HO}(x:bA P w H h a o):∃u,h.get? a=some u:=by
 cases o with
 |lst xs=>obtain⟨_,_,_,_,e⟩:=x;exact⟨_,e⟩
 |tup xs=>obtain⟨_,_,_,u,e,_⟩:=x;exact⟨u,e⟩
 |dK kvs=>obtain⟨_,_,_,_,o,_,_,e,_⟩:=x;exact⟨_,e⟩
 |dT kvs=>obtain⟨_,_,_,_,o,_,_,e,_⟩:=x;exact⟨_,e⟩
 |set S n=>obtain⟨o,_,_,_,e,_⟩:=x;exact⟨_,e⟩
 |ins C dx fs=>obtain⟨_,_,_,e,_⟩:=x;exact⟨_,e⟩
 |own y=>obtain⟨_,e⟩:=x;exact⟨_,e⟩
 |xd fs=>obtain⟨_,⟨_,_,_,e,_⟩,_⟩:=x;exact⟨_,e⟩
 |fE lo hi=>obtain⟨_,_,_,e⟩:=x;exact⟨_,e⟩
 |aS ob u=>obtain⟨e,_⟩:=x;exact⟨_,e⟩
 |tbl ps=>exact⟨_,show h.get? a=some _ from x⟩
 |met f y=>exact⟨_,show h.get? a=some _ from x⟩
 |ext φ=>obtain⟨_,⟨_,e⟩,_⟩:=x;exact⟨_,e⟩
end
structure Lies (h₀:Heap)(H:Hp)(h:Heap)(e:Addr)(cls:Value):Prop where
 free:H e=none
 new:h₀.get? e=none
 ob:∃T,Rc h e cls T .none/\H T=none/\h₀.get? T=none
def mE (P:Program)(w:World):wc:=λouter H s E e s'=>∃ea cls H',e=.ref ea/\s'.os=s.os/\AllBare s'.gens/\Un (dU outer) [] H H' s.heap s'.heap/\j5 P w H' s'.heap/\Lies s.heap H' s'.heap ea cls/\E cls none H'
section
variable {P:Program}{w:World}{M:Model}{A:Around}{E':Value->Shared->Prop}{s:Shared}{env:Env}{outer:List Env}{L e:Addr}{cls:Value}{base h₀:Heap}{H:Hp}{Q:Unit->Shared->Prop}
def mn {h h':Heap}(hok:j5 P w H h)(k:∀b o,h.get? b=some o->(∃u,H b=some u)->h'.get? b=some o):j5 P w H h':=λa o ha=>
 (hok a o ha).stay (λb u hb q=>k b u q (hb.elim (λz=>⟨o,by rw[z];exact ha⟩) λz=>⟨_,z⟩)) (λ_ q=>q) λ_ _ q=>q
def DP (hfr:A.frames=some (env :: outer))(hf:env.frame=some L)(hfn:s.heap.FunFrames base (env :: outer))(hok:j5 P w H s.heap)(hff:∀b∈dU (env :: outer),H b=none)(Ly:Lies h₀ H s.heap e cls)(hex:∀b o,h₀.get? b=some o->∃o',s.heap.get? b=some o')
  (hQ:∀h',(∀b o,s.heap.get? b=some o->b∉dU (env :: outer)->((∃o0,h₀.get? b=some o0)\/∃u,H b=some u)->h'.get? b=some o)->(∀b o,s.heap.get? b=some o->b∈dU (env :: outer)->∃sl,h'.get? b=some {o with slots:=sl})->Lies h₀ H h' e cls->j5 P w H h'->Q () {s with heap:=h'}) :
  wpAny M A (leaving env (.ref e)) Q E' s:=by
 obtain⟨fr,nw,T0,rc,hHT,hnT⟩:=Ly
 obtain⟨oe,vs,oT,ts,he,hc,hdd,hd,h1,h2,hTe,hT,hdT,h3⟩:=id rc
 have tF:T0∉dU (env :: outer):=λz=>by
  obtain⟨_,o,q,n⟩:=hfn.mem z
  rw[hT] at q;cases q;exact n _ hdT
 unfold leaving
 refine MZ (sx hfr hfn hf rc λh4 T kp sl tn rc4=>oX rc4 λh5 kp5 rc5=>?_)
 have nT:∀b o,s.heap.get? b=some o->b≠T0->b≠T:=λb o q n z=>by
  rcases tn with tn |tn
  ·rw[z,tn] at q;cases q
  ·exact n (z.trans tn)
 have kept:∀b o,s.heap.get? b=some o->b∉dU (env :: outer)->((∃o0,h₀.get? b=some o0)\/∃u,H b=some u)->h5.get? b=some o:=λb o q hb hor=>by
  have be:b≠e:=λz=>by subst z;rcases hor with⟨_,z⟩ | ⟨_,z⟩ <;> simp_all
  have bT:b≠T0:=λz=>by subst z;rcases hor with⟨_,z⟩ | ⟨_,z⟩ <;> simp_all
  exact kp5 b o (kp b o q hb (by simp[be,bT])) (by simp) (by simp[nT b o q bT])
 have slot:∀b o,s.heap.get? b=some o->b∈dU (env :: outer)->∃sl,h5.get? b=some {o with slots:=sl}:=λb o q hb=>by
  obtain⟨x,q4⟩:=sl b o q hb
  exact⟨x,kp5 b _ q4 (by simp) (by simp[nT b o q λz=>tF (z▸hb)])⟩
 have fresh:H T=none/\h₀.get? T=none:=by
  rcases tn with tn |tn
  ·refine⟨?_,?_⟩
   ·cases q:H T with
    |none=>rfl
    |some u=>obtain⟨o,qo⟩:=(hok T u q).there;rw[tn] at qo;cases qo
   ·cases q:h₀.get? T with
    |none=>rfl
    |some u=>obtain⟨o,qo⟩:=hex T u q;rw[tn] at qo;cases qo
  ·rw[tn];exact⟨hHT,hnT⟩
 refine hQ h5 kept slot ⟨fr,nw,T,rc5,fresh.1,fresh.2⟩ (mn hok λb o q hu=>kept b o q (λz=>?_) (.inr hu))
 obtain⟨u,hu⟩:=hu
 rw[hff b z] at hu;cases hu
def xR {h:Heap}{args:List Value}(hfr:A.frames=some (env :: outer))(hf:env.frame=some L)(hfn:h.FunFrames base (env :: outer))(hok:j5 P w H h)(hff:∀b∈dU (env :: outer),H b=none)(hex:∀b o,h₀.get? b=some o->∃o',h.get? b=some o')(hx:Heap.MadeExcOf h s.heap e cls args)
  (hQ:∀h',(∀b o,h.get? b=some o->b∉dU (env :: outer)->h'.get? b=some o)->(∀b o,h.get? b=some o->b∈dU (env :: outer)->∃sl,h'.get? b=some {o with slots:=sl})->Lies h₀ H h' e cls->j5 P w H h'->Q () {s with heap:=h'}) :
  wpAny M A (leaving env (.ref e)) Q E' s:=by
 obtain⟨t,he,_,_⟩:=hx.there
 unfold leaving
 refine MZ (ym (cls:=cls) hfr (hfn.of_keeps λb o q _=>⟨o,hx.keeps b o q,rfl⟩) hf he rfl rfl rfl rfl rfl λh4 T kp sl tn rc4=>oX rc4 λh5 kp5 rc5=>?_)
 have ne:∀b o,h.get? b=some o->b≠e:=λb o q z=>by rw[z,hx.new] at q;cases q
 have nT:∀b o,h.get? b=some o->b≠T:=λb o q z=>by
  have:=hx.keeps b o q
  rw[z,tn] at this;cases this
 have kept:∀b o,h.get? b=some o->b∉dU (env :: outer)->h5.get? b=some o:=λb o q hb=>kp5 b o (kp b o (hx.keeps b o q) hb (by simp[ne b o q])) (by simp) (by simp[nT b o q])
 have slot:∀b o,h.get? b=some o->b∈dU (env :: outer)->∃sl,h5.get? b=some {o with slots:=sl}:=λb o q hb=>by
  obtain⟨x,q4⟩:=sl b o (hx.keeps b o q) hb
  exact⟨x,kp5 b _ q4 (by simp) (by simp[nT b o q])⟩
 have fresh:∀{b:Addr},h.get? b=none->H b=none/\h₀.get? b=none:=λ{b} hb=>by
  refine⟨?_,?_⟩
  ·cases q:H b with
   |none=>rfl
   |some u=>obtain⟨o,qo⟩:=(hok b u q).there;rw[hb] at qo;cases qo
  ·cases q:h₀.get? b with
   |none=>rfl
   |some u=>obtain⟨o,qo⟩:=hex b u q;rw[hb] at qo;cases qo
 have no:h.get? T=none:=by
  cases q:h.get? T with
  |none=>rfl
  |some o=>exact absurd rfl (nT T o q)
 obtain⟨f1,f2⟩:=fresh hx.new
 obtain⟨g1,g2⟩:=fresh no
 refine hQ h5 kept slot ⟨f1,f2,T,rc5,g1,g2⟩ (mn hok λb o q hu=>kept b o q λz=>?_)
 obtain⟨u,hu⟩:=hu
 rw[hff b z] at hu;cases hu
end
section
variable {P:Program}{w:World}{K:Frag}{mg:Str->Option Value}{base:Heap}{N:List Str}{qual:Str}{scope:Scope}{f:Addr}{cd:Value}{A:Around}{outer:List Env}{s0:Shared}{H0:Hp}{E:XK}
def bc:Passes (mE P w) (kG (mE P w) P w K mg base N qual scope f cd A outer s0 H0 E) E:=by
 intro pins σ H s e s' I hcx
 obtain⟨ea,cls,H',rfl,os,bare,un,hok,Ly,q⟩:=hcx
 have I':=I.call' os un hok bare (λb hb=>absurd hb (by simp))
 have old:∀{b:Addr},s.heap.get? b=none->s0.heap.get? b=none:=λ{b} hb=>by
  cases z:s0.heap.get? b with
  |none=>rfl
  |some o=>obtain⟨o',z'⟩:=I.base.there b o z (show b∉([]:List Addr) by simp);rw[hb] at z';cases z'
 have Ly0:Lies s0.heap H' s'.heap ea cls:=by
  obtain⟨fr,nw,T,rc,hHT,hnT⟩:=Ly
  exact⟨fr,old nw,T,rc,hHT,old hnT⟩
 have above:s0.heap.objs.size<=(envOfC qual scope s0.heap.objs.size f cd).locals:=I.ok.above
 refine DP (base:=base) (h₀:=s0.heap) I'.ok.frames rfl I'.stack I'.hok I'.stkFree Ly0 (λb o z=>I'.base.there b o z (show b∉([]:List Addr) by simp)) λh' kept slot Ly' hok'=>?_
 have nL:∀{b:Addr} {o:Obj},s0.heap.get? b=some o->b∉dU outer->b∉dU (envOfC qual scope s0.heap.objs.size f cd :: outer):=λ{b o} z hb hm=>by
  rcases M6.mp (I'.stkSub b hm) with e |e
  ·have:=Nf z
   rw[e] at this
   exact absurd (ND this above) (NR _)
  ·exact hb e
 have inn:∀{b:Addr},b∈dU outer->b∈dU (envOfC qual scope s0.heap.objs.size f cd :: outer):=λ{b} hb=>by
  obtain⟨en,h1,h2⟩:=OG.mp hb
  exact OG.mpr ⟨en,M8 _ h1,h2⟩
 refine⟨ea,cls,H',rfl,os.trans I.os,bare,⟨λb o z n hb _=>?_,λb o z n hb _=>?_,λb o z n _=>I'.base.free b o z n (show b∉([]:List Addr) by simp),λb o z _=>?_,I'.base.tups,I'.base.frzs,I'.base.tbls⟩,hok',Ly',q⟩
 ·exact kept b o (I'.base.keep b o z n hb (show b∉([]:List Addr) by simp)) (nL z hb) (.inl ⟨o,z⟩)
 ·obtain⟨sl,z1⟩:=I'.base.slot b o z n hb (show b∉([]:List Addr) by simp)
  obtain⟨sl2,z2⟩:=slot b _ z1 (inn hb)
  exact⟨sl2,z2⟩
 ·obtain⟨o',z1⟩:=I'.base.there b o z (show b∉([]:List Addr) by simp)
  by_cases hb:b∈dU (envOfC qual scope s0.heap.objs.size f cd :: outer)
  ·obtain⟨sl,z2⟩:=slot b o' z1 hb
   exact⟨_,z2⟩
  ·exact⟨o',kept b o' z1 hb (.inl ⟨o,z⟩)⟩
def I0 (C:Addr)(E:XK)(t:TA):TS:=λ_ σ H=>t σ H λvs H1=>vs.length<=sizeLine/\E (.ref C) none H1
def Br {x:Str}{C:Addr}{np cpos pos:Pos}{e0:Expr}{es:List Expr}{t:TA}{Bn newId initId:String}{bmB:List Value}(FB:ExcBaseFacts Bn newId initId bmB)(hbb:bmB.contains (.type "BaseException")=true)(q:PySem.W.excIn K C bmB newId=true)
  (hg:Gl (kG (mE P w) P w K mg base N qual scope f cd A outer s0 H0 E) x) (hm:mg x=some (.ref C)) (ha:PA (kG (mE P w) P w K mg base N qual scope f cd A outer s0 H0 E) (e0 :: es) t)
  (he:starEach (e0 :: es) (envOfC qual scope s0.heap.objs.size f cd)=(false,eval e0 (envOfC qual scope s0.heap.objs.size f cd)) :: starEach es (envOfC qual scope s0.heap.objs.size f cd):=by rfl)
  (hpl:(backTo cpos (starEach es (envOfC qual scope s0.heap.objs.size f cd))).any (·.1)=false:=by rfl) (hdb:(x == ("__debug__":Str))=false:=by decide) :
  PS (kG (mE P w) P w K mg base N qual scope f cd A outer s0 H0 E) (.Raise (some (.Call (.Name x np) (e0 :: es) [] cpos)) none pos) (I0 C E t):=by
 intro pins s σ H D I h
 have own:∀{hh:Heap},K.In hh->∃bm Nn nm qn bs hdct sn sub ab col dd k0 k1 k2 k3 k5 mN,hh.get? C=some (excClassObj nm qn C Nn bs bm hdct sn sub ab col dd k0 k1 k2 k3 k5 newId)/\hh.Ns Nn mN/\mN "__init__"=none/\OwnTail hh bmB bm:=λ{hh} X=>by
  have q:=q
  unfold PySem.W.excIn at q
  split at q
  ·rename_i dd cdd sl ho
   split at q
   ·rename_i C' bm k0 k1 k2 k3 n k5 hm hs
    simp only[Ni,beq_iff_eq,Od] at q
    obtain⟨⟨⟨⟨⟨rfl,rfl⟩,hdel⟩,ht⟩,hok⟩,hni⟩:=q
    obtain⟨nm,bs,mro,ns,qn,hd,sn,sub,ab,col,del⟩:=cdd
    dsimp only at hm hdel hok hni
    subst hm hdel
    have hsl:sl=#[k0,k1,k2,k3,some (.builtin n),k5]:=by
     obtain⟨l⟩:=sl
     simp only at hs
     rw[hs]
    subst hsl
    exact⟨bm,ns,nm,qn,bs,hd,sn,sub,ab,col,dd,k0,k1,k2,k3,k5,_,X _ _ ho,.of_isNs (PySem.W.isNs_of_in X hok),PySem.W.nsMap_none_of_in X hok hni,PySem.W.tail_of_in X ht⟩
   ·cases q
  ·cases q
 obtain⟨bm,Nn,nm,qn,bs,hdct,sn,sub,ab,col,dd,k0,k1,k2,k3,k5,mN,hC,hN,hni,TL⟩:=own I.ok.mod.kin
 have hA:=ha cpos pins s σ H _ I h
 refine wpAny_Raise_call_subT (C:=C) (nm:=nm) (q:=qn) (N:=Nn) (bs:=bs) (bm:=bm) (hdct:=hdct) (sn:=sn) (sub:=sub) (ab:=ab) (col:=col) (dd:=dd) (k0:=k0) (k1:=k1) (k2:=k2) (k3:=k3) (k5:=k5) FB (mN:=mN) (TL.hasType hbb) (I.ok.hd rfl) ?_ hni (mB I hg hm ⟨rfl,?_⟩ hdb)
 ·show (backTo cpos (starEach (e0 :: es) (envOfC qual scope s0.heap.objs.size f cd))).any (·.1)=false
  rw[he]
  show (false || (backTo cpos (starEach es (envOfC qual scope s0.heap.objs.size f cd))).any (·.1))=false
  rw[hpl];rfl
 have hA:wpAny _ _ (spliced (backTo cpos (starEach (e0 :: es) (envOfC qual scope s0.heap.objs.size f cd)))) _ _ s:=hA
 show wpAny _ _ (evalArgs (.ref C) true (backTo cpos (starEach (e0 :: es) (envOfC qual scope s0.heap.objs.size f cd))) []) _ _ s
 rw[he] at hA ⊢
 refine Calls.evalArgs_plain (b6 hA λus s2 ⟨vs,H2,I2,r2,hl2,q2⟩=>⟨rfl,by show us.length<=_;rw[<-r2.length];exact hl2,I2.bk _ _ hC,hN.keeps I2.bk,TL.keeps I2.bk,λh' e hx=>?_⟩)
 have above:s0.heap.objs.size<=(envOfC qual scope s0.heap.objs.size f cd).locals:=I2.ok.above
 have nil:∀b:Addr,b∉([]:List Addr):=λb=>by simp
 refine xR (s:={s2 with heap:=h'}) (h:=s2.heap) (base:=base) (h₀:=s0.heap) I2.ok.frames rfl I2.stack I2.hok I2.stkFree (λb o z=>I2.base.there b o z (nil b)) hx λh2 kept slot Ly hok=>?_
 have nL:∀{b:Addr} {o:Obj},s0.heap.get? b=some o->b∉dU outer->b∉dU (envOfC qual scope s0.heap.objs.size f cd :: outer):=λ{b o} z hb hm=>by
  rcases M6.mp (I2.stkSub b hm) with e |e
  ·have:=Nf z
   rw[e] at this
   exact absurd (ND this above) (NR _)
  ·exact hb e
 have inn:∀{b:Addr},b∈dU outer->b∈dU (envOfC qual scope s0.heap.objs.size f cd :: outer):=λ{b} hb=>by
  obtain⟨en,h1,h2⟩:=OG.mp hb
  exact OG.mpr ⟨en,M8 _ h1,h2⟩
 refine⟨e,.ref C,H2,rfl,I2.os,I2.bare,⟨λb o z n hb _=>?_,λb o z n hb _=>?_,λb o z n _=>I2.base.free b o z n (nil b),λb o z _=>?_,I2.base.tups,I2.base.frzs,I2.base.tbls⟩,hok,Ly,q2⟩
 ·exact kept b o (I2.base.keep b o z n hb (nil b)) (nL z hb)
 ·obtain⟨sl,z1⟩:=I2.base.slot b o z n hb (nil b)
  obtain⟨sl2,z2⟩:=slot b _ z1 (inn hb)
  exact⟨sl2,z2⟩
 ·obtain⟨o',z1⟩:=I2.base.there b o z (nil b)
  by_cases hb:b∈dU (envOfC qual scope s0.heap.objs.size f cd :: outer)
  ·obtain⟨sl,z2⟩:=slot b o' z1 hb
   exact⟨_,z2⟩
  ·exact⟨o',kept b o' z1 hb⟩
end
section
variable {X:Cx}{pins:List (Addr×Obj)}{σ:St}{H:Hp}{s:Shared}{h':Heap}{e T:Addr}{oe oT:Obj}{vs ts:Array Value}
def Inv.exc {tk:Nat}(I:Inv X pins σ H s)(hex:X.ex= [])(he:s.heap.get? e=some oe)(hd:oe.data=.fields vs)(hT:s.heap.get? T=some oT)(hdT:oT.data=.fields ts)(n1:X.s₀.heap.get? e=none)(n2:X.s₀.heap.get? T=none)(pn:∀p∈X.pn ++ pins,p.1≠e/\p.1≠T)
  (kept:∀b o,s.heap.get? b=some o->b∉dU X.stack->b≠e->b≠T->h'.get? b=some o) (slot:∀b o,s.heap.get? b=some o->b∈dU X.stack->∃sl,h'.get? b=some {o with slots:=sl}) (hok:j5 X.prog X.w H h') :
  Inv X pins σ H {s with heap:=h',toks:=tk}:=by
 have nil:∀b:Addr,b∉X.ex:=λb=>by rw[hex];simp
 have any:∀b o,s.heap.get? b=some o->(∀ws,o.data≠.fields ws)->∃sl,h'.get? b=some {o with slots:=sl}:=λb o q n=>by
  by_cases hb:b∈dU X.stack
  ·exact slot b o q hb
  ·refine⟨o.slots,kept b o q hb (λz=>?_) λz=>?_⟩
   ·rw[z,he] at q;cases q;exact n _ hd
   ·rw[z,hT] at q;cases q;exact n _ hdT
 have cellK:∀{c:Addr} {v:Option Value},s.heap.IsCell c v->h'.IsCell c v:=λ{c v} ⟨o,ho,hdc⟩=>by
  obtain⟨sl,q⟩:=any c o ho λws z=>by rw[hdc] at z;cases z
  exact⟨_,q,hdc⟩
 have nsub:∀{b:Addr},b≠X.env.locals->b∉X.fs->b∉dU X.stack:=λ{b} h1 h2 hb=>(M6.mp (I.stkSub b hb)).elim h1 h2
 have neL:∀b o,X.s₀.heap.get? b=some o->b≠X.env.locals:=λb o q=>NG (ND (Nf q) I.ok.above)
 have ne2:∀b o,X.s₀.heap.get? b=some o->b≠e/\b≠T:=λb o q=>⟨λz=>by (rw[z,n1] at q;cases q),λz=>by (rw[z,n2] at q;cases q)⟩
 refine⟨I.ok,I.os,I.bare,⟨λb o q n hb hx=>?_,λb o q n hb hx=>?_,I.base.free,λb o q hx=>?_,I.base.tups,I.base.frzs,I.base.tbls⟩,?_,λx c q=>?_,I.free,I.freeC,λp hp=>?_,hok,I.len⟩
 ·exact kept b o (I.base.keep b o q n hb hx) (nsub (neL b o q) hb) (ne2 b o q).1 (ne2 b o q).2
 ·obtain⟨sl,q1⟩:=I.base.slot b o q n hb hx
  by_cases hs:b∈dU X.stack
  ·obtain⟨sl2,q2⟩:=slot b _ q1 hs
   exact⟨sl2,q2⟩
  ·exact⟨sl,kept b _ q1 hs (ne2 b o q).1 (ne2 b o q).2⟩
 ·obtain⟨o',q1⟩:=I.base.there b o q hx
  by_cases hs:b∈dU X.stack
  ·obtain⟨sl2,q2⟩:=slot b _ q1 hs
   exact⟨_,q2⟩
  ·exact⟨o',kept b _ q1 hs (ne2 b o q).1 (ne2 b o q).2⟩
 ·obtain⟨m,⟨o,es,ep,ho,hdd,r⟩,hl⟩:=I.loc
  obtain⟨sl,q⟩:=any _ o ho λws z=>by rw[hdd] at z;cases z
  refine⟨m,⟨_,es,ep,q,hdd,r⟩,λi x v e1 e2 e3=>?_⟩
  obtain⟨u,r',l⟩:=hl i x v e1 e2 e3
  refine⟨u,r',?_⟩
  rcases l with l | ⟨k,c,q,z⟩
  ·exact .inl l
  ·exact .inr ⟨k,c,q,cellK z⟩
 ·obtain⟨v,z⟩:=I.cell x c q
  exact⟨v,cellK z⟩
 ·obtain⟨q,n,ne,nf,d⟩:=I.pin p hp
  exact⟨kept p.1 p.2 q (nsub ne nf) (pn p hp).1 (pn p hp).2,n,ne,nf,d⟩
def i3 (e:Addr)(cls:Value)(h:Heap):Prop:=∃o vs,h.get? e=some o/\o.cls=cls/\o.dict=none/\o.data=.fields vs/\vs[2]? =some .none
def Rc.isExc {h:Heap}{e T:Addr}{cls fl:Value}(r:Rc h e cls T fl):i3 e cls h:=let ⟨oe,vs,_,_,a,b,c,d,_,f,_⟩:=r;⟨oe,vs,a,b,c,d,f⟩
def Inv.track {cls:Value}(I:Inv X pins σ H s)(he:i3 e cls s.heap)(hn:H e=none)(n1:X.s₀.heap.get? e=none)(hL:e≠X.env.locals)(hc:∀x c,X.env.cells.lookup x=some c->c≠e)(pn:∀p∈X.pn ++ pins,p.1≠e) :
  Inv X pins σ (upd H e (.ext (i3 e cls))) s:=by
 have un:∀{b:Addr},b≠e->upd H e (.ext (i3 e cls)) b=H b:=λ{b} z=>au z
 have keepT:∀{b:Addr} {o:HO},H b=some o->upd H e (.ext (i3 e cls)) b=some o:=λ{b o} q=>by rw[un (aB q hn)];exact q
 refine⟨I.ok,I.os,I.bare,⟨I.base.keep,I.base.slot,λb o q n hx=>?_,I.base.there,λb xs q=>keepT (I.base.tups b xs q),λb o u q=>keepT (I.base.frzs b o u q),λb ps q=>?_⟩,I.loc,I.cell,?_,λx c q=>?_,λp hp=>?_,λa o ha=>?_,I.len⟩
 ·rw[un (λz=>by rw[z,n1] at q;cases q)];exact I.base.free b o q n hx
 ·obtain⟨m,q1⟩:=I.base.tbls b ps q
  exact⟨m,keepT q1⟩
 ·rw[un hL.symm];exact I.free
 ·rw[un (hc x c q)];exact I.freeC x c q
 ·obtain⟨q,n,ne,nf,d⟩:=I.pin p hp
  exact⟨q,by rw[un (pn p hp)];exact n,ne,nf,d⟩
 ·by_cases z:a=e
  ·subst z
   rw[ah] at ha
   cases ha
   obtain⟨o,vs,q,c⟩:=he
   exact⟨⟨o,vs,q,c⟩,⟨o,q⟩,λh1 h2 ⟨o1,v1,q1,c1⟩ k=>⟨o1,v1,k o1 q1,c1⟩⟩
  ·rw[un z] at ha
   exact (I.hok a o ha).stay (λb u _ q=>q) (λb q=>keepT q) λb xs q=>q.imp keepT λ⟨o,q⟩=>⟨o,keepT q⟩
def Af {M:Model}{A:Around}{E:Value->Shared->Prop}{i:Nat}{x:Str}{v:V}{Q:Unit->Shared->Prop}(I:Inv X pins σ H s)(hN:X.N.Nodup)(hi:X.N[i]? =some x)(hk:X.env.scope.names.lookup x=some .local)(hv:σ[i]? =some (some v))
  (h:∀s',Inv X pins (σ.set i none) H s'->Q () s'):wpAny M A (unbindName X.env x) Q E s:=by
 obtain⟨m,hn,hl⟩:=id I.loc
 have hcls:(X.env.scope.kind == .class || (X.env.scope.kind == .module && X.env.locals != X.env.globals))=false:=by rw[I.ok.kind];rfl
 obtain⟨u,_,look⟩:=hl i x v hi hv (.inl hk)
 have hm:m x=some u:=by
  rcases look with⟨_,q⟩ | ⟨k,_⟩
  ·exact q
  ·have hk':X.env.kindOf x=some .local:=hk
   rw[hk'] at k
   rcases k with k |k <;> cases k
 refine wpAny_unbindName_local hk hn hm hcls λh' u' hn' hs=>?_
 obtain⟨oL,_,_,hoL,_⟩:=id hn
 have same:∀{b:Addr} {o:Obj},b≠X.env.locals->s.heap.get? b=some o->h'.get? b=some o:=λ{b o} z q=>(hs.2 b z).trans q
 have neL:∀{b:Addr} {o:Obj},X.s₀.heap.get? b=some o->b≠X.env.locals:=λ{b o} q=>NG (ND (Nf q) I.ok.above)
 have hok:j5 X.prog X.w H h':=mn I.hok λb o q hu=>same (λz=>by obtain⟨w',hw⟩:=hu;rw[z,I.free] at hw;cases hw) q
 refine h _ ⟨I.ok,I.os,I.bare,⟨λb o q n hb hx=>same (neL q) (I.base.keep b o q n hb hx),λb o q n hb hx=>?_,I.base.free,λb o q hx=>?_,I.base.tups,I.base.frzs,I.base.tbls⟩,⟨_,hn',λj y v' e1 e2 e3=>?_⟩,λy c q=>?_,I.free,I.freeC,λp hp=>?_,hok,by simpa using I.len⟩
 ·obtain⟨sl,q1⟩:=I.base.slot b o q n hb hx
  exact⟨sl,same (neL q) q1⟩
 ·obtain⟨o',q1⟩:=I.base.there b o q hx
  exact⟨o',same (neL q) q1⟩
 ·by_cases hj:j=i
  ·subst hj
   rw[Nt (by rw[I.len];exact (Np.mp hi).1)] at e2
   cases e2
  ·rw[Nu (Ne.symm hj)] at e2
   obtain⟨u2,r',q⟩:=hl j y v' e1 e2 e3
   refine⟨u2,r',?_⟩
   rcases q with⟨k,q⟩ | ⟨k,c,q,z⟩
   ·have:y≠x:=λz=>hj (qf hN e1 (z▸hi))
    exact .inl ⟨k,by simp[this,q]⟩
   ·exact .inr ⟨k,c,q,z.sameBut hs (I.cne y c q)⟩
 ·obtain⟨w',z⟩:=I.cell y c q
  exact⟨w',z.sameBut hs (I.cne y c q)⟩
 ·obtain⟨q,n,ne,nf,d⟩:=I.pin p hp
  exact⟨same ne q,n,ne,nf,d⟩
end
def xi (bmB:List Value)(newId:String)(C:Addr)(bm:List Value)(h:Heap):Prop:=∃Nn nm qn bs hdct sn sub ab col dd k0 k1 k2 k3 k5,h.get? C=some (excClassObj nm qn C Nn bs bm hdct sn sub ab col dd k0 k1 k2 k3 k5 newId)/\OwnTail h bmB bm
def mroIn (K:Frag)(C:Addr):List Value:=match K.lookup C with
 |some ⟨_,_,.cls cd,_⟩=>cd.mro
 |_=>[]
def y2 {K:Frag}{C:Addr}{bmB:List Value}{newId:String}(q:PySem.W.excIn K C bmB newId=true):∃bm,mroIn K C=.ref C :: bm/\∀{h:Heap},K.In h->xi bmB newId C bm h:=by
 have q0:=q
 unfold PySem.W.excIn at q
 split at q
 ·rename_i dd cdd sl ho
  split at q
  ·rename_i C' bm k0 k1 k2 k3 n k5 hm hs
   simp only[Ni,beq_iff_eq,Od] at q
   obtain⟨⟨⟨⟨⟨rfl,rfl⟩,hdel⟩,ht⟩,hok⟩,hni⟩:=q
   refine⟨bm,by unfold mroIn;rw[ho];exact hm,λ{h} X=>?_⟩
   obtain⟨nm,bs,mro,ns,qn,hd,sn,sub,ab,col,del⟩:=cdd
   dsimp only at hm hdel hok hni
   subst hm hdel
   have hsl:sl=#[k0,k1,k2,k3,some (.builtin n),k5]:=by
    obtain⟨l⟩:=sl
    simp only at hs
    rw[hs]
   subst hsl
   exact⟨ns,nm,qn,bs,hd,sn,sub,ab,col,dd,k0,k1,k2,k3,k5,X _ _ ho,PySem.W.tail_of_in X ht⟩
  ·cases q
 ·cases q
def CI {M:Model}{A:Around}{E:Value->Shared->Prop}{s:Shared}{Q:Bool->Shared->Prop}{C D e:Addr}{oe:Obj}{bm bmD bmB bmB2:List Value}{nC nD:String}(oC:xi bmB nC C bm s.heap)(oD:xi bmB2 nD D bmD s.heap)(he:s.heap.get? e=some oe)(hcls:oe.cls=.ref C)
  (hb:bmB2.contains (.type "BaseException")=true) (hup:(Value.ref C :: bm).contains (.ref D)=true) (hq:Q true s):wpAny M A (excMatches (.ref e) (.ref D)) Q E s:=by
 obtain⟨N1,nm1,qn1,bs1,hd1,sn1,sub1,ab1,col1,dd1,a0,a1,a2,a3,a5,hC,TC⟩:=oC
 obtain⟨N2,nm2,qn2,bs2,hd2,sn2,sub2,ab2,col2,dd2,b0,b1,b2,b3,b5,hD,TD⟩:=oD
 have hcB:(Value.ref D :: bmD).contains (.type "BaseException")=true:=by rw[List.contains_cons,TD.hasType hb,Bool.or_true]
 have f:=tc_notTuple
 obtain⟨h,g,d,t,os⟩:=s
 unfold excMatches
 repeat (first
  | (with_reducible refine wpAny_loadPart_at he ?_;rw[hcls])
  |with_reducible refine wpAny_loadPart_at hD ?_
  | (with_reducible refine wpAny_isSubtype_exc hD ?_;rw[hcB])
  | (with_reducible refine wpAny_isSubtype_exc hC ?_;rw[hup])
  |wp_step)
 exact hq
def Mt (K:Frag)(cls:Value)(D:Addr):Prop:=∀{M:Model} {A:Around} {E:Value->Shared->Prop} {s:Shared} {Q:Bool->Shared->Prop} {e:Addr} {oe:Obj},K.In s.heap->s.heap.get? e=some oe->oe.cls=cls->Q true s->wpAny M A (excMatches (.ref e) (.ref D)) Q E s
def KW {K:Frag}{C D:Addr}{bmB bmB2:List Value}{nC nD:String}(qC:PySem.W.excIn K C bmB nC=true)(qD:PySem.W.excIn K D bmB2 nD=true)(hb:bmB2.contains (.type "BaseException")=true)(hup:(mroIn K C).contains (.ref D)=true):Mt K (.ref C) D:=by
 intro M A E s Q e oe X he hc hq
 obtain⟨bm,e1,o1⟩:=y2 qC
 obtain⟨bmD,e2,o2⟩:=y2 qD
 rw[e1] at hup
 exact CI (o1 X) (o2 X) he hc hb hup hq
abbrev Cx.inTry (X:Cx)(Ex:Value->Shared->Prop)(pn:List (Addr×Obj)):Cx:={X with xe:=Ex,pn:=pn}
abbrev Cx.inEx (X:Cx)(e:Addr):Cx:={X with A:=X.A.mark (some (.ref e)),calm:=false,xe:=λ_ _=>False}
section
variable {X:Cx}{pins:List (Addr×Obj)}{σ:St}{H:Hp}{s:Shared}
def Inv.toTry (I:Inv X pins σ H s)(Ex:Value->Shared->Prop):Inv (X.inTry Ex (X.pn ++ pins)) [] σ H s:=
 ⟨⟨I.ok.mod,I.ok.kind,I.ok.glob,I.ok.blt,I.ok.above,I.ok.inj,I.ok.has,I.ok.cab,I.ok.hd,I.ok.frames,I.ok.stk,I.ok.exf,I.ok.bs,I.ok.bsz,I.ok.noex,I.ok.exfs,I.ok.funs,I.ok.frf⟩,I.os,I.bare,I.base,I.loc,I.cell,I.free,I.freeC,λp hp=>I.pin p (by simpa using hp),I.hok,I.len⟩
def Inv.ofTry {Ex:Value->Shared->Prop}{pins2:List (Addr×Obj)}(I:Inv (X.inTry Ex (X.pn ++ pins)) pins2 σ H s):Inv X pins σ H s:=
 ⟨⟨I.ok.mod,I.ok.kind,I.ok.glob,I.ok.blt,I.ok.above,I.ok.inj,I.ok.has,I.ok.cab,I.ok.hd,I.ok.frames,I.ok.stk,I.ok.exf,I.ok.bs,I.ok.bsz,I.ok.noex,I.ok.exfs,I.ok.funs,I.ok.frf⟩,I.os,I.bare,I.base,I.loc,I.cell,I.free,I.freeC,λp hp=>I.pin p (Of _ hp),I.hok,I.len⟩
def Inv.toEx (I:Inv X pins σ H s)(e:Addr):Inv (X.inEx e) pins σ H s:=
 ⟨⟨I.ok.mod,I.ok.kind,I.ok.glob,I.ok.blt,I.ok.above,I.ok.inj,I.ok.has,I.ok.cab,λz=>absurd z Nq,I.ok.frames,I.ok.stk,I.ok.exf,I.ok.bs,I.ok.bsz,I.ok.noex,I.ok.exfs,I.ok.funs,I.ok.frf⟩,I.os,I.bare,I.base,I.loc,I.cell,I.free,I.freeC,I.pin,I.hok,I.len⟩
def Inv.ofEx {e:Addr}(ok:X.Ok)(I:Inv (X.inEx e) pins σ H s):Inv X pins σ H s:=
 ⟨ok,I.os,I.bare,I.base,I.loc,I.cell,I.free,I.freeC,I.pin,I.hok,I.len⟩
theorem SP.ofTry {Ex:Value->Shared->Prop}{D:Ends}{f:Flow}{s':Shared}(h:SP (X.inTry Ex (X.pn ++ pins)) [] D f s'):SP X pins D f s':=by
 cases f with
 |next=>obtain⟨σ',H',I,q⟩:=h;exact⟨σ',H',I.ofTry,q⟩
 |brk=>obtain⟨σ',H',I,q⟩:=h;exact⟨σ',H',I.ofTry,q⟩
 |cont=>obtain⟨σ',H',I,q⟩:=h;exact⟨σ',H',I.ofTry,q⟩
 |ret u=>obtain⟨v,σ',H',I,r,q⟩:=h;exact⟨v,σ',H',I.ofTry,r,q⟩
end
def GS (i:Nat)(D:Ends):Ends:={nx:=λσ H=>D.nx ((σ.set i (some .non)).set i none) H,rt:=D.rt,bk:=λσ H=>D.bk ((σ.set i (some .non)).set i none) H,ct:=λσ H=>D.ct ((σ.set i (some .non)).set i none) H}
def Mf (K:Frag)(Dc:Addr)(i len:Nat)(tb:XK->TS)(th:Addr->TS):TS:=λD σ H=>∃Eb:XK,tb Eb D σ H/\∀cls d H',Eb cls d H'->Mt K cls Dc/\∀(ea:Addr) (σ':St),H' ea=none->σ'.length=len->th ea (GS i D) (σ'.set i (some (.ref ea))) (upd H' ea (.ext (i3 ea cls)))
section
variable {X:Cx}
def IW {n x:Str}{i:Nat}{Dc:Addr}{np hpos pos:Pos}{body suite:List Stmt}{b0:Stmt}{tb:XK->TS}{th:Addr->TS}(hst:X.stack=X.env :: X.outer)(hfr:X.env.frame=some X.env.locals)(hex:X.ex= [])
  (hb:∀Eb Ex pn,Passes (mE X.prog X.w) (X.inTry Ex pn) Eb->oJ (X.inTry Ex pn) body (tb Eb)) (hs:∀e,oJ (X.inEx e) (b0 :: suite) (th e)) (hg:Gl X x) (hm:X.mg x=some (.ref Dc)) (hN:X.N.Nodup) (hi:X.N[i]? =some n) (hk:X.env.scope.names.lookup n=some .local)
  (hdb:(x == ("__debug__":Str))=false:=by decide) :
  PS X (.Try body [.ExceptHandler (some (.Name x np)) (some n) (b0 :: suite) hpos] [] [] pos) (Mf X.K Dc i X.N.length tb th):=by
 intro pins s σ H D I h
 obtain⟨Eb,h1,h2⟩:=h
 refine wpAny_Try_except ?_
 refine Oo (hb Eb (λe s₁=>wpAny (model X.prog X.w) X.A (noteFrame e X.env) (λ_ s₂=>wpAny (model X.prog X.w) X.A (setFlight e none) (λ_ s₃=>wpAny (model X.prog X.w) X.A (handleBy e X.env [.ExceptHandler (some (.Name x np)) (some n) (b0 :: suite) hpos]) (SP X pins D) X.xe s₃) X.xe s₂) X.xe s₁) (X.pn ++ pins) ?_ [] s σ H D (I.toTry _) h1) (λf s1 q=>?_) λe s1 q=>q
 ·intro pins2 σ2 H2 s2 e s3 I2 hcx
  obtain⟨ea,cls,H',rfl,os,bare,un,hok,Ly,q⟩:=hcx
  have I3:Inv X pins σ2 H' s3:=(I2.call' os un hok bare (λb hb=>absurd hb (by simp))).ofTry
  have I2':Inv X pins σ2 H2 s2:=I2.ofTry
  have nil:∀b:Addr,b∉X.ex:=λb=>by rw[hex];simp
  obtain⟨mt,hth⟩:=h2 cls none H' q
  obtain⟨fr,nw,T,rc,hHT,hnT⟩:=Ly
  obtain⟨oe,vs,oT,ts,he,hc,hdd,hd,hv1,hv2,hTe,hT,hdT,hv3⟩:=id rc
  have old:∀{b:Addr},s2.heap.get? b=none->X.s₀.heap.get? b=none:=λ{b} hb=>by
   cases z:X.s₀.heap.get? b with
   |none=>rfl
   |some o=>obtain⟨o',z'⟩:=I2'.base.there b o z (nil b);rw[hb] at z';cases z'
  have hpn:∀p∈X.pn ++ pins,p.1≠ea/\p.1≠T:=λp hp=>by
   have:=(I2'.pin p hp).1
   exact⟨λz=>by (rw[z,nw] at this;cases this),λz=>by (rw[z,hnT] at this;cases this)⟩
  have hfn:=I3.stack
  have mem:∀{b:Addr},b∈dU X.stack->∃o,s3.heap.get? b=some o/\∀ws,o.data≠.fields ws:=λ{b} hb=>(hfn.mem hb).2
  have tF:T∉dU X.stack:=λz=>by
   obtain⟨o,q,n⟩:=mem z
   rw[hT] at q;cases q;exact n _ hdT
  have hfn':s3.heap.FunFrames X.base (X.env :: X.outer):=by rw[<-hst];exact hfn
  have step:∀{h':Heap} {tk:Nat},Keeps (dU X.stack) [ea,T] s3.heap h'->Slots (dU X.stack) s3.heap h'->Inv X pins σ2 H' {s3 with heap:=h',toks:=tk}:=λ{h' tk} kp sl=>by
   have kept:∀b o,s3.heap.get? b=some o->b∉dU X.stack->b≠ea->b≠T->h'.get? b=some o:=λb o q hb n1 n2=>kp b o q hb (by simp[n1,n2])
   refine I3.exc hex he hd hT hdT (old nw) (old hnT) hpn kept sl (mn I3.hok λb o q hu=>?_)
   obtain⟨u,hu⟩:=hu
   refine kept b o q (λz=>?_) (λz=>?_) λz=>?_
   ·rw[I3.stkFree b z] at hu;cases hu
   ·rw[z,fr] at hu;cases hu
   ·rw[z,hHT] at hu;cases hu
  have hfr':X.A.frames=some (X.env :: X.outer):=by rw[<-hst];exact I3.ok.frames
  have more:∀{h4 h5:Heap} {T2:Addr},(s3.heap.get? T2=none\/T2=T)->Keeps [] [T2] h4 h5->Keeps (dU X.stack) [ea,T] s3.heap h4->Slots (dU X.stack) s3.heap h4->Keeps (dU X.stack) [ea,T] s3.heap h5/\Slots (dU X.stack) s3.heap h5:=λ{h4 h5 T2} tn k5 kp sl=>by
   have nT:∀b o,s3.heap.get? b=some o->b≠T->b≠T2:=λb o q n z=>by
    rcases tn with tn |tn
    ·rw[z,tn] at q;cases q
    ·exact n (z.trans tn)
   refine⟨λb o q hb hn=>k5 b o (kp b o q hb hn) (by simp) ?_,λb o q hb=>?_⟩
   ·simp only[M6,N9,Pg,not_or] at hn
    simp[nT b o q hn.2]
   ·obtain⟨x,q4⟩:=sl b o q hb
    exact⟨x,k5 b _ q4 (by simp) (by simp[nT b o q λz=>tF (z▸hb)])⟩
  have key:∀{h5:Heap} {T2:Addr},(s3.heap.get? T2=none\/T2=T)->Rc h5 ea cls T2 .none->Keeps (dU X.stack) [ea,T] s3.heap h5->Slots (dU X.stack) s3.heap h5->wpAny (model X.prog X.w) X.A (handleBy (.ref ea) X.env [.ExceptHandler (some (.Name x np)) (some n) (b0 :: suite) hpos]) (SP X pins D) X.xe {s3 with heap:=h5}:=λ{h5 T2} tn rc5 kp5 sl5=>by
   have I5:Inv X pins σ2 H' {s3 with heap:=h5}:=step (tk:=s3.toks) kp5 sl5
   obtain⟨oe5,vs5,he5,hc5,_,_⟩:=rc5.isExc
   refine wpAny_handleBy_cons (codeAny_handlers_test (mB (X:=X.inEx ea) (I5.toEx ea) hg hm ?_ hdb)) (by intro q;cases q)
   refine mt I5.kIn he5 hc5 ?_
   refine codeAny_handlers_suite_as (oX (s:={s3 with heap:=h5}) rc5 λh6 k6 rc6=>?_)
   obtain⟨kp6,sl6⟩:=more tn k6 kp5 sl5
   have I6:Inv X pins σ2 H' {s3 with heap:=h6}:=step (tk:=s3.toks) kp6 sl6
   have eL:ea≠X.env.locals:=λz=>by
    obtain⟨m,⟨o,es,ep,ho,hdd,r⟩,_⟩:=I3.loc
    rw[<-z,he] at ho;cases ho
    rw[hd] at hdd;cases hdd
   have eC:∀y c,X.env.cells.lookup y=some c->c≠ea:=λy c q z=>by
    obtain⟨v,o,ho,hdd⟩:=I3.cell y c q
    rw[z,he] at ho;cases ho
    rw[hd] at hdd;cases hdd
   have I7:=I6.track (cls:=cls) rc6.isExc fr (old nw) eL eC λp hp=>(hpn p hp).1
   refine mG I7 hN hi (.inl hk) (v:=.ref ea) rfl (λs8 I8=>?_) (.inr hk)
   refine Oo (hs ea pins s8 _ _ (GS i D) (I8.toEx ea) (hth ea σ2 fr I3.len)) (λf s9 q9=>?_) λ_ _ z=>z.elim
   have back:∀{σ9:St} {H9:Hp} {Q:Unit->Shared->Prop},Inv (X.inEx ea) pins σ9 H9 s9->(∀s',Inv X pins ((σ9.set i (some .non)).set i none) H9 s'->Q () s')->wpAny (model X.prog X.w) X.A (do bindName X.env n .none;unbindBehindTheSuite X.env n hpos) Q X.xe s9:=λ{σ9 H9 Q} I9 hQ=>by
    refine MZ (wpAny_bindName (mG (I9.ofEx I.ok) hN hi (.inl hk) (v:=.non) rfl (λs10 I10=>?_) (.inr hk)))
    have hl:i < σ9.length:=by rw[I9.len];exact (Np.mp hi).1
    exact wpAny_onRaise (Af (v:=.non) I10 hN hi hk (by rw[Nt hl]) hQ)
   cases f with
   |next=>obtain⟨σ9,H9,I9,q⟩:=q9;exact back I9 λs' I'=>⟨_,H9,I',q⟩
   |brk=>obtain⟨σ9,H9,I9,q⟩:=q9;exact back I9 λs' I'=>⟨_,H9,I',q⟩
   |cont=>obtain⟨σ9,H9,I9,q⟩:=q9;exact back I9 λs' I'=>⟨_,H9,I',q⟩
   |ret u=>obtain⟨v,σ9,H9,I9,r,q⟩:=q9;exact back I9 λs' I'=>⟨v,_,H9,I',r,q⟩
  refine sx hfr' hfn' hfr rc λh4 T2 kp4 sl4 tn rc4=>oX (s:={s3 with heap:=h4}) rc4 λh5 k5 rc5=>?_
  rw[<-hst] at kp4 sl4
  obtain⟨kp5,sl5⟩:=more tn k5 kp4 sl4
  exact key tn rc5 kp5 sl5
 ·cases f with
  |next=>exact PN (SP.ofTry q)
  |brk=>exact SP.ofTry q
  |cont=>exact SP.ofTry q
  |ret u=>exact SP.ofTry q
end
structure ni (k:Nat)(A:Around):Prop where
 dp:A.depth + 3 * k + 5 < recursionLimit
 un:A.units + 16 * k + 200 < cLine
 gd:A.guards=some []
def dG.h {k:Nat}{A:Around}(r:dG k A):ni k A:=⟨r.dp,r.un,r.gd⟩
def dG.mark {k:Nat}{A:Around}(r:dG k A)(v:Option Value):ni k (A.mark v):=⟨r.dp,r.un,r.gd⟩
def ni.deeper {k:Nat}{A:Around}(r:ni (k + 1) A)(env:Env):ni k (A.deeper env):=
 ⟨by have:=r.dp;show A.depth + 1 + 3 * k + 5 < _;omega,by have:=r.un;show A.units + 3 + 16 * k + 200 < _;omega,r.gd⟩
structure sL (P:Program)(w:World)(K:Frag)(mg:Str->Option Value)(base:Heap)(CX:wc)(k:Nat)(f:Addr)(fd:FuncData)(ps:List Str)(sp:Sp):Prop where
 len:∀vs H Q E,sp vs H Q E->vs.length=ps.length
 run:∀(A:Around) (outer:List Env) (s:Shared) (H:Hp) (args:Args) (us:List Value) (vs:List V) (Q:VK) (E:XK),ni k A->x9 P w K mg base A outer s H->BindsTo s fd args (ps.zip us)->Vals vs us->sp vs H Q E->
  codeAny (model P w) A (.call (.ref f) args) (CR CX outer P w H s Q E) s
abbrev y7 (CX:wc)(P:Program)(w:World)(K:Frag)(mg:Str->Option Value)(base:Heap)(N:List Str)(qual:Str)(scope:Scope)(f:Addr)(cd:Value)(A:Around)(outer:List Env)(s:Shared)(H:Hp)(E:XK):Cx:=
 {kG CX P w K mg base N qual scope f cd A outer s H E with calm:=false}
def xI {CX:wc}{P:Program}{w:World}{K:Frag}{mg:Str->Option Value}{base:Heap}{N ps:List Str}{qual:Str}{scope:Scope}{f:Addr}{cd:Value}{A:Around}{outer:List Env}{s s1:Shared}{H:Hp}{E:XK}{us:List Value}{vs:List V}
  (S:aE N ps scope) (e0:x9 P w K mg base A outer s H) (hl:vs.length=ps.length) (r:Vals vs us)
  (x:InCallC s s.heap.objs.size (bindL (envOfC qual scope s.heap.objs.size f cd).kindOf (ps.zip us) λ_=>none) (cellsFrom (s.heap.objs.size + 1) scope.names []) (bindC (envOfC qual scope s.heap.objs.size f cd).kindOf (ps.zip us) λ_=>none) s1) :
  Inv (y7 CX P w K mg base N qual scope f cd A outer s H E) [] (start N vs) H s1:=by
 have e1:x9 P w K mg base {A with handled:=none} outer s H:=⟨e0.frames,e0.mod,e0.bs,e0.bsz,e0.funs,e0.frf,e0.hok,e0.bare⟩
 have I:=rO (CX:=CX) (E:=E) (A:={A with handled:=none}) S rfl e1 hl r x
 exact⟨⟨I.ok.mod,I.ok.kind,I.ok.glob,I.ok.blt,I.ok.above,I.ok.inj,I.ok.has,I.ok.cab,λz=>absurd z Nq,Around.frames_deeper e0.frames,I.ok.stk,I.ok.exf,I.ok.bs,I.ok.bsz,I.ok.noex,I.ok.exfs,I.ok.funs,I.ok.frf⟩,I.os,I.bare,I.base,I.loc,I.cell,I.free,I.freeC,I.pin,I.hok,I.len⟩
section
variable {P:Program}{w:World}{K:Frag}{mg:Str->Option Value}{base:Heap}
theorem A8.okH {x qual:Str}{st:Stmt}{f:Addr}{fd:FuncData}{N ps:List Str}{k:Nat}{sp:Sp}(F:A8 K x qual st f fd)(S:aE N ps (aq st))(len:∀vs H Q E,sp vs H Q E->vs.length=ps.length)
  (hbody:∀(cdv:Value) (A:Around) (outer:List Env) (s:Shared) (H:Hp) (vs:List V) (Q:VK) (E:XK),ni k (A.deeper (envOfC qual (aq st) s.heap.objs.size f cdv))->sp vs H Q E->
   ∃t,oJ (y7 yh P w K mg base N qual (aq st) f cdv A outer s H E).nox (bO st) t/\t {nx:=λ_ H'=>Q .non H',rt:=Q} (start N vs) H):sL P w K mg base yh (k + 1) f fd ps sp:=by
 obtain⟨oc,od,kV,doc,pm,an,cdv,ct,osl,rfl,lk,hcd⟩:=F.ex
 refine⟨len,λA outer s H args us vs Q E hr e0 hb r hsp=>?_⟩
 have hl:=len _ _ _ _ hsp
 have KX:K.In s.heap:=e0.mod.kin.keeps λb o e=>(e0.bs b o e).1
 have lim:s.heap.NoLimit:=e0.mod.nolimit.keeps λb o e=>(e0.bs b o e).1
 have hkind:∀y∈ps.zip us,(aq st).names.lookup y.1=some .local\/((aq st).names.lookup y.1=some .cell/\((cellsFrom (s.heap.objs.size + 1) (aq st).names []).lookup y.1).isSome=true):=λ⟨n,v⟩ hy=>by
  rcases S.par n (of_mem_zip hy).1 with q |q
  ·exact .inl q
  ·exact .inr ⟨q,PySem.W.cellsFrom_some _ _ _ (.inl q)⟩
 have hdep:A.depth < recursionLimit:=by have:=hr.dp;omega
 refine codeAny_call_function hdep (KX _ _ lk) rfl S.co S.gen rfl (PySem.W.codeRec_of KX hcd) (hb _ _ _ _ ?_)
 refine wpAny_newFunctionEnv_cells S.kind hkind λenv he s1 x=>?_
 subst he
 refine⟨lim.keeps x.toInCall.keep,codeAny_func ?_⟩
 obtain⟨t,ht,hq⟩:=hbody cdv A outer s H vs Q E (hr.deeper _) hsp
 have I:Inv (y7 yh P w K mg base N qual (aq st) f cdv A outer s H E) [] (start N vs) H s1:=xI S e0 hl r x
 refine Oo (ht.nox [] s1 (start N vs) H _ I hq) (λfl s' hs=>?_) λe s' hs=>hs
 have fin:∀{σ':St} {H':Hp} {v:V} {u:Value},Inv (y7 yh P w K mg base N qual (aq st) f cdv A outer s H E) [] σ' H' s'->RelV v u->Q v H'->CE outer P w H s Q u s':=
  λ{σ' H' v u} J rv q=>⟨v,H',J.os,J.bare,J.base,J.hok,rv,q⟩
 cases fl with
 |ret u=>
  obtain⟨v,σ',H',J,rv,q⟩:=hs
  exact fin J rv q
 |next=>
  obtain⟨σ',H',J,q⟩:=hs
  exact fin (v:=V.non) (u:=Value.none) J rfl q
 |brk=>
  obtain⟨_,_,_,q⟩:=hs
  exact False.elim q
 |cont=>
  obtain⟨_,_,_,q⟩:=hs
  exact False.elim q
def A8.A9 {x qual:Str}{st:Stmt}{f:Addr}{fd:FuncData}{N ps:List Str}{k:Nat}{sp:Sp}(F:A8 K x qual st f fd)(S:aE N ps (aq st))(len:∀vs H Q E,sp vs H Q E->vs.length=ps.length)
  (hbody:∀(cdv:Value) (A:Around) (outer:List Env) (s:Shared) (H:Hp) (vs:List V) (Q:VK) (E:XK),dG k (A.deeper (envOfC qual (aq st) s.heap.objs.size f cdv))->sp vs H Q E->
   ∃t,oJ (kG (mE P w) P w K mg base N qual (aq st) f cdv A outer s H E) (bO st) t/\t {nx:=λ_ H'=>Q .non H',rt:=Q} (start N vs) H):fJ P w K mg base (mE P w) (k + 1) f fd ps sp:=by
 obtain⟨oc,od,kV,doc,pm,an,cdv,ct,osl,rfl,lk,hcd⟩:=F.ex
 exact GC lk hcd S len λA outer s H vs Q E hr hsp=>hbody cdv A outer s H vs Q E hr hsp
end
section
variable {X:Cx}{CX:wc}{k:Nat}{f:Addr}{fd:FuncData}{ps:List Str}{sp:Sp}{dvs:List V}{ds:List Value}{E:XK}{x:Str}{p pos:Pos}{e:Expr}{es:List Expr}{t:TA}
theorem C7 (F:sL X.prog X.w X.K X.mg X.base CX k f fd ps sp)(hr:ni k X.A)(hg:Gl X x)(hm:X.mg x=some (.ref f))(hk:PySem.W.keepIn X.K (.ref f)=true)(hb:Binds X.K fd ps ds)(hd:Vals dvs ds)(hx:Passes CX X E)
  (ha:PA X (e :: es) t) (hdb:(x == ("__debug__":Str))=false:=by decide) (he:starEach (e :: es) X.env=(false,eval e X.env) :: starEach es X.env:=by rfl) (hpl:(backTo pos (starEach es X.env)).any (·.1)=false:=by rfl) :
  PE X (.Call (.Name x p) (e :: es) [] pos) (GN sp dvs E t):=by
 intro pins s σ H Q I h
 refine PV (mB I hg hm ?_ hdb)
 refine PySem.W.callWith_K (h₀:=X.base) I.ok.mod.kin hk (b6 (ha pos pins s σ H _ I h) λus s1 ⟨vs,H1,I1,r,q⟩=>⟨I1.kIn,?_⟩) he hpl
 have r2:Vals (vs ++ dvs) (us ++ ds):=r.append hd
 have hl:(us ++ ds).length=ps.length:=by rw[<-r2.length];exact F.len _ _ _ _ q
 refine wpAny_call (O0 (F.run X.A X.stack s1 H1 ⟨us,[]⟩ (us ++ ds) (vs ++ dvs) Q E hr I1.env0 (hb s1 us I1.kIn hl) r2 q) λr s' hq=>?_)
 cases r with
 |error e=>exact hx pins σ H1 s1 e s' I1 hq
 |ok fl=>
  cases fl with
  |ret u=>exact I1.after hq
  |next=>exact False.elim hq
  |brk=>exact False.elim hq
  |cont=>exact False.elim hq
end
section
variable {prog:Program}{w:World}{A:Around}{E:Value->Shared->Prop}{s:Shared}{K:Frag}{x D:Addr}{ox:Obj}
structure wA (K:Frag)(D:Addr):Prop where
 cl:(PySem.W.clsIn K D).isSome=true
 ga:PySem.W.findIn K (.ref D) "__getattribute__"=some (some (.builtin "BaseException.__getattribute__"))
 gn:PySem.W.findIn K (.ref D) "__getattr__"=some none
 cls:PySem.W.findIn K (.ref D) "__class__"=some (some (.builtin "object.__class__"))
 get:PySem.W.specialIn K (.builtin "object.__class__") "__get__"=some (some (.builtin "getset_descriptor.__get__"))
 tk:PySem.W.takesIn K (.builtin "object.__class__")=some true
 ob:PySem.W.mroIn K D (.type "object")=some true
 be:PySem.W.mroIn K D (.type "BaseException")=some true
def Cm (e:wA K D):PySem.W.findObj K D none "__class__"=some (.bind (.builtin "getset_descriptor.__get__") (.builtin "object.__class__")):=by
 obtain⟨cd,hc⟩:=Pe.mp e.cl
 unfold PySem.W.findObj
 rw[hc,Option.bind_some,e.cls,Option.bind_some]
 simp[e.get,e.tk]
def zM {M:Model}{nameV:Value}{Q:Unit->Shared->Prop}(e:wA K D)(X:K.In s.heap)(I:PySem.W.InstAt s.heap x ox D none)(hq:Q () s):wpAny M A (checkBuiltinCall "BaseException.__getattribute__" ⟨[.ref x,nameV],[]⟩) Q E s:=by
 have hk:builtinKind "BaseException.__getattribute__"=some .slot:=by decide +kernel
 have hsp:splitId "BaseException.__getattribute__"=some ("BaseException","__getattribute__"):=by decide +kernel
 have ha:=F.args_bexc_ga (.ref x) nameV
 have L0:=I.type (M:=M)
 have L1:=PySem.W.looks_mroIn (M:=M) X e.be
 simp only[checkBuiltinCall,hk,hsp]
 obtain⟨hh,g,d,t,os⟩:=s
 refine MZ ?_
 unfold isInstance
 repeat (first
  |with_reducible refine L0.at ?_
  |with_reducible refine L1.at ?_
  |wp_step)
 exact hq
def Ec {tk:Tok}{Q:Fin->Shared->Prop}(e:wA K D)(X:K.In s.heap)(I:PySem.W.InstAt s.heap x ox D none)(hq:Q (.done (.ret (.ref D))) s):wpAny (model prog w) A (Builtin.«object.__getattribute__» ⟨[.ref x,.str "__class__" tk],[]⟩) Q E s:=by
 have L0:=I.type (M:=model prog w)
 have L1:=PySem.W.looks_find (M:=model prog w) X I (Cm e)
 obtain⟨hh,g,d,t,os⟩:=s
 repeat (any_goals (first
  |assumption
  |with_reducible refine L0.at ?_
  |with_reducible refine L1.at ?_
  |wp_step))
 exact PySem.W.class_get X I e.ob (M5 hq)
def G7 {tk:Tok}{Q:Value->Shared->Prop}(FB:ExcAttrFacts "ValueError")(e:wA K D)(X:K.In s.heap)(I:PySem.W.InstAt s.heap x ox D none)(hq:Q (.ref D) s):wpAny (model prog w) A (getAttrBy (.ref x) (.str "__class__" tk) false) Q E s:=by
 have f3:=FB.ga.bind (.ref x)
 have hx2:(Value.builtin "BaseException.__getattribute__" == Value.builtin "object.__getattribute__")=false:=by decide +kernel
 have hx1:(onTheHeap (Value.ref D) && Value.builtin "BaseException.__getattribute__" == Value.builtin "object.__getattribute__")=false:=by rw[hx2];rfl
 have L0:=I.type (M:=model prog w)
 have L1:=PySem.W.looks_findIn (M:=model prog w) X e.ga
 have L2:=PySem.W.looks_findIn (M:=model prog w) X e.gn
 obtain⟨hh,g,d,t,os⟩:=s
 repeat (any_goals (first
  |assumption
  |with_reducible refine L0.at ?_
  |with_reducible refine L1.at ?_
  |with_reducible refine L2.at ?_
  |wp_step))
 exact codeAny_call_builtin FB.ga.plain F.entry_bexc_ga (zM e X I (Ec e X I (PySem.W.handed_on rfl hq)))
def Dx {Q:Option Value->Shared->Prop}(FB:ExcAttrFacts "ValueError")(e:wA K D)(X:K.In s.heap)(I:PySem.W.InstAt s.heap x ox D none)(hq:Q (some (.ref D)) {s with toks:=s.toks + 1}):wpAny (model prog w) A (getAttr? (.ref x) "__class__") Q E s:=by
 unfold getAttr? getAttrBy?
 exact MZ (wpAny_mkText (MZ (wpAny_attempt (G7 FB e X I (M5 hq)))))
def i3.inst {h:Heap}(i:i3 x (.ref D) h):∃ox,PySem.W.InstAt h x ox D none:=by
 obtain⟨o,vs,a,b,c,d,_⟩:=i
 exact⟨o,a,b,by unfold PySem.W.notCls;rw[d],by rw[c];trivial⟩
def Ce (e:wA K D):PySem.W.KitX K (.ref x) (.ref D) (i3 x (.ref D)) where
 ty:=λ_ _ _ i=>let ⟨_,I⟩:=i.inst;I.type
 it:=λ_ _ X _=>by
  obtain⟨cdD,hcD⟩:=Pe.mp e.cl
  unfold PySem.W.clsIn at hcD
  split at hcD
  ·rename_i c' d' cd' sl' ho
   intro A' Q' E' s' k q
   unfold isType loadHead
   exact MZ (wpAny_loadPart (k _ _ (X _ _ ho)) (M5 q))
  ·cases hcD
 ne:=λh tp dd its n sl X htp=>by
  obtain⟨cdD,hcD⟩:=Pe.mp e.cl
  refine Bool.eq_false_iff.mpr λq=>?_
  have e:D=tp:=Value.ref.inj (beq_iff_eq.mp q)
  subst e
  unfold PySem.W.clsIn at hcD
  split at hcD
  ·rename_i c' d' cd' sl' ho
   have z:=(X _ _ ho).symm.trans htp
   cases z
  ·cases hcD
 ca:=λX i k=>let ⟨_,I⟩:=i.inst;Dx F.excAttr_ValueError e X I k
end
end L2
namespace L2
open PySem PySem.SeqAt PySem.Spec PyProof.Rows
section
variable {X:Cx}
def Kf (K:Frag):List V->Hp->VK->Prop:=λxs H Q=>∃(x D:Addr) (c:V) (C:Value) (b:Bool),xs= [.ref x,c]/\(∀u,RelV c u->u=C)/\H x=some (.ext (i3 x (.ref D)))/\wA K D/\PySem.W.kitOne K (.ref D) C=some b/\Q (.bl b) H
def bC:cg X (.builtin "isinstance") (Kf X.K):=by
 intro pins s σ H xs us Q I r h
 obtain⟨x,D,c,C,b,rfl,hc,hx,e,k,q⟩:=h
 obtain⟨u,v,rfl,rx,rc⟩:=vals2 r
 cases rx
 rw[hc v rc]
 obtain⟨p,_,_⟩:=(show bA X.prog X.w H s.heap x (.ext (i3 x (.ref D))) from I.hok x _ hx)
 exact NZ (Ce e) I.kIn p k (λz=>nomatch z) λtk=>⟨.bl b,H,I.tok tk,rfl,q⟩
theorem lW:∀{bs:List Bool} {us:List Value},Vals (bs.map V.bl) us->us=bs.map Value.bool
 | [],_,.nil=>rfl
 |b :: bs,_,.cons r rs=>by rw[lW rs];cases r;rfl
def ve {bs:List Bool}(k:Bool)(A:Around)(s:Shared)(y:Value)(hy:y∈bs.map Value.bool):EqAt A s y (.bool k) (isBoolOf k y):=by
 obtain⟨b,_,rfl⟩:=Nh.mp hy
 exact EqAt.bool_bool b k
theorem uB (k:Bool)(bs:List Bool):(bs.map Value.bool).countP (isBoolOf k)=bs.count k:=by
 induction bs with
 |nil=>rfl
 |cons b bs ih=>rw[NO,List.countP_cons,List.count_cons,ih];cases b <;> cases k <;> rfl
def Gi (K:Frag):V->List V->Hp->VK->Prop:=λx vs H Q=>∃(a:Addr) (bs:List Bool) (k:Bool),x=.ref a/\vs= [.bl k]/\dZ K H a (bs.map V.bl)/\Q (.int (bs.count k:Nat)) H
def zU:Hh X "list.count" (Gi X.K):=by
 intro pins s σ H x vs v us Q I rx rv h
 obtain⟨a,bs,k,rfl,rfl,hq,q⟩:=h
 cases rx
 obtain⟨u,rfl,ru⟩:=vals1 rv
 cases ru
 obtain⟨its,rs,pl,hz⟩:=I.list hq
 have hits:=lW rs
 subst hits
 obtain⟨⟨cls,dd,data,sl⟩,ho,hc,n,hd⟩:=id pl.isList
 simp only at hc hd
 subst hc hd
 refine Pa PySem.F.slot_list_count ⟨_,ho,rfl⟩ PySem.F.entry_list_count (PySem.F.args_list_count_2 _ _) (list_countAt a (bs.map Value.bool).toArray n dd sl (.bool k) (isBoolOf k)) ⟨ho,λy hy=>ve k _ _ y (by simpa using hy),?_⟩
 rw[show (bs.map Value.bool).toArray.toList=bs.map Value.bool from rfl,uB]
 exact⟨.int (bs.count k:Nat),H,I.tok _,⟨_,rfl⟩,q⟩
def Fe (K:Frag):V->List V->Hp->VK->Prop:=λx vs H Q=>∃(a:Addr) (bs:List Bool) (k:Bool),x=.ref a/\vs= [.bl k]/\dZ K H a (bs.map V.bl)/\k∈bs/\Q (.int (bs.idxOf k:Nat)) H
def z0:Hh X "list.index" (Fe X.K):=by
 intro pins s σ H x vs v us Q I rx rv h
 obtain⟨a,bs,k,rfl,rfl,hq,hk,q⟩:=h
 cases rx
 obtain⟨u,rfl,ru⟩:=vals1 rv
 cases ru
 obtain⟨its,rs,pl,hz⟩:=I.list hq
 have hits:=lW rs
 subst hits
 obtain⟨⟨cls,dd,data,sl⟩,ho,hc,n,hd⟩:=id pl.isList
 simp only at hc hd
 subst hc hd
 have hj:bs.idxOf k < bs.length:=Oz.mpr hk
 have hsz:(sizeLine:Int) < 2 ^ 63 - 1:=by decide +kernel
 rw[Na] at hz
 refine Pa PySem.F.slot_list_index ⟨_,ho,rfl⟩ PySem.F.entry_list_index (PySem.F.args_list_index_2 _ _)
  (list_indexAt a (bs.map Value.bool).toArray n dd sl (.bool k) (isBoolOf k) (bs.idxOf k) (by simpa using hj) (by omega) ?_ ?_) ⟨ho,λy hy=>ve k _ _ y (by simpa using hy),?_⟩
 ·simp[isBoolOf,PZ hj]
 ·intro m hm hlt
  have hm':m < bs.length:=by simpa using hm
  have hne:bs[m]≠k:=λz=>by
   have:=List.not_of_lt_findIdx (p:=(· == k)) hlt
   simp[z] at this
  simpa[isBoolOf] using hne
 ·exact⟨.int (bs.idxOf k:Nat),H,I.tok _,⟨_,rfl⟩,q⟩
end
end L2
namespace L2
open PySem PySem.Spec PyProof.Rows
section
variable {X:Cx}
def gK (hu:X.A.units + 100 < cLine):la X (compareOp .NotIn) (D6 X.K true):=by
 intro pins s σ H x y v u Q I rx ry h
 obtain⟨p,xs,d,ds,rfl,hq,hs,hx,s1,s2,q⟩:=h
 cases ry
 obtain⟨bs,r2⟩:=hx.reads I rx
 have key:∀{e:PyData} {as:List Addr} {u:Value},SeqAt.shaped e=true->Reads s.heap u e as->SeqAt.EqAt X.A.in1 s u v (PyData.eqv e d):=λ{e as u} h1 h2=>by
  refine SeqAt.eqAt_reads _ _ _ _ _ _ _ _ h2 r2 (Pu h1) (Pu s1) ?_
  have:=SeqAt.depth_of_shaped h1
  show X.A.units + 1 + _ < _
  omega
 rcases hq with hq |hq
 ·obtain⟨its,r,pl,hz⟩:=I.list hq
  obtain⟨f,e1,e2⟩:=vU I d r hs s2
  refine SeqAt.notIn_listAt f pl.isList (λw hw=>?_) ⟨.bl _,H,I,rfl,?_⟩
  ·obtain⟨e,as,hm,rd,ef⟩:=e2 w (by simpa using hw)
   rw[ef];exact key (s2 e hm) rd
  ·rw[show its.toArray.any f=its.any f by simp,e1];exact q
 ·obtain⟨its,r,pl,hz⟩:=I.tuple hq
  obtain⟨f,e1,e2⟩:=vU I d r hs s2
  refine SeqAt.notIn_tupleAt f pl (λw hw=>?_) ⟨.bl _,H,I,rfl,?_⟩
  ·obtain⟨e,as,hm,rd,ef⟩:=e2 w (by simpa using hw)
   rw[ef];exact key (s2 e hm) rd
  ·rw[show its.toArray.any f=its.any f by simp,e1];exact q
end
abbrev D:=PyData
def kD:Key->D
 | .inl i=>.int i
 | .inr x=>.str x
mutual
inductive Rp (K:Frag)(G:Hp):V->D->Prop
 |non:Rp K G .non .none
 |bl (b:Bool):Rp K G (.bl b) (.bool b)
 |int (i:Int):Rp K G (.int i) (.int i)
 |str (x:Str):Rp K G (.str x) (.str x)
 |tup {a:Addr} {xs:List V} {ds:List D}:fS K G a xs->bP K G xs ds->Rp K G (.ref a) (.tuple ds)
 |lst {a:Addr} {xs:List V} {ds:List D}:G a=some (.lst xs)->bP K G xs ds->Rp K G (.ref a) (.list ds)
 |scr {a:Addr} {ns:List Int}:dZ K G a (ns.map V.int)->Rp K G (.ref a) (.dict [(.none,.list (ns.map int))])
 |dK {a:Addr} {kvs:List (Key×V)} {ds:List (D×D)}:G a=some (.dK kvs)->Bb K G kvs ds->Rp K G (.ref a) (.dict ds)
 |dT {a:Addr} {kvs:List (List Key×V)} {ds:List (D×D)}:G a=some (.dT kvs)->Bd K G kvs ds->Rp K G (.ref a) (.dict ds)
inductive bP (K:Frag)(G:Hp):List V->List D->Prop
 |nil:bP K G [] []
 |cons {x:V} {xs:List V} {d:D} {ds:List D}:Rp K G x d->bP K G xs ds->bP K G (x :: xs) (d :: ds)
inductive Bb (K:Frag)(G:Hp):List (Key×V)->List (D×D)->Prop
 |nil:Bb K G [] []
 |cons {k:Key} {x:V} {xs:List (Key×V)} {d:D} {ds:List (D×D)}:Rp K G x d->Bb K G xs ds->Bb K G ((k,x) :: xs) ((kD k,d) :: ds)
inductive Bd (K:Frag)(G:Hp):List (List Key×V)->List (D×D)->Prop
 |nil:Bd K G [] []
 |cons {k:List Key} {x:V} {xs:List (List Key×V)} {d:D} {ds:List (D×D)}:Rp K G x d->Bd K G xs ds->Bd K G ((k,x) :: xs) ((.tuple (k.map kD),d) :: ds)
end
section
variable {K:Frag}{G G' H H':Hp}
def Jz {b:Addr}{o:HO}(h:Kt H b o)(hu:∀ps,o≠.tbl ps):H b=some o:=by
 obtain⟨u,e,k,_⟩:=h.some
 rw[e,k hu]
theorem ky {a b:Addr}{o u:HO}(h:Kt H b u)(hb:b≠a)(ha:∀x y,H a≠some (.aS x y)):Kt (upd H a o) b u:=by
 cases u with
 |tbl ps=>
  obtain⟨m,e,k⟩:=h
  refine⟨m,by rw[au hb];exact e,λc hc=>?_⟩
  obtain⟨x,ex,ix⟩:=k c hc
  exact⟨x,by rw[au (λz=>ha x _ (z▸ex))];exact ex,ix⟩
 |_=>exact (au hb).trans h
def Rd.mono {a:Addr}{u:HO}(h:Rd G a u)(s:ak G G')(hu:∀ps,u≠.tbl ps:=by intro _ z;cases z):Rd G' a u:=h.elim (λe=>.inl (Jz (s _ _ e) hu)) λ⟨o,e⟩=>.inr ⟨o,s _ _ e⟩
mutual
theorem Rp.mono (s:ak G G'):∀{x:V} {d:D},Rp K G x d->Rp K G' x d
 |_,_,.non=>.non
 |_,_,.bl b=>.bl b
 |_,_,.int i=>.int i
 |_,_,.str x=>.str x
 |_,_,.tup h hs=>.tup (h.grow s.grow) (bP.mono s hs)
 |_,_,.lst h hs=>.lst (s _ _ h) (bP.mono s hs)
 |_,_,.scr h=>.scr (s.seq h)
 |_,_,.dK h hs=>.dK (s _ _ h) (Bb.mono s hs)
 |_,_,.dT h hs=>.dT (s _ _ h) (Bd.mono s hs)
theorem bP.mono (s:ak G G'):∀{xs:List V} {ds:List D},bP K G xs ds->bP K G' xs ds
 |_,_,.nil=>.nil
 |_,_,.cons h hs=>.cons (Rp.mono s h) (bP.mono s hs)
theorem Bb.mono (s:ak G G'):∀{xs:List (Key×V)} {ds:List (D×D)},Bb K G xs ds->Bb K G' xs ds
 |_,_,.nil=>.nil
 |_,_,.cons h hs=>.cons (Rp.mono s h) (Bb.mono s hs)
theorem Bd.mono (s:ak G G'):∀{xs:List (List Key×V)} {ds:List (D×D)},Bd K G xs ds->Bd K G' xs ds
 |_,_,.nil=>.nil
 |_,_,.cons h hs=>.cons (Rp.mono s h) (Bd.mono s hs)
end
theorem bP.len:∀{xs:List V} {ds:List D},bP K G xs ds->xs.length=ds.length
 |_,_,.nil=>rfl
 |_,_,.cons _ t=>by simp[bP.len t]
theorem bP.at:∀{xs:List V} {ds:List D} {i:Nat} {d:D},bP K G xs ds->ds[i]? =some d->∃x,xs[i]? =some x/\Rp K G x d
 |_,_,_,_,.nil,e=>by simp at e
 |_,_,0,_,.cons r _,e=>by simp at e;subst e;exact⟨_,rfl,r⟩
 |_,_,i + 1,x,.cons _ t,e=>by
  obtain⟨u,h1,h2⟩:=bP.at (i:=i) (d:=x) t (by simpa using e)
  exact⟨u,by simpa using h1,h2⟩
theorem bP.at':∀{xs:List V} {ds:List D} {i:Nat} {x:V},bP K G xs ds->xs[i]? =some x->∃d,ds[i]? =some d/\Rp K G x d
 |_,_,_,_,.nil,e=>by simp at e
 |_,_,0,_,.cons r _,e=>by simp at e;subst e;exact⟨_,rfl,r⟩
 |_,_,i + 1,x,.cons _ t,e=>by
  obtain⟨u,h1,h2⟩:=bP.at' (i:=i) (x:=x) t (by simpa using e)
  exact⟨u,by simpa using h1,h2⟩
theorem bP.append:∀{xs ys:List V} {ds es:List D},bP K G xs ds->bP K G ys es->bP K G (xs ++ ys) (ds ++ es)
 |_,_,_,_,.nil,s=>s
 |_,_,_,_,.cons r t,s=>.cons r (bP.append t s)
def bP.snoc {xs:List V}{ds:List D}{x:V}{d:D}(h:bP K G xs ds)(q:Rp K G x d):bP K G (xs ++ [x]) (ds ++ [d]):=h.append (.cons q .nil)
theorem bP.take:∀{xs:List V} {ds:List D} (n:Nat),bP K G xs ds->bP K G (xs.take n) (ds.take n)
 |_,_,0,_=>.nil
 |_,_,_ + 1,.nil=>.nil
 |_,_,n + 1,.cons r t=>.cons r (bP.take n t)
theorem bP.drop:∀{xs:List V} {ds:List D} (n:Nat),bP K G xs ds->bP K G (xs.drop n) (ds.drop n)
 |_,_,0,r=>r
 |_,_,_ + 1,.nil=>.nil
 |_,_,n + 1,.cons _ t=>bP.drop n t
theorem bP.set {x:V}{d:D}(r:Rp K G x d):∀{xs:List V} {ds:List D} (i:Nat),bP K G xs ds->bP K G (xs.set i x) (ds.set i d)
 |_,_,_,.nil=>.nil
 |_,_,0,.cons _ t=>.cons r t
 |_,_,i + 1,.cons q t=>.cons q (bP.set r i t)
theorem bP.rep {n:Nat}{xs:List V}{ds:List D}(h:bP K G xs ds):bP K G (List.replicate n xs).flatten (List.replicate n ds).flatten:=by
 induction n with
 |zero=>exact .nil
 |succ n ih=>rw[Oi,Oi,OQ,OQ];exact h.append ih
mutual
def Ct:D->Bool
 | .dict _=>false
 | .list ds=>rF ds
 | .tuple ds=>rF ds
 |_=>true
def rF:List D->Bool
 | []=>true
 |d :: ds=>Ct d && rF ds
end
mutual
theorem Rp.rep:∀{x:V} {d:D},Rp K G x d->Ct d=true->Rep K G x d
 |_,_,.non,_=>.non
 |_,_,.bl b,_=>.bl b
 |_,_,.int i,_=>.int i
 |_,_,.str x,_=>.str x
 |_,_,.tup h hs,e=>.tup h (bP.reps hs (by simpa[Ct] using e))
 |_,_,.lst h hs,e=>.lst (.inl (.inl h)) (bP.reps hs (by simpa[Ct] using e))
 |_,_,.scr _,e=>by simp[Ct] at e
 |_,_,.dK _ _,e=>by simp[Ct] at e
 |_,_,.dT _ _,e=>by simp[Ct] at e
theorem bP.reps:∀{xs:List V} {ds:List D},bP K G xs ds->rF ds=true->kJ K G xs ds
 |_,_,.nil,_=>.nil
 |_,_,.cons h hs,e=>.cons (Rp.rep h (by simp[rF] at e;exact e.1)) (bP.reps hs (by simp[rF] at e;exact e.2))
end
def Own (K:Frag)(G H:Hp)(a:Addr):D->Prop
 | .list ds=>∃xs,H a=some (.lst xs)/\bP K G xs ds
 | .dict ds=>(∃kvs,H a=some (.dK kvs)/\Bb K G kvs ds)\/∃kvs,H a=some (.dT kvs)/\Bd K G kvs ds
 |_=>False
def Own.obj {a:Addr}{d:D}(h:Own K G H a d):∃o,H a=some o:=by
 cases d <;> first |exact h.elim |skip
 ·obtain⟨xs,e,_⟩:=h;exact⟨_,e⟩
 ·rcases h with⟨_,e,_⟩ | ⟨_,e,_⟩ <;> exact⟨_,e⟩
def Own.mono {a:Addr}{d:D}(h:Own K G H a d)(s:ak G G')(m:∀o,H a=some o->Kt H' a o):Own K G' H' a d:=by
 cases d <;> first |exact h.elim |skip
 ·obtain⟨xs,e,r⟩:=h;exact⟨xs,m _ e,r.mono s⟩
 ·rcases h with⟨k,e,r⟩ | ⟨k,e,r⟩
  ·exact .inl ⟨k,m _ e,r.mono s⟩
  ·exact .inr ⟨k,m _ e,r.mono s⟩
def Own.rp {a:Addr}{d:D}(h:Own K G H a d)(n:G a=none){G':Hp}(s:ak G G')(e:∀o,H a=some o->G' a=some o):Rp K G' (.ref a) d:=by
 cases d <;> first |exact h.elim |skip
 ·obtain⟨xs,q,r⟩:=h;exact .lst (e _ q) (r.mono s)
 ·rcases h with⟨k,q,r⟩ | ⟨k,q,r⟩
  ·exact .dK (e _ q) (r.mono s)
  ·exact .dT (e _ q) (r.mono s)
def lA (K:Frag)(B:Option Addr)(G H:Hp)(v:V)(d:D):Prop:=Rp K G v d\/∃a,v=.ref a/\B≠some a/\Own K G H a d
def ic (B:Option Addr)(H H':Hp):Prop:=(∀b o,H b=some o->B≠some b->Kt H' b o)/\∀b o u,H b=some (.aS o u)->H' b=some (.aS o u)
def ic.refl (B:Option Addr)(H:Hp):ic B H H:=⟨λ_ _ h _=>Kt.of h,λ_ _ _ h=>h⟩
theorem xr {B:Option Addr}{b:Addr}{o:HO}(h1:Kt H b o)(y:ic B H H')(n:B≠some b):Kt H' b o:=by
 cases o with
 |tbl ps=>
  obtain⟨m,e,k⟩:=h1
  obtain⟨m2,e2,k2⟩:=y.1 b _ e n
  refine⟨m ++ m2,by rw[e2,Array.append_assoc],λc hc=>?_⟩
  rw[Array.toList_append,Nw] at hc
  rcases hc with hc |hc
  ·obtain⟨o,eo,io⟩:=k c hc;exact⟨o,y.2 c _ _ eo,io⟩
  ·exact k2 c hc
 |_=>exact y.1 b _ h1 n
def ic.trans {B:Option Addr}{H1:Hp}(x:ic B H H1)(y:ic B H1 H'):ic B H H':=⟨λb o h n=>xr (x.1 b o h n) y n,λb o u h=>y.2 b o u (x.2 b o u h)⟩
def ak.mov (s:ak H H')(B:Option Addr):ic B H H':=⟨λb o h _=>s b o h,λb o u h=>s b _ h⟩
def lA.mono {B:Option Addr}{v:V}{d:D}(h:lA K B G H v d)(s:ak G G')(m:ic B H H'):lA K B G' H' v d:=by
 rcases h with h | ⟨a,e,n,h⟩
 ·exact .inl (h.mono s)
 ·exact .inr ⟨a,e,n,h.mono s λo q=>m.1 a o q n⟩
def lA.rpH {B:Option Addr}{v:V}{d:D}(h:lA K B G H v d)(s:ak G H):Rp K H v d:=by
 rcases h with h | ⟨a,rfl,n,h⟩
 ·exact h.mono s
 ·cases d <;> first |exact h.elim |skip
  ·obtain⟨xs,q,r⟩:=h;exact .lst q (r.mono s)
  ·rcases h with⟨k,q,r⟩ | ⟨k,q,r⟩
   ·exact .dK q (r.mono s)
   ·exact .dT q (r.mono s)
def lA.list {B:Option Addr}{v:V}{ds:List D}(h:lA K B G H v (.list ds))(s:ak G H):∃a xs,v=.ref a/\Rd H a (.lst xs)/\bP K G xs ds:=by
 rcases h with h | ⟨a,rfl,n,xs,q,r⟩
 ·cases h with
  |lst h r=>exact⟨_,_,rfl,.inl (s _ _ h),r⟩
 ·exact⟨a,xs,rfl,.inl q,r⟩
def lA.tuple {B:Option Addr}{v:V}{ds:List D}(h:lA K B G H v (.tuple ds))(s:ak G H):∃a xs,v=.ref a/\fS K H a xs/\bP K G xs ds:=by
 rcases h with h | ⟨a,rfl,n,h⟩
 ·cases h with
  |tup h r=>exact⟨_,_,rfl,h.grow s.grow,r⟩
 ·exact h.elim
def lA.int {B:Option Addr}{v:V}{i:Int}(h:lA K B G H v (.int i)):v=.int i:=by
 rcases h with h | ⟨a,rfl,n,h⟩
 ·cases h;rfl
 ·exact h.elim
def lA.bool {B:Option Addr}{v:V}{b:Bool}(h:lA K B G H v (.bool b)):v=.bl b:=by
 rcases h with h | ⟨a,rfl,n,h⟩
 ·cases h;rfl
 ·exact h.elim
def lA.str {B:Option Addr}{v:V}{x:Str}(h:lA K B G H v (.str x)):v=.str x:=by
 rcases h with h | ⟨a,rfl,n,h⟩
 ·cases h;rfl
 ·exact h.elim
def lA.none {B:Option Addr}{v:V}(h:lA K B G H v .none):v=.non:=by
 rcases h with h | ⟨a,rfl,n,h⟩
 ·cases h;rfl
 ·exact h.elim
end
def Fz:HO->Prop
 | .tup _=>True
 | .aS _ _=>True
 |_=>False
def Mx (H:Hp)(b:Addr):Prop:=H b≠none/\∀o,H b=some o->¬Fz o
def Mx.lst {H:Hp}{b:Addr}{xs:List V}(h:H b=some (.lst xs)):Mx H b:=⟨by rw[h];simp,λys z=>by rw[h] at z;cases z;exact λy=>y⟩
theorem Mx.same {H H':Hp}{b:Addr}(h:Mx H b)(m:∀o,H b=some o->Kt H' b o):Mx H' b:=by
 obtain⟨h1,h2⟩:=h
 cases e:H b with
 |none=>exact absurd e h1
 |some o=>
  obtain⟨u,eu,k1,k2⟩:=(m o e).some
  refine⟨by rw[eu];simp,λxs z=>?_⟩
  rw[eu] at z
  cases z
  by_cases c:∃ps,o=.tbl ps
  ·obtain⟨ps,e⟩:=k2 c;rw[e];exact λy=>y
  ·rw[k1 λps e=>c ⟨ps,e⟩];exact h2 o e
def Own.mx {K:Frag}{G H:Hp}{a:Addr}{d:D}(h:Own K G H a d):Mx H a:=by
 cases d <;> first |exact h.elim |skip
 ·obtain⟨xs,e,_⟩:=h;exact Mx.lst e
 ·rcases h with⟨k,e,_⟩ | ⟨k,e,_⟩ <;> exact⟨by rw[e];simp,λys z=>by rw[e] at z;cases z;exact λy=>y⟩
open Classical in
noncomputable def lI (G H:Hp):Hp:=λb=>match G b with
 |some o=>some o
 |none=>match H b with
  |some o=>if Fz o then some o else none
  |none=>none
def rM {G H:Hp}:ak G (lI G H):=λb o e=>Kt.of (by unfold lI;rw[e])
theorem yR {G H:Hp}(s:ak G H){b:Addr}{o:HO}(e:H b=some o)(f:Fz o):lI G H b=some o:=by
 unfold lI
 cases q:G b with
 |some u=>
  obtain⟨u',eu,k1,k2⟩:=(s b u q).some
  rw[e] at eu
  cases eu
  by_cases c:∃ps,u=.tbl ps
  ·obtain⟨ps,z⟩:=k2 c;subst z;exact f.elim
  ·rw[k1 λps z=>c ⟨ps,z⟩]
 |none=>simp only[e];rw[M7 f]
theorem vc {G H:Hp}(s:ak G H):ak (lI G H) H:=λb o e=>by
 unfold lI at e
 cases q:G b with
 |some u=>rw[q] at e;cases e;exact s b _ q
 |none=>
  rw[q] at e
  cases q2:H b with
  |none=>rw[q2] at e;cases e
  |some u=>
   rw[q2] at e
   dsimp only at e
   split at e
   ·cases e;exact Kt.of q2
   ·cases e
theorem zx {G H H':Hp}(hh:ak H H'){b:Addr}(m:Mx H b):lI G H' b=G b:=by
 unfold lI
 cases q:G b with
 |some u=>rfl
 |none=>
  obtain⟨h1,h2⟩:=m
  cases e:H b with
  |none=>exact absurd e h1
  |some o=>
   have hm:=(show Mx H b from⟨h1,h2⟩).same (hh b)
   cases e2:H' b with
   |none=>rfl
   |some u=>simp only;rw[Nd (hm.2 u e2)]
def qF {K:Frag}{G H:Hp}(s:ak G H){a:Addr}{xs:List V}(h:fS K H a xs):fS K (lI G H) a xs:=by
 rcases h with (h | ⟨o,h⟩) |h
 ·exact .inl (.inl (yR s h trivial))
 ·exact .inl (.inr ⟨o,yR s h trivial⟩)
 ·exact .inr h
structure Fx where
 K:Frag
 H0:Hp
 G0:Hp
 par:List Addr
 ca:Str->Addr
 br:Nat->Bool
 bx:Option Addr
inductive Sl where
 |no |fz (d:D) |ow (d:D) |bx |br (d:D)
abbrev En:=List Sl
inductive Nv where
 |no |da (d:D) |bx
def Sl.val:Sl->Nv
 | .no=>.no
 | .fz d=>.da d
 | .ow d=>.da d
 | .br d=>.da d
 | .bx=>.bx
def vl (env:En):List Nv:=env.map Sl.val
def Mh (Γ:Fx)(B:Option Addr)(G H:Hp)(i:Nat)(o:Option (Option V)):Sl->Prop
 | .no=>True
 | .fz d=>∃v,o=some (some v)/\Rp Γ.K G v d
 | .ow d=>∃a,o=some (some (.ref a))/\Γ.H0 a=none/\G a=none/\B≠some a/\Own Γ.K G H a d
 | .bx=>∃a,o=some (some (.ref a))/\B=some a
 | .br d=>Γ.br i=true/\∃a,o=some (some (.ref a))/\B≠some a/\a∉Γ.par/\Own Γ.K G H a d
structure SR (Γ:Fx)(B:Option Addr)(G H:Hp)(σ:St)(env:En)(β:Int):Prop where
 sub:ak G H
 old:ak Γ.G0 G
 new:∀b,Mx Γ.H0 b->Γ.G0 b=none->G b=none
 keep:∀b o,Γ.H0 b=some o->b∉Γ.par->Kt H b o
 pin:∀b,b∈Γ.par->Mx H b
 fix:∀b,Γ.bx=some b->B=some b
 box:∀b,B=some b->H b=some (.lst [.int β])/\G b=none/\(b∈Γ.par\/Γ.H0 b=none)
 len:σ.length=env.length
 slot:∀(i:Nat) (s:Sl),env[i]? =some s->Mh Γ B G H i (σ[i]?) s
 sep:∀(i j:Nat) (a:Addr) (d e:D),env[i]? =some (.ow d)->env[j]? =some (.ow e)->σ[i]? =some (some (.ref a))->σ[j]? =some (some (.ref a))->i=j
structure Ext (G H G' H':Hp):Prop where
 hh:ak H H'
 gg:ak G G'
 gh:ak G' H'
 on:∀b,Mx H b->G' b=G b
def Ext.refl {G H:Hp}(s:ak G H):Ext G H G H:=⟨ak.refl _,ak.refl _,s,λ_ _=>rfl⟩
def Ext.tups {G H H':Hp}(s:ak G H)(hh:ak H H'):Ext G H (lI G H') H':=⟨hh,rM,vc (s.trans hh),λ_ m=>zx hh m⟩
def Ext.new {G H:Hp}(s:ak G H){p:Addr}{o:HO}(h:H p=none):Ext G H (upd G p o) (upd H p o):=by
 refine⟨ak.new h,ak.new (s.free h),λb u e=>?_,λb hb=>?_⟩
 ·by_cases z:b=p
  ·subst z;rw[ah] at e;exact Kt.of (by rw[ah];exact e)
  ·rw[au z] at e;exact ky (s b u e) z (λx y w=>by rw[h] at w;cases w)
 ·exact au (λz=>hb.1 (by rw[z];exact h))
def Ext.own {G H:Hp}(s:ak G H){p:Addr}{o:HO}(h:H p=none):Ext G H G (upd H p o):=
 ⟨ak.new h,ak.refl _,s.trans (ak.new h),λ_ _=>rfl⟩
def Ext.trans {G H G1 H1 G2 H2:Hp}(x:Ext G H G1 H1)(y:Ext G1 H1 G2 H2):Ext G H G2 H2:=by
 refine⟨x.hh.trans y.hh,x.gg.trans y.gg,y.gh,λb hb=>?_⟩
 rw[y.on b (hb.same λo e=>x.hh b o e),x.on b hb]
section
variable {Γ:Fx}{B:Option Addr}{G H G' H':Hp}{σ:St}{env:En}{β:Int}
def SR.there (I:SR Γ B G H σ env β){b:Addr}(h:Γ.H0 b≠none):H b≠none:=by
 by_cases hp:b∈Γ.par
 ·exact (I.pin b hp).1
 ·cases e:Γ.H0 b with
  |none=>exact absurd e h
  |some o=>obtain⟨u,eu,_⟩:=(I.keep b o e hp).some;rw[eu];simp
def SR.thereM (I:SR Γ B G H σ env β){b:Addr}(h:Mx Γ.H0 b):Mx H b:=by
 by_cases hp:b∈Γ.par
 ·exact I.pin b hp
 ·exact h.same λo e=>I.keep b o e hp
def SR.ext (I:SR Γ B G H σ env β)(x:Ext G H G' H'):SR Γ B G' H' σ env β:=by
 refine⟨x.gh,I.old.trans x.gg,λb h1 h2=>?_,λb o h1 h2=>(I.keep b o h1 h2).step x.hh,λb hb=>?_,I.fix,λb e=>?_,I.len,λi s e=>?_,I.sep⟩
 ·rw[x.on b (I.thereM h1)];exact I.new b h1 h2
 ·exact (I.pin b hb).same λo e=>x.hh b o e
 ·obtain⟨h1,h2,h3⟩:=I.box b e
  exact⟨x.hh b _ h1,by rw[x.on b (Mx.lst h1)];exact h2,h3⟩
 ·have q:=I.slot i s e
  cases s with
  |no=>trivial
  |fz d=>obtain⟨v,h1,h2⟩:=q;exact⟨v,h1,h2.mono x.gg⟩
  |ow d=>
   obtain⟨a,h1,h2,h3,h4,h5⟩:=q
   exact⟨a,h1,h2,by rw[x.on a h5.mx];exact h3,h4,h5.mono x.gg λo q=>x.hh a o q⟩
  |bx=>exact q
  |br d=>obtain⟨b1,a,h1,h4,hp,h5⟩:=q;exact⟨b1,a,h1,h4,hp,h5.mono x.gg λo q=>x.hh a o q⟩
def jc (env:En)(i:Nat):En:=match env[i]? with
 |some (.ow d)=>env.set i (.fz d)
 |_=>env
def aS (L:List Nat)(env:En):En:=L.foldl jc env
def cj (L M:List Nat)(env:En):aS (L ++ M) env=aS M (aS L env):=by unfold aS;rw[List.foldl_append]
def ye (env:En)(i:Nat)(s:Sl)(h:∀t,env[i]? =some t->t.val=s.val):vl (env.set i s)=vl env:=by
 unfold vl
 apply O6
 intro j
 rw[Ng,Ng,List.getElem?_set]
 by_cases e:i=j
 ·subst e
  by_cases hi:i < env.length
  ·simp only[Ob,hi]
   have:=h _ (M1 hi)
   simp[M1 hi,this]
  ·simp only[Ob,hi,NT]
   rw[OK (by omega)]
 ·simp[e]
def Eh (env:En)(i:Nat):vl (jc env i)=vl env:=by
 unfold jc
 split
 ·rename_i d e
  exact ye _ _ _ λt ht=>by rw[e] at ht;cases ht;rfl
 ·rfl
theorem fV (L:List Nat)(env:En):vl (aS L env)=vl env:=by
 unfold aS
 induction L generalizing env with
 |nil=>rfl
 |cons i L ih=>rw[foldl_cons,ih,Eh]
theorem GP {i:Nat}{d:D}(h:(vl env)[i]? =some (.da d)):env[i]? =some (.fz d)\/env[i]? =some (.ow d)\/env[i]? =some (.br d):=by
 unfold vl at h
 rw[Ng] at h
 cases e:env[i]? with
 |none=>rw[e] at h;simp at h
 |some s=>
  rw[e] at h
  cases s with
  |no=>simp[Sl.val] at h
  |fz d'=>simp[Sl.val] at h;subst h;exact .inl rfl
  |ow d'=>simp[Sl.val] at h;subst h;exact .inr (.inl rfl)
  |bx=>simp[Sl.val] at h
  |br d'=>simp[Sl.val] at h;subst h;exact .inr (.inr rfl)
theorem J9 {i:Nat}(h:(vl env)[i]? =some .bx):env[i]? =some .bx:=by
 unfold vl at h
 rw[Ng] at h
 cases e:env[i]? with
 |none=>rw[e] at h;simp at h
 |some s=>
  rw[e] at h
  cases s with
  |bx=>rfl
  |_=>simp[Sl.val] at h
def SR.freeze (I:SR Γ B G H σ env β)(i:Nat)(hb:Γ.br i=false){d:D}(h:(vl env)[i]? =some (.da d)):∃G' v,SR Γ B G' H σ (jc env i) β/\ak G G'/\σ[i]? =some (some v)/\Rp Γ.K G' v d:=by
 rcases GP h with e |e |e
 ·obtain⟨v,h1,h2⟩:=I.slot i _ e
  exact⟨G,v,by unfold jc;rw[e];exact I,ak.refl _,h1,h2⟩
 rotate_left
 ·obtain⟨z,_⟩:=I.slot i _ e
  rw[hb] at z;cases z
 ·obtain⟨a,h1,h2,h3,h4,h5⟩:=I.slot i _ e
  obtain⟨o,ho⟩:=h5.obj
  have sG:ak G (upd G a o):=ak.new h3
  have hi:i < env.length:=(Np.mp e).1
  have hr:Rp Γ.K (upd G a o) (.ref a) d:=h5.rp h3 sG λo' q=>by rw[ho] at q;cases q;exact ah
  refine⟨upd G a o,.ref a,?_,sG,h1,hr⟩
  unfold jc
  rw[e]
  refine⟨λb u q=>?_,I.old.trans sG,λb n1 n2=>?_,I.keep,I.pin,I.fix,λb q=>?_,by rw[Ol];exact I.len,λj s q=>?_,λj k c d1 d2 q1 q2 q3 q4=>?_⟩
  ·by_cases z:b=a
   ·subst z;rw[ah] at q;cases q;exact Kt.of ho
   ·rw[au z] at q;exact I.sub b u q
  ·rw[au (λz=>n1.1 (by rw[z];exact h2))];exact I.new b n1 n2
  ·obtain⟨k1,k2,k3⟩:=I.box b q
   exact⟨k1,by rw[au (λz=>h4 (by rw[<-z];exact q))];exact k2,k3⟩
  ·by_cases z:j=i
   ·subst z
    rw[Nt hi] at q
    cases q
    exact⟨.ref a,h1,hr⟩
   ·rw[Nu (Ne.symm z)] at q
    have w:=I.slot j s q
    cases s with
    |no=>trivial
    |fz d'=>obtain⟨v,w1,w2⟩:=w;exact⟨v,w1,w2.mono sG⟩
    |ow d'=>
     obtain⟨c,w1,w2,w3,w4,w5⟩:=w
     have ca:c≠a:=λz2=>z (I.sep j i c d' d q e w1 (by rw[z2];exact h1))
     exact⟨c,w1,w2,by rw[au ca];exact w3,w4,w5.mono sG λo q=>Kt.of q⟩
    |bx=>exact w
    |br d'=>obtain⟨b1,c,w1,w4,wp,w5⟩:=w;exact⟨b1,c,w1,w4,wp,w5.mono sG λo q=>Kt.of q⟩
  ·have ne:∀{j:Nat} {d':D},(env.set i (Sl.fz d))[j]? =some (.ow d')->env[j]? =some (.ow d'):=λ{j d'} q=>by
    by_cases z:j=i
    ·subst z;rw[Nt hi] at q;cases q
    ·rw[Nu (Ne.symm z)] at q;exact q
   exact I.sep j k c d1 d2 (ne q1) (ne q2) q3 q4
theorem SR.aS (I:SR Γ B G H σ env β)(L:List Nat)(hb:∀i,i∈L->Γ.br i=false):∃G',SR Γ B G' H σ (aS L env) β/\ak G G':=by
 induction L generalizing env G with
 |nil=>exact⟨G,I,ak.refl _⟩
 |cons i L ih=>
  show ∃G',SR Γ B G' H σ (L2.aS L (jc env i)) β/\ak G G'
  have key:∃G1,SR Γ B G1 H σ (jc env i) β/\ak G G1:=by
   cases e:env[i]? with
   |none=>exact⟨G,by unfold jc;rw[e];exact I,ak.refl _⟩
   |some s=>
    cases s with
    |ow d=>
     obtain⟨G1,v,h1,h2,_⟩:=I.freeze i (hb i (Nb ..)) (d:=d) (by unfold vl;rw[Ng,e];rfl)
     exact⟨G1,h1,h2⟩
    |_=>exact⟨G,by unfold jc;rw[e];exact I,ak.refl _⟩
  obtain⟨G1,I1,s1⟩:=key
  obtain⟨G2,I2,s2⟩:=ih I1 λj hj=>hb j (M8 _ hj)
  exact⟨G2,I2,s1.trans s2⟩
def SR.set (I:SR Γ B G H σ env β){i:Nat}(hi:i < env.length){v:V}{d:D}(h:Rp Γ.K G v d):SR Γ B G H (σ.set i (some v)) (env.set i (.fz d)) β:=by
 have hs:i < σ.length:=by rw[I.len];exact hi
 refine⟨I.sub,I.old,I.new,I.keep,I.pin,I.fix,I.box,by rw[Ol,Ol];exact I.len,λj s q=>?_,λj k c d1 d2 q1 q2 q3 q4=>?_⟩
 ·by_cases z:j=i
  ·subst z
   rw[Nt hi] at q
   cases q
   exact⟨v,by rw[Nt hs],h⟩
  ·rw[Nu (Ne.symm z)] at q ⊢
   exact I.slot j s q
 ·have ne:∀{j:Nat} {d':D},(env.set i (Sl.fz d))[j]? =some (.ow d')->j≠i/\env[j]? =some (.ow d'):=λ{j d'} q=>by
   by_cases z:j=i
   ·subst z;rw[Nt hi] at q;cases q
   ·rw[Nu (Ne.symm z)] at q;exact⟨z,q⟩
  obtain⟨n1,e1⟩:=ne q1
  obtain⟨n2,e2⟩:=ne q2
  rw[Nu (Ne.symm n1)] at q3
  rw[Nu (Ne.symm n2)] at q4
  exact I.sep j k c d1 d2 e1 e2 q3 q4
def SR.setOw (I:SR Γ B G H σ env β){i:Nat}(hi:i < env.length){a:Addr}{d:D}(h0:Γ.H0 a=none)(hg:G a=none)(hb:B≠some a)(h:Own Γ.K G H a d)(hn:∀(j:Nat) (d':D),env[j]? =some (.ow d')->j≠i->σ[j]?≠some (some (.ref a))):SR Γ B G H (σ.set i (some (.ref a))) (env.set i (.ow d)) β:=by
 have hs:i < σ.length:=by rw[I.len];exact hi
 refine⟨I.sub,I.old,I.new,I.keep,I.pin,I.fix,I.box,by rw[Ol,Ol];exact I.len,λj s q=>?_,λj k c d1 d2 q1 q2 q3 q4=>?_⟩
 ·by_cases z:j=i
  ·subst z
   rw[Nt hi] at q
   cases q
   exact⟨a,by rw[Nt hs],h0,hg,hb,h⟩
  ·rw[Nu (Ne.symm z)] at q ⊢
   exact I.slot j s q
 ·by_cases z1:j=i
  ·by_cases z2:k=i
   ·rw[z1,z2]
   ·subst z1
    rw[Nu (Ne.symm z2)] at q2 q4
    rw[Nt hs] at q3
    cases q3
    exact absurd q4 (hn k d2 q2 z2)
  ·by_cases z2:k=i
   ·subst z2
    rw[Nu (Ne.symm z1)] at q1 q3
    rw[Nt hs] at q4
    cases q4
    exact absurd q3 (hn j d1 q1 z1)
   ·rw[Nu (Ne.symm z1)] at q1 q3
    rw[Nu (Ne.symm z2)] at q2 q4
    exact I.sep j k c d1 d2 q1 q2 q3 q4
def SR.fresh (I:SR Γ B G H σ env β){a:Addr}(h:H a=none):Γ.H0 a=none/\G a=none/\B≠some a/\∀(j:Nat) (d:D),env[j]? =some (.ow d)->σ[j]?≠some (some (.ref a)):=by
 have hB:B≠some a:=λz=>by rw[(I.box a z).1] at h;cases h
 refine⟨?_,I.sub.free h,hB,λj d e z=>?_⟩
 ·cases e:Γ.H0 a with
  |none=>rfl
  |some o=>exact absurd h (I.there (by rw[e];simp))
 ·obtain⟨c,h1,_,_,_,h5⟩:=I.slot j _ e
  rw[z] at h1
  cases h1
  obtain⟨o,ho⟩:=h5.obj
  rw[h] at ho;cases ho
def SR.write (I:SR Γ B G H σ env β)(hb:∀j,Γ.br j=false){i:Nat}{a:Addr}{d d':D}{o:HO}(e:env[i]? =some (.ow d))(ea:σ[i]? =some (some (.ref a)))(h:∀H',H' a=some o->ak G H'->Own Γ.K G H' a d'):SR Γ B G (upd H a o) σ (env.set i (.ow d')) β:=by
 obtain⟨a',h1,h2,h3,h4,h5⟩:=I.slot i _ e
 rw[ea] at h1;cases h1
 have hi:i < env.length:=(Np.mp e).1
 have ha:∀x y,H a≠some (.aS x y):=λx y w=>h5.mx.2 _ w trivial
 have sub:ak G (upd H a o):=λb u q=>ky (I.sub b u q) (λz=>by rw[z,h3] at q;cases q) ha
 refine⟨sub,I.old,I.new,λb u q n=>?_,λb q=>?_,I.fix,λb q=>?_,by rw[Ol];exact I.len,λj s q=>?_,λj k c d1 d2 q1 q2 q3 q4=>?_⟩
 ·exact ky (I.keep b u q n) (λz=>by rw[z,h2] at q;cases q) ha
 ·by_cases z:b=a
  ·subst z;exact (h _ ah sub).mx
  ·exact (I.pin b q).same λo e=>Kt.of (by rw[au z];exact e)
 ·obtain⟨k1,k2,k3⟩:=I.box b q
  exact⟨by rw[au (λz=>h4 (by rw[<-z];exact q))];exact k1,k2,k3⟩
 ·by_cases z:j=i
  ·subst z
   rw[Nt hi] at q
   cases q
   exact⟨a,ea,h2,h3,h4,h _ ah sub⟩
  ·rw[Nu (Ne.symm z)] at q
   have w:=I.slot j s q
   cases s with
   |no=>trivial
   |fz d1=>exact w
   |ow d1=>
    obtain⟨c,w1,w2,w3,w4,w5⟩:=w
    have ca:c≠a:=λz2=>z (I.sep j i c d1 d q e w1 (by rw[z2];exact ea))
    exact⟨c,w1,w2,w3,w4,w5.mono (ak.refl _) λo q=>Kt.of (by rw[au ca];exact q)⟩
   |bx=>exact w
   |br d1=>obtain⟨b1,_⟩:=w;rw[hb j] at b1;cases b1
 ·have back:∀{j:Nat} {d1:D},(env.set i (Sl.ow d'))[j]? =some (.ow d1)->∃d2,env[j]? =some (.ow d2):=λ{j d1} q=>by
   by_cases z:j=i
   ·subst z;exact⟨d,e⟩
   ·rw[Nu (Ne.symm z)] at q;exact⟨d1,q⟩
  obtain⟨_,b1⟩:=back q1
  obtain⟨_,b2⟩:=back q2
  exact I.sep j k c _ _ b1 b2 q3 q4
end
inductive R (α:Type) where
 |ok (a:α) (β:Int)
 |exc (c:Str)
 |bad
def R.bnd {α γ:Type}(r:R α)(k:α->Int->R γ):R γ:=match r with
 | .ok a β=>k a β
 | .exc c=>.exc c
 | .bad=>.bad
def R.of {α:Type}(o:Option α)(β:Int):R α:=match o with
 |some a=>.ok a β
 |none=>.bad
abbrev VF (α:Type):=List Nv->Int->R α
def Kp (Γ:Fx)(H':Hp):Prop:=∀b o,Γ.H0 b=some o->b∉Γ.par->Kt H' b o
def Out {α:Type}(Γ:Fx)(E:XK)(r:R α)(P:α->Int->Prop):Prop:=match r with
 | .ok a β=>P a β
 | .exc c=>∀H',Kp Γ H'->E (.ref (Γ.ca c)) none H'
 | .bad=>False
section
variable {α γ:Type}{Γ:Fx}{E:XK}
theorem Out.bnd {r:R α}{k:α->Int->R γ}{P:γ->Int->Prop}(h:Out Γ E (r.bnd k) P):Out Γ E r λa β=>Out Γ E (k a β) P:=by
 cases r with
 |ok a β=>exact h
 |exc c=>exact h
 |bad=>exact h
theorem Out.imp {r:R α}{P P':α->Int->Prop}(h:Out Γ E r P)(i:∀a β,P a β->P' a β):Out Γ E r P':=by
 cases r with
 |ok a β=>exact i a β h
 |exc c=>exact h
 |bad=>exact h
theorem Out.of {o:Option α}{β:Int}{P:α->Int->Prop}(h:Out Γ E (R.of o β) P):∃a,o=some a/\P a β:=by
 cases o with
 |none=>exact h.elim
 |some a=>exact⟨a,rfl,h⟩
end
inductive Md where
 |b |v |w
def VO (K:Frag)(B:Option Addr)(H G' H':Hp):Md->D->V->Prop
 | .b,d,v=>lA K B G' H' v d
 | .v,d,v=>Rp K G' v d
 | .w,d,v=>∃a,v=.ref a/\H a=none/\G' a=none/\Own K G' H' a d
def pT (Γ:Fx)(E:XK)(f:VF D)(L:List Nat)(md:Md):TE:=λσ H Q=>∃env G B β,SR Γ B G H σ env β/\
 Out Γ E (f (vl env) β) λd β'=>∀v G' H',SR Γ B G' H' σ (aS L env) β'->ak G G'->ic B H H'->VO Γ.K B H G' H' md d v->Q v H'
def SE (X:Cx)(Γ:Fx)(E:XK)(e:Expr)(f:VF D)(L:List Nat)(md:Md):Prop:=PE X e (pT Γ E f L md)
def qT (Γ:Fx)(E:XK)(f:VF Bool)(L:List Nat):TT:=λσ H Q=>∃env G B β,SR Γ B G H σ env β/\
 Out Γ E (f (vl env) β) λc β'=>∀G' H',SR Γ B G' H' σ (aS L env) β'->ak G G'->ic B H H'->Q c H'
def Bc (X:Cx)(Γ:Fx)(E:XK)(e:Expr)(f:VF Bool)(L:List Nat):Prop:=PT X e (qT Γ E f L)
def sf (X:Cx)(Γ:Fx)(E:XK)(e:Expr)(f:VF Bool)(L:List Nat):Prop:=PW X e (qT Γ E f L)
def aT (Γ:Fx)(E:XK)(f:VF (List D))(L:List Nat):TA:=λσ H Q=>∃env G B β,SR Γ B G H σ env β/\
 Out Γ E (f (vl env) β) λds β'=>∀vs G' H',SR Γ B G' H' σ (aS L env) β'->ak G G'->ic B H H'->bP Γ.K G' vs ds->Q vs H'
def SA (X:Cx)(Γ:Fx)(E:XK)(es:List Expr)(f:VF (List D))(L:List Nat):Prop:=PA X es (aT Γ E f L)
def PE.post' {X:Cx}{e:Expr}{t u:TE}(h:PE X e t)(m:∀σ H Q,u σ H Q->t σ H Q):PE X e u:=λpins s σ H Q I q=>h pins s σ H Q I (m σ H Q q)
def PT.post {X:Cx}{e:Expr}{t u:TT}(h:PT X e t)(m:∀σ H Q,u σ H Q->t σ H Q):PT X e u:=λpins s σ H Q I q=>h pins s σ H Q I (m σ H Q q)
def PW.post {X:Cx}{e:Expr}{t u:TT}(h:PW X e t)(m:∀σ H Q,u σ H Q->t σ H Q):PW X e u:=λwh pins s σ H Q I q=>h wh pins s σ H Q I (m σ H Q q)
def PA.post {X:Cx}{es:List Expr}{t u:TA}(h:PA X es t)(m:∀σ H Q,u σ H Q->t σ H Q):PA X es u:=λpos pins s σ H Q I q=>h pos pins s σ H Q I (m σ H Q q)
def PS.post {X:Cx}{st:Stmt}{t u:TS}(h:PS X st t)(m:∀D σ H,u D σ H->t D σ H):PS X st u:=λpins s σ H D I q=>h pins s σ H D I (m D σ H q)
def dat:Option Nv->Option D
 |some (.da d)=>some d
 |_=>none
def gv (i:Nat):VF D:=λvs β=>R.of (dat vs[i]?) β
def cst (d:D):VF D:=λ_ β=>.ok d β
section
variable {X:Cx}{Γ:Fx}{E:XK}{e a b c:Expr}{f fa fb fc:VF D}{L La Lb Lc:List Nat}{md ma mb mc:Md}{pos:Pos}
theorem join_some {o:Option Nv}{d:D}(h:dat o=some d):o=some (.da d):=by
 cases o with
 |none=>cases h
 |some o=>cases o with
  |da x=>cases h;rfl
  |_=>cases h
def SR.letIn {B:Option Addr}{G H:Hp}{σ:St}{env:En}{β:Int}(I:SR Γ B G H σ env β){p:Addr}{d:D}(h0:Γ.H0 p=none)(hg:G p=none)(hb:B≠some p)(hn:∀(j:Nat) (d':D),env[j]? =some (.ow d')->σ[j]?≠some (some (.ref p)))(h:Own Γ.K G H p d) :
  ∃G',SR Γ B G' H σ env β/\ak G G'/\Rp Γ.K G' (.ref p) d:=by
 obtain⟨o,ho⟩:=h.obj
 have sG:ak G (upd G p o):=ak.new hg
 refine⟨upd G p o,⟨λb u q=>?_,I.old.trans sG,λb n1 n2=>?_,I.keep,I.pin,I.fix,λb q=>?_,I.len,λj s q=>?_,I.sep⟩,sG,h.rp hg sG λo' q=>by rw[ho] at q;cases q;exact ah⟩
 ·by_cases z:b=p
  ·subst z;rw[ah] at q;cases q;exact Kt.of ho
  ·rw[au z] at q;exact I.sub b u q
 ·rw[au (λz=>n1.1 (by rw[z];exact h0))];exact I.new b n1 n2
 ·obtain⟨k1,k2,k3⟩:=I.box b q
  exact⟨k1,by rw[au (λz=>hb (by rw[<-z];exact q))];exact k2,k3⟩
 ·have w:=I.slot j s q
  cases s with
  |no=>trivial
  |fz d'=>obtain⟨v,w1,w2⟩:=w;exact⟨v,w1,w2.mono sG⟩
  |ow d'=>
   obtain⟨c,w1,w2,w3,w4,w5⟩:=w
   have ca:c≠p:=λz2=>hn j d' q (by rw[<-z2];exact w1)
   exact⟨c,w1,w2,by rw[au ca];exact w3,w4,w5.mono sG λo q=>Kt.of q⟩
  |bx=>exact w
  |br d'=>obtain⟨b1,c,w1,w4,wp,w5⟩:=w;exact⟨b1,c,w1,w4,wp,w5.mono sG λo q=>Kt.of q⟩
def yG {env:En}{i j:Nat}{d:D}(h:(jc env i)[j]? =some (.ow d)):env[j]? =some (.ow d):=by
 unfold jc at h
 split at h
 ·rename_i d' e
  by_cases z:i=j
  ·subst z
   rw[Nt (Np.mp e).1] at h;cases h
  ·rw[Nu z] at h;exact h
 ·exact h
theorem uo {L:List Nat}{env:En}{j:Nat}{d:D}(h:(aS L env)[j]? =some (.ow d)):env[j]? =some (.ow d):=by
 unfold aS at h
 induction L generalizing env with
 |nil=>exact h
 |cons i L ih=>exact yG (ih h)
def SR.letW {B:Option Addr}{G H G' H':Hp}{σ:St}{env:En}{β β':Int}{L:List Nat}{d:D}{v:V}(I:SR Γ B G H σ env β)(I':SR Γ B G' H' σ (L2.aS L env) β')(h:VO Γ.K B H G' H' .w d v):∃G2,SR Γ B G2 H' σ (L2.aS L env) β'/\ak G' G2/\Rp Γ.K G2 v d:=by
 obtain⟨p,rfl,h1,h2,h3⟩:=h
 obtain⟨q1,q2,q3,q4⟩:=I.fresh h1
 exact I'.letIn q1 h2 q3 (λj d' e=>q4 j d' (uo e)) h3
def SE.wv (h:SE X Γ E e f L .w):SE X Γ E e f L .v:=by
 refine PE.post' h λσ H Q ⟨env,G,B,β,I,o⟩=>⟨env,G,B,β,I,o.imp λd β' k v G' H' I' s m vo=>?_⟩
 obtain⟨G2,I2,s2,r⟩:=I.letW I' vo
 exact k v G2 H' I2 (s.trans s2) m r
theorem VO.brw {B:Option Addr}{H G' H':Hp}{d:D}{v:V}{K:Frag}(h:VO K B H G' H' md d v)(hB:∀x,B=some x->H x≠none):lA K B G' H' v d:=by
 cases md with
 |b=>exact h
 |v=>exact .inl h
 |w=>
  obtain⟨p,rfl,h1,h2,h3⟩:=h
  exact .inr ⟨p,rfl,λz=>hB p z h1,h3⟩
def SR.boxThere {B:Option Addr}{G H:Hp}{σ:St}{env:En}{β:Int}(I:SR Γ B G H σ env β):∀x,B=some x->H x≠none:=λx e=>by rw[(I.box x e).1];simp
def ag (i:Nat){x:Str}(hN:X.N[i]? =some x:=by rfl)(hv:xw X.env.scope x:=by first |exact Or.inl rfl |exact Or.inr (Or.inl rfl) |exact Or.inr (Or.inr rfl))(hd:(x == ("__debug__":Str))=false:=by decide)
  (hcd:(x == ("__classdict__":Str))=false:=by decide):SE X Γ E (.Name x pos) (gv i) [] .b:=by
 refine PE.post' (iL hN hv hd hcd) λσ H Q ⟨env,G,B,β,I,o⟩=>?_
 obtain⟨d,e,k⟩:=o.of
 have e:=join_some e
 rcases GP e with q |q |q
 ·obtain⟨v,h1,h2⟩:=I.slot i _ q
  exact⟨v,h1,k v G H I (ak.refl _) (ic.refl _ _) (.inl h2)⟩
 ·obtain⟨p,h1,h2,h3,h4,h5⟩:=I.slot i _ q
  exact⟨.ref p,h1,k _ G H I (ak.refl _) (ic.refl _ _) (.inr ⟨p,rfl,h4,h5⟩)⟩
 ·obtain⟨_,p,h1,h4,_,h5⟩:=I.slot i _ q
  exact⟨.ref p,h1,k _ G H I (ak.refl _) (ic.refl _ _) (.inr ⟨p,rfl,h4,h5⟩)⟩
def az (i:Nat)(hb:Γ.br i=false){x:Str}(hN:X.N[i]? =some x:=by rfl)(hv:xw X.env.scope x:=by first |exact Or.inl rfl |exact Or.inr (Or.inl rfl) |exact Or.inr (Or.inr rfl))(hd:(x == ("__debug__":Str))=false:=by decide)
  (hcd:(x == ("__classdict__":Str))=false:=by decide):SE X Γ E (.Name x pos) (gv i) [i] .v:=by
 refine PE.post' (iL hN hv hd hcd) λσ H Q ⟨env,G,B,β,I,o⟩=>?_
 obtain⟨d,e,k⟩:=o.of
 obtain⟨G',v,I',s,h1,h2⟩:=I.freeze i hb (join_some e)
 exact⟨v,h1,k v G' H I' s (ic.refl _ _) h2⟩
def Du {v:V}{d:D}(h:PE X e (tC v))(r:∀G,Rp Γ.K G v d):SE X Γ E e (cst d) [] .v:=by
 refine PE.post' h λσ H Q ⟨env,G,B,β,I,o⟩=>?_
 exact o v G H I (ak.refl _) (ic.refl _ _) (r G)
def ax {i:Int}{j}:SE X Γ E (.Constant (.int i) j pos) (cst (.int i)) [] .v:=Du nP λ_=>.int i
def gj {i:Bool}{j}:SE X Γ E (.Constant (.bool i) j pos) (cst (.bool i)) [] .v:=Du sJ λ_=>.bl i
def CF {j}:SE X Γ E (.Constant .none j pos) (cst .none) [] .v:=Du IQ λ_=>.non
def nI {x:Str}{j}:SE X Γ E (.Constant (.str x) j pos) (cst (.str x)) [] .v:=Du qx λ_=>.str x
def Eg {x:Str}{i:Int}{t:Tok}(hg:Gl X x)(hm:X.mg x=some (.int i t))(hd:(x == ("__debug__":Str))=false:=by decide):SE X Γ E (.Name x pos) (cst (.int i)) [] .v:=Du (cE hg hm (show RelV (.int i) _ from⟨_,rfl⟩) hd) λ_=>.int i
def two {W:V->V->Hp->Prop}{B:Option Addr}{G H:Hp}{σ:St}{env:En}{β:Int}(I:SR Γ B G H σ env β)
  (h:Out Γ E (fa (vl env) β) λd1 β1=>Out Γ E (fb (vl env) β1) λd2 β2=>∀x y G2 H2,SR Γ B G2 H2 σ (aS (La ++ Lb) env) β2->ak G G2->ic B H H2->lA Γ.K B G2 H2 x d1->lA Γ.K B G2 H2 y d2->W x y H2) :
  pT Γ E fa La ma σ H λx H1=>pT Γ E fb Lb mb σ H1 λy H2=>W x y H2:=by
 refine⟨env,G,B,β,I,h.imp λd1 β1 h x G1 H1 I1 s1 m1 vx=>⟨aS La env,G1,B,β1,I1,?_⟩⟩
 rw[fV]
 refine h.imp λd2 β2 k y G2 H2 I2 s2 m2 vy=>?_
 refine k x y G2 H2 (by rw[cj];exact I2) (s1.trans s2) (m1.trans m2) ((vx.brw I.boxThere).mono s2 m2) (vy.brw I1.boxThere)
def nk (K:Frag)(r:R2)(g:D->D->Option D)(md:Md):Prop:=∀(B:Option Addr) (G H:Hp) (x y:V) (dx dy d:D) (Q:VK),ak G H->(∀x,B=some x->H x≠none)->lA K B G H x dx->lA K B G H y dy->g dx dy=some d->
 (∀v G' H',Ext G H G' H'->VO K B H G' H' md d v->Q v H')->r x y H Q
def f2 (fa fb:VF D)(g:D->D->Option D):VF D:=λvs β=>(fa vs β).bnd λx β1=>(fb vs β1).bnd λy β2=>R.of (g x y) β2
theorem du {B:Option Addr}{H H2:Hp}(m:ic B H H2)(hB:∀x,B=some x->H2 x≠none){p:Addr}(h:H2 p=none):H p=none:=by
 cases e:H p with
 |none=>rfl
 |some o=>obtain⟨u,eu,_⟩:=(m.1 p o e λz=>hB p z h).some;rw[eu] at h;cases h
theorem VO.back {K:Frag}{B:Option Addr}{H H2 G' H':Hp}{d:D}{v:V}(h:VO K B H2 G' H' md d v)(m:ic B H H2)(hB:∀x,B=some x->H2 x≠none):VO K B H G' H' md d v:=by
 cases md with
 |b=>exact h
 |v=>exact h
 |w=>obtain⟨p,e,h1,h2,h3⟩:=h;exact⟨p,e,du m hB h1,h2,h3⟩
def l5 {r:R2}{g:D->D->Option D}{Q:VK}(pr:nk Γ.K r g md){B:Option Addr}{G H:Hp}{σ:St}{env:En}{β:Int}(I:SR Γ B G H σ env β)
  (h:Out Γ E (f2 fa fb g (vl env) β) λd β'=>∀v G' H',SR Γ B G' H' σ (aS (La ++ Lb) env) β'->ak G G'->ic B H H'->VO Γ.K B H G' H' md d v->Q v H') :
  pT Γ E fa La ma σ H λx H1=>pT Γ E fb Lb mb σ H1 λy H2=>r x y H2 Q:=by
 refine two I (h.bnd.imp λd1 β1 h=>h.bnd.imp λd2 β2 h x y G2 H2 I2 s2 m2 bx by'=>?_)
 obtain⟨d,e,k⟩:=h.of
 refine pr B G2 H2 x y d1 d2 d Q I2.sub I2.boxThere bx by' e λv G' H' x' vo=>?_
 exact k v G' H' (I2.ext x') (s2.trans x'.gg) (m2.trans (x'.hh.mov B)) (vo.back m2 I2.boxThere)
def bp {op:Operator}{r:R2}{g:D->D->Option D}(ho:la X (binaryOp op) r)(pr:nk Γ.K r g md)(ha:SE X Γ E a fa La ma)(hb:SE X Γ E b fb Lb mb):SE X Γ E (.BinOp a op b pos) (f2 fa fb g) (La ++ Lb) md:=
 PE.post' (oy ho ha hb) λσ H Q ⟨env,G,B,β,I,o⟩=>l5 pr I o
def gR {op:CmpOp}{r:R2}{g:D->D->Option D}(ho:la X (compareOp op) r)(pr:nk Γ.K r g md)(ha:SE X Γ E a fa La ma)(hb:SE X Γ E b fb Lb mb)(hm:behindInMarks op b=false):SE X Γ E (.Compare a [op] [b] pos) (f2 fa fb g) (La ++ Lb) md:=
 PE.post' (ES ho ha hb hm) λσ H Q ⟨env,G,B,β,I,o⟩=>l5 pr I o
def bV {r:R2}{g:D->D->Option D}(hr:C2 X r)(pr:nk Γ.K r g md)(ha:SE X Γ E a fa La ma)(hb:SE X Γ E b fb Lb mb)(hs:yW b):SE X Γ E (.Subscript a b pos) (f2 fa fb g) (La ++ Lb) md:=
 PE.post' (kc hr ha hb hs) λσ H Q ⟨env,G,B,β,I,o⟩=>l5 pr I o
def Bg (K:Frag)(r:V->Hp->VK->Prop)(g:D->Option D)(md:Md):Prop:=∀(B:Option Addr) (G H:Hp) (x:V) (dx d:D) (Q:VK),ak G H->(∀x,B=some x->H x≠none)->lA K B G H x dx->g dx=some d->
 (∀v G' H',Ext G H G' H'->VO K B H G' H' md d v->Q v H')->r x H Q
def f1 (fa:VF D)(g:D->Option D):VF D:=λvs β=>(fa vs β).bnd λx β1=>R.of (g x) β1
def iz {r:V->Hp->VK->Prop}{g:D->Option D}{Q:VK}(pr:Bg Γ.K r g md){B:Option Addr}{G H:Hp}{σ:St}{env:En}{β:Int}(I:SR Γ B G H σ env β)
  (h:Out Γ E (f1 fa g (vl env) β) λd β'=>∀v G' H',SR Γ B G' H' σ (aS La env) β'->ak G G'->ic B H H'->VO Γ.K B H G' H' md d v->Q v H') :
  pT Γ E fa La ma σ H λx H1=>r x H1 Q:=by
 refine⟨env,G,B,β,I,h.bnd.imp λd1 β1 h x G1 H1 I1 s1 m1 vx=>?_⟩
 obtain⟨d,e,k⟩:=h.of
 refine pr B G1 H1 x d1 d Q I1.sub I1.boxThere (vx.brw I.boxThere) e λv G' H' x' vo=>?_
 exact k v G' H' (I1.ext x') (s1.trans x'.gg) (m1.trans (x'.hh.mov B)) (vo.back m1 I1.boxThere)
def uX {op:UnaryOp}{r:V->Hp->VK->Prop}{g:D->Option D}(ho:K3 X (unaryOp op) r)(pr:Bg Γ.K r g md)(ha:SE X Γ E a fa La ma):SE X Γ E (.UnaryOp op a pos) (f1 fa g) La md:=
 PE.post' (GQ ho ha) λσ H Q ⟨env,G,B,β,I,o⟩=>iz pr I o
def aZ {id:String}{r:List V->Hp->VK->Prop}{g:D->Option D}{x:Str}{p:Pos}(hc:cg X (.builtin id) r)(pr:Bg Γ.K (λx=>r [x]) g md)(hg:Gl X x)(hm:X.mg x=none)(hv:bootBuiltins x=some (.builtin id))(ha:SE X Γ E a fa La ma)(hn:x≠"__name__":=by decide)(hdb:(x == ("__debug__":Str))=false:=by decide)
  (he:starEach [a] X.env=(false,eval a X.env) :: starEach [] X.env:=by rfl):SE X Γ E (.Call (.Name x p) [a] [] pos) (f1 fa g) La md:=
 PE.post' (ba hc hg hm hv (ao ha aJ he) hn hdb he) λσ H Q ⟨env,G,B,β,I,o⟩=>iz (r:=λx=>r [x]) pr I o
def i0 {id:String}{r:List V->Hp->VK->Prop}{g:D->Option D}{x:Str}{p:Pos}(hc:cg X (.type id) r)(pr:Bg Γ.K (λx=>r [x]) g md)(hg:Gl X x)(hm:X.mg x=none)(hv:bootBuiltins x=some (.type id))(ha:SE X Γ E a fa La ma)(hn:x≠"__name__":=by decide)(hdb:(x == ("__debug__":Str))=false:=by decide)
  (he:starEach [a] X.env=(false,eval a X.env) :: starEach [] X.env:=by rfl):SE X Γ E (.Call (.Name x p) [a] [] pos) (f1 fa g) La md:=
 PE.post' (gM hc hg hm hv (ao ha aJ he) hn hdb he) λσ H Q ⟨env,G,B,β,I,o⟩=>iz (r:=λx=>r [x]) pr I o
def wy {id:String}{r:List V->Hp->VK->Prop}{g:D->D->Option D}{x:Str}{p:Pos}(hc:cg X (.builtin id) r)(pr:nk Γ.K (λx y=>r [x,y]) g md)(hg:Gl X x)(hm:X.mg x=none)(hv:bootBuiltins x=some (.builtin id))(ha:SE X Γ E a fa La ma)(hb:SE X Γ E b fb Lb mb)(hn:x≠"__name__":=by decide)(hdb:(x == ("__debug__":Str))=false:=by decide)
  (he:starEach [a,b] X.env=(false,eval a X.env) :: starEach [b] X.env:=by rfl) (he2:starEach [b] X.env=(false,eval b X.env) :: starEach [] X.env:=by rfl) (hpl:(backTo pos (starEach [b] X.env)).any (·.1)=false:=by rfl):SE X Γ E (.Call (.Name x p) [a,b] [] pos) (f2 fa fb g) (La ++ Lb) md:=
 PE.post' (ba hc hg hm hv (ao ha (ao hb aJ he2) he) hn hdb he hpl) λσ H Q ⟨env,G,B,β,I,o⟩=>l5 (r:=λx y=>r [x,y]) pr I o
def fX (fa fb:VF D):VF D:=λvs β=>(fa vs β).bnd λx β1=>match x with
 | .bool true=>fb vs β1
 | .bool false=>.ok (.bool false) β1
 |_=>.bad
def kF {op}(h:SE X Γ E a fa La md):SE X Γ E (.BoolOp op [a] pos) fa La md:=Hl h
theorem iS {rest:List Expr}(ha:SE X Γ E a fa La ma)(hb:SE X Γ E (.BoolOp .And (b :: rest) pos) fb Lb .v)(hbr:∀i,i∈Lb->Γ.br i=false):SE X Γ E (.BoolOp .And (a :: b :: rest) pos) (fX fa fb) (La ++ Lb) .v:=by
 refine PE.post' (Iz ha hb) λσ H Q ⟨env,G,B,β,I,o⟩=>?_
 refine⟨env,G,B,β,I,o.bnd.imp λd1 β1 h x G1 H1 I1 s1 m1 vx=>?_⟩
 have bx:=vx.brw I.boxThere
 cases d1 with
 |bool c=>
  obtain rfl:=bx.bool
  refine⟨c,rfl,?_⟩
  cases c with
  |true=>exact vQ ⟨_,G1,B,β1,I1,by rw[fV];exact h.imp λd β' k v G' H' I' s' m' vo=>k v G' H' (by rw[cj];exact I') (s1.trans s') (m1.trans m') vo⟩
  |false=>
   obtain⟨G2,I2,s2⟩:=I1.aS Lb hbr
   exact qI (h _ G2 H1 (by rw[cj];exact I2) (s1.trans s2) m1 (.bl false))
 |_=>exact h.elim
def wM:D->Option D
 | .bool c=>some (.bool (!c))
 |_=>none
theorem tI (ha:SE X Γ E a fa La ma):SE X Γ E (.UnaryOp .Not a pos) (f1 fa wM) La .v:=by
 refine PE.post' (IA ha) λσ H Q ⟨env,G,B,β,I,o⟩=>?_
 refine iz (r:=λx H1 Q=>∃c,x=.bl c/\Q (.bl (!c)) H1) ?_ I o
 intro B G H x dx d Q s hB bx e k
 cases dx with
 |bool c=>
  obtain rfl:=bx.bool
  cases e
  exact⟨c,rfl,k _ G H (Ext.refl s) (.bl _)⟩
 |_=>cases e
def Hm:D->Option Bool
 | .none=>some false
 | .bool b=>some b
 | .int i=>some (i != 0)
 | .str y=>if y.length<=sizeLine then some ((y.length:Int) != 0) else none
 | .list ds=>some (!ds.isEmpty)
 | .tuple ds=>some (!ds.isEmpty)
 | .dict _=>none
def j4 (fa:VF D):VF Bool:=λvs β=>(fa vs β).bnd λx β1=>R.of (Hm x) β1
def oB {K:Frag}{G:Hp}{xs:List V}{ds:List D}(r:bP K G xs ds):(!ds.isEmpty)= !xs.isEmpty:=by cases r <;> rfl
theorem cI (hK:X.K=Γ.K)(ha:SE X Γ E a fa La ma)(he:∀whole,isTrue a X.env whole=(do let v <-whole;standAt a.pos;holding [v] (truthy v)):=by intro _;rfl):Bc X Γ E a (j4 fa) La:=by
 refine PT.post (Ds ha he) λσ H Q ⟨env,G,B,β,I,o⟩=>?_
 refine⟨env,G,B,β,I,o.bnd.imp λd1 β1 h x G1 H1 I1 s1 m1 vx=>?_⟩
 obtain⟨c,e,k⟩:=h.of
 have bx:=vx.brw I.boxThere
 refine⟨c,?_,k G1 H1 I1 s1 m1⟩
 rw[hK]
 cases d1 with
 |none=>obtain rfl:=bx.none;cases e;rfl
 |bool b=>obtain rfl:=bx.bool;cases e;rfl
 |int i=>obtain rfl:=bx.int;cases e;rfl
 |str y=>
  obtain rfl:=bx.str
  simp only[Hm] at e
  split at e
  ·cases e;exact⟨by assumption,rfl⟩
  ·cases e
 |list ds=>obtain⟨p,xs,rfl,hq,r⟩:=bx.list I1.sub;cases e;exact .inl ⟨xs,.inl hq,oB r⟩
 |tuple ds=>obtain⟨p,xs,rfl,hq,r⟩:=bx.tuple I1.sub;cases e;exact .inr (.inl ⟨xs,hq,oB r⟩)
 |dict ds=>cases e
def cK (fa:VF D):VF Bool:=λvs β=>(fa vs β).bnd λx β1=>match x with
 | .bool c=>.ok c β1
 |_=>.bad
theorem bF {op:CmpOp}{r:R2}{g:D->D->Option D}(ho:la X (compareOp op) r)(pr:nk Γ.K r g .v)(ha:SE X Γ E a fa La ma)(hb:SE X Γ E b fb Lb mb)(hm:behindInMarks op b=false):Bc X Γ E (.Compare a [op] [b] pos) (cK (f2 fa fb g)) (La ++ Lb):=by
 refine PT.post (yM ho ha hb hm) λσ H Q ⟨env,G,B,β,I,o⟩=>?_
 refine l5 pr I (o.bnd.imp λd β' h v G' H' I' s' m' vo=>?_)
 cases d with
 |bool c=>cases vo;exact⟨c,rfl,h G' H' I' s' m'⟩
 |_=>exact h.elim
def sF (t:VF Bool):VF Bool:=λvs β=>(t vs β).bnd λc β1=>.ok (!c) β1
def DC (t u:VF Bool):VF Bool:=λvs β=>(t vs β).bnd λc β1=>if c=true then u vs β1 else .ok false β1
def lT (t u:VF Bool):VF Bool:=λvs β=>(t vs β).bnd λc β1=>if c=true then .ok true β1 else u vs β1
variable {ta tb tc:VF Bool}
def dR (ha:Bc X Γ E a ta La):Bc X Γ E (.UnaryOp .Not a pos) (sF ta) La:=by
 refine PT.post (xB ha) λσ H Q ⟨env,G,B,β,I,o⟩=>?_
 exact⟨env,G,B,β,I,o.bnd.imp λc β1 h=>h⟩
def sf.t (h:sf X Γ E e ta La):Bc X Γ E e ta La:=PW.pt h
def oV (ha:Bc X Γ E a ta La):sf X Γ E (.BoolOp .And [a] pos) ta La:=y0 ha
def kM (ha:Bc X Γ E a ta La):sf X Γ E (.BoolOp .Or [a] pos) ta La:=DO ha
theorem tH {rest:List Expr}(ha:Bc X Γ E a ta La)(hb:sf X Γ E (.BoolOp .And (b :: rest) pos) tb Lb)(hbr:∀i,i∈Lb->Γ.br i=false):sf X Γ E (.BoolOp .And (a :: b :: rest) pos) (DC ta tb) (La ++ Lb):=by
 refine PW.post (CV ha hb) λσ H Q ⟨env,G,B,β,I,o⟩=>?_
 refine⟨env,G,B,β,I,o.bnd.imp λc β1 h G1 H1 I1 s1 m1=>?_⟩
 cases c with
 |true=>exact vQ ⟨_,G1,B,β1,I1,by rw[fV];exact Out.imp h λd β' k G' H' I' s' m'=>k G' H' (by rw[cj];exact I') (s1.trans s') (m1.trans m')⟩
 |false=>
  obtain⟨G2,I2,s2⟩:=I1.aS Lb hbr
  exact qI (h G2 H1 (by rw[cj];exact I2) (s1.trans s2) m1)
theorem lx {rest:List Expr}(ha:Bc X Γ E a ta La)(hb:sf X Γ E (.BoolOp .Or (b :: rest) pos) tb Lb)(hbr:∀i,i∈Lb->Γ.br i=false):sf X Γ E (.BoolOp .Or (a :: b :: rest) pos) (lT ta tb) (La ++ Lb):=by
 refine PW.post (GL ha hb) λσ H Q ⟨env,G,B,β,I,o⟩=>?_
 refine⟨env,G,B,β,I,o.bnd.imp λc β1 h G1 H1 I1 s1 m1=>?_⟩
 cases c with
 |true=>
  obtain⟨G2,I2,s2⟩:=I1.aS Lb hbr
  exact vQ (h G2 H1 (by rw[cj];exact I2) (s1.trans s2) m1)
 |false=>exact qI ⟨_,G1,B,β1,I1,by rw[fV];exact Out.imp h λd β' k G' H' I' s' m'=>k G' H' (by rw[cj];exact I') (s1.trans s') (m1.trans m')⟩
def MS (t:VF Bool)(fa fb:VF D):VF D:=λvs β=>(t vs β).bnd λc β1=>if c=true then fa vs β1 else fb vs β1
def af:VF (List D):=λ_ β=>.ok [] β
def aa (fa:VF D)(fr:VF (List D)):VF (List D):=λvs β=>(fa vs β).bnd λx β1=>(fr vs β1).bnd λxs β2=>.ok (x :: xs) β2
variable {fr:VF (List D)}{es:List Expr}
def ar:SA X Γ E [] af []:=PA.post aJ λσ H Q ⟨env,G,B,β,I,o⟩=>o [] G H I (ak.refl _) (ic.refl _ _) .nil
def ae (ha:SE X Γ E a fa La .v)(hr:SA X Γ E es fr Lb)(hs:starEach (a :: es) X.env=(false,eval a X.env) :: starEach es X.env:=by rfl):SA X Γ E (a :: es) (aa fa fr) (La ++ Lb):=by
 refine PA.post (ao ha hr hs) λσ H Q ⟨env,G,B,β,I,o⟩=>?_
 refine⟨env,G,B,β,I,o.bnd.imp λd1 β1 h x G1 H1 I1 s1 m1 vx=>⟨aS La env,G1,B,β1,I1,?_⟩⟩
 rw[fV]
 refine h.bnd.imp λds β2 k xs G2 H2 I2 s2 m2 r=>?_
 exact k (x :: xs) G2 H2 (by rw[cj];exact I2) (s1.trans s2) (m1.trans m2) (.cons (vx.mono s2) r)
def bK (fr:VF (List D)):VF D:=λvs β=>(fr vs β).bnd λds β1=>if ds.length<=sizeLine then .ok (.tuple ds) β1 else .bad
def aY (fr:VF (List D)):VF D:=λvs β=>(fr vs β).bnd λds β1=>if ds.length<=sizeLine then .ok (.list ds) β1 else .bad
def gV {x1}(h:SA X Γ E es fr L):SE X Γ E (.Tuple es x1 pos) (bK fr) L .v:=by
 refine PE.post' (yd h) λσ H Q ⟨env,G,B,β,I,o⟩=>?_
 refine⟨env,G,B,β,I,o.bnd.imp λds β1 k xs G1 H1 I1 s1 m1 r=>?_⟩
 by_cases hz:ds.length<=sizeLine
 ·rw[M7 hz] at k
  refine⟨by rw[r.len];exact hz,λp hp=>?_⟩
  have x:=Ext.new I1.sub (o:=.tup xs) hp
  exact k _ _ _ (I1.ext x) (s1.trans x.gg) (m1.trans (x.hh.mov B)) (.tup (.inl (.inl ah)) (r.mono x.gg))
 ·rw[Nd hz] at k;exact k.elim
def bh (h:SA X Γ E es fr L):SE X Γ E (.List es pos) (aY fr) L .w:=by
 refine PE.post' (nu h) λσ H Q ⟨env,G,B,β,I,o⟩=>?_
 refine⟨env,G,B,β,I,o.bnd.imp λds β1 k xs G1 H1 I1 s1 m1 r=>?_⟩
 by_cases hz:ds.length<=sizeLine
 ·rw[M7 hz] at k
  refine⟨by rw[r.len];exact hz,λp hp=>?_⟩
  have x:=Ext.own I1.sub (o:=.lst xs) hp
  exact k _ _ _ (I1.ext x) s1 (m1.trans (x.hh.mov B)) ⟨p,rfl,du m1 I1.boxThere hp,I1.sub.free hp,xs,ah,r⟩
 ·rw[Nd hz] at k;exact k.elim
inductive FR where
 |ok (d:D) (fresh:Bool)
 |exc (c:Str)
 |bad
def FV (K:Frag)(H G' H':Hp)(fr:Bool)(d:D)(v:V):Prop:=if fr=true then ∃a,v=.ref a/\H a=none/\G' a=none/\Own K G' H' a d else Rp K G' v d
def DY (K:Frag)(ca:Str->Addr)(n:Nat)(F:List D->FR):Sp:=λvs H Q E=>∃G ds,ak G H/\ds.length=n/\bP K G vs ds/\match F ds with
 | .ok d fr=>∀v G' H',ak H H'->ak G G'->ak G' H'->(∀b,Mx H b->G b=none->G' b=none)->FV K H G' H' fr d v->Q v H'
 | .exc c=>∀H',ak H H'->E (.ref (ca c)) none H'
 | .bad=>False
structure cX (P:Program)(w:World)(K:Frag)(mg:Str->Option Value)(base:Heap)(ca:Str->Addr)(x:Str)(ps:List Str)(k:Nat)(F:List D->FR):Prop where
 ex:∃f fd,mg x=some (.ref f)/\PySem.W.keepIn K (.ref f)=true/\Binds K fd ps []/\fJ P w K mg base (mE P w) k f fd ps (DY K ca ps.length F)
 len:∀ds,F ds≠.bad->ds.length=ps.length
def aw (F:List D->FR)(fr:VF (List D)):VF D:=λvs β=>(fr vs β).bnd λds β1=>match F ds with
 | .ok d _=>.ok d β1
 | .exc c=>.exc c
 | .bad=>.bad
def wD (F:List D->FR)(fr:VF (List D)):VF D:=λvs β=>(fr vs β).bnd λds β1=>match F ds with
 | .ok d true=>.ok d β1
 | .ok _ false=>.bad
 | .exc c=>.exc c
 | .bad=>.bad
def SR.called {B:Option Addr}{G1 H1 G2 H2:Hp}{σ:St}{env:En}{β:Int}(I1:SR Γ B G1 H1 σ env β)(h:ak H1 H2)(g:ak G1 G2)(s:ak G2 H2)(n:∀b,Mx H1 b->G1 b=none->G2 b=none):SR Γ B G2 H2 σ env β/\ic B H1 H2:=by
 refine⟨⟨s,I1.old.trans g,λb n1 n2=>?_,λb o e np=>(I1.keep b o e np).step h,λb hb=>?_,I1.fix,λb e=>?_,I1.len,λi t e=>?_,I1.sep⟩,h.mov B⟩
 ·exact n b (I1.thereM n1) (I1.new b n1 n2)
 ·exact (I1.pin b hb).same λo e=>h b o e
 ·obtain⟨h1,h2,h3⟩:=I1.box b e
  exact⟨h b _ h1,n b (Mx.lst h1) h2,h3⟩
 ·have q:=I1.slot i t e
  cases t with
  |no=>trivial
  |fz d=>obtain⟨v,h1,h2⟩:=q;exact⟨v,h1,h2.mono g⟩
  |ow d=>
   obtain⟨p,h1,h2,h3,h4,h5⟩:=q
   exact⟨p,h1,h2,n p h5.mx h3,h4,h5.mono g λo q=>h p o q⟩
  |bx=>exact q
  |br d=>obtain⟨b1,p,h1,h4,hp,h5⟩:=q;exact⟨b1,p,h1,h4,hp,h5.mono g λo q=>h p o q⟩
def SR.kp {B:Option Addr}{G H H':Hp}{σ:St}{env:En}{β:Int}(I:SR Γ B G H σ env β)(h:ak H H'):Kp Γ H':=λb o e n=>(I.keep b o e n).step h
theorem sv {F:List D->FR}{ps:List Str}{Q:VK}{B:Option Addr}{G H:Hp}{σ:St}{env:En}{β:Int}(I:SR Γ B G H σ env β)(hK:X.K=Γ.K){wv:Bool}
  (h:Out Γ E (if wv=true then wD F fr (vl env) β else aw F fr (vl env) β) λd β'=>∀v G' H',SR Γ B G' H' σ (aS L env) β'->ak G G'->ic B H H'->VO Γ.K B H G' H' (if wv=true then .w else .v) d v->Q v H') (hl:∀ds,F ds≠.bad->ds.length=ps.length) :
  aT Γ E fr L σ H λvs H1=>DY X.K Γ.ca ps.length F vs H1 Q E:=by
 refine⟨env,G,B,β,I,?_⟩
 have h:Out Γ E (fr (vl env) β) λds β1=>Out Γ E (match F ds with
   | .ok d true=>.ok d β1
   | .ok d false=>if wv=true then .bad else .ok d β1
   | .exc c=>.exc c
   | .bad=>.bad) λd β'=>∀v G' H',SR Γ B G' H' σ (aS L env) β'->ak G G'->ic B H H'->VO Γ.K B H G' H' (if wv=true then .w else .v) d v->Q v H':=by
  cases wv with
  |true=>
   simp only[Ob] at h ⊢
   refine h.bnd.imp λds β1 h=>?_
   cases q:F ds with
   |ok d b=>rw[q] at h;cases b <;> exact h
   |exc c=>rw[q] at h;exact h
   |bad=>rw[q] at h;exact h
  |false=>
   simp only[Nr,NT] at h ⊢
   refine h.bnd.imp λds β1 h=>?_
   cases q:F ds with
   |ok d b=>rw[q] at h;cases b <;> exact h
   |exc c=>rw[q] at h;exact h
   |bad=>rw[q] at h;exact h
 refine h.imp λds β1 k vs G1 H1 I1 s1 m1 r=>?_
 refine⟨G1,ds,I1.sub,?_,by rw[hK];exact r,?_⟩
 ·exact hl ds λz=>by rw[z] at k;exact k
 cases q:F ds with
 |bad=>rw[q] at k;exact k
 |exc c=>rw[q] at k;exact λH' s=>k H' (I1.kp s)
 |ok d b=>
  rw[q] at k
  intro v G' H' hh hg hs hn fv
  obtain⟨I2,m2⟩:=I1.called hh hg hs hn
  cases b with
  |true=>
   obtain⟨p,rfl,p1,p2,p3⟩:∃a,v=.ref a/\H1 a=none/\G' a=none/\Own X.K G' H' a d:=fv
   rw[hK] at p3
   have hp:=du m1 I1.boxThere p1
   cases wv with
   |true=>exact k _ G' H' I2 (s1.trans hg) (m1.trans m2) ⟨p,rfl,hp,p2,p3⟩
   |false=>
    obtain⟨q1,q2,q3,q4⟩:=I1.fresh p1
    obtain⟨G3,I3,s3,r3⟩:=I2.letIn q1 p2 q3 q4 p3
    exact k _ G3 H' I3 ((s1.trans hg).trans s3) (m1.trans m2) r3
  |false=>
   cases wv with
   |true=>exact k.elim
   |false=>
    have fv:Rp X.K G' v d:=fv
    rw[hK] at fv
    exact k _ G' H' I2 (s1.trans hg) (m1.trans m2) fv
def aL {x:Str}{ps:List Str}{k:Nat}{F:List D->FR}{p:Pos}(hf:cX X.prog X.w X.K X.mg X.base Γ.ca x ps k F)(hr:dG k X.A)(hx:Passes (mE X.prog X.w) X E)(hK:X.K=Γ.K)(hg:Gl X x)(ha:SA X Γ E (a :: es) fr L)(hdb:(x == ("__debug__":Str))=false:=by decide)
  (he:starEach (a :: es) X.env=(false,eval a X.env) :: starEach es X.env:=by rfl) (hpl:(backTo pos (starEach es X.env)).any (·.1)=false:=by rfl):SE X Γ E (.Call (.Name x p) (a :: es) [] pos) (aw F fr) L .v:=by
 obtain⟨f,fd,hm,hk,hb,hF⟩:=hf.ex
 refine PE.post' (oW (dvs:=[]) hF hr hg hm hk hb .nil hx ha hdb he hpl) λσ H Q ⟨env,G,B,β,I,o⟩=>?_
 show aT Γ E fr L σ H λvs H1=>DY X.K Γ.ca ps.length F (vs ++ []) H1 Q E
 have:=sv (Q:=Q) (wv:=false) (ps:=ps) I hK o hf.len
 simpa using this
def CD {x:Str}{ps:List Str}{k:Nat}{F:List D->FR}{p:Pos}(hf:cX X.prog X.w X.K X.mg X.base Γ.ca x ps k F)(hr:dG k X.A)(hx:Passes (mE X.prog X.w) X E)(hK:X.K=Γ.K)(hg:Gl X x)(ha:SA X Γ E (a :: es) fr L)(hdb:(x == ("__debug__":Str))=false:=by decide)
  (he:starEach (a :: es) X.env=(false,eval a X.env) :: starEach es X.env:=by rfl) (hpl:(backTo pos (starEach es X.env)).any (·.1)=false:=by rfl):SE X Γ E (.Call (.Name x p) (a :: es) [] pos) (wD F fr) L .w:=by
 obtain⟨f,fd,hm,hk,hb,hF⟩:=hf.ex
 refine PE.post' (oW (dvs:=[]) hF hr hg hm hk hb .nil hx ha hdb he hpl) λσ H Q ⟨env,G,B,β,I,o⟩=>?_
 show aT Γ E fr L σ H λvs H1=>DY X.K Γ.ca ps.length F (vs ++ []) H1 Q E
 have:=sv (Q:=Q) (wv:=true) (ps:=ps) I hK o hf.len
 simpa using this
end
inductive SO where
 |nx (env:En) (β:Int)
 |bk (env:En) (β:Int)
 |ct (env:En) (β:Int)
 |rt (d:D) (fr:Bool) (β:Int)
 |exc (c:Str)
 |bad
abbrev SF:=En->Int->SO
def RV (Γ:Fx)(G' H':Hp)(fr:Bool)(d:D)(v:V):Prop:=if fr=true then ∃a,v=.ref a/\Γ.H0 a=none/\G' a=none/\Own Γ.K G' H' a d else Rp Γ.K G' v d
def qR (Γ:Fx)(E:XK)(G:Hp)(N:Ends):SO->Prop
 | .nx env β=>∀B G' H' σ,SR Γ B G' H' σ env β->ak G G'->N.nx σ H'
 | .bk env β=>∀B G' H' σ,SR Γ B G' H' σ env β->ak G G'->N.bk σ H'
 | .ct env β=>∀B G' H' σ,SR Γ B G' H' σ env β->ak G G'->N.ct σ H'
 | .rt d fr β=>∀B G' H' σ env v,SR Γ B G' H' σ env β->ak G G'->RV Γ G' H' fr d v->N.rt v H'
 | .exc c=>∀H',Kp Γ H'->E (.ref (Γ.ca c)) none H'
 | .bad=>False
def sT (Γ:Fx)(E:XK)(m:SF):TS:=λN σ H=>∃env G B β,SR Γ B G H σ env β/\qR Γ E G N (m env β)
def SS (X:Cx)(Γ:Fx)(E:XK)(st:Stmt)(m:SF):Prop:=PS X st (sT Γ E m)
def A7 (X:Cx)(Γ:Fx)(E:XK)(st:List Stmt)(m:SF):Prop:=oJ X st (sT Γ E m)
def oJ.post {X:Cx}{st:List Stmt}{t u:TS}(h:oJ X st t)(m:∀D σ H,u D σ H->t D σ H):oJ X st u:=λpins s σ H D I q=>h pins s σ H D I (m D σ H q)
def aI (m m':SF):SF:=λenv β=>match m env β with
 | .nx env' β'=>m' env' β'
 |r=>r
def mU:SF:=λenv β=>.nx env β
section
variable {X:Cx}{Γ:Fx}{E:XK}{e a b c:Expr}{f fa fb:VF D}{L La Lb:List Nat}{md ma mb:Md}{pos:Pos}{st:Stmt}{sts:List Stmt}{m m':SF}{ta:VF Bool}
theorem qR.weak {G G1:Hp}{N:Ends}{r:SO}(h:qR Γ E G N r)(s:ak G G1):qR Γ E G1 N r:=by
 cases r with
 |nx env β=>exact λB G' H' σ I s'=>h B G' H' σ I (s.trans s')
 |bk env β=>exact λB G' H' σ I s'=>h B G' H' σ I (s.trans s')
 |ct env β=>exact λB G' H' σ I s'=>h B G' H' σ I (s.trans s')
 |rt d fr β=>exact λB G' H' σ env v I s'=>h B G' H' σ env v I (s.trans s')
 |exc c=>exact h
 |bad=>exact h
def cf:A7 X Γ E [] mU:=oJ.post o5 λN σ H ⟨env,G,B,β,I,o⟩=>o B G H σ I (ak.refl _)
theorem av (h:SS X Γ E st m)(h':A7 X Γ E sts m'):A7 X Γ E (st :: sts) (aI m m'):=by
 refine oJ.post (b9 h h') λN σ H ⟨env,G,B,β,I,o⟩=>?_
 refine⟨env,G,B,β,I,?_⟩
 unfold aI at o
 cases q:m env β with
 |nx env' β'=>rw[q] at o;exact λB' G' H' σ' I' s'=>⟨env',G',B',β',I',o.weak s'⟩
 |bk env' β'=>rw[q] at o;exact o
 |ct env' β'=>rw[q] at o;exact o
 |rt d fr β'=>rw[q] at o;exact o
 |exc c=>rw[q] at o;exact o
 |bad=>rw[q] at o;exact o
def ay (h:SS X Γ E st m):A7 X Γ E [st] m:=di h
def toS {α:Type}(r:R α)(k:α->Int->SO):SO:=match r with
 | .ok x β=>k x β
 | .exc c=>.exc c
 | .bad=>.bad
theorem cm {α:Type}{G:Hp}{N:Ends}{r:R α}{k:α->Int->SO}{P:α->Int->Prop}(h:qR Γ E G N (toS r k))(i:∀x β,qR Γ E G N (k x β)->P x β):Out Γ E r P:=by
 cases r with
 |ok x β=>exact i x β h
 |exc c=>exact h
 |bad=>exact h
def SR.set' {B:Option Addr}{G H:Hp}{σ:St}{env:En}{β:Int}(I:SR Γ B G H σ env β)(i:Nat){v:V}{d:D}(h:Rp Γ.K G v d):SR Γ B G H (σ.set i (some v)) (env.set i (.fz d)) β:=by
 by_cases hi:i < env.length
 ·exact I.set hi h
 ·have h1:env.set i (.fz d)=env:=ON (by omega)
  have h2:σ.set i (some v)=σ:=ON (by rw[I.len];omega)
  rw[h1,h2];exact I
def SR.setOw' {B:Option Addr}{G H:Hp}{σ:St}{env:En}{β:Int}(I:SR Γ B G H σ env β)(i:Nat){a:Addr}{d:D}(h0:Γ.H0 a=none)(hg:G a=none)(hb:B≠some a)(h:Own Γ.K G H a d)(hn:∀(j:Nat) (d':D),env[j]? =some (.ow d')->σ[j]?≠some (some (.ref a))):SR Γ B G H (σ.set i (some (.ref a))) (env.set i (.ow d)) β:=by
 by_cases hi:i < env.length
 ·exact I.setOw hi h0 hg hb h λj d' e _=>hn j d' e
 ·have h1:env.set i (.ow d)=env:=ON (by omega)
  have h2:σ.set i (some (.ref a))=σ:=ON (by rw[I.len];omega)
  rw[h1,h2];exact I
def bI (i:Nat)(L:List Nat)(f:VF D):SF:=λenv β=>toS (f (vl env) β) λd β'=>.nx ((aS L env).set i (.fz d)) β'
def bt {i:Nat}{x:Str}{pos':Pos}(he:SE X Γ E e f L .v)(hN:X.N.Nodup)(hi:X.N[i]? =some x:=by rfl)(hx:Loc X.env.scope x:=by first |exact Or.inl rfl |exact Or.inr rfl)(hs:swapsWith e (some (.Name x pos')) pos.line X.env=pure false:=by rfl)(hf:X.fn x=true\/X.env.scope.names.lookup x=some .local:=by first |exact .inl rfl |exact .inr rfl |assumption) :
  SS X Γ E (.Assign [.Name x pos'] e pos) (bI i L f):=by
 refine PS.post (ji hN hi hx he hs hf) λN σ H ⟨env,G,B,β,I,o⟩=>?_
 refine⟨env,G,B,β,I,cm o λd β' k v G' H' I' s' m' vo=>?_⟩
 exact k B G' H' _ (I'.set' i vo) s'
def jU (i:Nat)(L:List Nat)(f:VF D):SF:=λenv β=>toS (f (vl env) β) λd β'=>.nx ((aS L env).set i (.ow d)) β'
def iA {i:Nat}{x:Str}{pos':Pos}(he:SE X Γ E e f L .w)(hN:X.N.Nodup)(hi:X.N[i]? =some x:=by rfl)(hx:Loc X.env.scope x:=by first |exact Or.inl rfl |exact Or.inr rfl)(hs:swapsWith e (some (.Name x pos')) pos.line X.env=pure false:=by rfl)(hf:X.fn x=true\/X.env.scope.names.lookup x=some .local:=by first |exact .inl rfl |exact .inr rfl |assumption) :
  SS X Γ E (.Assign [.Name x pos'] e pos) (jU i L f):=by
 refine PS.post (ji hN hi hx he hs hf) λN σ H ⟨env,G,B,β,I,o⟩=>?_
 refine⟨env,G,B,β,I,cm o λd β' k v G' H' I' s' m' vo=>?_⟩
 obtain⟨p,rfl,h1,h2,h3⟩:=vo
 obtain⟨q1,q2,q3,q4⟩:=I.fresh h1
 exact k B G' H' _ (I'.setOw' i q1 h2 q3 h3 λj d' z=>q4 j d' (uo z)) s'
def wo (L:List Nat)(f:VF D):SF:=λenv β=>toS (f (vl env) β) λ_ β'=>.nx (aS L env) β'
def EM (he:SE X Γ E e f L md)(hs:swapsWith e none pos.line X.env=pure false:=by rfl):SS X Γ E (.Expr e pos) (wo L f):=by
 refine PS.post (ud he hs) λN σ H ⟨env,G,B,β,I,o⟩=>?_
 exact⟨env,G,B,β,I,cm o λd β' k v G' H' I' s' m' vo=>k B G' H' _ I' s'⟩
def bE (f:VF D):SF:=λenv β=>toS (f (vl env) β) λd β'=>.rt d false β'
def aR (he:SE X Γ E e f L .v):SS X Γ E (.Return (some e) pos) (bE f):=by
 refine PS.post (iM he) λN σ H ⟨env,G,B,β,I,o⟩=>?_
 exact⟨env,G,B,β,I,cm o λd β' k v G' H' I' s' m' vo=>k B G' H' σ _ v I' s' vo⟩
def nX (f:VF D):SF:=λenv β=>toS (f (vl env) β) λd β'=>.rt d true β'
def o9 (he:SE X Γ E e f L .w):SS X Γ E (.Return (some e) pos) (nX f):=by
 refine PS.post (iM he) λN σ H ⟨env,G,B,β,I,o⟩=>?_
 refine⟨env,G,B,β,I,cm o λd β' k v G' H' I' s' m' vo=>?_⟩
 obtain⟨p,rfl,h1,h2,h3⟩:=vo
 obtain⟨q1,_⟩:=I.fresh h1
 exact k B G' H' σ _ _ I' s' ⟨p,rfl,q1,h2,h3⟩
def sN (i:Nat):SF:=λenv β=>match env[i]? with
 |some (.fz d)=>.rt d false β
 |some (.ow d)=>.rt d true β
 |_=>.bad
theorem o7 (i:Nat){x:Str}{p:Pos}(hN:X.N[i]? =some x:=by rfl)(hv:xw X.env.scope x:=by first |exact Or.inl rfl |exact Or.inr (Or.inl rfl) |exact Or.inr (Or.inr rfl))(hd:(x == ("__debug__":Str))=false:=by decide)
  (hcd:(x == ("__classdict__":Str))=false:=by decide):SS X Γ E (.Return (some (.Name x p)) pos) (sN i):=by
 refine PS.post (iM (iL hN hv hd hcd)) λN σ H ⟨env,G,B,β,I,o⟩=>?_
 unfold sN at o
 cases q:env[i]? with
 |none=>rw[q] at o;exact o.elim
 |some s=>
  rw[q] at o
  cases s with
  |no=>exact o.elim
  |bx=>exact o.elim
  |br d=>exact o.elim
  |fz d=>
   obtain⟨v,h1,h2⟩:=I.slot i _ q
   exact⟨v,h1,o B G H σ env v I (ak.refl _) h2⟩
  |ow d=>
   obtain⟨p,h1,h2,h3,h4,h5⟩:=I.slot i _ q
   exact⟨_,h1,o B G H σ env _ I (ak.refl _) ⟨p,rfl,h2,h3,h5⟩⟩
def j6 (L:List Nat)(t:VF Bool)(m m':SF):SF:=λenv β=>toS (t (vl env) β) λc β'=>if c=true then m (aS L env) β' else m' (aS L env) β'
theorem dC {x y:List Stmt}(hc:Bc X Γ E c ta L)(ha:A7 X Γ E x m)(hb:A7 X Γ E y m'):SS X Γ E (.If c x y pos) (j6 L ta m m'):=by
 refine PS.post (zm hc ha hb) λN σ H ⟨env,G,B,β,I,o⟩=>?_
 refine⟨env,G,B,β,I,cm o λd β' k G' H' I' s' m'=>?_⟩
 cases d with
 |true=>exact vQ ⟨_,G',B,β',I',qR.weak k s'⟩
 |false=>exact qI ⟨_,G',B,β',I',qR.weak k s'⟩
def iQ (L:List Nat)(t:VF Bool)(m:SF):Nat->SF
 | 0=>λ_ _=>.bad
 |n + 1=>λenv β=>toS (t (vl env) β) λc β'=>if c=true then (match m (aS L env) β' with
   | .nx env2 β2=>iQ L t m n env2 β2
   | .ct env2 β2=>iQ L t m n env2 β2
   | .bk env2 β2=>.nx env2 β2
   |r=>r) else .nx (aS L env) β'
theorem pC {x:List Stmt}(n:Nat)(hp:PassesOwn (model X.prog X.w) X.A X.env X.xe)(hc:Bc X Γ E c ta L)(hb:A7 X Γ E x m):SS X Γ E (.While c x [] pos) (iQ L ta m n):=by
 refine PS.post (Cf hp hc hb) λN σ H ⟨env,G,B,β,I,o⟩=>?_
 refine⟨λk σ H=>∃env G1 B β,SR Γ B G1 H σ env β/\ak G G1/\qR Γ E G1 N (iQ L ta m k env β),⟨n,env,G,B,β,I,ak.refl _,o⟩,?_⟩
 rintro k σ H ⟨env,G1,B,β,I,sG,o⟩
 cases k with
 |zero=>exact o.elim
 |succ k=>
  refine⟨env,G1,B,β,I,cm o λd β' q G' H' I' s' m'=>?_⟩
  cases d with
  |false=>exact qI (q B G' H' σ I' s')
  |true=>
   refine vQ ⟨λσ H=>∃env G1 B β,SR Γ B G1 H σ env β/\ak G G1/\qR Γ E G1 N (iQ L ta m k env β),λσ' H' h=>⟨k,Nat.lt_succ_self k,h⟩,aS L env,G',B,β',I',?_⟩
   rw[M7 rfl] at q
   cases r:m (aS L env) β' with
   |nx env2 β2=>rw[r] at q;exact λB2 G2 H2 σ2 I2 s2=>⟨env2,G2,B2,β2,I2,(sG.trans s').trans s2,qR.weak q (s'.trans s2)⟩
   |ct env2 β2=>rw[r] at q;exact λB2 G2 H2 σ2 I2 s2=>⟨env2,G2,B2,β2,I2,(sG.trans s').trans s2,qR.weak q (s'.trans s2)⟩
   |bk env2 β2=>rw[r] at q;exact λB2 G2 H2 σ2 I2 s2=>q B2 G2 H2 σ2 I2 (s'.trans s2)
   |rt d fr β2=>rw[r] at q;exact qR.weak q s'
   |exc c=>rw[r] at q;exact q
   |bad=>rw[r] at q;exact q
def Walk (K:Frag)(B:Option Addr)(G H1:Hp)(ds:List D)(J:It):Prop:=∀Gc H (i:Nat),ak G Gc->ak Gc H->ic B H1 H->
 (i < ds.length->J.go i H/\∀x H',J.yld i H x H'->∃G' d,Ext Gc H G' H'/\ds[i]? =some d/\Rp K G' x d)/\(ds.length<=i->J.stop i H)
def iT (Γ:Fx)(E:XK)(f:VF (List D))(L:List Nat)(md:Md):TI:=λσ H Rr=>∃env G B β,SR Γ B G H σ env β/\
 Out Γ E (f (vl env) β) λds β'=>∀J G' H',SR Γ B G' H' σ (aS L env) β'->ak G G'->ic B H H'->Walk Γ.K B G' (match md with | .b=>H' |_=>λ_=>none) ds J->Rr J H'
def SI (X:Cx)(Γ:Fx)(E:XK)(tg e:Expr)(f:VF (List D))(L:List Nat)(md:Md):Prop:=PI X tg e (iT Γ E f L md)
def PI.post {X:Cx}{tg e:Expr}{t u:TI}(h:PI X tg e t)(m:∀σ H Q,u σ H Q->t σ H Q):PI X tg e u:=λpins s σ H Q I q=>h pins s σ H Q I (m σ H Q q)
variable {tg:Expr}
def ig:D->Option (List D)
 | .list ds=>some ds
 | .tuple ds=>some ds
 |_=>none
def bN (fa:VF D):VF (List D):=λvs β=>(fa vs β).bnd λx β1=>R.of (ig x) β1
end
def MR (K:Frag)(tl:TE):TI:=λσ H R=>tl σ H λx H1=>∃a xs,x=.ref a/\((dZ K H1 a xs/\R (A2 K a) H1)\/(fS K H1 a xs/\R (Gv K a) H1))
section
variable {X:Cx}{tg l:Expr}{tl:TE}
def GI (hl:PE X l tl):PI X tg l (MR X.K tl):=by
 intro pins s σ H R I h
 refine b6 (hl pins s σ H _ I h) λv s1 ⟨x,H1,I1,r1,q1⟩=>?_
 obtain⟨a,xs,e,q⟩:=q1
 subst e
 cases r1
 rcases q with⟨hq,q⟩ | ⟨hq,q⟩
 ·obtain⟨its,rv,p,hz⟩:=I1.list hq
  refine Px p.isList ?_
  refine⟨s1.heap.objs.size,[s1.heap.objs.size],_,_,H1,rfl,I1.kept (t':=s1.toks) λb o e=>M4 _ e,nN a _,⟨_,Nk _ rfl,rfl,rfl⟩,λb hb=>?_,q⟩
  have e:b=s1.heap.objs.size:=by simpa using hb
  subst e
  exact I1.fpOk (M9 _) (I1.hok.fresh (M9 _))
 ·obtain⟨its,rv,p,hz⟩:=I1.tuple hq
  refine wpAny_pyIter_tuple (show s1.heap.IsTuple a its.toArray from p) ?_
  refine⟨s1.heap.objs.size,[s1.heap.objs.size],_,_,H1,rfl,I1.kept (t':=s1.toks) λb o e=>M4 _ e,pW a _,⟨_,Nk _ rfl,rfl,rfl⟩,λb hb=>?_,q⟩
  have e:b=s1.heap.objs.size:=by simpa using hb
  subst e
  exact I1.fpOk (M9 _) (I1.hok.fresh (M9 _))
end
section
variable {X:Cx}{Γ:Fx}{E:XK}{e a b c:Expr}{f fa fb:VF D}{L La Lb:List Nat}{md ma mb:Md}{pos:Pos}{st:Stmt}{sts:List Stmt}{m m':SF}{ta:VF Bool}{tg:Expr}
def nS {K:Frag}{B:Option Addr}{G H1:Hp}{p:Addr}{xs:List V}{ds:List D}(h:∀Gc H,ak G Gc->ak Gc H->ic B H1 H->dZ K H p xs)(r:bP K G xs ds):Walk K B G H1 ds (A2 K p):=λGc H i s1 s2 m=>by
 have hq:=h Gc H s1 s2 m
 refine⟨λhi=>⟨?_,λx H' y=>?_⟩,λhi=>⟨xs,hq,by rw[r.len];exact hi⟩⟩
 ·have hi':i < xs.length:=by rw[r.len];exact hi
  exact⟨xs,xs[i],hq,by simp[hi']⟩
 ·obtain⟨rfl,y⟩:=y
  obtain⟨d,e,q⟩:=r.at' (y xs hq)
  exact⟨Gc,d,Ext.refl s2,e,q.mono s1⟩
def vB {K:Frag}{B:Option Addr}{G H1:Hp}{p:Addr}{xs:List V}{ds:List D}(h:∀Gc H,ak G Gc->ak Gc H->ic B H1 H->fS K H p xs)(r:bP K G xs ds):Walk K B G H1 ds (Gv K p):=λGc H i s1 s2 m=>by
 have hq:=h Gc H s1 s2 m
 refine⟨λhi=>⟨?_,λx H' y=>?_⟩,λhi=>⟨xs,hq,by rw[r.len];exact hi⟩⟩
 ·have hi':i < xs.length:=by rw[r.len];exact hi
  exact⟨xs,xs[i],hq,by simp[hi']⟩
 ·obtain⟨rfl,y⟩:=y
  obtain⟨d,e,q⟩:=r.at' (y xs hq)
  exact⟨Gc,d,Ext.refl s2,e,q.mono s1⟩
theorem Ao (hK:X.K=Γ.K)(ha:SE X Γ E a fa La .v):SI X Γ E tg a (bN fa) La .v:=by
 refine PI.post (GI ha) λσ H Q ⟨env,G,B,β,I,o⟩=>?_
 refine⟨env,G,B,β,I,o.bnd.imp λd1 β1 h x G1 H1 I1 s1 m1 vx=>?_⟩
 obtain⟨ds,e,k⟩:=h.of
 rw[hK]
 have vx:Rp Γ.K G1 x d1:=vx
 cases d1 with
 |list l=>
  cases e
  cases vx with
  | @lst p xs _ hq r=>exact⟨p,xs,rfl,.inl ⟨.inl (Rd.mono (.inl hq) I1.sub),k _ G1 H1 I1 s1 m1 (nS (λGc H t1 t2 _=>.inl (Rd.mono (.inl hq) (t1.trans t2))) r)⟩⟩
 |tuple l=>
  cases e
  cases vx with
  | @tup p xs _ hq r=>exact⟨p,xs,rfl,.inr ⟨hq.grow I1.sub.grow,k _ G1 H1 I1 s1 m1 (vB (λGc H t1 t2 _=>hq.grow (t1.trans t2).grow) r)⟩⟩
 |_=>cases e
theorem qJ (hK:X.K=Γ.K)(ha:SE X Γ E a fa La ma):SI X Γ E tg a (bN fa) La .b:=by
 refine PI.post (GI ha) λσ H Q ⟨env,G,B,β,I,o⟩=>?_
 refine⟨env,G,B,β,I,o.bnd.imp λd1 β1 h x G1 H1 I1 s1 m1 vx=>?_⟩
 obtain⟨ds,e,k⟩:=h.of
 rw[hK]
 have vx:=vx.brw I.boxThere
 cases d1 with
 |list l=>
  cases e
  rcases vx with vx | ⟨p,rfl,hb,xs,q,r⟩
  ·cases vx with
   | @lst p xs _ hq r=>exact⟨p,xs,rfl,.inl ⟨.inl (Rd.mono (.inl hq) I1.sub),k _ G1 H1 I1 s1 m1 (nS (λGc H t1 t2 _=>.inl (Rd.mono (.inl hq) (t1.trans t2))) r)⟩⟩
  ·exact⟨p,xs,rfl,.inl ⟨.inl (.inl q),k _ G1 H1 I1 s1 m1 (nS (λGc H t1 t2 mv=>.inl (.inl (mv.1 p _ q hb))) r)⟩⟩
 |tuple l=>
  cases e
  rcases vx with vx | ⟨p,rfl,hb,q⟩
  ·cases vx with
   | @tup p xs _ hq r=>exact⟨p,xs,rfl,.inr ⟨hq.grow I1.sub.grow,k _ G1 H1 I1 s1 m1 (vB (λGc H t1 t2 _=>hq.grow (t1.trans t2).grow) r)⟩⟩
  ·exact q.elim
 |_=>cases e
def cC (lo:Int)(n:Nat):List D:=(List.range n).map λ(k:Nat)=>int (lo + k)
def kY (lo:Int)(n:Nat):(cC lo n).length=n:=by unfold cC;simp
def vv {K:Frag}{B:Option Addr}{G H1:Hp}(lo:Int)(n:Nat):Walk K B G H1 (cC lo n) (AM lo n):=λGc H i s1 s2 m=>by
 rw[kY]
 refine⟨λhi=>⟨hi,λx H' y=>?_⟩,λhi=>hi⟩
 obtain⟨rfl,rfl⟩:=y
 refine⟨Gc,.int (lo + i),Ext.refl s2,?_,.int _⟩
 unfold cC
 rw[Ng,Pk hi];rfl
def A9 (j:Int):Bool:=Nat.ble j.natAbs 1000000
def nE {j:Int}(h:A9 j=true): -(2 ^ 62)<=j/\j < 2 ^ 62:=by
 have:=Nat.le_of_ble_eq_true h
 omega
def ny {j:Int}(h: -1000<=j)(h2:j<=10000):A9 j=true:=Nat.ble_eq_true_of_le (by omega)
def gk (fa:VF D):VF (List D):=λvs β=>(fa vs β).bnd λx β1=>match x with
 | .int j=>if A9 j=true then .ok (cC 0 j.toNat) β1 else .bad
 |_=>.bad
def rY (fa fb:VF D):VF (List D):=λvs β=>(fa vs β).bnd λx β1=>(fb vs β1).bnd λy β2=>match x,y with
 | .int i,.int j=>if (A9 i && A9 j)=true then .ok (cC i (j - i).toNat) β2 else .bad
 |_,_=>.bad
theorem pY {p:Pos}(hg:Gl X "range")(hm:X.mg "range"=none)(ha:SE X Γ E a fa La ma)(hs:starEach [a] X.env= [(false,eval a X.env)]:=by rfl)(hs':starEach [a] X.env=(false,eval a X.env) :: starEach [] X.env:=by rfl):SI X Γ E tg (.Call (.Name "range" p) [a] [] pos) (gk fa) La md:=by
 refine PI.post (kZ hg hm (ao ha aJ hs') hs) λσ H Q ⟨env,G,B,β,I,o⟩=>?_
 refine⟨env,G,B,β,I,o.bnd.imp λd1 β1 h x G1 H1 I1 s1 m1 vx=>?_⟩
 have vx:=vx.brw I.boxThere
 cases d1 with
 |int j=>
  obtain rfl:=vx.int
  dsimp only at h
  by_cases hj:A9 j=true
  ·rw[M7 hj] at h
   exact⟨j,rfl,(nE hj).1,(nE hj).2,h _ G1 H1 I1 s1 m1 (vv 0 _)⟩
  ·rw[Nd hj] at h;exact h.elim
 |_=>exact h.elim
def J0 {p:Pos}(hg:Gl X "range")(hm:X.mg "range"=none)(ha:SE X Γ E a fa La ma)(hb:SE X Γ E b fb Lb mb)(hs:starEach [a,b] X.env= [(false,eval a X.env),(false,eval b X.env)]:=by rfl)(hs2:starEach [b] X.env= [(false,eval b X.env)]:=by rfl)(hs':starEach [a,b] X.env=(false,eval a X.env) :: starEach [b] X.env:=by rfl)(hs3:starEach [b] X.env=(false,eval b X.env) :: starEach [] X.env:=by rfl):SI X Γ E tg (.Call (.Name "range" p) [a,b] [] pos) (rY fa fb) (La ++ Lb) md:=by
 refine PI.post (Ai hg hm (ao ha (ao hb aJ hs3) hs') hs hs2) λσ H Q ⟨env,G,B,β,I,o⟩=>?_
 refine two (W:=λx y H2=>∃i j:Int,[x,y]= [.int i,.int j]/\(-(2 ^ 62)<=i/\i < 2 ^ 62/\ -(2 ^ 62)<=j/\j < 2 ^ 62)/\Q (AM i (j - i).toNat) H2) I (o.bnd.imp λd1 β1 h=>h.bnd.imp λd2 β2 h x y G2 H2 I2 s2 m2 bx by'=>?_)
 obtain⟨i,j,rfl,rfl⟩:∃i j,d1=.int i/\d2=.int j:=by
  cases d1 <;> cases d2 <;> first |exact h.elim |exact⟨_,_,rfl,rfl⟩
 obtain rfl:=bx.int
 obtain rfl:=by'.int
 dsimp only at h
 by_cases hj:(A9 i && A9 j)=true
 ·rw[M7 hj] at h
  rw[Ni] at hj
  exact⟨i,j,rfl,⟨(nE hj.1).1,(nE hj.1).2,(nE hj.2).1,(nE hj.2).2⟩,h _ G2 H2 I2 s2 m2 (vv i _)⟩
 ·rw[Nd hj] at h;exact h.elim
inductive Tg where
 |nm (i:Nat)
 |two (i j:Nat)
def pairD:D->Option (D×D)
 | .tuple [x,y]=>some (x,y)
 |_=>none
def Bk {d x y:D}(h:pairD d=some (x,y)):d=.tuple [x,y]:=by
 unfold pairD at h
 split at h
 ·cases h;rfl
 ·cases h
def gf:Tg->D->En->Option En
 | .nm i,d,env=>some (env.set i (.fz d))
 | .two i j,d,env=>(pairD d).map λp=>(env.set i (.fz p.1)).set j (.fz p.2)
def nW:Tg->D->List Nv->Option (List Nv)
 | .nm i,d,vs=>some (vs.set i (.da d))
 | .two i j,d,vs=>(pairD d).map λp=>(vs.set i (.da p.1)).set j (.da p.2)
def xM (env:En)(i:Nat)(s:Sl):vl (env.set i s)=(vl env).set i s.val:=by unfold vl;rw[List.map_set]
theorem E6 (t:Tg)(d:D)(env:En):(gf t d env).map vl=nW t d (vl env):=by
 cases t with
 |nm i=>show some (vl _)=some _;rw[xM];rfl
 |two i j=>
  show ((pairD d).map _).map vl=(pairD d).map _
  cases pairD d with
  |none=>rfl
  |some p=>show some (vl _)=some _;rw[xM,xM];rfl
def gT (Γ:Fx)(t:Tg):TG:=λv σ H Q=>∃env G B β d env',SR Γ B G H σ env β/\Rp Γ.K G v d/\gf t d env=some env'/\∀σ',SR Γ B G H σ' env' β->Q σ' H
def SG (X:Cx)(Γ:Fx)(tg:Expr)(t:Tg):Prop:=PG X tg (gT Γ t)
def PG.post {X:Cx}{tg:Expr}{t u:TG}(h:PG X tg t)(m:∀v σ H Q,u v σ H Q->t v σ H Q):PG X tg u:=λpins s σ H v uu Q I r q=>h pins s σ H v uu Q I r (m v σ H Q q)
def eG {i:Nat}{x:Str}(hN:X.N.Nodup)(hi:X.N[i]? =some x:=by rfl)(hx:Loc X.env.scope x:=by first |exact Or.inl rfl |exact Or.inr rfl)(hf:X.fn x=true\/X.env.scope.names.lookup x=some .local:=by first |exact .inl rfl |exact .inr rfl |assumption):SG X Γ (.Name x pos) (.nm i):=by
 refine PG.post (cD hN hi hx hf) λv σ H Q ⟨env,G,B,β,d,env',I,r,e,k⟩=>?_
 cases e
 exact k _ (I.set' i r)
theorem lV {i j:Nat}{x y:Str}{px py:Pos}{n:Nat}(hN:X.N.Nodup)(hc:X.calm=true:=by rfl)(hK:X.K=Γ.K:=by rfl)(hi:X.N[i]? =some x:=by rfl)(hj:X.N[j]? =some y:=by rfl)(hx:Loc X.env.scope x:=by first |exact Or.inl rfl |exact Or.inr rfl)(hy:Loc X.env.scope y:=by first |exact Or.inl rfl |exact Or.inr rfl)
  (hf:X.fn x=true\/X.env.scope.names.lookup x=some .local:=by first |exact .inl rfl |exact .inr rfl |assumption) (hf':X.fn y=true\/X.env.scope.names.lookup y=some .local:=by first |exact .inl rfl |exact .inr rfl |assumption):SG X Γ (.Tuple [.Name x px,.Name y py] n pos) (.two i j):=by
 refine PG.post (pX (n:=2) hc (dc (cD hN hi hx hf) (dc (cD hN hj hy hf') mD))) λv σ H Q ⟨env,G,B,β,d,env',I,r,e,k⟩=>?_
 rw[hK]
 have e:(pairD d).map (λp=>(env.set i (.fz p.1)).set j (.fz p.2))=some env':=e
 cases q:pairD d with
 |none=>rw[q] at e;cases e
 |some p=>
  obtain⟨dx,dy⟩:=p
  rw[q] at e
  cases e
  obtain rfl:=Bk q
  cases r with
  | @tup p xs _ hq r=>
   cases r with
   |cons r1 r=>
    cases r with
    |cons r2 r=>
     cases r
     exact⟨p,_,rfl,hq.grow I.sub.grow,rfl,_,_,rfl,_,_,rfl,rfl,k _ ((I.set' i r1).set' j r2)⟩
def oO (t:Tg)(m:SF):List D->SF
 | []=>λenv β=>.nx env β
 |d :: ds=>λenv β=>match gf t d env with
  |none=>.bad
  |some env1=>match m env1 β with
   | .nx env2 β2=>oO t m ds env2 β2
   | .ct env2 β2=>oO t m ds env2 β2
   | .bk env2 β2=>.nx env2 β2
   |r=>r
def dr (t:Tg)(L:List Nat)(fi:VF (List D))(m:SF):SF:=λenv β=>toS (fi (vl env) β) λds β'=>oO t m ds (aS L env) β'
def eJ {t:Tg}{fi:VF (List D)}{x:List Stmt}(hp:PassesOwn (model X.prog X.w) X.A X.env X.xe)(hc:X.calm=true)(hi:SI X Γ E tg e fi L .v)(hg:SG X Γ tg t)(hb:A7 X Γ E x m)(hs:∀x,foldedSetIterable e X.env x=pure x:=by intro _;rfl):SS X Γ E (.For tg e x [] pos) (dr t L fi m):=by
 refine PS.post (uI hp hc hi hg hb hs) λN σ H ⟨env,G,B,β,I,o⟩=>?_
 refine⟨env,G,B,β,I,cm o λds β' q J G' H' I' s' m' w=>?_⟩
 have w:Walk Γ.K B G' (λ_=>none) ds J:=w
 refine⟨λi n σ H=>n=ds.length - i/\i<=ds.length/\∃env G1 B β,SR Γ B G1 H σ env β/\ak G' G1/\qR Γ E G1 N (oO t m (ds.drop i) env β),⟨ds.length,by simp,NQ _,aS L env,G',B,β',I',ak.refl _,by rw[List.drop_zero];exact qR.weak q s'⟩,?_⟩
 rintro i n σ H ⟨rfl,hi,env,G1,B1,β1,I1,s1,q⟩
 obtain⟨w1,w2⟩:=w G1 H i s1 I1.sub ⟨(λb o e=>by cases e),λb o u e=>by cases e⟩
 by_cases hlt:i < ds.length
 ·obtain⟨go,yl⟩:=w1 hlt
  refine .inr ⟨go,λσ H=>∃env G2 B β,SR Γ B G2 H σ env β/\ak G' G2/\qR Γ E G2 N (oO t m (ds.drop (i + 1)) env β),λσ2 H2 h=>⟨ds.length - (i + 1),by omega,rfl,hlt,h⟩,λx H2 y=>?_⟩
  obtain⟨G2,d,x2,ed,rd⟩:=yl x H2 y
  have I2:=I1.ext x2
  have q:=qR.weak q x2.gg
  rw[List.drop_eq_getElem_cons hlt] at q
  have ed':ds[i]=d:=by rw[M1 hlt] at ed;exact Option.some.inj ed
  rw[ed'] at q
  unfold oO at q
  cases eb:gf t d env with
  |none=>rw[eb] at q;exact q.elim
  |some env1=>
   rw[eb] at q
   refine⟨env,G2,B1,β1,d,env1,I2,rd,eb,λσ3 I3=>⟨env1,G2,B1,β1,I3,?_⟩⟩
   have s2:=s1.trans x2.gg
   dsimp only at q
   cases r:m env1 β1 with
   |nx env2 β2=>rw[r] at q;exact λB2 G3 H3 σ2 I2 s3=>⟨env2,G3,B2,β2,I2,s2.trans s3,qR.weak q s3⟩
   |ct env2 β2=>rw[r] at q;exact λB2 G3 H3 σ2 I2 s3=>⟨env2,G3,B2,β2,I2,s2.trans s3,qR.weak q s3⟩
   |bk env2 β2=>rw[r] at q;exact λB2 G3 H3 σ2 I2 s3=>q B2 G3 H3 σ2 I2 s3
   |rt d fr β2=>rw[r] at q;exact q
   |exc c=>rw[r] at q;exact q
   |bad=>rw[r] at q;exact q
 ·have e:i=ds.length:=by omega
  subst e
  rw[List.drop_length] at q
  exact .inl ⟨w2 (M9 _),q B1 G1 H σ I1 (ak.refl _)⟩
end
abbrev Fx.iO (Γ:Fx)(H0 G0:Hp)(par:List Addr)(br:Nat->Bool)(bx:Option Addr):Fx:=⟨Γ.K,H0,G0,par,Γ.ca,br,bx⟩
def gi (own:Nat)(ixs:List Nat)(vs:List Nv):List Nv:=List.replicate own .no ++ ixs.map λi=>(vs[i]?).getD .no
def JZ:Option Sl->Sl
 |some (.ow d)=>.br d
 |some s=>s
 |none=>.no
def benv (own:Nat)(ixs:List Nat)(env:En):En:=List.replicate own .no ++ ixs.map λi=>JZ env[i]?
theorem Fv (o:Option Sl):(JZ o).val=(o.map Sl.val).getD .no:=by
 cases o with
 |none=>rfl
 |some s=>cases s <;> rfl
def FN (own:Nat)(ixs:List Nat)(env:En):vl (benv own ixs env)=gi own ixs (vl env):=by
 unfold vl benv gi
 rw[NU,List.map_replicate,PH]
 congr 1
 refine OD λi _=>?_
 show (JZ env[i]?).val=_
 rw[Fv,Ng]
def xN (env:En):Prop:=∀(i:Nat) (d:D),env[i]?≠some (.ow d)
theorem wa {env:En}(h:xN env)(L:List Nat):aS L env=env:=by
 unfold aS
 induction L with
 |nil=>rfl
 |cons i L ih=>
  rw[foldl_cons]
  have:jc env i=env:=by
   unfold jc
   split
   ·rename_i d e;exact absurd e (h i d)
   ·rfl
  rw[this];exact ih
def sg (own:Nat)(ixs:List Nat)(env:En):xN (benv own ixs env):=λi d e=>by
 unfold benv at e
 have hm:=Nm e
 rcases Nw.mp hm with h |h
 ·have:=OO h;cases this
 ·obtain⟨k,_,hk⟩:=Nh.mp h
  cases q:env[k]? with
  |none=>rw[q] at hk;cases hk
  |some s=>rw[q] at hk;cases s <;> cases hk
def pH {env:En}(h:xN env)(i:Nat)(d:D):xN (env.set i (.fz d)):=λj d' e=>by
 by_cases z:i=j
 ·subst z
  by_cases hi:i < env.length
  ·rw[Nt hi] at e;cases e
  ·rw[ON (by omega)] at e;exact h _ _ e
 ·rw[Nu z] at e;exact h _ _ e
theorem zT {env env1:En}{t:Tg}{d:D}(h:xN env)(e:gf t d env=some env1):xN env1:=by
 cases t with
 |nm i=>cases e;exact pH h i d
 |two i j=>
  have e:(pairD d).map _=some env1:=e
  cases q:pairD d with
  |none=>rw[q] at e;cases e
  |some p=>rw[q] at e;cases e;exact pH (pH h _ _) _ _
theorem zN {env env1:En}{t:Tg}{d:D}(e:gf t d env=some env1)(d':D):gf t d' env1=gf t d' env:=by
 cases t with
 |nm i=>cases e;show some _=some _;rw[set_set]
 |two i j=>
  have e:(pairD d).map _=some env1:=e
  cases q:pairD d with
  |none=>rw[q] at e;cases e
  |some p=>
   rw[q] at e;cases e
   show (pairD d').map _=(pairD d').map _
   cases pairD d' with
   |none=>rfl
   |some p'=>
    show some _=some _
    congr 1
    dsimp only
    by_cases z:i=j
    ·subst z;simp[set_set]
    ·rw[List.set_comm _ _ (Ne.symm z),set_set,set_set]
def Ext.mov {G H G' H':Hp}(x:Ext G H G' H')(B:Option Addr):ic B H H':=x.hh.mov B
section
variable {Γ:Fx}{B:Option Addr}{G H G1 H1 Gc Hc:Hp}{σ σ':St}{env envb:En}{β β':Int}{own:Nat}{ixs:List Nat}{Da:Addr}{acc:List V}
def w9 (envb:En):Nat->Bool:=λj=>match envb[j]? with
 |some (.br _)=>true
 |_=>false
def SR.block (I:SR Γ B G H σ env β)(own:Nat)(ixs:List Nat)(hD:H Da=none):SR (Γ.iO (upd H Da (.lst [])) G (Da :: B.toList) (w9 (benv own ixs env)) B) B G (upd H Da (.lst [])) (cT own ixs σ) (benv own ixs env) β:=by
 obtain⟨q1,q2,q3,q4⟩:=I.fresh hD
 have nB:∀b,B=some b->b≠Da:=λb e z=>q3 (by rw[<-z];exact e)
 refine⟨I.sub.trans (ak.new hD),ak.refl _,λb _ h=>h,λb o h _=>Kt.of h,λb hb=>?_,λb e=>e,λb e=>?_,?_,λi s e=>?_,λi j c d d' e=>absurd e (sg own ixs env i d)⟩
 ·rcases M6.mp hb with z |z
  ·subst z;exact Mx.lst ah
  ·have z':B=some b:=by simpa using z
   exact Mx.lst (by rw[au (nB b z')];exact (I.box b z').1)
 ·obtain⟨h1,h2,_⟩:=I.box b e
  exact⟨by rw[au (nB b e)];exact h1,h2,.inl (M8 _ (by simpa using e))⟩
 ·unfold cT benv;simp
 ·by_cases hi:i < own
  ·unfold benv at e
   rw[NV (by simpa using hi),OB,M7 hi] at e
   cases e;trivial
  ·have e0:=e
   unfold benv at e
   rw[NN (by simpa using hi),OH,Ng] at e
   cases ek:ixs[i - own]? with
   |none=>rw[ek] at e;cases e
   |some k=>
    rw[ek] at e
    have e:JZ env[k]? =s:=Option.some.inj e
    have es:(cT own ixs σ)[i]? =some ((σ[k]?).join):=by
     unfold cT
     rw[NN (by simpa using hi),OH,Ng,ek];rfl
    rw[es]
    cases q:env[k]? with
    |none=>rw[q] at e;subst e;trivial
    |some t=>
     rw[q] at e
     have w:=I.slot k t q
     cases t with
     |no=>subst e;trivial
     |fz d=>subst e;obtain⟨v,h1,h2⟩:=w;exact⟨v,by rw[h1];rfl,h2⟩
     |bx=>subst e;obtain⟨a,h1,h2⟩:=w;exact⟨a,by rw[h1];rfl,h2⟩
     |ow d=>
      subst e
      obtain⟨a,h1,h2,h3,h4,h5⟩:=w
      obtain⟨o,ho⟩:=h5.obj
      have aD:a≠Da:=aB ho hD
      refine⟨by show w9 _ i=true;unfold w9;rw[e0];rfl,a,by rw[h1];rfl,h4,?_,h5.mono (ak.refl _) λo q=>Kt.of (by rw[au aD];exact q)⟩
      intro hm
      rcases M6.mp hm with z |z
      ·exact aD z
      ·exact h4 (by simpa using z)
     |br d=>
      subst e
      obtain⟨b1,a,h1,h4,hp,h5⟩:=w
      obtain⟨o,ho⟩:=h5.obj
      have aD:a≠Da:=aB ho hD
      refine⟨by show w9 _ i=true;unfold w9;rw[e0];rfl,a,by rw[h1];rfl,h4,?_,h5.mono (ak.refl _) λo q=>Kt.of (by rw[au aD];exact q)⟩
      intro hm
      rcases M6.mp hm with z |z
      ·exact aD z
      ·exact h4 (by simpa using z)
def SR.unblock (I:SR Γ B G H σ env β){br:Nat->Bool}(hD:H Da=none)(J:SR (Γ.iO (upd H Da (.lst [])) G (Da :: B.toList) br B) B Gc Hc σ' envb β'):SR Γ B Gc Hc σ env β'/\ic B H Hc/\Gc Da=none:=by
 obtain⟨q1,q2,q3,q4⟩:=I.fresh hD
 have up:∀{b:Addr},Mx H b->Mx (upd H Da (.lst [])) b:=λ{b} h=>h.same λo e=>Kt.of (by rw[au (aB e hD)];exact e)
 have mv0:∀b o,H b=some o->B≠some b->Kt Hc b o:=λb o e n=>J.keep b o (show upd H Da (.lst []) b=some o by rw[au (aB e hD)];exact e) λhm=>by
  rcases M6.mp hm with z |z
  ·rw[z,hD] at e;cases e
  ·exact n (by simpa using z)
 have mv:ic B H Hc:=⟨mv0,λb o u e=>mv0 b _ e λz=>by rw[(I.box b z).1] at e;cases e⟩
 refine⟨⟨J.sub,I.old.trans J.old,λb h1 h2=>J.new b (up (I.thereM h1)) (I.new b h1 h2),λb o h1 h2=>xr (I.keep b o h1 h2) mv λz=>?_,λb hb=>J.thereM (up (I.pin b hb)),I.fix,λb e=>?_,I.len,λi s e=>?_,I.sep⟩,mv,J.new Da (Mx.lst (show upd H Da (.lst []) Da=some (.lst []) from ah)) q2⟩
 ·obtain⟨_,_,h3⟩:=I.box b z
  rcases h3 with h3 |h3
  ·exact h2 h3
  ·rw[h1] at h3;cases h3
 ·obtain⟨j1,j2,_⟩:=J.box b e
  exact⟨j1,j2,(I.box b e).2.2⟩
 ·have w:=I.slot i s e
  cases s with
  |no=>trivial
  |fz d=>obtain⟨v,h1,h2⟩:=w;exact⟨v,h1,h2.mono J.old⟩
  |bx=>exact w
  |ow d=>
   obtain⟨a,h1,h2,h3,h4,h5⟩:=w
   exact⟨a,h1,h2,J.new a (up h5.mx) h3,h4,h5.mono J.old λo q=>mv.1 a o q h4⟩
  |br d=>
   obtain⟨b1,a,h1,h4,hp,h5⟩:=w
   exact⟨b1,a,h1,h4,hp,h5.mono J.old λo q=>mv.1 a o q h4⟩
def SR.updD {ys:List V}(J:SR Γ B G H σ env β)(hp:Da∈Γ.par)(h0:Mx Γ.H0 Da)(g0:Γ.G0 Da=none)(hB:B≠some Da):SR Γ B G (upd H Da (.lst ys)) σ env β:=by
 have gD:=J.new Da h0 g0
 have ha:∀x y,H Da≠some (.aS x y):=λx y w=>(J.pin Da hp).2 _ w trivial
 refine⟨λb u q=>ky (J.sub b u q) (λz=>by rw[z,gD] at q;cases q) ha,J.old,J.new,λb u q n=>ky (J.keep b u q n) (λz=>n (by rw[z];exact hp)) ha,λb hb=>?_,J.fix,λb e=>?_,J.len,λi s e=>?_,J.sep⟩
 ·by_cases z:b=Da
  ·subst z;exact Mx.lst ah
  ·exact (J.pin b hb).same λo e=>Kt.of (by rw[au z];exact e)
 ·obtain⟨h1,h2⟩:=J.box b e
  exact⟨by rw[au (λz=>hB (by rw[<-z];exact e))];exact h1,h2⟩
 ·have w:=J.slot i s e
  cases s with
  |no=>trivial
  |fz d=>exact w
  |bx=>exact w
  |ow d=>
   obtain⟨a,h1,h2,h3,h4,h5⟩:=w
   have aD:a≠Da:=λz=>h0.1 (by rw[<-z];exact h2)
   exact⟨a,h1,h2,h3,h4,h5.mono (ak.refl _) λo q=>Kt.of (by rw[au aD];exact q)⟩
  |br d=>
   obtain⟨b1,a,h1,h4,hpa,h5⟩:=w
   have aD:a≠Da:=λz=>hpa (by rw[z];exact hp)
   exact⟨b1,a,h1,h4,hpa,h5.mono (ak.refl _) λo q=>Kt.of (by rw[au aD];exact q)⟩
end
def R.okb {α γ:Type}(r:R α)(k:α->Int->R γ):R γ:=match r with
 | .ok a β=>k a β
 |_=>.bad
def hZ (t:Tg)(ft:VF Bool)(fe:VF D)(vs:List Nv):List D->Int->R (List D)
 | [],β=>.ok [] β
 |d :: ds,β=>match nW t d vs with
  |none=>.bad
  |some vs1=>(ft vs1 β).okb λc β1=>if c=true then (fe vs1 β1).okb λx β2=>(hZ t ft fe vs ds β2).okb λxs β3=>.ok (x :: xs) β3 else hZ t ft fe vs ds β1
def aX (own:Nat)(ixs:List Nat)(t:Tg)(fi:VF (List D))(ft:VF Bool)(fe:VF D):VF D:=λvs β=>(fi vs β).bnd λds β1=>if ds.length<=sizeLine then (hZ t ft fe (gi own ixs vs) ds β1).okb λxs β2=>.ok (.list xs) β2 else .bad
def sk:VF Bool:=λ_ β=>.ok true β
def GH (own:Nat)(ixs Lc:List Nat)(j:Nat):Bool:=decide (j < own) || (match ixs[j - own]? with
 |some i=>Lc.contains i
 |none=>false)
theorem Fl {α γ:Type}{Γ:Fx}{E:XK}{r:R α}{k:α->Int->R γ}{P:γ->Int->Prop}(h:Out Γ E (r.okb k) P):∃a β,r=.ok a β/\Out Γ E (k a β) P:=by
 cases r with
 |ok a β=>exact⟨a,β,rfl,h⟩
 |exc c=>exact h.elim
 |bad=>exact h.elim
section
variable {X:Cx}{Γ:Fx}{E:XK}{tg iter elt:Expr}{ifs:List Expr}{scope:Scope}{NB:List Str}{own:Nat}{ixs Li Lc Lt Le:List Nat}{t:Tg}{fi:VF (List D)}{ft:VF Bool}{fe:VF D}{pos:Pos}
def jd {X:Cx}{Γ:Fx}{E:XK}:Dr X [] (qT Γ E sk []):=λpins s σ H Q I ⟨env,G,B,β,J,o⟩=>uO pins s σ H Q I (o G H J (ak.refl _) (ic.refl _ _))
def mj {X:Cx}{Γ:Fx}{E:XK}{c:Expr}{ta:VF Bool}{L:List Nat}(h:Bc X Γ E c ta L):Dr X [c] (qT Γ E ta L):=yS h
def qy {NB:List Str}{scope:Scope}{C:Addr}{ex:List Addr}{s3:Shared}{H3:Hp}{pn:List (Addr×Obj)}{P:Program}{w:World}:Passes (mE P w) (iO X NB scope C ex s3 H3 pn) E0:=λpins σ H s e s' I h=>by
 obtain⟨_,_,_,_,_,_,_,_,_,q⟩:=h
 exact q.elim
abbrev gU (Γ:Fx)(t:Tg):TG:=λv σ H Q=>∃H0 G0 par br bx,gT (Γ.iO H0 G0 par br bx) t v σ H Q
abbrev tU (Γ:Fx)(own:Nat)(ixs Lc:List Nat)(ft:VF Bool)(Lt:List Nat):TT:=λσ H Q=>∃H0 G0 par br bx,(∀j,GH own ixs Lc j=true->br j=false)/\qT (Γ.iO H0 G0 par br bx) E0 ft Lt σ H Q
abbrev eU (Γ:Fx)(own:Nat)(ixs Lc:List Nat)(fe:VF D)(Le:List Nat):TE:=λσ H Q=>∃H0 G0 par br bx,(∀j,GH own ixs Lc j=true->br j=false)/\pT (Γ.iO H0 G0 par br bx) E0 fe Le .v σ H Q
def Gq {σ:St}{H:Hp}{Q:VK}(hLc:∀i,i∈Lc->Γ.br i=false)(h:pT Γ E (aX own ixs t fi ft fe) (Li ++ Lc) .w σ H Q):xE own ixs (iT Γ E fi Li .b) (gU Γ t) (tU Γ own ixs Lc ft Lt) (eU Γ own ixs Lc fe Le) σ H Q:=by
 obtain⟨env,G,B,β,I,o⟩:=h
 refine⟨env,G,B,β,I,o.bnd.imp λds β1 h J G1 H1 I1 s1 m1 wk Da hD=>?_⟩
 have wk:Walk Γ.K B G1 H1 ds J:=wk
 by_cases hz:ds.length<=sizeLine
 case neg=>rw[Nd hz] at h;exact h.elim
 rw[M7 hz] at h
 obtain⟨xs0,β0,e0,h⟩:=Fl h
 have h:∀v G' H',SR Γ B G' H' σ (aS (Li ++ Lc) env) β0->ak G G'->ic B H H'->VO Γ.K B H G' H' .w (.list xs0) v->Q v H':=h
 obtain⟨G2,I2,s2⟩:=I1.aS Lc hLc
 rw[<-cj] at I2
 obtain⟨q1,q2,q3,q4⟩:=I2.fresh hD
 have Ib0:=I2.block own ixs hD
 generalize hbr:w9 (benv own ixs (aS (Li ++ Lc) env))=br at Ib0
 have hbo:∀j,GH own ixs Lc j=true->br j=false:=by
  intro j hj
  rw[<-hbr]
  unfold w9
  split
  ·rename_i d e
   exfalso
   unfold benv at e
   by_cases hjo:j < own
   ·rw[NV (by simpa using hjo),OB,M7 hjo] at e;cases e
   ·rw[NN (by simpa using hjo),OH,Ng] at e
    unfold GH at hj
    rw[Nj hjo,Bool.false_or] at hj
    cases ek:ixs[j - own]? with
    |none=>rw[ek] at hj;cases hj
    |some k=>
     rw[ek] at hj e
     have hk:k∈Lc:=by simpa using hj
     have e:JZ (aS (Li ++ Lc) env)[k]? =.br d:=Option.some.inj e
     cases q:(aS (Li ++ Lc) env)[k]? with
     |none=>rw[q] at e;cases e
     |some s=>
      rw[q] at e
      cases s with
      |no=>cases e
      |fz _=>cases e
      |bx=>cases e
      |br d'=>
       obtain⟨b1,_⟩:=I2.slot k _ q
       rw[hLc k hk] at b1;cases b1
      |ow d'=>
       rw[cj] at q
       have key:∀(M:List Nat) (en:En),k∈M->∀d',(aS M en)[k]?≠some (.ow d'):=by
        intro M
        induction M with
        |nil=>intro en hm;cases hm
        |cons i M ih=>
         intro en hm d' z
         rcases M6.mp hm with y |y
         ·subst y
          have z1:(jc en k)[k]? =some (.ow d'):=uo (L:=M) z
          have z2:=yG z1
          unfold jc at z1
          rw[z2] at z1
          dsimp only at z1
          rw[Nt (Np.mp z2).1] at z1;cases z1
         ·exact ih (jc en i) y d' z
       exact key Lc _ hk d' q
  ·rfl
 have evb:vl (benv own ixs (aS (Li ++ Lc) env))=gi own ixs (vl env):=by rw[FN,fV]
 refine⟨λi n σ' H'=>n=ds.length - i/\i<=ds.length/\∃envb Gc β' acc accd,SR (Γ.iO (upd H1 Da (.lst [])) G2 (Da :: B.toList) br B) B Gc H' σ' envb β'/\(envb=benv own ixs (aS (Li ++ Lc) env)\/∃d,gf t d (benv own ixs (aS (Li ++ Lc) env))=some envb)/\
   H' Da=some (.lst acc)/\bP Γ.K Gc acc accd/\accd.length<=i/\∃xs,hZ t ft fe (gi own ixs (vl env)) (ds.drop i) β'=.ok xs β0/\accd ++ xs=xs0,
  ⟨ds.length,by simp,NQ _,_,G2,β1,[],[],Ib0,.inl rfl,ah,.nil,NQ _,xs0,by rw[List.drop_zero];exact e0,rfl⟩,?_⟩
 rintro i n σ' H' ⟨rfl,hi',envb,Gc,β',acc,accd,Ib,eb,hacc,racc,lacc,xs,ec,exs⟩
 obtain⟨Io,mv,gD⟩:=I2.unblock hD Ib
 obtain⟨w1,w2⟩:=wk Gc H' i (s2.trans Ib.old) Ib.sub mv
 by_cases hlt:i < ds.length
 ·obtain⟨go,yl⟩:=w1 hlt
  refine .inr ⟨go,λσ' H'=>∃envb Gc β' acc accd,SR (Γ.iO (upd H1 Da (.lst [])) G2 (Da :: B.toList) br B) B Gc H' σ' envb β'/\(envb=benv own ixs (aS (Li ++ Lc) env)\/∃d,gf t d (benv own ixs (aS (Li ++ Lc) env))=some envb)/\
   H' Da=some (.lst acc)/\bP Γ.K Gc acc accd/\accd.length<=i + 1/\∃xs,hZ t ft fe (gi own ixs (vl env)) (ds.drop (i + 1)) β'=.ok xs β0/\accd ++ xs=xs0,λσ2 H2 hh=>⟨ds.length - (i + 1),by omega,rfl,hlt,hh⟩,λx H2 y=>?_⟩
  obtain⟨G3,d,x3,ed,rd⟩:=yl x H2 y
  have I3:=Ib.ext x3
  have ed':ds[i]=d:=by rw[M1 hlt] at ed;exact Option.some.inj ed
  rw[List.drop_eq_getElem_cons hlt,ed'] at ec
  unfold hZ at ec
  cases ebv:nW t d (gi own ixs (vl env)) with
  |none=>rw[ebv] at ec;cases ec
  |some vs1=>
   rw[ebv] at ec
   dsimp only at ec
   obtain⟨env1,eb1,ev1⟩:∃env1,gf t d (benv own ixs (aS (Li ++ Lc) env))=some env1/\vl env1=vs1:=by
    have:=E6 t d (benv own ixs (aS (Li ++ Lc) env))
    rw[evb,ebv] at this
    cases q:gf t d (benv own ixs (aS (Li ++ Lc) env)) with
    |none=>rw[q] at this;cases this
    |some env1=>rw[q] at this;exact⟨env1,rfl,Option.some.inj this⟩
   have eb2:gf t d envb=some env1:=by
    rcases eb with rfl | ⟨d0,eb⟩
    ·exact eb1
    ·rw[zN eb];exact eb1
   have no1:xN env1:=zT (sg _ _ _) eb1
   have a2:H2 Da=some (.lst acc):=x3.hh _ _ hacc
   refine⟨_,_,_,_,_,envb,G3,B,β',d,env1,I3,rd,eb2,λσ3 I4=>?_⟩
   refine⟨_,_,_,_,_,hbo,env1,G3,B,β',I4,?_⟩
   rw[ev1]
   cases et:ft vs1 β' with
   |exc c=>rw[et] at ec;cases ec
   |bad=>rw[et] at ec;cases ec
   |ok c β2=>
    rw[et] at ec
    intro G4 H4 I5 s4 m4
    rw[wa no1] at I5
    have a4:H4 Da=some (.lst acc):=m4.1 _ _ a2 q3
    cases c with
    |false=>
     refine qI ⟨env1,G4,β2,acc,accd,I5,.inr ⟨d,eb1⟩,a4,racc.mono (x3.gg.trans s4),by omega,xs,?_,exs⟩
     exact ec
    |true=>
     refine vQ ⟨_,_,_,_,_,hbo,env1,G4,B,β2,I5,?_⟩
     rw[ev1]
     have ec:((fe vs1 β2).okb λx β3=>(hZ t ft fe (gi own ixs (vl env)) (ds.drop (i + 1)) β3).okb λxs β4=>R.ok (x :: xs) β4)=R.ok xs β0:=ec
     cases ee:fe vs1 β2 with
     |exc c=>rw[ee] at ec;cases ec
     |bad=>rw[ee] at ec;cases ec
     |ok dx β3=>
      rw[ee] at ec
      intro v G5 H5 I6 s5 m5 vo
      rw[wa no1] at I6
      have a5:H5 Da=some (.lst acc):=m5.1 _ _ a4 q3
      have ec:((hZ t ft fe (gi own ixs (vl env)) (ds.drop (i + 1)) β3).okb λxs β4=>R.ok (dx :: xs) β4)=R.ok xs β0:=ec
      cases er:hZ t ft fe (gi own ixs (vl env)) (ds.drop (i + 1)) β3 with
      |exc c=>rw[er] at ec;cases ec
      |bad=>rw[er] at ec;cases ec
      |ok ys β4=>
       rw[er] at ec
       cases ec
       refine⟨acc,a5,by rw[racc.len];omega,env1,G5,β3,acc ++ [v],accd ++ [dx],?_,.inr ⟨d,eb1⟩,ah,(racc.mono ((x3.gg.trans s4).trans s5)).snoc vo,by rw[NK];simp;omega,ys,er,by rw[<-exs,O5];rfl⟩
       refine I6.updD (Nb ..) (Mx.lst (show upd H1 Da (.lst []) Da=some (.lst []) from ah)) (I2.sub.free hD) q3
 ·have e:i=ds.length:=by omega
  subst e
  rw[List.drop_length] at ec
  cases ec
  rw[Pp] at exs
  subst exs
  refine .inl ⟨w2 (M9 _),⟨acc,hacc⟩,h _ Gc H' Io ((s1.trans s2).trans Ib.old) (m1.trans mv) ⟨Da,rfl,du m1 I1.boxThere hD,gD,acc,hacc,racc⟩⟩
def bU (hg:∀H0 G0 par br bx C ex s3 H3 pn,SG (iO X NB scope C ex s3 H3 pn) (Γ.iO H0 G0 par br bx) tg t)(C:Addr)(ex:List Addr)(s3:Shared)(H3:Hp)(pn:List (Addr×Obj)):PG (iO X NB scope C ex s3 H3 pn) tg (gU Γ t):=by
 rintro pins s σ H v u Q I r ⟨H0,G0,par,br,bx,q⟩
 exact hg H0 G0 par br bx C ex s3 H3 pn pins s σ H v u Q I r q
def dW (Lc:List Nat)(hc:X.calm=true)(S:cO X NB own ixs scope)(hLc:∀i,i∈Lc->Γ.br i=false)(hi:SI X Γ E tg iter fi Li .b)
  (hg:∀H0 G0 par br bx C ex s3 H3 pn,SG (iO X NB scope C ex s3 H3 pn) (Γ.iO H0 G0 par br bx) tg t)
  (ht:∀H0 G0 par br bx C ex s3 H3 pn,(∀j,GH own ixs Lc j=true->br j=false)->Dr (iO X NB scope C ex s3 H3 pn) ifs (qT (Γ.iO H0 G0 par br bx) E0 ft Lt))
  (he:∀H0 G0 par br bx C ex s3 H3 pn,(∀j,GH own ixs Lc j=true->br j=false)->SE (iO X NB scope C ex s3 H3 pn) (Γ.iO H0 G0 par br bx) E0 elt fe Le .v)
  (hs:∀x,foldedSetIterable iter X.env x=pure x:=by intro _;rfl) :
  SE X Γ E (.ListComp elt [⟨tg,iter,ifs,0⟩] scope pos) (aX own ixs t fi ft fe) (Li ++ Lc) .w:=by
 refine PE.post' (vC (g:=gU Γ t) (tt:=tU Γ own ixs Lc ft Lt) (te:=eU Γ own ixs Lc fe Le) hc S hi (bU hg) (λC ex s3 H3 pn=>?_) (λC ex s3 H3 pn=>?_) hs) λσ H Q h=>Gq hLc h
 ·rintro pins s σ H Q I ⟨H0,G0,par,br,bx,b,q⟩
  exact ht H0 G0 par br bx C ex s3 H3 pn b pins s σ H Q I q
 ·rintro pins s σ H Q I ⟨H0,G0,par,br,bx,b,q⟩
  exact he H0 G0 par br bx C ex s3 H3 pn b pins s σ H Q I q
def FX {i:Nat}{y:Str}{py spos:Pos}(Lc:List Nat)(hc:X.calm=true)(S:cO X NB own ixs scope)(hLc:∀i,i∈Lc->Γ.br i=false)(hi:SI X Γ E tg iter fi Li .b)
  (hg:∀H0 G0 par br bx C ex s3 H3 pn,SG (iO X NB scope C ex s3 H3 pn) (Γ.iO H0 G0 par br bx) tg t)
  (ht:∀H0 G0 par br bx C ex s3 H3 pn,(∀j,GH own ixs Lc j=true->br j=false)->Dr (iO X NB scope C ex s3 H3 pn) ifs (qT (Γ.iO H0 G0 par br bx) E0 ft Lt))
  (he:∀H0 G0 par br bx C ex s3 H3 pn,(∀j,GH own ixs Lc j=true->br j=false)->SE (iO X NB scope C ex s3 H3 pn) (Γ.iO H0 G0 par br bx) E0 elt fe Le .v)
  (hN:X.N.Nodup) (hy:X.N[i]? =some y:=by rfl) (hl:X.env.scope.names.lookup y=some .local:=by rfl)
  (hsw:swapsWith (.ListComp elt [⟨tg,iter,ifs,0⟩] scope pos) (some (.Name y py)) spos.line X.env=pure true:=by rfl)
  (hs:∀x,foldedSetIterable iter X.env x=pure x:=by intro _;rfl) :
  SS X Γ E (.Assign [.Name y py] (.ListComp elt [⟨tg,iter,ifs,0⟩] scope pos) spos) (bI i (Li ++ Lc) (aX own ixs t fi ft fe)):=by
 refine PS.post (Dl (g:=gU Γ t) (tt:=tU Γ own ixs Lc ft Lt) (te:=eU Γ own ixs Lc fe Le) hc S hi (bU hg) (λC ex s3 H3 pn=>?_) (λC ex s3 H3 pn=>?_) hN hy hl hsw hs) λN σ H ⟨env,G,B,β,I,o⟩=>?_
 ·rintro pins s σ H Q I ⟨H0,G0,par,br,bx,b,q⟩
  exact ht H0 G0 par br bx C ex s3 H3 pn b pins s σ H Q I q
 ·rintro pins s σ H Q I ⟨H0,G0,par,br,bx,b,q⟩
  exact he H0 G0 par br bx C ex s3 H3 pn b pins s σ H Q I q
 refine Gq hLc ⟨env,G,B,β,I,cm o λd β' k v G' H' I' s' m' vo=>?_⟩
 obtain⟨G2,I2,s2,r⟩:=I.letW I' vo
 exact k B G2 H' _ (I2.set' i r) (s'.trans s2)
end
def fin:SO->FR
 | .nx _ _=>.ok .none false
 | .rt d fr _=>.ok d fr
 | .exc c=>.exc c
 |_=>.bad
def zY (n:Nat)(ds:List D):En:=ds.map Sl.fz ++ List.replicate (n - ds.length) .no
def bg (n p:Nat)(m:SF):List D->FR:=λds=>if ds.length=p then fin (m (zY n ds) 0) else .bad
abbrev Fx.fn (K:Frag)(H G:Hp)(ca:Str->Addr):Fx:=⟨K,H,G,[],ca,λ_=>false,none⟩
def SR.start {K:Frag}{H G:Hp}{ca:Str->Addr}{N:List Str}{vs:List V}{ds:List D}(s:ak G H)(r:bP K G vs ds)(hn:ds.length<=N.length):SR (Fx.fn K H G ca) none G H (start N vs) (zY N.length ds) 0:=by
 have hl:=r.len
 refine⟨s,ak.refl _,λb _ h=>h,λb o h _=>Kt.of h,λb h=>(by cases h),λb h=>(by cases h),λb h=>(by cases h),?_,λi t e=>?_,λi j a d e h=>?_⟩
 ·unfold L2.start zY;simp;omega
 ·unfold zY at e
  by_cases hi:i < ds.length
  ·rw[NV (by simpa using hi),Ng,M1 hi] at e
   cases e
   obtain⟨x,hx,rx⟩:=r.at (M1 hi)
   refine⟨x,?_,rx⟩
   unfold L2.start
   rw[NV (by simpa[hl] using hi),Ng,hx];rfl
  ·rw[NN (by simpa using hi),OB] at e
   split at e
   ·cases e;trivial
   ·cases e
 ·unfold zY at h
  have hm:=Nm h
  rcases Nw.mp hm with z |z
  ·obtain⟨_,_,z⟩:=Nh.mp z;cases z
  ·have:=OO z;cases this
section
variable {P:Program}{w:World}{K:Frag}{mg:Str->Option Value}{base:Heap}{ca:Str->Addr}
def aU {x qual:Str}{st:Stmt}{f:Addr}{fd:FuncData}{N ps:List Str}{k:Nat}{m:SF}(F:A8 K x qual st f fd)(S:aE N ps (aq st))
  (hbody:∀(cdv:Value) (A:Around) (outer:List Env) (s:Shared) (H G:Hp) (E:XK),dG k (A.deeper (envOfC qual (aq st) s.heap.objs.size f cdv))->A7 (kG (mE P w) P w K mg base N qual (aq st) f cdv A outer s H E) (Fx.fn K H G ca) E (bO st) m) :
  fJ P w K mg base (mE P w) (k + 1) f fd ps (DY K ca ps.length (bg N.length ps.length m)):=by
 have hpn:ps.length<=N.length:=by have:=congrArg List.length S.pre;rw[Oq] at this;omega
 refine F.A9 S (λvs H Q E h=>?_) (λcdv A outer s H vs Q E hr h=>?_)
 ·obtain⟨G,ds,sG,hl,r,_⟩:=h
  rw[r.len];exact hl
 ·obtain⟨G,ds,sG,hl,r,h⟩:=h
  refine⟨_,hbody cdv A outer s H G E hr,?_⟩
  have I:=SR.start (ca:=ca) (N:=N) sG r (by omega)
  refine⟨_,G,none,0,I,?_⟩
  unfold bg at h
  rw[M7 hl] at h
  have fin':∀{B G' H' σ env β},SR (Fx.fn K H G ca) B G' H' σ env β->ak H H':=λJ b o e=>J.keep b o e (λz=>by cases z)
  cases q:m (zY N.length ds) 0 with
  |nx env β=>rw[q] at h;exact λB G' H' σ J s'=>h .non G' H' (fin' J) s' J.sub (λb h1 h2=>J.new b h1 h2) Rp.non
  |bk env β=>rw[q] at h;exact h.elim
  |ct env β=>rw[q] at h;exact h.elim
  |rt d fr β=>
   rw[q] at h
   refine λB G' H' σ env v J s' rv=>h v G' H' (fin' J) s' J.sub (λb h1 h2=>J.new b h1 h2) ?_
   cases fr with
   |true=>exact rv
   |false=>exact rv
  |exc c=>rw[q] at h;exact λH' kp=>h H' λb o e=>kp b o e (λz=>by cases z)
  |bad=>rw[q] at h;exact h.elim
def FU {n:Nat}{F F':List D->FR}(h:∀ds,ds.length=n->F' ds≠.bad->F ds=F' ds){vs:List V}{H:Hp}{Q:VK}{E:XK}(q:DY K ca n F' vs H Q E):DY K ca n F vs H Q E:=by
 obtain⟨G,ds,s,hl,r,q⟩:=q
 refine⟨G,ds,s,hl,r,?_⟩
 by_cases hb:F' ds=.bad
 ·rw[hb] at q;exact q.elim
 ·rw[h ds hl hb];exact q
def cX.imp {x:Str}{ps:List Str}{k:Nat}{F F':List D->FR}(h:cX P w K mg base ca x ps k F)(i:∀ds,F' ds≠.bad->F ds=F' ds):cX P w K mg base ca x ps k F':=by
 obtain⟨f,fd,a,b,c,d⟩:=h.ex
 exact⟨⟨f,fd,a,b,c,d.imp λvs H Q E q=>FU (λds _=>i ds) q⟩,λds hn=>h.len ds (by rw[i ds hn];exact hn)⟩
def aP {n p:Nat}{m:SF}(ds:List D)(h:bg n p m ds≠.bad):ds.length=p:=by
 unfold bg at h
 by_cases hl:ds.length=p
 ·exact hl
 ·rw[Nd hl] at h;exact absurd rfl h
def uZ {N:List Str}{qual:Str}{scope:Scope}{f:Addr}{cd:Value}{A:Around}{outer:List Env}{s0:Shared}{H0:Hp}{E:XK}{Γ:Fx}{x:Str}{C:Addr}{np cpos pos:Pos}{e0:Expr}{es:List Expr}{fr:VF (List D)}{L:List Nat}(q:PySem.W.excIn K C [.type "ValueError",.type "Exception",.type "BaseException",.type "object"] "ValueError.__new__"=true)(hca:Γ.ca x=C)
  (hg:Gl (kG (mE P w) P w K mg base N qual scope f cd A outer s0 H0 E) x) (hm:mg x=some (.ref C)) (ha:SA (kG (mE P w) P w K mg base N qual scope f cd A outer s0 H0 E) Γ E (e0 :: es) fr L)
  (he:starEach (e0 :: es) (envOfC qual scope s0.heap.objs.size f cd)=(false,eval e0 (envOfC qual scope s0.heap.objs.size f cd)) :: starEach es (envOfC qual scope s0.heap.objs.size f cd):=by rfl)
  (hpl:(backTo cpos (starEach es (envOfC qual scope s0.heap.objs.size f cd))).any (·.1)=false:=by rfl) (hdb:(x == ("__debug__":Str))=false:=by decide) :
  SS (kG (mE P w) P w K mg base N qual scope f cd A outer s0 H0 E) Γ E (.Raise (some (.Call (.Name x np) (e0 :: es) [] cpos)) none pos) (λenv β=>toS (fr (vl env) β) λds _=>if ds.length<=sizeLine then .exc x else .bad):=by
 refine PS.post (Br PySem.F.excBase_ValueError (by decide +kernel) q hg hm ha he hpl hdb) λD σ H ⟨env,G,B,β,I,o⟩=>?_
 refine⟨env,G,B,β,I,cm o λds β' k vs G' H' I' s' m' r=>?_⟩
 by_cases hz:ds.length<=sizeLine
 ·rw[M7 hz] at k
  refine⟨by rw[r.len];exact hz,?_⟩
  have:=k H' (I'.kp (ak.refl _))
  rw[hca] at this
  exact this
 ·rw[Nd hz] at k;exact k.elim
end
section
variable {X:Cx}{Γ:Fx}{E:XK}{e a b c:Expr}{f fa fb:VF D}{L La Lb:List Nat}{md ma mb:Md}{pos apos cpos np:Pos}
def tj:Option Sl->Bool
 |some (.ow (.list _))=>true
 |_=>false
theorem oY {o:Option Sl}(h:tj o=true):∃ds,o=some (.ow (.list ds)):=by
 cases o with
 |none=>cases h
 |some s=>
  cases s with
  |ow d=>cases d with
   |list ds=>exact⟨ds,rfl⟩
   |_=>cases h
  |_=>cases h
def HE (i:Nat)(env:En)(β:Int)(g:List D->Option (List D)):SO:=match env[i]? with
 |some (.ow (.list ds))=>(match g ds with
  |some es=>.nx (env.set i (.ow (.list es))) β
  |none=>.bad)
 |_=>.bad
def lP (i:Nat)(L:List Nat)(f:VF D):SF:=λenv β=>if tj env[i]? =true then toS (f (vl env) β) λd β'=>HE i (aS L env) β' λds=>if ds.length < sizeLine then some (ds ++ [d]) else none else .bad
def tZ {Γ:Fx}{E:XK}{G:Hp}{N:Ends}{i:Nat}{env:En}{β:Int}{g:List D->Option (List D)}(h:qR Γ E G N (HE i env β g)):∃ds es,env[i]? =some (.ow (.list ds))/\g ds=some es/\qR Γ E G N (.nx (env.set i (.ow (.list es))) β):=by
 unfold HE at h
 split at h
 ·rename_i ds q
  cases e:g ds with
  |none=>rw[e] at h;exact h.elim
  |some es=>rw[e] at h;exact⟨ds,es,q,e,h⟩
 ·exact h.elim
def i7 (i:Nat){x:Str}(hb:∀j,Γ.br j=false)(he:SE X Γ E e f L .v)(hN:X.N[i]? =some x:=by rfl)(hv:xw X.env.scope x:=by first |exact Or.inl rfl |exact Or.inr (Or.inl rfl) |exact Or.inr (Or.inr rfl))(hd:(x == ("__debug__":Str))=false:=by decide)
  (hcd:(x == ("__classdict__":Str))=false:=by decide)
  (hbase:attributeBase (.Name x np) "append" X.env (eval (.Name x np) X.env)=eval (.Name x np) X.env:=by rfl)
  (hfew:((backTo cpos (starEach [e] X.env)).all (λx=> !x.1) && (backToKw cpos (keywordEach [] X.env)).all (λx=>x.1.isSome)
   && decide ([e].length + ([]:List Keyword).length + (if ([]:List Keyword).isEmpty then 0 else 1) < 30))=true:=by rfl)
  (hline:(apos.endLine == cpos.line)=true:=by rfl) (hs:starEach [e] X.env=(false,eval e X.env) :: starEach [] X.env:=by rfl)
  (hsw:swapsWith (.Call (.Attribute (.Name x np) "append" apos) [e] [] cpos) none pos.line X.env=pure false:=by rfl) :
  SS X Γ E (.Expr (.Call (.Attribute (.Name x np) "append" apos) [e] [] cpos) pos) (lP i L f):=by
 refine PS.post (ud (v9 OR PySem.F.slot_list_append PySem.F.type_list_append nU (iL hN hv hd hcd) (ao he aJ hs) hbase hfew hline hs rfl) hsw) λN σ H ⟨env,G,B,β,I,o⟩=>?_
 unfold lP at o
 by_cases hO:tj env[i]? =true
 case neg=>rw[Nd hO] at o;exact o.elim
 rw[M7 hO] at o
 obtain⟨ds0,q0⟩:=oY hO
 obtain⟨p,h1,_,_,_,xs,h5,_⟩:=I.slot i _ q0
 refine⟨_,h1,.inl ⟨rfl,xs,.inl (.inl h5)⟩,?_⟩
 refine⟨env,G,B,β,I,cm o λd β' k v G' H' I' s' m' vo=>?_⟩
 obtain⟨ds,es,q,eg,k⟩:=tZ k
 by_cases hz:ds.length < sizeLine
 case neg=>rw[Nd hz] at eg;cases eg
 rw[M7 hz] at eg
 cases eg
 obtain⟨p',g1,_,_,_,ys,g5,g6⟩:=I'.slot i _ q
 rw[h1] at g1;cases g1
 refine⟨p,ys,v,rfl,rfl,g5,by rw[g6.len];exact hz,?_⟩
 exact k B G' _ σ (I'.write hb q h1 λH2 e2 s2=>⟨_,e2,g6.snoc vo⟩) s'
def Inv.lstR {pins:List (Addr×Obj)}{σ:St}{H:Hp}{s:Shared}{l:Addr}{xs:List V}(I:Inv X pins σ H s)(hH:Rd H l (.lst xs)):xs.length<=sizeLine/\∃(its:List Value) (n:Nat),Vals xs its/\xs.length=its.length/\s.heap.get? l=some {cls:=.type "list",data:=.seq its.toArray n}:=by
 obtain⟨z,its,n,r,e⟩:=hH.ok I.hok
 exact⟨z,its,n,r,r.length,e⟩
def vI (i:Nat)(Le Li:List Nat)(fe fi:VF D):SF:=λenv β=>toS (fe (vl env) β) λd β1=>if tj (aS Le env)[i]? =true then toS (fi (vl env) β1) λk β2=>HE i (aS (Le ++ Li) env) β2 λds=>match k with
 | .int j=>(vG ds.length j).map λn=>ds.set n d
 |_=>none else .bad
theorem Em (i:Nat){x:Str}{spos:Pos}(hb:∀j,Γ.br j=false)(he:SE X Γ E e f La .v)(hi:SE X Γ E a fa Lb mb)(hN:X.N[i]? =some x:=by rfl)(hv:xw X.env.scope x:=by first |exact Or.inl rfl |exact Or.inr (Or.inl rfl) |exact Or.inr (Or.inr rfl))(hd:(x == ("__debug__":Str))=false:=by decide)
  (hcd:(x == ("__classdict__":Str))=false:=by decide)
  (hA:∀v,assign (.Subscript (.Name x np) a spos) X.env v=(do
   let ov <-holding [v] (eval (.Name x np) X.env)
   let iv <-holding [v,ov] (eval a X.env)
   standAt spos
   holding [v,ov,iv] (setItem ov iv v)
   release [v,ov,iv] []):=by intro _;rfl)
  (hs:swapsWithSole [.Subscript (.Name x np) a spos] e pos.line X.env=pure false:=by rfl) (hw:swappedStores [.Subscript (.Name x np) a spos] e X.env=pure none:=by rfl)
  (h1:(assignEach [.Subscript (.Name x np) a spos] X.env).map (·.2)= [assign (.Subscript (.Name x np) a spos) X.env]:=by rfl) :
  SS X Γ E (.Assign [.Subscript (.Name x np) a spos] e pos) (vI i La Lb f fa):=by
 refine PS.post (qj he (sS (iL hN hv hd hcd) hi set_list hA) hs hw h1) λN σ H ⟨env,G,B,β,I,o⟩=>?_
 refine⟨env,G,B,β,I,cm o λd β1 o v G1 H1 I1 s1 m1 vo=>?_⟩
 by_cases hO:tj (aS La env)[i]? =true
 case neg=>rw[Nd hO] at o;exact o.elim
 rw[M7 hO] at o
 obtain⟨ds0,q0⟩:=oY hO
 obtain⟨p,h1,_,_,_,xs,h5,_⟩:=I1.slot i _ q0
 refine⟨_,h1,aS La env,G1,B,β1,I1,?_⟩
 rw[fV]
 refine cm o λk β2 o w G2 H2 I2 s2 m2 vi=>?_
 rw[<-cj] at I2
 obtain⟨ds,es,q,eg,o⟩:=tZ o
 cases k with
 |int j=>
  dsimp only at eg
  obtain rfl:=(vi.brw I1.boxThere).int
  obtain⟨p',g1,_,_,_,ys,g5,g6⟩:=I2.slot i _ q
  rw[h1] at g1;cases g1
  cases en:vG ds.length j with
  |none=>rw[en] at eg;cases eg
  |some n=>
   rw[en] at eg
   cases eg
   have vo:Rp Γ.K G1 v d:=vo
   refine⟨p,ys,j,n,rfl,rfl,g5,by rw[g6.len];exact en,?_⟩
   exact o B G2 _ σ (I2.write hb q h1 λH3 e3 s3=>⟨_,e3,g6.set (vo.mono s2) n⟩) (s1.trans s2)
 |_=>cases eg
end
section
variable {K:Frag}{X:Cx}
def sE {g:Int->Int->V}{gd:D->D->Option D}(h:∀dx dy d,gd dx dy=some d->∃i j,dx=.int i/\dy=.int j/\∀G,Rp K G (g i j) d):nk K (yn g) gd .v:=by
 intro B G H x y dx dy d Q s hB bx by' e k
 obtain⟨i,j,rfl,rfl,r⟩:=h _ _ _ e
 obtain rfl:=bx.int
 obtain rfl:=by'.int
 exact⟨i,j,rfl,rfl,k _ G H (Ext.refl s) (r G)⟩
def vp {C:Int->Int->Prop}{g:Int->Int->V}{gd:D->D->Option D}(h:∀dx dy d,gd dx dy=some d->∃i j,dx=.int i/\dy=.int j/\C i j/\∀G,Rp K G (g i j) d):nk K (rI C g) gd .v:=by
 intro B G H x y dx dy d Q s hB bx by' e k
 obtain⟨i,j,rfl,rfl,c,r⟩:=h _ _ _ e
 obtain rfl:=bx.int
 obtain rfl:=by'.int
 exact⟨i,j,rfl,rfl,c,k _ G H (Ext.refl s) (r G)⟩
def gI (c:Int->Int->Bool)(g:Int->Int->D):D->D->Option D
 | .int i,.int j=>if c i j=true then some (g i j) else none
 |_,_=>none
def wV (g:Int->Int->D):D->D->Option D
 | .int i,.int j=>some (g i j)
 |_,_=>none
def u5 {c:Int->Int->Bool}{g:Int->Int->D}{dx dy d:D}(h:gI c g dx dy=some d):∃i j,dx=.int i/\dy=.int j/\c i j=true/\d=g i j:=by
 unfold gI at h
 split at h
 ·split at h
  ·cases h;exact⟨_,_,rfl,rfl,by assumption,rfl⟩
  ·cases h
 ·cases h
def ko {g:Int->Int->D}{dx dy d:D}(h:wV g dx dy=some d):∃i j,dx=.int i/\dy=.int j/\d=g i j:=by
 unfold wV at h
 split at h
 ·cases h;exact⟨_,_,rfl,rfl,rfl⟩
 ·cases h
def Dw:D->D->Option D:=gI (λ_ j=>decide (0 < j) && decide (j < 1073741824)) λi j=>.int (i / j)
def Fw:nk K (rI Gh λi j=>.int (i / j)) Dw .v:=vp λdx dy d h=>by obtain⟨i,j,rfl,rfl,c,rfl⟩:=u5 h;exact⟨i,j,rfl,rfl,by simpa[Gh] using c,λ_=>.int _⟩
def mw:D->D->Option D:=gI (λ_ j=>decide (0 < j)) λi j=>.int (i % j)
def rG:nk K (rI (λ_ j=>0 < j) λi j=>.int (i % j)) mw .v:=vp λdx dy d h=>by obtain⟨i,j,rfl,rfl,c,rfl⟩:=u5 h;exact⟨i,j,rfl,rfl,by simpa using c,λ_=>.int _⟩
def E2 (i j:Int):Bool:=decide (0<=j) && decide (j<=1000000) && decide (i.natAbs < 2 ^ 64)
def Co:D->D->Option D:=gI E2 λi j=>.int (i ^ j.toNat)
def y6 {i j:Int}(h:E2 i j=true):BK i j:=by
 unfold E2 at h
 simp only[Ni,Nx] at h
 exact⟨h.1.1,h.1.2,h.2⟩
def JT:nk K (rI BK λi j=>.int (i ^ j.toNat)) Co .v:=vp λdx dy d h=>by obtain⟨i,j,rfl,rfl,c,rfl⟩:=u5 h;exact⟨i,j,rfl,rfl,y6 c,λ_=>.int _⟩
def Hx:D->D->Option D:=gI E2 λi j=>.int (i * 2 ^ j.toNat)
def Kl:nk K (rI BK λi j=>.int (i * 2 ^ j.toNat)) Hx .v:=vp λdx dy d h=>by obtain⟨i,j,rfl,rfl,c,rfl⟩:=u5 h;exact⟨i,j,rfl,rfl,y6 c,λ_=>.int _⟩
def Bv:D->D->Option D:=wV λi j=>.int (Builtin.bitAnd i j)
def Ki:nk K (yn λi j=>.int (Builtin.bitAnd i j)) Bv .v:=sE λdx dy d h=>by obtain⟨i,j,rfl,rfl,rfl⟩:=ko h;exact⟨i,j,rfl,rfl,λ_=>.int _⟩
def ML:D->D->Option D:=wV λi j=>.int (Builtin.bitOr i j)
def Mj:nk K (yn λi j=>.int (Builtin.bitOr i j)) ML .v:=sE λdx dy d h=>by obtain⟨i,j,rfl,rfl,rfl⟩:=ko h;exact⟨i,j,rfl,rfl,λ_=>.int _⟩
def DZ:D->D->Option D:=wV λi j=>.bool (decide (i < j))
def BJ:D->D->Option D:=wV λi j=>.bool (decide (i<=j))
def DW:D->D->Option D:=wV λi j=>.bool (decide (j < i))
def Il:nk K (yn λi j=>.bl (decide (i < j))) DZ .v:=sE λdx dy d h=>by obtain⟨i,j,rfl,rfl,rfl⟩:=ko h;exact⟨i,j,rfl,rfl,λ_=>.bl _⟩
def Hb:nk K (yn λi j=>.bl (decide (i<=j))) BJ .v:=sE λdx dy d h=>by obtain⟨i,j,rfl,rfl,rfl⟩:=ko h;exact⟨i,j,rfl,rfl,λ_=>.bl _⟩
def FQ:nk K (yn λi j=>.bl (decide (j < i))) DW .v:=sE λdx dy d h=>by obtain⟨i,j,rfl,rfl,rfl⟩:=ko h;exact⟨i,j,rfl,rfl,λ_=>.bl _⟩
mutual
theorem yy:∀d:D,d.canLay0=true->Ct d=true
 | .none,_=>rfl
 | .bool _,_=>rfl
 | .int _,_=>rfl
 | .str _,_=>rfl
 | .list ds,h=>by simp only[PyData.canLay0] at h;simp only[Ct];exact qd ds h
 | .tuple ds,h=>by simp only[PyData.canLay0] at h;simp only[Ct];exact qd ds h
 | .dict _,h=>by simp[PyData.canLay0] at h
theorem qd:∀ds:List D,PyData.canLayAll0 ds=true->rF ds=true
 | [],_=>rfl
 |d :: ds,h=>by
  simp only[PyData.canLayAll0,Ni] at h
  simp only[rF,Ni]
  exact⟨yy d h.1,qd ds h.2⟩
end
def tQ {d:D}(h:SeqAt.shaped d=true):Ct d=true:=yy d (Pu h)
theorem yI:∀{ds:List D},(ds.all SeqAt.shaped)=true->rF ds=true
 | [],_=>rfl
 |d :: ds,h=>by
  rw[all_cons,Ni] at h
  simp only[rF,Ni]
  exact⟨tQ h.1,yI h.2⟩
def cF (neg:Bool)(x y:D):Option D:=if (SeqAt.shaped x && SeqAt.shaped y)=true then some (.bool (if neg then !PyData.eqv x y else PyData.eqv x y)) else none
def gE {neg:Bool}:nk K (IM K neg) (cF neg) .v:=by
 intro B G H x y dx dy d Q s hB bx by' e k
 unfold cF at e
 split at e
 ·rename_i h
  rw[Ni] at h
  cases e
  exact⟨dx,dy,(bx.rpH s).rep (tQ h.1),(by'.rpH s).rep (tQ h.2),h.1,h.2,k _ G H (Ext.refl s) (.bl _)⟩
 ·cases e
def uC (neg:Bool)(x y:D):Option D:=match ig y with
 |some ds=>if (SeqAt.shaped x && ds.all SeqAt.shaped)=true then some (.bool (if neg then !(ds.any λe=>PyData.eqv e x) else ds.any λe=>PyData.eqv e x)) else none
 |none=>none
theorem lA.seq {B:Option Addr}{G H:Hp}{v:V}{d:D}{ds:List D}(h:lA K B G H v d)(e:ig d=some ds)(s:ak G H):∃a xs,v=.ref a/\(dZ K H a xs\/fS K H a xs)/\bP K G xs ds:=by
 cases d with
 |list l=>cases e;obtain⟨a,xs,e,q,r⟩:=h.list s;exact⟨a,xs,e,.inl (.inl q),r⟩
 |tuple l=>cases e;obtain⟨a,xs,e,q,r⟩:=h.tuple s;exact⟨a,xs,e,.inr q,r⟩
 |_=>cases e
theorem A1 {neg:Bool}:nk K (D6 K neg) (uC neg) .v:=by
 intro B G H x y dx dy d Q s hB bx by' e k
 unfold uC at e
 cases q:ig dy with
 |none=>rw[q] at e;cases e
 |some ds=>
  rw[q] at e
  dsimp only at e
  split at e
  ·rename_i h
   rw[Ni] at h
   cases e
   obtain⟨a,xs,rfl,hq,r⟩:=by'.seq q s
   refine⟨a,xs,dx,ds,rfl,hq,(r.mono s).reps (yI h.2),(bx.rpH s).rep (tQ h.1),h.1,λe he=>NH.mp h.2 e he,k _ G H (Ext.refl s) (.bl _)⟩
  ·cases e
def EX:D->Bool
 | .none=>true
 |_=>false
theorem bP.ints {G:Hp}:∀ns:List Int,bP K G (ns.map V.int) (ns.map int)
 | []=>.nil
 |n :: ns=>.cons (.int n) (bP.ints ns)
theorem Bb.noNone {G:Hp}{kvs:List (Key×V)}{d:D}{r:List (D×D)}(h:Bb K G kvs ((.none,d) :: r)):False:=by
 generalize e:(PyData.none,d) :: r=l at h
 cases h with
 |nil=>cases e
 | @cons k x xs d' ds _ _=>
  injection e with e1 _
  injection e1 with e2 _
  cases k <;> cases e2
theorem Bd.noNone {G:Hp}{kvs:List (List Key×V)}{d:D}{r:List (D×D)}(h:Bd K G kvs ((.none,d) :: r)):False:=by
 generalize e:(PyData.none,d) :: r=l at h
 cases h with
 |nil=>cases e
 | @cons k x xs d' ds _ _=>
  injection e with e1 _
  injection e1 with e2 _
  cases e2
def lA.scr {B:Option Addr}{G H:Hp}{v:V}{ds:List D}(h:lA K B G H v (.dict [(.none,.list ds)]))(s:ak G H):∃a xs,v=.ref a/\dZ K H a xs/\bP K G xs ds:=by
 rcases h with h | ⟨a,rfl,n,h⟩
 ·cases h with
  | @scr a ns q=>exact⟨a,_,rfl,s.seq q,bP.ints ns⟩
  |dK _ r=>exact r.noNone.elim
  |dT _ r=>exact r.noNone.elim
 ·rcases h with⟨_,_,r⟩ | ⟨_,_,r⟩
  ·exact r.noNone.elim
  ·exact r.noNone.elim
def cG:D->D->Option D
 | .list ds,.int i=>kg ds i
 | .tuple ds,.int i=>kg ds i
 | .str z,.int i=>if z.length<=sizeLine then (kg z.cps.toList i).map λc=>.str ⟨#[c]⟩ else none
 | .dict [(.none,.list ds)],.int i=>kg ds i
 |_,_=>none
theorem uP {G:Hp}{xs:List V}{ds:List D}{i:Int}{d:D}(r:bP K G xs ds)(h:kg ds i=some d):∃x,kg xs i=some x/\Rp K G x d:=by
 unfold kg at h ⊢
 rw[r.len]
 cases e:vG ds.length i with
 |none=>rw[e] at h;cases h
 |some j=>rw[e] at h;exact r.at h
theorem dM:nk K (My K) cG .v:=by
 intro B G H x y dx dy d Q s hB bx by' e k
 cases dx with
 |list ds=>
  cases dy with
  |int i=>
   obtain rfl:=by'.int
   obtain⟨a,xs,rfl,q,r⟩:=bx.list s
   obtain⟨v,ev,rv⟩:=uP r e
   exact .inl ⟨a,xs,i,v,rfl,rfl,.inl q,ev,k _ G H (Ext.refl s) rv⟩
  |_=>cases e
 |tuple ds=>
  cases dy with
  |int i=>
   obtain rfl:=by'.int
   obtain⟨a,xs,rfl,q,r⟩:=bx.tuple s
   obtain⟨v,ev,rv⟩:=uP r e
   exact .inr (.inl ⟨a,xs,i,v,rfl,rfl,q,ev,k _ G H (Ext.refl s) rv⟩)
  |_=>cases e
 |str z=>
  cases dy with
  |int i=>
   obtain rfl:=by'.int
   obtain rfl:=bx.str
   simp only[cG] at e
   split at e
   ·rename_i hz
    cases q:kg z.cps.toList i with
    |none=>rw[q] at e;cases e
    |some c=>rw[q] at e;cases e;exact .inr (.inr ⟨z,i,c,rfl,rfl,hz,q,k _ G H (Ext.refl s) (.str _)⟩)
   ·cases e
  |_=>cases e
 |none=>cases dy <;> cases e
 |bool b=>cases dy <;> cases e
 |int b=>cases dy <;> cases e
 |dict b=>
  obtain⟨ds,i,rfl,rfl,e⟩:∃ds i,b= [(.none,.list ds)]/\dy=.int i/\kg ds i=some d:=by
   unfold cG at e
   split at e
   ·contradiction
   ·contradiction
   ·contradiction
   ·rename_i h;cases h;exact⟨_,_,rfl,rfl,e⟩
   ·cases e
  obtain rfl:=by'.int
  obtain⟨a,xs,rfl,q,r⟩:=bx.scr s
  obtain⟨v,ev,rv⟩:=uP r e
  exact .inl ⟨a,xs,i,v,rfl,rfl,q,ev,k _ G H (Ext.refl s) rv⟩
def cZ:D->Option D
 | .list ds=>some (.int ds.length)
 | .tuple ds=>some (.int ds.length)
 | .str z=>if z.length<=sizeLine then some (.int z.length) else none
 | .dict [(.none,.list ds)]=>some (.int ds.length)
 |_=>none
def Lu (K:Frag):List V->Hp->VK->Prop:=λxs H Q=>∃x n,xs= [x]/\JW K x H n/\Q (.int n) H
def jV:Bg K (λx=>Lu K [x]) cZ .v:=by
 intro B G H x dx d Q s hB bx e k
 unfold cZ at e
 split at e
 ·cases e;obtain⟨a,xs,rfl,q,r⟩:=bx.list s;exact⟨_,_,rfl,.inl ⟨xs,.inl q,r.len.symm⟩,k _ G H (Ext.refl s) (.int _)⟩
 ·cases e;obtain⟨a,xs,rfl,q,r⟩:=bx.tuple s;exact⟨_,_,rfl,.inr ⟨xs,q,r.len.symm⟩,k _ G H (Ext.refl s) (.int _)⟩
 ·obtain rfl:=bx.str
  split at e
  ·rename_i hz;cases e;exact⟨_,_,rfl,⟨hz,rfl⟩,k _ G H (Ext.refl s) (.int _)⟩
  ·cases e
 ·cases e;obtain⟨a,xs,rfl,q,r⟩:=bx.scr s;exact⟨_,_,rfl,.inl ⟨xs,q,r.len.symm⟩,k _ G H (Ext.refl s) (.int _)⟩
 ·cases e
def uQ:D->Option D
 | .list ds=>some (.tuple ds)
 | .tuple ds=>some (.tuple ds)
 |_=>none
theorem uM:Bg K (λx H Q=>∃p ys,[x]= [.ref p]/\((dZ K H p ys/\∀l,H l=none->Q (.ref l) (upd H l (.tup ys)))\/(fS K H p ys/\Q (.ref p) H))) uQ .v:=by
 intro B G H x dx d Q s hB bx e k
 cases dx with
 |list ds=>
  cases e
  obtain⟨a,xs,rfl,q,r⟩:=bx.list s
  refine⟨a,xs,rfl,.inl ⟨.inl q,λl hl=>?_⟩⟩
  have x:=Ext.new s (o:=.tup xs) hl
  exact k _ _ _ x (.tup (.inl (.inl ah)) (r.mono x.gg))
 |tuple ds=>
  cases e
  rcases bx with bx | ⟨_,_,_,z⟩
  ·cases bx with
   | @tup a xs _ hq r=>exact⟨a,xs,rfl,.inr ⟨hq.grow s.grow,k _ G H (Ext.refl s) (.tup hq r)⟩⟩
  ·exact z.elim
 |_=>cases e
def CS:D->Option D
 | .list ds=>some (.list ds)
 | .tuple ds=>some (.list ds)
 |_=>none
def Dz:Bg K (λx H Q=>∃p ys,[x]= [.ref p]/\(dZ K H p ys\/fS K H p ys)/\∀l,H l=none->Q (.ref l) (upd H l (.lst ys))) CS .w:=by
 intro B G H x dx d Q s hB bx e k
 obtain⟨ds,e1,rfl⟩:∃ds,ig dx=some ds/\d=.list ds:=by
  cases dx <;> cases e <;> exact⟨_,rfl,rfl⟩
 obtain⟨a,xs,rfl,hq,r⟩:=bx.seq e1 s
 refine⟨a,xs,rfl,hq,λl hl=>?_⟩
 exact k _ _ _ (Ext.own s (o:=.lst xs) hl) ⟨l,rfl,hl,s.free hl,xs,ah,r⟩
def kH:List D->Option (List Bool)
 | []=>some []
 | .bool b :: ds=>(kH ds).map (b :: ·)
 |_=>none
theorem rT {G:Hp}:∀{ds:List D} {bs:List Bool} {xs:List V},kH ds=some bs->bP K G xs ds->xs=bs.map V.bl
 | [],bs,xs,e,r=>by cases e;cases r;rfl
 | .bool b :: ds,bs,xs,e,r=>by
  cases r with
  |cons r1 r2=>
   cases r1
   simp only[kH] at e
   cases q:kH ds with
   |none=>rw[q] at e;cases e
   |some cs=>rw[q] at e;cases e;rw[rT q r2];rfl
 | .none :: _,_,_,e,_=>by cases e
 | .int _ :: _,_,_,e,_=>by cases e
 | .str _ :: _,_,_,e,_=>by cases e
 | .list _ :: _,_,_,e,_=>by cases e
 | .tuple _ :: _,_,_,e,_=>by cases e
 | .dict _ :: _,_,_,e,_=>by cases e
def cA (f:List Bool->Bool):D->Option D
 | .list ds=>(kH ds).map λbs=>.bool (f bs)
 |_=>none
theorem kR {f:List Bool->Bool}:Bg K (λx=>yw K f [x]) (cA f) .v:=by
 intro B G H x dx d Q s hB bx e k
 cases dx with
 |list ds=>
  simp only[cA] at e
  cases q:kH ds with
  |none=>rw[q] at e;cases e
  |some bs=>
   rw[q] at e
   cases e
   obtain⟨a,xs,rfl,hq,r⟩:=bx.list s
   obtain rfl:=rT q r
   exact⟨a,bs,rfl,.inl hq,k _ G H (Ext.refl s) (.bl _)⟩
 |_=>cases e
def Gu:R2:=λx y H Q=>∃l b xs zs,x=.ref l/\y=.ref b/\Rd H l (.lst xs)/\Rd H b (.lst zs)/\xs.length + zs.length<=sizeLine/\∀p,H p=none->Q (.ref p) (upd H p (.lst (xs ++ zs)))
def fA:la X (binaryOp .Add) Gu:=by
 intro pins s σ H x y v u Q I rx ry h
 obtain⟨l,b,xs,zs,rfl,rfl,hH,hB,hz,q⟩:=h
 cases rx
 cases ry
 obtain⟨z,its,n,r,hl,e⟩:=I.lstR hH
 obtain⟨z2,its2,n2,r2,hl2,e2⟩:=I.lstR hB
 refine PySem.P.add_list e e2 ?_ (by rw[Nl,Nl];omega)
 have ea:its.toArray ++ its2.toArray=(its ++ its2).toArray:=by simp
 rw[ea]
 exact⟨.ref _,_,I.lnew (t':=s.toks) (r.append r2) (by rw[NK];omega),rfl,q _ I.fresh⟩
def dH:D->D->Option D
 | .list a,.list b=>if a.length + b.length<=sizeLine then some (.list (a ++ b)) else none
 |_,_=>none
def lg:nk K Gu dH .w:=by
 intro B G H x y dx dy d Q s hB bx by' e k
 cases dx <;> cases dy <;> first | (cases e;done) |skip
 rename_i a b
 simp only[dH] at e
 split at e
 ·rename_i hz
  cases e
  obtain⟨p,xs,rfl,q1,r1⟩:=bx.list s
  obtain⟨p2,ys,rfl,q2,r2⟩:=by'.list s
  refine⟨p,p2,xs,ys,rfl,rfl,q1,q2,by rw[r1.len,r2.len];exact hz,λl hl=>?_⟩
  exact k _ _ _ (Ext.own s (o:=.lst (xs ++ ys)) hl) ⟨l,rfl,hl,s.free hl,_,ah,r1.append r2⟩
 ·cases e
def dO:D->D->Option D:=wV λi j=>.int (i + j)
def lN:nk K (yn λi j=>.int (i + j)) dO .v:=sE λdx dy d h=>by obtain⟨i,j,rfl,rfl,rfl⟩:=ko h;exact⟨i,j,rfl,rfl,λ_=>.int _⟩
def fR:D->D->Option D:=gI (λi j=>(decide (-(2 ^ 64) < i) && decide (i < 2 ^ 64)) || (decide (-(2 ^ 64) < j) && decide (j < 2 ^ 64))) λi j=>.int (i * j)
def lR:nk K (rI DI λi j=>.int (i * j)) fR .v:=vp λdx dy d h=>by obtain⟨i,j,rfl,rfl,c,rfl⟩:=u5 h;exact⟨i,j,rfl,rfl,by simpa[DI] using c,λ_=>.int _⟩
def v3:D->D->Option D
 | .list a,.int k=>if -(2 ^ 63)<=k/\k < 2 ^ 63/\a.length * k.toNat<=sizeLine then some (.list (List.replicate k.toNat a).flatten) else none
 |_,_=>none
def BY {a b:Expr}{fa fb:VF D}{La Lb:List Nat}{mb:Md}{Γ:Fx}{E:XK}{pos:Pos}(ha:SE X Γ E a fa La .w)(hb:SE X Γ E b fb Lb mb):SE X Γ E (.BinOp a .Mult b pos) (f2 fa fb v3) (La ++ Lb) .w:=by
 refine PE.post' (oy BM ha hb) λσ H Q ⟨env,G,B,β,I,o⟩=>?_
 refine⟨env,G,B,β,I,o.bnd.imp λd1 β1 h x G1 H1 I1 s1 m1 vx=>⟨aS La env,G1,B,β1,I1,?_⟩⟩
 rw[fV]
 refine h.bnd.imp λd2 β2 h y G2 H2 I2 s2 m2 vy=>?_
 obtain⟨d,e,k⟩:=h.of
 rw[<-cj] at I2
 obtain⟨p,rfl,p1,p2,p3⟩:=vx
 have by':=vy.brw I1.boxThere
 cases d1 <;> cases d2 <;> first | (cases e;done) |skip
 rename_i l j
 obtain rfl:=by'.int
 simp only[v3] at e
 split at e
 ·rename_i hz
  cases e
  obtain⟨xs,q,r⟩:=p3
  obtain⟨q1,q2,q3,q4⟩:=I.fresh p1
  have r2:=r.mono s2
  refine⟨p,j,xs,rfl,rfl,m2.1 _ _ q q3,hz.1,hz.2.1,by rw[r.len];exact hz.2.2,λl hl=>?_⟩
  have x:=Ext.own I2.sub (o:=.lst (List.replicate j.toNat xs).flatten) hl
  exact k _ _ _ (I2.ext x) ((s1.trans s2).trans x.gg) ((m1.trans m2).trans (x.hh.mov B)) ⟨l,rfl,du (m1.trans m2) I2.boxThere hl,I2.sub.free hl,_,ah,r2.rep⟩
 ·cases e
def vH:D->Option D
 | .int i=>some (.int (-i))
 |_=>none
theorem vO:Bg K (rU λi=>.int (-i)) vH .v:=by
 intro B G H x dx d Q s hB bx e k
 cases dx with
 |int i=>cases e;obtain rfl:=bx.int;exact⟨i,rfl,k _ G H (Ext.refl s) (.int _)⟩
 |_=>cases e
def JL:D->String
 | .none=>"NoneType"
 | .bool _=>"bool"
 | .int _=>"int"
 | .str _=>"str"
 | .list _=>"list"
 | .tuple _=>"tuple"
 | .dict _=>"dict"
def C3 (d:D)(T:String):Bool:=JL d == T || (T == "int" && JL d == "bool")
def bM:D->Bool
 | .dict ((.none,_) :: _)=>true
 |_=>false
def gZ (T:String)(d:D):Option D:=if bM d=true then none else some (.bool (C3 d T))
def MG (K:Frag)(H:Hp)(x:V)(t:String):Prop:=E1 K H x t\/(t="dict"/\∃a kvs,x=.ref a/\H a=some (.dT kvs))
def KH (K:Frag):List V->Hp->VK->Prop:=λxs H Q=>∃x T t b,xs= [x,.ty T]/\MG K H x t/\PySem.W.kitOne K (.type t) (.type T)=some b/\Q (.bl b) H
def Dp:cg X (.builtin "isinstance") (KH X.K):=by
 intro pins s σ H xs us Q I r h
 obtain⟨x,T,t,b,rfl,ty,e,q⟩:=h
 rcases ty with ty | ⟨rfl,a,kvs,rfl,hk⟩
 ·exact BR pins s σ H _ us Q I r ⟨x,T,t,b,rfl,ty,e,q⟩
 ·obtain⟨u,c,rfl,rx,rc⟩:=vals2 r
  cases rc
  cases rx
  obtain⟨_,_,_,_,o,_,_,e2,ex,_⟩:=I.hok a _ hk
  exact NZ PySem.W.kitx_dict I.kIn ⟨o,e2,ex.1⟩ e (λz=>nomatch z) λtk=>⟨.bl b,H,I.tok tk,rfl,q⟩
theorem lA.ty {B:Option Addr}{G H:Hp}{v:V}{d:D}(h:lA K B G H v d)(s:ak G H)(n:bM d=false):MG K H v (JL d):=by
 cases d with
 |none=>obtain rfl:=h.none;exact .inl .non
 |bool b=>obtain rfl:=h.bool;exact .inl (.bl b)
 |int b=>obtain rfl:=h.int;exact .inl (.int b)
 |str b=>obtain rfl:=h.str;exact .inl (.str b)
 |list b=>obtain⟨a,xs,rfl,q,_⟩:=h.list s;exact .inl (.lst (.inl q))
 |tuple b=>obtain⟨a,xs,rfl,q,_⟩:=h.tuple s;exact .inl (.tup q)
 |dict b=>
  rcases h with h | ⟨a,rfl,_,h⟩
  ·cases h with
   |scr _=>cases n
   |dK q _=>exact .inl (.dic (s _ _ q))
   |dT q _=>exact .inr ⟨rfl,_,_,rfl,s _ _ q⟩
  ·rcases h with⟨_,q,_⟩ | ⟨_,q,_⟩
   ·exact .inl (.dic q)
   ·exact .inr ⟨rfl,_,_,rfl,q⟩
theorem JR {d:D}{T:String}(hT:T∈ ["int","bool","str","list","tuple","dict"]):PySem.W.kitOne K (.type (JL d)) (.type T)=some (C3 d T):=by
 simp only[M6,N9,Pg] at hT
 cases d with
 |dict l=>rcases hT with rfl |rfl |rfl |rfl |rfl |rfl <;> rfl
 |none=>rcases hT with rfl |rfl |rfl |rfl |rfl |rfl <;> rfl
 |bool _=>rcases hT with rfl |rfl |rfl |rfl |rfl |rfl <;> rfl
 |int _=>rcases hT with rfl |rfl |rfl |rfl |rfl |rfl <;> rfl
 |str _=>rcases hT with rfl |rfl |rfl |rfl |rfl |rfl <;> rfl
 |list _=>rcases hT with rfl |rfl |rfl |rfl |rfl |rfl <;> rfl
 |tuple _=>rcases hT with rfl |rfl |rfl |rfl |rfl |rfl <;> rfl
def jo {a:Expr}{fa:VF D}{La:List Nat}{ma:Md}{Γ:Fx}{E:XK}{pos p p2:Pos}(T:String){y:Str}(hT:T∈ ["int","bool","str","list","tuple","dict"])(hK:X.K=Γ.K)(hg:Gl X "isinstance")(hm:X.mg "isinstance"=none)(hgT:Gl X y)(hmT:X.mg y=none)(hvT:bootBuiltins y=some (.type T))(ha:SE X Γ E a fa La ma)
  (hnT:y≠"__name__":=by decide) (hdT:(y == ("__debug__":Str))=false:=by decide)
  (he:starEach [a,.Name y p2] X.env=(false,eval a X.env) :: starEach [.Name y p2] X.env:=by rfl) (he2:starEach [.Name y p2] X.env=(false,eval (.Name y p2) X.env) :: starEach [] X.env:=by rfl) (hpl:(backTo pos (starEach [.Name y p2] X.env)).any (·.1)=false:=by rfl) :
  SE X Γ E (.Call (.Name "isinstance" p) [a,.Name y p2] [] pos) (f1 fa (gZ T)) La .v:=by
 refine PE.post' (ba Dp hg hm (by decide +kernel) (ao ha (ao (zj hgT hmT hvT (show RelV (.ty T) _ from rfl) hnT hdT) aJ he2) he) (by decide) (by decide) he hpl) λσ H Q ⟨env,G,B,β,I,o⟩=>?_
 refine iz (r:=λx H1 Q=>KH X.K [x,.ty T] H1 Q) ?_ I o
 intro B G H x dx d Q s hB bx e k
 unfold gZ at e
 split at e
 ·cases e
 ·rename_i hn
  cases e
  rw[hK]
  exact⟨x,T,JL dx,C3 dx T,rfl,bx.ty s (by simpa using hn),JR hT,k _ G H (Ext.refl s) (.bl _)⟩
def jr (fa fb fc:VF D)(g g':D->D->Option D):VF D:=λvs β=>(fa vs β).bnd λx β1=>(fb vs β1).bnd λy β2=>match g x y with
 |some (.bool true)=>(fc vs β2).bnd λz β3=>R.of (g' y z) β3
 |some (.bool false)=>.ok (.bool false) β2
 |_=>.bad
theorem wK {a b c:Expr}{fa fb fc:VF D}{ma mb mc:Md}{Γ:Fx}{E:XK}{pos:Pos}{op op':CmpOp}{r r':R2}{g g':D->D->Option D}(ho:la X (compareOp op) r)(ho':la X (compareOp op') r')(pr:nk Γ.K r g .v)(pr':nk Γ.K r' g' .v)(ha:SE X Γ E a fa [] ma)(hb:SE X Γ E b fb [] mb)(hc:SE X Γ E c fc [] mc)
  (hm:lastMarks [op,op'] [b,c]=false:=by with_unfolding_all rfl):SE X Γ E (.Compare a [op,op'] [b,c] pos) (jr fa fb fc g g') [] .v:=by
 refine PE.post' (B8 ho ho' ha hb hc hm) λσ H Q ⟨env,G,B,β,I,o⟩=>?_
 refine two (W:=λx y H2=>r x y H2 λz H3=>∃k,z=.bl k/\(if k=true then pT Γ E fc [] mc σ H3 λw' H4=>r' y w' H4 Q else Q (.bl false) H3)) I (o.bnd.imp λd1 β1 h=>h.bnd.imp λd2 β2 h x y G2 H2 I2 s2 m2 bx by'=>?_)
 obtain⟨cb,ec,h⟩:∃cb,g d1 d2=some (.bool cb)/\Out Γ E (if cb=true then (fc (vl env) β2).bnd λz β3=>R.of (g' d2 z) β3 else .ok (.bool false) β2) λd β'=>∀v G' H',SR Γ B G' H' σ (aS [] env) β'->ak G G'->ic B H H'->VO Γ.K B H G' H' .v d v->Q v H':=by
  split at h
  ·rename_i q;exact⟨true,q,by rw[M7 rfl];exact h⟩
  ·rename_i q;exact⟨false,q,by rw[Nd Nq];exact h⟩
  ·exact h.elim
 refine pr B G2 H2 x y d1 d2 _ _ I2.sub I2.boxThere bx by' ec λv G' H' x' vo=>?_
 cases vo
 refine⟨cb,rfl,?_⟩
 have I3:=I2.ext x'
 cases cb with
 |false=>rw[Nd Nq] at h;exact qI (h _ G' H' I3 (s2.trans x'.gg) (m2.trans (x'.mov B)) (.bl false))
 |true=>
  rw[M7 rfl] at h
  refine vQ ⟨env,G',B,β2,I3,h.bnd.imp λd3 β3 h z G4 H4 I4 s4 m4 vz=>?_⟩
  obtain⟨d,e,k⟩:=h.of
  refine pr' B G4 H4 y z d2 d3 d Q I4.sub I4.boxThere (by'.mono (x'.gg.trans s4) ((x'.mov B).trans m4)) (vz.brw I3.boxThere) e λv G5 H5 x5 vo=>?_
  exact k v G5 H5 (I4.ext x5) (((s2.trans x'.gg).trans s4).trans x5.gg) (((m2.trans (x'.mov B)).trans m4).trans (x5.mov B)) vo
end
def dG.u1 {k:Nat}{A:Around}(r:dG k A):A.units + 100 < cLine:=by have:=r.un;omega
def ME (N:List Str)(sc:Scope)(NB:List Str)(own:Nat)(ixs:List Nat)(scope:Scope):Bool:=
 decide (scope.kind=.function) && (scope.names.all λy=>decide (y.2≠.cell)) && (scope.names.all λy=>decide (scope.names.lookup y.1=some y.2)) &&
 (scope.names.all λy=>decide (y.2=.free->(sc.names.lookup y.1=some .cell\/sc.names.lookup y.1=some .free))) && decide NB.Nodup && decide (NB.length=own + ixs.length) &&
 ((List.range ixs.length).all λk=>decide (NB[own + k]? =N[ixs.getD k 0]?) && (match NB[own + k]? with |some x=>decide ((x,NameKind.free)∈scope.names) |none=>true))
def fZ {X:Cx}{NB:List Str}{own:Nat}{ixs:List Nat}{scope:Scope}(h:ME X.N X.env.scope NB own ixs scope=true):cO X NB own ixs scope:=by
 unfold ME at h
 simp only[Ni,NH,Nx,Ny] at h
 obtain⟨⟨⟨⟨⟨⟨h1,h2⟩,h3⟩,h4⟩,h5⟩,h6⟩,h7⟩:=h
 refine⟨h1,h2,h3,h4,h5,h6,λk hk=>⟨(h7 k hk).1,λx hx=>?_⟩⟩
 have:=(h7 k hk).2
 rw[hx] at this
 simpa using this
section
variable {X:Cx}{Γ:Fx}{E:XK}{e a b c:Expr}{f fa fb fc:VF D}{L La Lb:List Nat}{md ma mb mc:Md}{pos:Pos}{K:Frag}
def tN (fa:VF D)(neg:Bool):VF Bool:=λvs β=>(fa vs β).bnd λx β1=>.ok (if neg then !EX x else EX x) β1
def oT (Γ:Fx)(E:XK)(f:VF (Option Int))(L:List Nat):TO:=λσ H Q=>∃env G B β,SR Γ B G H σ env β/\
 Out Γ E (f (vl env) β) λd β'=>∀G' H',SR Γ B G' H' σ (aS L env) β'->ak G G'->ic B H H'->Q d H'
def K5 (X:Cx)(Γ:Fx)(E:XK)(e:Option Expr)(f:VF (Option Int))(L:List Nat):Prop:=PO X e (oT Γ E f L)
def yQ:K5 X Γ E none (λ_ β=>.ok none β) []:=λpins s σ H Q I ⟨env,G,B,β,J,o⟩=>E4 pins s σ H Q I (o G H J (ak.refl _) (ic.refl _ _))
def Gj (fa:VF D):VF (Option Int):=λvs β=>(fa vs β).bnd λx β1=>match x with
 | .int i=>.ok (some i) β1
 |_=>.bad
theorem zw (ha:SE X Γ E a fa La ma):K5 X Γ E (some a) (Gj fa) La:=λpins s σ H Q I ⟨env,G,B,β,J,o⟩=>by
 refine yZ ha pins s σ H Q I ⟨env,G,B,β,J,o.bnd.imp λd1 β1 h x G1 H1 I1 s1 m1 vx=>?_⟩
 cases d1 with
 |int i=>exact⟨i,(vx.brw J.boxThere).int,h G1 H1 I1 s1 m1⟩
 |_=>exact h.elim
def cutD (xs:List D)(lo hi:Option Int):List D:=(xs.drop (HT.ra xs.length 0 lo)).take (HT.ra xs.length xs.length hi - HT.ra xs.length 0 lo)
def ER {G:Hp}{xs:List V}{ds:List D}(r:bP K G xs ds)(lo hi:Option Int):bP K G (xY xs lo hi) (cutD ds lo hi):=by
 unfold xY cutD
 rw[r.len]
 exact (r.drop _).take _
def Fh (fa:VF D)(fl fh:VF (Option Int)):VF D:=λvs β=>(fa vs β).bnd λx β1=>(fl vs β1).bnd λl β2=>(fh vs β2).bnd λh β3=>match x with
 | .list ds=>.ok (.list (cutD ds l h)) β3
 |_=>.bad
theorem wF {lo hi:Option Expr}{fl fh:VF (Option Int)}{Ll Lh:List Nat}{p2:Pos}(hK:X.K=Γ.K)(ha:SE X Γ E a fa La ma)(hl:K5 X Γ E lo fl Ll)(hh:K5 X Γ E hi fh Lh):SE X Γ E (.Subscript a (.Slice lo hi none p2) pos) (Fh fa fl fh) (La ++ Ll ++ Lh) .w:=by
 refine PE.post' (Bj D3 ha hl hh) λσ H Q ⟨env,G,B,β,I,o⟩=>?_
 refine⟨env,G,B,β,I,o.bnd.imp λd1 β1 h x G1 H1 I1 s1 m1 vx=>⟨aS La env,G1,B,β1,I1,?_⟩⟩
 rw[fV]
 refine h.bnd.imp λl β2 h G2 H2 I2 s2 m2=>⟨aS Ll (aS La env),G2,B,β2,I2,?_⟩
 rw[fV,fV]
 refine h.bnd.imp λu β3 h G3 H3 I3 s3 m3=>?_
 rw[<-cj,<-cj,<-O5] at I3
 have bx:=((vx.brw I.boxThere).mono s2 m2).mono s3 m3
 cases d1 with
 |list ds=>
  obtain⟨p,xs,rfl,hq,r⟩:=bx.list I3.sub
  rw[hK]
  refine⟨p,xs,rfl,.inl hq,λq hn=>?_⟩
  have x:=Ext.own I3.sub (o:=.lst (xY xs l u)) hn
  exact h _ _ _ (I3.ext x) ((s1.trans s2).trans s3) (((m1.trans m2).trans m3).trans (x.mov B)) ⟨q,rfl,du ((m1.trans m2).trans m3) I3.boxThere hn,I3.sub.free hn,_,ah,ER r l u⟩
 |_=>exact h.elim
def HM:nk K (λx y H Q=>∃i j,[x,y]= [.int i,.int j]/\Q (.int (if j > i then j else i)) H) (wV λi j=>.int (if j > i then j else i)) .v:=by
 intro B G H x y dx dy d Q s hB bx by' e k
 obtain⟨i,j,rfl,rfl,rfl⟩:=ko e
 obtain rfl:=bx.int
 obtain rfl:=by'.int
 exact⟨i,j,rfl,k _ G H (Ext.refl s) (.int _)⟩
def HR:nk K (λx y H Q=>∃i j,[x,y]= [.int i,.int j]/\Q (.int (if j < i then j else i)) H) (wV λi j=>.int (if j < i then j else i)) .v:=by
 intro B G H x y dx dy d Q s hB bx by' e k
 obtain⟨i,j,rfl,rfl,rfl⟩:=ko e
 obtain rfl:=bx.int
 obtain rfl:=by'.int
 exact⟨i,j,rfl,k _ G H (Ext.refl s) (.int _)⟩
end
structure jL (K:Frag)(mg:Str->Option Value)(x:Str)(st:Stmt)(ps:List Str)(f:Addr)(fd:FuncData):Prop where
 mg:mg x=some (.ref f)
 F:A8 K x x st f fd
 b:Binds K fd ps []
structure Exc (K:Frag)(mg:Str->Option Value)(ca:Str->Addr)(x:Str):Prop where
 mg:mg x=some (.ref (ca x))
 ex:PySem.W.excIn K (ca x) [.type "ValueError",.type "Exception",.type "BaseException",.type "object"] "ValueError.__new__"=true
def Exc.ca {K:Frag}{mg:Str->Option Value}{ca:Str->Addr}{x:Str}(h:Exc K mg ca x):ca x=ca x:=rfl
structure jQ (mg:Str->Option Value):Prop where
 len:mg "len"=none
 range:mg "range"=none
 enumerate:mg "enumerate"=none
 zip:mg "zip"=none
 min:mg "min"=none
 max:mg "max"=none
 sum:mg "sum"=none
 abs:mg "abs"=none
 sorted:mg "sorted"=none
 reversed:mg "reversed"=none
 int:mg "int"=none
 str:mg "str"=none
 bool:mg "bool"=none
 list:mg "list"=none
 tuple:mg "tuple"=none
 dict:mg "dict"=none
 set:mg "set"=none
 isinstance:mg "isinstance"=none
 repr:mg "repr"=none
 any:mg "any"=none
 all:mg "all"=none
 divmod:mg "divmod"=none
inductive FB where
 |ok (d:D) (fresh:Bool) (β:Int)
 |bad
def JI (K:Frag)(n:Nat)(F:List D->Int->FB):Sp:=λvs H Q _=>∃b rest G ds β,vs=.ref b :: rest/\H b=some (.lst [.int β])/\G b=none/\ak G H/\ds.length=n/\bP K G rest ds/\match F ds β with
 | .ok d fr β'=>∀v G' H',ic (some b) H H'->H' b=some (.lst [.int β'])->ak G G'->ak G' H'->(∀c,Mx H c->G c=none->G' c=none)->FV K H G' H' fr d v->Q v H'
 | .bad=>False
structure lD (P:Program)(w:World)(K:Frag)(mg:Str->Option Value)(base:Heap)(x:Str)(ps:List Str)(k:Nat)(F:List D->Int->FB):Prop where
 ex:∃f fd,mg x=some (.ref f)/\PySem.W.keepIn K (.ref f)=true/\Binds K fd ps []/\fJ P w K mg base (mE P w) k f fd ps (JI K (ps.length - 1) F)
 len:∀ds β,F ds β≠.bad->ds.length=ps.length - 1
def yr (vs:List Nv)(i:Nat):Bool:=match vs[i]? with
 |some .bx=>true
 |_=>false
def jK (i:Nat)(F:List D->Int->FB)(fr:VF (List D)):VF D:=λvs β=>if yr vs i=true then (fr vs β).bnd λds β1=>match F ds β1 with
 | .ok d _ β2=>.ok d β2
 | .bad=>.bad else .bad
def LL (i:Nat)(F:List D->Int->FB)(fr:VF (List D)):VF D:=λvs β=>if yr vs i=true then (fr vs β).bnd λds β1=>match F ds β1 with
 | .ok d true β2=>.ok d β2
 |_=>.bad else .bad
section
variable {X:Cx}{Γ:Fx}{E:XK}{e a b c:Expr}{f fa fb fc:VF D}{L La Lb:List Nat}{md ma mb mc:Md}{pos:Pos}{K:Frag}{es:List Expr}{fr:VF (List D)}
def FG {env:En}{i:Nat}(h:yr (vl env) i=true):env[i]? =some .bx:=by
 unfold yr at h
 split at h
 ·exact J9 (by assumption)
 ·cases h
def Ee {env:En}{i j:Nat}{d:D}(h:(jc env i)[j]? =some (.br d)):env[j]? =some (.br d):=by
 unfold jc at h
 split at h
 ·rename_i d' e
  by_cases z:i=j
  ·subst z
   rw[Nt (Np.mp e).1] at h;cases h
  ·rw[Nu z] at h;exact h
 ·exact h
theorem Iw {L:List Nat}{env:En}{j:Nat}{d:D}(h:(aS L env)[j]? =some (.br d)):env[j]? =some (.br d):=by
 unfold aS at h
 induction L generalizing env with
 |nil=>exact h
 |cons i L ih=>exact Ee (ih h)
def SR.calledB {p:Addr}{β β':Int}{G1 H1 G2 H2:Hp}{σ:St}{env:En}(I1:SR Γ (some p) G1 H1 σ env β)(h:ic (some p) H1 H2)(hp:H2 p=some (.lst [.int β']))(g:ak G1 G2)(s:ak G2 H2)(n:∀b,Mx H1 b->G1 b=none->G2 b=none):SR Γ (some p) G2 H2 σ env β':=by
 obtain⟨b1,b2,b3⟩:=I1.box p rfl
 refine⟨s,I1.old.trans g,λb n1 n2=>n b (I1.thereM n1) (I1.new b n1 n2),λb o e np=>xr (I1.keep b o e np) h λz=>?_,λb hb=>?_,I1.fix,λb e=>?_,I1.len,λi t e=>?_,I1.sep⟩
 ·cases z
  rcases b3 with b3 |b3
  ·exact np b3
  ·rw[e] at b3;cases b3
 ·by_cases z:p=b
  ·subst z;exact Mx.lst hp
  ·exact (I1.pin b hb).same λo q=>h.1 b o q λy=>z (Option.some.inj y)
 ·cases e
  exact⟨hp,n p (Mx.lst b1) b2,b3⟩
 ·have q:=I1.slot i t e
  cases t with
  |no=>trivial
  |fz d=>obtain⟨v,h1,h2⟩:=q;exact⟨v,h1,h2.mono g⟩
  |ow d=>
   obtain⟨c,h1,h2,h3,h4,h5⟩:=q
   exact⟨c,h1,h2,n c h5.mx h3,h4,h5.mono g λo q=>h.1 c o q h4⟩
  |bx=>exact q
  |br d=>obtain⟨b1,c,h1,h4,hpp,h5⟩:=q;exact⟨b1,c,h1,h4,hpp,h5.mono g λo q=>h.1 c o q h4⟩
theorem Fq {F:List D->Int->FB}{ps:List Str}{Q:VK}{B:Option Addr}{G H:Hp}{σ:St}{env:En}{β:Int}{i:Nat}{p:Addr}(I:SR Γ B G H σ env β)(hK:X.K=Γ.K)(hp:B=some p){wv:Bool}
  (h:Out Γ E (fr (vl env) β) λds β1=>Out Γ E (match F ds β1 with
   | .ok d true β2=>.ok d β2
   | .ok d false β2=>if wv=true then .bad else .ok d β2
   | .bad=>.bad) λd β'=>∀v G' H',SR Γ B G' H' σ (aS L env) β'->ak G G'->ic B H H'->VO Γ.K B H G' H' (if wv=true then .w else .v) d v->Q v H') (hl:∀ds β,F ds β≠.bad->ds.length=ps.length - 1) :
  aT Γ E fr L σ H λvs H1=>JI X.K (ps.length - 1) F (.ref p :: vs) H1 Q E:=by
 subst hp
 refine⟨env,G,_,β,I,h.imp λds β1 k vs G1 H1 I1 s1 m1 r=>?_⟩
 obtain⟨b1,b2,b3⟩:=I1.box p rfl
 refine⟨p,vs,G1,ds,β1,rfl,b1,b2,I1.sub,hl ds β1 λz=>by rw[z] at k;exact k,by rw[hK];exact r,?_⟩
 cases q:F ds β1 with
 |bad=>rw[q] at k;exact k
 |ok d fr' β2=>
  rw[q] at k
  intro v G' H' hh hb hg hs hn fv
  have I2:=I1.calledB hh hb hg hs hn
  cases fr' with
  |true=>
   obtain⟨c,rfl,p1,p2,p3⟩:∃a,v=.ref a/\H1 a=none/\G' a=none/\Own X.K G' H' a d:=fv
   rw[hK] at p3
   have hp:=du m1 I1.boxThere p1
   cases wv with
   |true=>exact k _ G' H' I2 (s1.trans hg) (m1.trans hh) ⟨c,rfl,hp,p2,p3⟩
   |false=>
    obtain⟨q1,q2,q3,q4⟩:=I1.fresh p1
    obtain⟨G3,I3,s3,r3⟩:=I2.letIn q1 p2 q3 q4 p3
    exact k _ G3 H' I3 ((s1.trans hg).trans s3) (m1.trans hh) r3
  |false=>
   cases wv with
   |true=>exact k.elim
   |false=>
    have fv:Rp X.K G' v d:=fv
    rw[hK] at fv
    exact k _ G' H' I2 (s1.trans hg) (m1.trans hh) fv
theorem Ic {F:List D->Int->FB}{ps:List Str}{Q:VK}{i:Nat}{σ:St}{H:Hp}(hK:X.K=Γ.K){wv:Bool}(hl:∀ds β,F ds β≠.bad->ds.length=ps.length - 1)(h:pT Γ E (if wv=true then LL i F fr else jK i F fr) L (if wv=true then .w else .v) σ H Q) :
  EF i σ H λx H1=>aT Γ E fr L σ H1 λvs H2=>JI X.K (ps.length - 1) F (x :: vs) H2 Q E:=by
 obtain⟨env,G,B,β,I,o⟩:=h
 have hi:yr (vl env) i=true:=by
  by_cases hi:yr (vl env) i=true
  ·exact hi
  ·exfalso
   cases wv with
   |true=>simp only[Ob] at o;unfold LL at o;rw[Nd hi] at o;exact o
   |false=>simp only[Nr,NT] at o;unfold jK at o;rw[Nd hi] at o;exact o
 obtain⟨p,e1,e2⟩:=I.slot i _ (FG hi)
 refine⟨.ref p,e1,Fq (i:=i) (ps:=ps) I hK e2 (wv:=wv) ?_ hl⟩
 cases wv with
 |true=>
  simp only[Ob] at o ⊢
  unfold LL at o
  rw[M7 hi] at o
  refine o.bnd.imp λds β1 h=>?_
  cases q:F ds β1 with
  |bad=>rw[q] at h;exact h
  |ok d b β2=>rw[q] at h;cases b <;> exact h
 |false=>
  simp only[Nr,NT] at o ⊢
  unfold jK at o
  rw[M7 hi] at o
  refine o.bnd.imp λds β1 h=>?_
  cases q:F ds β1 with
  |bad=>rw[q] at h;exact h
  |ok d b β2=>rw[q] at h;cases b <;> exact h
def jR {x y:Str}{ps:List Str}{k:Nat}{F:List D->Int->FB}{p np:Pos}(i:Nat)(hf:lD X.prog X.w X.K X.mg X.base x ps k F)(hr:dG k X.A)(hx:Passes (mE X.prog X.w) X E)(hK:X.K=Γ.K)(hg:Gl X x)(ha:SA X Γ E es fr L)(hN:X.N[i]? =some y:=by rfl)(hv:xw X.env.scope y:=by first |exact Or.inl rfl |exact Or.inr (Or.inl rfl) |exact Or.inr (Or.inr rfl))(hd:(y == ("__debug__":Str))=false:=by decide)
  (hcd:(y == ("__classdict__":Str))=false:=by decide) (hdb:(x == ("__debug__":Str))=false:=by decide)
  (he:starEach (.Name y np :: es) X.env=(false,eval (.Name y np) X.env) :: starEach es X.env:=by rfl) (hpl:(backTo pos (starEach es X.env)).any (·.1)=false:=by rfl):SE X Γ E (.Call (.Name x p) (.Name y np :: es) [] pos) (jK i F fr) L .v:=by
 obtain⟨f,fd,hm,hk,hb,hF⟩:=hf.ex
 refine PE.post' (oW (dvs:=[]) hF hr hg hm hk hb .nil hx (ao (iL hN hv hd hcd) ha he) hdb he hpl) λσ H Q h=>?_
 have:=Ic (Q:=Q) (wv:=false) (ps:=ps) hK hf.len (by simpa using h)
 show EF i σ H λx H1=>aT Γ E fr L σ H1 λvs H2=>JI X.K (ps.length - 1) F ((x :: vs) ++ []) H2 Q E
 simpa using this
def BB:D->Option Int
 | .list [.int z]=>some z
 |_=>none
def EO {d:D}{z:Int}(h:BB d=some z):d=.list [.int z]:=by
 unfold BB at h
 split at h
 ·cases h;rfl
 ·cases h
def MX (f0:VF D)(F:List D->Int->FB)(n:Int):VF D:=λvs β=>(f0 vs β).bnd λd0 β1=>match BB d0 with
 |some z=>(match F [.int n] z with
  | .ok d _ _=>.ok d β1
  | .bad=>.bad)
 |none=>.bad
def rm (env:En):En:=env.map λs=>match s with
 | .bx=>.no
 |s=>s
theorem B4 {env:En}{i:Nat}{s:Sl}(h:(rm env)[i]? =some s)(n:s≠.no):env[i]? =some s/\s≠.bx:=by
 unfold rm at h
 rw[Ng] at h
 cases e:env[i]? with
 |none=>rw[e] at h;cases h
 |some t=>
  rw[e] at h
  have h:=Option.some.inj h
  cases t with
  |bx=>exact absurd h.symm n
  |no=>exact absurd h.symm n
  |fz d=>subst h;exact⟨rfl,λz=>by cases z⟩
  |ow d=>subst h;exact⟨rfl,λz=>by cases z⟩
  |br d=>subst h;exact⟨rfl,λz=>by cases z⟩
def zb (i:Nat)(L:List Nat)(f:VF D):SF:=λenv β=>toS (f (vl env) β) λd _=>match BB d with
 |some z=>.nx ((rm (aS L env)).set i .bx) z
 |none=>.bad
theorem FP {i:Nat}{x:Str}{pos':Pos}(hbx:Γ.bx=none)(he:SE X Γ E e f L .w)(hN:X.N.Nodup)(hi:X.N[i]? =some x:=by rfl)(hx:Loc X.env.scope x:=by first |exact Or.inl rfl |exact Or.inr rfl)(hs:swapsWith e (some (.Name x pos')) pos.line X.env=pure false:=by rfl)(hf:X.fn x=true\/X.env.scope.names.lookup x=some .local:=by first |exact .inl rfl |exact .inr rfl |assumption) :
  SS X Γ E (.Assign [.Name x pos'] e pos) (zb i L f):=by
 refine PS.post (ji hN hi hx he hs hf) λN σ H ⟨env,G,B,β,I,o⟩=>?_
 refine⟨env,G,B,β,I,cm o λd β' k v G' H' I' s' m' vo=>?_⟩
 cases q:BB d with
 |none=>rw[q] at k;exact k.elim
 |some z=>
  rw[q] at k
  obtain rfl:=EO q
  obtain⟨p,rfl,h1,h2,xs,h3,r⟩:=vo
  have hx2:H' p=some (.lst [.int z]):=by
   cases r with
   |cons r1 r2=>
    cases r1
    cases r2
    exact h3
  obtain⟨q1,q2,q3,q4⟩:=I.fresh h1
  refine k (some p) G' H' _ ⟨I'.sub,I'.old,I'.new,I'.keep,I'.pin,λb e=>(by rw[hbx] at e;cases e),λb e=>?_,?_,λj t e=>?_,λj j' c d1 d2 e1 e2 e3 e4=>?_⟩ s'
  ·cases e;exact⟨hx2,h2,.inr q1⟩
  ·rw[Ol,Ol];unfold rm;rw[Na];exact I'.len
  ·by_cases hj:j=i
   ·subst hj
    by_cases hl:j < (rm (aS L env)).length
    ·rw[Nt hl] at e
     cases e
     refine⟨p,?_,rfl⟩
     rw[Nt]
     rw[I'.len];unfold rm at hl;simpa using hl
    ·rw[OK (by rw[Ol];omega)] at e;cases e
   ·rw[Nu (Ne.symm hj)] at e ⊢
    by_cases hn:t=.no
    ·subst hn;trivial
    ·obtain⟨e1,nb⟩:=B4 e hn
     have w:=I'.slot j t e1
     cases t with
     |no=>trivial
     |fz d=>exact w
     |bx=>exact absurd rfl nb
     |ow d=>
      obtain⟨a',g1,g2,g3,g4,g5⟩:=w
      exact⟨a',g1,g2,g3,λy=>q4 j d (uo e1) (by cases y;exact g1),g5⟩
     |br d=>
      obtain⟨b1,a',g1,g4,hpp,g5⟩:=w
      have e0:env[j]? =some (.br d):=Iw e1
      obtain⟨_,a2,f1,_,_,f5⟩:=I.slot j _ e0
      rw[g1] at f1;cases f1
      obtain⟨o,ho⟩:=f5.obj
      exact⟨b1,a',g1,λy=>(by cases y;rw[h1] at ho;cases ho),hpp,g5⟩
  ·have back:∀{j:Nat} {d1:D},((rm (aS L env)).set i Sl.bx)[j]? =some (.ow d1)->j≠i/\(aS L env)[j]? =some (.ow d1):=λ{j d1} e=>by
    by_cases hj:j=i
    ·subst hj
     by_cases hl:j < (rm (aS L env)).length
     ·rw[Nt hl] at e;cases e
     ·rw[OK (by rw[Ol];omega)] at e;cases e
    ·rw[Nu (Ne.symm hj)] at e
     exact⟨hj,(B4 e (λy=>by cases y)).1⟩
   obtain⟨n1,w1⟩:=back e1
   obtain⟨n2,w2⟩:=back e2
   rw[Nu (Ne.symm n1)] at e3
   rw[Nu (Ne.symm n2)] at e4
   exact I'.sep j j' c d1 d2 w1 w2 e3 e4
end
section
variable {P:Program}{w:World}{K:Frag}{mg:Str->Option Value}{base:Heap}{ca:Str->Addr}
def x8:SO->FB
 | .nx _ β=>.ok .none false β
 | .rt d fr β=>.ok d fr β
 |_=>.bad
def xk (n:Nat)(ds:List D):En:=.bx :: ds.map Sl.fz ++ List.replicate (n - 1 - ds.length) .no
def oP (n p:Nat)(m:SF):List D->Int->FB:=λds β=>if ds.length=p then x8 (m (xk n ds) β) else .bad
abbrev Fx.fb (K:Frag)(H G:Hp)(ca:Str->Addr)(b:Addr):Fx:=⟨K,H,G,[b],ca,λ_=>false,some b⟩
def SR.startB {H G:Hp}{N:List Str}{b:Addr}{vs:List V}{ds:List D}{β:Int}(s:ak G H)(hb:H b=some (.lst [.int β]))(gb:G b=none)(r:bP K G vs ds)(hn:ds.length + 1<=N.length):SR (Fx.fb K H G ca b) (some b) G H (L2.start N (.ref b :: vs)) (xk N.length ds) β:=by
 have hl:=r.len
 refine⟨s,ak.refl _,λc _ h=>h,λc o h _=>Kt.of h,λc h=>?_,λc h=>h,λc h=>?_,?_,λi t e=>?_,λi j a d e h=>?_⟩
 ·have:c=b:=by simpa using h
  subst this;exact Mx.lst hb
 ·cases h;exact⟨hb,gb,.inl (by simp)⟩
 ·unfold L2.start xk;simp;omega
 ·cases i with
  |zero=>
   unfold xk at e
   cases e
   exact⟨b,rfl,rfl⟩
  |succ i=>
   unfold xk at e
   have e:(ds.map Sl.fz ++ List.replicate (N.length - 1 - ds.length) Sl.no)[i]? =some t:=by simpa using e
   by_cases hi:i < ds.length
   ·rw[NV (by simpa using hi),Ng,M1 hi] at e
    cases e
    obtain⟨x,hx,rx⟩:=r.at (M1 hi)
    refine⟨x,?_,rx⟩
    unfold L2.start
    have hi':i < vs.length:=by rw[hl];exact hi
    rw[NV (by simp;exact hi'),Ng,List.getElem?_cons_succ,hx];rfl
   ·rw[NN (by simpa using hi),OB] at e
    split at e
    ·cases e;trivial
    ·cases e
 ·unfold xk at h
  have hm:=Nm h
  rcases M6.mp hm with z |hm
  ·cases z
  rcases Nw.mp hm with z |z
  ·obtain⟨_,_,z⟩:=Nh.mp z;cases z
  ·have:=OO z;cases this
def nj {x qual:Str}{st:Stmt}{f:Addr}{fd:FuncData}{N:List Str}{ps:List Str}{k:Nat}{m:SF}(F:A8 K x qual st f fd)(S:aE N ps (aq st))(hp:1<=ps.length)
  (hbody:∀(cdv:Value) (A:Around) (outer:List Env) (s:Shared) (H G:Hp) (b:Addr) (E:XK),dG k (A.deeper (envOfC qual (aq st) s.heap.objs.size f cdv))->A7 (kG (mE P w) P w K mg base N qual (aq st) f cdv A outer s H E) (Fx.fb K H G ca b) E (bO st) m) :
  fJ P w K mg base (mE P w) (k + 1) f fd ps (JI K (ps.length - 1) (oP N.length (ps.length - 1) m)):=by
 have hpn:ps.length<=N.length:=by have:=congrArg List.length S.pre;rw[Oq] at this;omega
 refine F.A9 S (λvs H Q E h=>?_) (λcdv A outer s H vs Q E hr h=>?_)
 ·obtain⟨b,rest,G,ds,β,rfl,hb,gb,sG,hl,r,_⟩:=h
  rw[NC,r.len];omega
 ·obtain⟨b,rest,G,ds,β,rfl,hb,gb,sG,hl,r,h⟩:=h
  refine⟨_,hbody cdv A outer s H G b E hr,?_⟩
  have I:=SR.startB (ca:=ca) (N:=N) sG hb gb r (by omega)
  refine⟨_,G,some b,β,I,?_⟩
  unfold oP at h
  rw[M7 hl] at h
  have fin':∀{B G' H' σ env β},SR (Fx.fb K H G ca b) B G' H' σ env β->ic (some b) H H'/\H' b=some (.lst [.int β]):=λJ=>by
   have e:=J.fix b rfl
   have k:∀c o,H c=some o->some b≠some c->Kt _ c o:=λc o ec n=>J.keep c o ec λz=>n (show some b=some c by rw[show c=b by simpa using z])
   exact⟨⟨k,λc o u ec=>k c _ ec λz=>by cases z;rw[hb] at ec;cases ec⟩,(J.box b e).1⟩
  cases q:m (xk N.length ds) β with
  |nx env β'=>rw[q] at h;exact λB G' H' σ J s'=>h .non G' H' (fin' J).1 (fin' J).2 s' J.sub (λc h1 h2=>J.new c h1 h2) Rp.non
  |bk env β'=>rw[q] at h;exact h.elim
  |ct env β'=>rw[q] at h;exact h.elim
  |rt d fr β'=>
   rw[q] at h
   refine λB G' H' σ env v J s' rv=>h v G' H' (fin' J).1 (fin' J).2 s' J.sub (λc h1 h2=>J.new c h1 h2) ?_
   cases fr with
   |true=>exact rv
   |false=>exact rv
  |exc c=>rw[q] at h;exact h.elim
  |bad=>rw[q] at h;exact h.elim
def mT {n p:Nat}{m:SF}(ds:List D)(β:Int)(h:oP n p m ds β≠.bad):ds.length=p:=by
 unfold oP at h
 by_cases hl:ds.length=p
 ·exact hl
 ·rw[Nd hl] at h;exact absurd rfl h
end
def aK (p:Pr):D:=.tuple [.int p.1,.int p.2]
def qu:D->Option Pr
 | .tuple [.int a,.int b]=>some (a,b)
 |_=>none
def vb {d:D}{p:Pr}(h:qu d=some p):d=aK p:=by
 unfold qu at h
 split at h
 ·cases h;rfl
 ·cases h
def Ax (p:Pr):qu (aK p)=some p:=rfl
def fY:List D->Option (List Pr)
 | []=>some []
 |d :: ds=>match qu d,fY ds with
  |some p,some ps=>some (p :: ps)
  |_,_=>none
theorem kQ:∀{ds:List D} {ps:List Pr},fY ds=some ps->ds=ps.map aK
 | [],ps,h=>by cases h;rfl
 |d :: ds,ps,h=>by
  unfold fY at h
  split at h
  ·rename_i p qs h1 h2;cases h;rw[vb h1,kQ h2];rfl
  ·cases h
theorem hJ:∀ps:List Pr,fY (ps.map aK)=some ps
 | []=>rfl
 |p :: ps=>by
  show (match qu (aK p),fY (ps.map aK) with
   |some p,some ps=>some (p :: ps)
   |_,_=>none)=_
  rw[Ax,hJ ps]
section
variable {K:Frag}{X:Cx}{G H:Hp}
theorem bP.pairs:∀{ps:List Pr} {xs:List V},bP K G xs (ps.map aK)->aO K G xs ps
 | [],_,.nil=>.nil
 |p :: ps,_,.cons r t=>by
  cases r with
  |tup hq r=>
   cases r with
   |cons r1 r=>
    cases r with
    |cons r2 r=>cases r;cases r1;cases r2;exact .cons ⟨_,rfl,hq⟩ (bP.pairs t)
theorem aO.rps:∀{ps:List Pr} {xs:List V},aO K G xs ps->bP K G xs (ps.map aK)
 | [],_,.nil=>.nil
 |p :: ps,_,.cons r t=>by
  obtain⟨a,rfl,q⟩:=r
  exact .cons (.tup q (.cons (.int _) (.cons (.int _) .nil))) (aO.rps t)
def Jp (p:Pr):Bool:=decide (0<=p.1) && decide (p.1 < 8) && decide (0<=p.2) && decide (p.2 < 8)
def Jj {p:Pr}(h:Jp p=true):Sm p:=by
 unfold Jp at h
 simp only[Ni,Nx] at h
 exact⟨⟨h.1.1.1,h.1.1.2⟩,h.1.2,h.2⟩
noncomputable def cn (d:D):Option D:=match ig d with
 |some ds=>(match fY ds with
  |some ps=>if ps.all Jp=true/\(OM.b4 8 (OM.Mem ps)).length < 64 then some (.list ((OM.b4 8 (OM.Mem ps)).map aK)) else none
  |none=>none)
 |none=>none
variable {Γ:Fx}{E:XK}{e a b c:Expr}{f fa fb fc:VF D}{L La Lb:List Nat}{md ma mb mc:Md}{pos:Pos}
theorem pG {p1 p2 pos2:Pos}(hc:X.calm=true)(hu:X.A.units + 64 < cLine)(hK:X.K=Γ.K)(hg:Gl X "sorted")(hm:X.mg "sorted"=none)(hg2:Gl X "set")(hm2:X.mg "set"=none)(ha:SE X Γ E a fa La ma)
  (he:starEach [a] X.env=(false,eval a X.env) :: starEach [] X.env:=by rfl)
  (he2:starEach [.Call (.Name "set" p2) [a] [] pos2] X.env=(false,eval (.Call (.Name "set" p2) [a] [] pos2) X.env) :: starEach [] X.env:=by rfl) :
  SE X Γ E (.Call (.Name "sorted" p1) [.Call (.Name "set" p2) [a] [] pos2] [] pos) (f1 fa cn) La .w:=by
 refine PE.post' (ba (uF hc) hg hm (by decide +kernel) (ao (gM (BE hc hu) hg2 hm2 (by decide +kernel) (ao ha aJ he) (by decide) (by decide) he) aJ he2) (by decide) (by decide) he2) λσ H Q ⟨env,G,B,β,I,o⟩=>?_
 refine iz (r:=λx H1 Q=>JY X.prog X.w X.K [x] H1 λy H2=>wH X.prog X.w X.K [y] H2 Q) ?_ I o
 intro B G H x dx d Q s hB bx e k
 rw[hK]
 unfold cn at e
 cases q:ig dx with
 |none=>rw[q] at e;cases e
 |some ds=>
  rw[q] at e
  dsimp only at e
  cases q2:fY ds with
  |none=>rw[q2] at e;cases e
  |some ps=>
   rw[q2] at e
   dsimp only at e
   split at e
   ·rename_i hh
    obtain⟨h1,h2⟩:=hh
    cases e
    obtain⟨p,xs,rfl,hq,r⟩:=bx.seq q s
    rw[kQ q2] at r
    have pv:=(r.mono s).pairs
    have sm:∀p,p∈ps->Sm p:=λp hp=>Jj (NH.mp h1 p hp)
    refine⟨p,xs,ps,rfl,hq,pv,sm,λS qs hS hpv nd hm=>?_⟩
    have qsl:qs.length < 64:=by
     have:(pq qs).length<=(OM.b4 8 (OM.Mem ps)).length:=OM.eY nd λx hx=>by
      have hx':=(hm x).mp hx
      have hs:=sm x hx'
      exact OM.a7.mpr ⟨⟨⟨hs.1.1,hs.1.2⟩,hs.2.1,hs.2.2⟩,hx'⟩
     simp only[Na] at this
     omega
    have xS:=Ext.own s (o:=AQ X.prog X.w S qs) hS
    refine⟨S,qs,rfl,ah,hpv.grow (ie.new hS),λp hp=>sm p ((hm p).mp hp),nd,qsl,λl ws rs hl hpw hr hmem=>?_⟩
    have ers:rs=OM.b4 8 (OM.Mem ps):=OM.iH hr (OM.de _ _) λx=>by
     rw[hmem x,hm x,OM.a7]
     constructor
     ·intro hx;have hs:=sm x hx;exact⟨⟨⟨hs.1.1,hs.1.2⟩,hs.2.1,hs.2.2⟩,hx⟩
     ·intro hx;exact hx.2
    subst ers
    have hlH:H l=none:=by
     by_cases z:l=S
     ·subst z;exact hS
     ·rw[au z] at hl;exact hl
    have lS:l≠S:=λz=>by subst z;rw[ah] at hl;cases hl
    have hh:ak H (upd (upd H S (AQ X.prog X.w S qs)) l (.lst ws)):=(ak.new hS).trans (ak.new hl)
    have xx:=Ext.tups s hh
    refine k _ _ _ xx ⟨l,rfl,hlH,?_,ws,ah,?_⟩
    ·unfold lI
     rw[s.free hlH,ah]
     exact Nd λy=>y
    ·refine aO.rps (Paired.mapP hpw λv p ⟨a,ea,qa⟩=>⟨a,ea,qF (s.trans hh) ?_⟩)
     exact qa.grow (ie.new hl)
   ·cases e
end
section
variable {K:Frag}{X:Cx}{G H:Hp}{Γ:Fx}{E:XK}{e a b c:Expr}{f fa fb fc:VF D}{L La Lb:List Nat}{md ma mb mc:Md}{pos apos cpos np:Pos}
def cY:D->Option D
 | .int n=>if 0<=n/\n<=1000 then some (.list (cC 0 n.toNat)) else none
 |_=>none
def z6 (n:Nat):bP K G ((List.range n).map λ(i:Nat)=>V.int (i:Int)) (cC 0 n):=by
 have key:∀l:List Nat,bP K G (l.map λ(i:Nat)=>V.int (i:Int)) (l.map λ(k:Nat)=>int (0 + k)):=by
  intro l
  induction l with
  |nil=>exact .nil
  |cons x l ih=>exact .cons (by show Rp K G (.int (x:Int)) (.int (0 + (x:Int)));rw[Pj];exact .int _) ih
 exact key _
theorem lM {p1 p2 pos2:Pos}(hc:X.calm=true)(hg:Gl X "list")(hm:X.mg "list"=none)(hg2:Gl X "range")(hm2:X.mg "range"=none)(ha:SE X Γ E a fa La ma)
  (he:starEach [a] X.env=(false,eval a X.env) :: starEach [] X.env:=by rfl)
  (he2:starEach [.Call (.Name "range" p2) [a] [] pos2] X.env=(false,eval (.Call (.Name "range" p2) [a] [] pos2) X.env) :: starEach [] X.env:=by rfl) :
  SE X Γ E (.Call (.Name "list" p1) [.Call (.Name "range" p2) [a] [] pos2] [] pos) (f1 fa cY) La .w:=by
 refine PE.post' (gM (rf hc) hg hm (by decide +kernel) (ao (gM Bu hg2 hm2 (by decide +kernel) (ao ha aJ he) (by decide) (by decide) he) aJ he2) (by decide) (by decide) he2) λσ H Q ⟨env,G,B,β,I,o⟩=>?_
 refine iz (r:=λx H1 Q=>∃n:Int,[x]= [.int n]/\∀p,H1 p=none->(λ(y:V) (H2:Hp)=>∃(p:Addr) (n:Int),[y]= [V.ref p]/\H2 p=some (.fE 0 n)/\0<=n/\n<=1000/\∀l,H2 l=none->Q (.ref l) (upd H2 l (.lst ((List.range n.toNat).map λ(i:Nat)=>V.int (i:Int))))) (V.ref p) (upd H1 p (.fE 0 n))) ?_ I o
 intro B G H x dx d Q s hB bx e k
 cases dx with
 |int n=>
  obtain rfl:=bx.int
  simp only[cY] at e
  split at e
  ·rename_i hh
   cases e
   refine⟨n,rfl,λp hp=>⟨p,n,rfl,ah,hh.1,hh.2,λl hl=>?_⟩⟩
   have hlp:l≠p:=λz=>by subst z;rw[ah] at hl;cases hl
   have hlH:H l=none:=by rw[au hlp] at hl;exact hl
   have x1:=Ext.own s (o:=.fE 0 n) hp
   have x2:=Ext.own x1.gh (o:=.lst ((List.range n.toNat).map λ(i:Nat)=>V.int (i:Int))) hl
   exact k _ _ _ (x1.trans x2) ⟨l,rfl,hlH,s.free hlH,_,ah,z6 _⟩
  ·cases e
 |_=>cases e
def E3:D->Option D
 | .int i=>some (.int (if i < 0 then -i else i))
 |_=>none
theorem KL:Bg K (λx H Q=>∃i,[x]= [.int i]/\Q (.int (if i < 0 then -i else i)) H) E3 .v:=by
 intro B G H x dx d Q s hB bx e k
 cases dx with
 |int i=>cases e;obtain rfl:=bx.int;exact⟨i,rfl,k _ G H (Ext.refl s) (.int _)⟩
 |_=>cases e
noncomputable def LP (d:D):Option D:=match d with
 | .list ds=>(match fY ds with
  |some ps=>if ps.all Jp=true/\ps.Nodup/\ps.length < 64 then some (.list ((OM.b4 8 (OM.Mem ps)).map aK)) else none
  |none=>none)
 |_=>none
def zP (ds:List D)(k:D):Option (D×List D):=match k with
 | .int i=>if -(2 ^ 63)<=i/\i < 2 ^ 63 then (match seqIndex? i ds.length with
  |some n=>(match ds[n]? with
   |some d=>some (d,ds.eraseIdx n)
   |none=>none)
  |none=>none) else none
 |_=>none
def jf (i j:Nat)(L:List Nat)(f:VF D):SF:=λenv β=>if tj env[i]? =true/\tj env[j]? =true/\i≠j then toS (f (vl env) β) λk β'=>match (aS L env)[j]? with
 |some (.ow (.list es))=>(match zP es k with
  |some (d,es')=>HE i ((aS L env).set j (.ow (.list es'))) β' λds=>if ds.length < sizeLine then some (ds ++ [d]) else none
  |none=>.bad)
 |_=>.bad else .bad
theorem bP.eraseIdx:∀{xs:List V} {ds:List D} (i:Nat),bP K G xs ds->bP K G (xs.eraseIdx i) (ds.eraseIdx i)
 |_,_,_,.nil=>.nil
 |_,_,0,.cons _ t=>t
 |_,_,i + 1,.cons r t=>.cons r (bP.eraseIdx i t)
theorem zZ (i j:Nat){x y:Str}{np2 apos2 cpos2:Pos}(hb:∀j,Γ.br j=false)(he:SE X Γ E e f L md)(hN:X.N[i]? =some x:=by rfl)(hv:xw X.env.scope x:=by first |exact Or.inl rfl |exact Or.inr (Or.inl rfl) |exact Or.inr (Or.inr rfl))(hd:(x == ("__debug__":Str))=false:=by decide)
  (hcd:(x == ("__classdict__":Str))=false:=by decide)
  (hN2:X.N[j]? =some y:=by rfl) (hv2:xw X.env.scope y:=by first |exact Or.inl rfl |exact Or.inr (Or.inl rfl) |exact Or.inr (Or.inr rfl)) (hd2:(y == ("__debug__":Str))=false:=by decide)
  (hcd2:(y == ("__classdict__":Str))=false:=by decide)
  (hbase:attributeBase (.Name x np) "append" X.env (eval (.Name x np) X.env)=eval (.Name x np) X.env:=by rfl)
  (hfew:((backTo cpos (starEach [.Call (.Attribute (.Name y np2) "pop" apos2) [e] [] cpos2] X.env)).all (λx=> !x.1) && (backToKw cpos (keywordEach [] X.env)).all (λx=>x.1.isSome)
   && decide ([Expr.Call (.Attribute (.Name y np2) "pop" apos2) [e] [] cpos2].length + ([]:List Keyword).length + (if ([]:List Keyword).isEmpty then 0 else 1) < 30))=true:=by rfl)
  (hline:(apos.endLine == cpos.line)=true:=by rfl) (hs:starEach [.Call (.Attribute (.Name y np2) "pop" apos2) [e] [] cpos2] X.env=(false,eval (.Call (.Attribute (.Name y np2) "pop" apos2) [e] [] cpos2) X.env) :: starEach [] X.env:=by rfl)
  (hbase2:attributeBase (.Name y np2) "pop" X.env (eval (.Name y np2) X.env)=eval (.Name y np2) X.env:=by rfl)
  (hfew2:((backTo cpos2 (starEach [e] X.env)).all (λx=> !x.1) && (backToKw cpos2 (keywordEach [] X.env)).all (λx=>x.1.isSome)
   && decide ([e].length + ([]:List Keyword).length + (if ([]:List Keyword).isEmpty then 0 else 1) < 30))=true:=by rfl)
  (hline2:(apos2.endLine == cpos2.line)=true:=by rfl) (hs2:starEach [e] X.env=(false,eval e X.env) :: starEach [] X.env:=by rfl)
  (hsw:swapsWith (.Call (.Attribute (.Name x np) "append" apos) [.Call (.Attribute (.Name y np2) "pop" apos2) [e] [] cpos2] [] cpos) none pos.line X.env=pure false:=by rfl) :
  SS X Γ E (.Expr (.Call (.Attribute (.Name x np) "append" apos) [.Call (.Attribute (.Name y np2) "pop" apos2) [e] [] cpos2] [] cpos) pos) (jf i j L f):=by
 refine PS.post (ud (v9 OR PySem.F.slot_list_append PySem.F.type_list_append nU (iL hN hv hd hcd)
  (ao (v9 OR PySem.F.slot_list_pop PySem.F.type_list_pop CK (iL hN2 hv2 hd2 hcd2) (ao he aJ hs2) hbase2 hfew2 hline2 hs2 rfl) aJ hs) hbase hfew hline hs rfl) hsw) λN σ H ⟨env,G,B,β,I,o⟩=>?_
 unfold jf at o
 by_cases hO:tj env[i]? =true/\tj env[j]? =true/\i≠j
 case neg=>rw[Nd hO] at o;exact o.elim
 rw[M7 hO] at o
 obtain⟨hO1,hO2,hij⟩:=hO
 obtain⟨ds0,q0⟩:=oY hO1
 obtain⟨es0,w0⟩:=oY hO2
 obtain⟨p,h1,_,_,_,xs,h5,_⟩:=I.slot i _ q0
 obtain⟨q,k1,_,_,_,ys,k5,_⟩:=I.slot j _ w0
 refine⟨_,h1,.inl ⟨rfl,xs,.inl (.inl h5)⟩,?_⟩
 refine⟨_,k1,.inl ⟨rfl,ys,.inl (.inl k5)⟩,?_⟩
 refine⟨env,G,B,β,I,cm o λkd β' k v G' H' I' s' m' vo=>?_⟩
 cases ej:(aS L env)[j]? with
 |none=>rw[ej] at k;exact k.elim
 |some sj=>
  rw[ej] at k
  cases sj with
  |ow dj=>
   cases dj with
   |list es=>
    dsimp only at k
    cases ep:zP es kd with
    |none=>rw[ep] at k;exact k.elim
    |some pr=>
     obtain⟨d,es'⟩:=pr
     rw[ep] at k
     dsimp only at k
     unfold zP at ep
     cases kd <;> first | (cases ep;done) |skip
     rename_i ii
     dsimp only at ep
     split at ep
     ·rename_i hr
      cases eI:seqIndex? ii es.length with
      |none=>rw[eI] at ep;cases ep
      |some n=>
       rw[eI] at ep
       dsimp only at ep
       cases eD:es[n]? with
       |none=>rw[eD] at ep;cases ep
       |some d0=>
        rw[eD] at ep
        cases ep
        obtain rfl:=(vo.brw I.boxThere).int
        obtain⟨q',g1,_,_,_,zs,g5,g6⟩:=I'.slot j _ ej
        rw[k1] at g1;cases g1
        obtain⟨xv,ex,rx⟩:=g6.at eD
        refine⟨q,zs,ii,n,xv,rfl,rfl,g5,hr.1,hr.2,by rw[g6.len];exact eI,ex,?_⟩
        have I2:=I'.write hb ej k1 (o:=.lst (zs.eraseIdx n)) (d':=.list (es.eraseIdx n)) λH2 e2 s2=>⟨_,e2,g6.eraseIdx n⟩
        obtain⟨ds,fs,eq,eg,k⟩:=tZ k
        by_cases hz:ds.length < sizeLine
        case neg=>rw[Nd hz] at eg;cases eg
        rw[M7 hz] at eg
        cases eg
        obtain⟨p',f1,_,_,_,us,f5,f6⟩:=I2.slot i _ eq
        rw[h1] at f1;cases f1
        refine⟨p,us,xv,rfl,rfl,f5,by rw[f6.len];exact hz,?_⟩
        exact k B G' _ σ (I2.write hb eq h1 λH2 e2 s2=>⟨_,e2,f6.snoc rx⟩) s'
     ·cases ep
   |_=>exact k.elim
  |_=>exact k.elim
end
def bX:List D->Int->FB
 | [.int m],β=>if 0 < m/\m < 1073741824 then .ok (.int (β % m)) false (β / m) else .bad
 |_,_=>.bad
def ze {ds:List D}{β:Int}(h:bX ds β≠.bad):∃m,ds= [.int m]/\0 < m/\m < 1073741824:=by
 unfold bX at h
 split at h
 ·rename_i m
  by_cases hh:0 < m/\m < 1073741824
  ·exact⟨m,rfl,hh.1,hh.2⟩
  ·rw[Nd hh] at h;exact absurd rfl h
 ·exact absurd rfl h
def tm {m β:Int}(h0:0 < m)(h1:m < 1073741824):bX [.int m] β=.ok (.int (β % m)) false (β / m):=M7 ⟨h0,h1⟩
def constsOf:List Expr->Option (List Int)
 | []=>some []
 | .Constant (.int i) _ _ :: es=>(constsOf es).map λr=>i :: r
 |_=>none
def MD (ns:List Int):VF (List D):=λ_ β=>.ok (ns.map int) β
theorem rV {X:Cx}{Γ:Fx}{E:XK}:∀{es:List Expr} {ns:List Int},constsOf es=some ns->SA X Γ E es (MD ns) []
 | [],ns,h=>by
  have e:ns= []:=by unfold constsOf at h;exact (Option.some.inj h).symm
  subst e
  exact ar
 |e :: es,ns,h=>by
  unfold constsOf at h
  split at h
  ·cases ‹_ :: _= []›
  ·next i a b es' heq=>
   cases heq
   cases q:constsOf es with
   |none=>rw[q] at h;cases h
   |some r=>
    rw[q] at h
    have e2:i :: r=ns:=Option.some.inj h
    subst e2
    exact ae ax (rV q) rfl
  ·cases h
section
variable {P:Program}{w:World}{K:Frag}{mg:Str->Option Value}{base:Heap}
def ED {X:Cx}{i j:Nat}{x y:Str}{px py pos:Pos}{k:Nat}(hN:X.N.Nodup)(hi:X.N[i]? =some x)(hj:X.N[j]? =some y)(hx:X.env.scope.names.lookup x=some .local)(hy:X.env.scope.names.lookup y=some .local)(hc:X.calm=true) :
  PG X (.Tuple [.Name x px,.Name y py] k pos) (Ef X.K 2 (qp (lh i) (qp (lh j) FH))):=
 pX hc (dc (cD hN hi (Or.inl hx) (Or.inr hx)) (dc (cD hN hj (Or.inl hy) (Or.inr hy)) mD))
def BF {b:Addr}{β m:Int}{H:Hp}{Q:VK}{G:Hp}(hb:H b=some (.lst [.int β]))(s:ak G H){p:Addr}(hp:H p=none)
  (kk:∀v G' H',ic (some b) H H'->H' b=some (.lst [.int (β / m)])->ak G G'->ak G' H'->(∀c,Mx H c->G c=none->G' c=none)->FV K H G' H' false (.int (β % m)) v->Q v H') (gb:G b=none) :
  Q (.int (β % m)) (upd (upd H p (.tup [.int (β / m),.int (β % m)])) b (.lst [.int (β / m)])):=by
 have hbp:b≠p:=aB hb hp
 refine kk _ G _ ⟨λc o e n=>Kt.of (by rw[au (λz=>n (by rw[z])),au (aB e hp)];exact e),λc o u e=>by rw[au (λz=>by rw[z,hb] at e;cases e),au (aB e hp)];exact e⟩ ah (ak.refl _) (λc o e=>?_) (λc _ h=>h) (.int _)
 obtain⟨u,eu,_⟩:=(s c o e).some
 exact ky (ky (s c o e) (aB eu hp) λx y w=>by rw[hp] at w;cases w) (λz=>by rw[z,gb] at e;cases e) λx y w=>by rw[au hbp,hb] at w;cases w
end
end L2
namespace L2
open PySem PySem.SeqAt PySem.Spec PyProof.Rows
def tf {M:Model}{A:Around}{E:Value->Shared->Prop}{s:Shared}{β:Type}{b:Nat}(f:Nat->β->Sem (ForInStep β))(I:List Nat->β->Shared->Prop)(Q:β->Shared->Prop)
  (turn:∀x rest b s,I (x :: rest) b s->wpAny M A (f x b) (λr s'=>match r with | .yield b'=>I rest b' s' | .done b'=>Q b' s') E s)
  (fin:∀b s,I [] b s->Q b s) (c:β) (h:I (List.range' 0 b) c s):wpAny M A (forIn [0:b] c f) Q E s:=by
 rw[Std.Legacy.Range.forIn_eq_forIn_range']
 simp only[Std.Legacy.Range.size,Nat.sub_zero,Nat.add_sub_cancel,Nat.div_one]
 exact wpAny_forIn_list f I Q turn fin _ c h
def rg (l:Addr)(items:Array Value)(n:Nat)(dd:Option Addr)(sl:Array (Option Value))(x:Value)(e:Value->Bool)(j:Nat)(hj:j < items.size)
  (hit:e items[j]=true) (hno:∀m (hm:m < items.size),m < j->e items[m]=false) :
  Meets (Builtin.«tuple.index» ⟨[.ref l,x],[]⟩)
   (λA R s=>s.heap.get? l=some {cls:=.type "tuple",dict:=dd,data:=.seq items n,slots:=sl}/\(∀y,y∈items->EqAt A.in1 s y x (e y))/\R (.ok (.ret (.int j s.toks))) {s with toks:=s.toks + 1}):=
 .of_wp λprog w A R s h=>by
  obtain⟨hp,g,d,tk,os⟩:=s;obtain⟨hl,he,h⟩:=h
  wp_walk using wpAny_loadPart' hl,tf _ (λrest b s'=>b.1=none/\s'=⟨hp,g,d,tk,os⟩/\∃i,i<=j/\rest=List.range' i (items.size - i)) _
  case turn=>
   rintro y rest b s' ⟨hb,rfl,i,hi,hr⟩
   obtain⟨m,hm⟩:∃m,items.size - i=m + 1:=⟨items.size - i - 1,by omega⟩
   rw[hm,List.range'_succ] at hr
   obtain⟨rfl,rfl⟩:=List.cons.inj hr
   have hlt:y < items.size:=by omega
   have e1:items[y]? =some items[y]:=by simp[hlt]
   simp only[e1]
   refine MZ (he _ (P7 hlt) prog w _ _ ?_)
   by_cases z:y=j
   ·subst z
    rw[hit]
    wp_walk
    exact⟨_,rfl,h⟩
   ·rw[hno y hlt (by omega)]
    wp_walk
    exact⟨rfl,rfl,y + 1,by omega,by congr 1;omega⟩
  case fin=>
   rintro b s' ⟨hb,rfl,i,hi,hr⟩
   obtain⟨m,hm⟩:∃m,items.size - i=m + 1:=⟨items.size - i - 1,by omega⟩
   rw[hm,List.range'_succ] at hr
   cases hr
  case h=>
   exact⟨rfl,rfl,0,NQ _,by rw[Nat.min_self];rfl⟩
section
variable {K:Frag}{X:Cx}{G H:Hp}{Γ:Fx}{E:XK}{e a b c:Expr}{f fa fb fc:VF D}{L La Lb:List Nat}{md ma mb mc:Md}{pos apos cpos np:Pos}
def yb (k:Int):Value->Bool
 | .int i _=>i == k
 |_=>false
theorem lB {k:Int}:∀{ns:List Int} {us:List Value} (i:Nat) (h:i < us.length) (h2:i < ns.length),Vals (ns.map V.int) us->yb k us[i]=(ns[i] == k)
 | [],_,_,_,h2,_=>absurd h2 (Nat.not_lt_zero _)
 |n :: ns,_,0,_,_,.cons r _=>by obtain⟨t,rfl⟩:=r;rfl
 |n :: ns,_,i + 1,h,h2,.cons _ rs=>lB i (Nat.lt_of_succ_lt_succ h) (Nat.lt_of_succ_lt_succ h2) rs
theorem vm {k:Int}{t:Tok}(A:Around)(s:Shared):∀{ns:List Int} {us:List Value},Vals (ns.map V.int) us->∀y∈us,EqAt A s y (.int k t) (yb k y)
 | [],_,.nil,y,hy=>by cases hy
 |n :: ns,_,.cons r rs,y,hy=>by
  rcases M6.mp hy with z |z
  ·subst z;obtain⟨t',rfl⟩:=r;exact EqAt.int_int n t' k t
  ·exact vm A s rs y z
def EV (K:Frag):V->List V->Hp->VK->Prop:=λx vs H Q=>∃(a:Addr) (ns:List Int) (k:Int),x=.ref a/\vs= [.int k]/\fS K H a (ns.map V.int)/\k∈ns/\Q (.int (ns.idxOf k:Nat)) H
def An:Hh X "tuple.index" (EV X.K):=by
 intro pins s σ H x vs v us Q I rx rv h
 obtain⟨a,ns,k,rfl,rfl,hq,hk,q⟩:=h
 cases rx
 obtain⟨u,rfl,ru⟩:=vals1 rv
 obtain⟨t,rfl⟩:=ru
 obtain⟨its,rs,pl,hz⟩:=I.tuple hq
 obtain⟨⟨cls,dd,data,sl⟩,ho,hc,n,hd⟩:=id pl
 simp only at hc hd
 subst hc hd
 have hj:ns.idxOf k < ns.length:=Oz.mpr hk
 have hlen:its.length=ns.length:=by rw[<-rs.length,Na]
 refine Pa PySem.F.slot_tuple_index ⟨_,ho,rfl⟩ PySem.F.entry_tuple_index (PySem.F.args_tuple_index_2 _ _)
  (rg a its.toArray n dd sl (.int k t) (yb k) (ns.idxOf k) (by simpa[hlen] using hj) ?_ ?_) ⟨ho,λy hy=>vm _ _ rs y (by simpa using hy),?_⟩
 ·have:=lB (k:=k) (ns.idxOf k) (by omega) hj rs
  simpa[PZ hj] using this
 ·intro m hm hlt
  have hm':m < ns.length:=by simpa[hlen] using hm
  have hne:ns[m]≠k:=λz=>by
   have:=List.not_of_lt_findIdx (p:=(· == k)) hlt
   simp[z] at this
  have:=lB (k:=k) m (by omega) hm' rs
  rw[beq_eq_false_iff_ne.mpr hne] at this;simpa using this
 ·exact⟨.int (ns.idxOf k:Nat),H,I.tok _,⟨_,rfl⟩,q⟩
def Inv.tupleP {pins:List (Addr×Obj)}{σ:St}{s:Shared}{p:Addr}{xs:List V}(I:Inv X pins σ H s)(h:fS X.K H p xs):s.TypeIs (.ref p) "tuple"/\∀a,Value.ref p=.ref a->∃ob,s.heap.get? a=some ob/\ob.dict=none:=by
 rcases h with h | ⟨o,its,n,hk,hc,hs,hz,r,hd⟩
 ·obtain⟨_,_,_,o,e,c,n,d,hd⟩:=h.ok I.hok
  exact⟨⟨o,e,c⟩,λa z=>by cases z;exact⟨o,e,hd⟩⟩
 ·exact⟨⟨o,I.kIn p o hk,hc⟩,λa z=>by cases z;exact⟨o,I.kIn p o hk,hd⟩⟩
def LF (K:Frag)(r:V->List V->Hp->VK->Prop)(to:TE)(t:TA):TE:=λσ H Q=>to σ H λx H1=>(∃p xs,x=.ref p/\fS K H1 p xs)/\t σ H1 λxs H2=>r x xs H2 Q
def IU {o e:Expr}{es:List Expr}{to:TE}{t:TA}{name:Str}{apos cpos:Pos}{id:String}{r:V->List V->Hp->VK->Prop}(slot:Slot "tuple" name id)(hty:typeOf (.builtin id)=pure (.type "method_descriptor"))(hm:Hh X id r)(ho:PE X o to)(ha:PA X (e :: es) t)
  (hbase:attributeBase o name X.env (eval o X.env)=eval o X.env:=by rfl)
  (hfew:((backTo cpos (starEach (e :: es) X.env)).all (λx=> !x.1) && (backToKw cpos (keywordEach [] X.env)).all (λx=>x.1.isSome)
   && decide ((e :: es).length + ([]:List Keyword).length + (if ([]:List Keyword).isEmpty then 0 else 1) < 30))=true:=by rfl)
  (hline:(apos.endLine == cpos.line)=true:=by rfl) (hs:starEach (e :: es) X.env=(false,eval e X.env) :: starEach es X.env:=by rfl) (hplain:(backTo cpos (starEach es X.env)).any (·.1)=false:=by rfl) :
  PE X (.Call (.Attribute o name apos) (e :: es) [] cpos) (LF X.K r to t):=by
 intro pins s σ H Q I h
 refine wpAny_Call_method_late hbase hfew hline rfl (b6 (ho pins s σ H _ I h) λv s1 ⟨x,H1,I1,r1,⟨p,ys,ex,hr⟩,q1⟩=>?_)
 subst ex
 cases r1
 obtain⟨h1,h2⟩:=I1.tupleP hr
 refine⟨"tuple",id,PySem.F.plainAttrs_tuple,slot,hty,h1,h2,?_⟩
 have hA:=ha cpos pins s1 σ H1 _ I1 q1
 rw[hs] at hA ⊢
 refine Calls.callWith_builtin (by show (false || (backTo cpos (starEach es X.env)).any (·.1))=false;rw[hplain] <;> rfl) (Calls.evalArgs_plain ?_)
 exact b6 hA λus s2 ⟨vs,H2,I2,r2,q2⟩=>hm pins s2 σ H2 (.ref p) vs (.ref p) us Q I2 rfl r2 q2
def hG:List D->Option (List Int)
 | []=>some []
 | .int i :: ds=>(hG ds).map (i :: ·)
 |_=>none
theorem mJ:∀{ds:List D} {ns:List Int},hG ds=some ns->ds=ns.map int
 | [],ns,h=>by cases h;rfl
 | .int i :: ds,ns,h=>by
  unfold hG at h
  cases q:hG ds with
  |none=>rw[q] at h;cases h
  |some ms=>rw[q] at h;cases h;rw[mJ q];rfl
 | .none :: _,_,h=>by cases h
 | .bool _ :: _,_,h=>by cases h
 | .str _ :: _,_,h=>by cases h
 | .list _ :: _,_,h=>by cases h
 | .tuple _ :: _,_,h=>by cases h
 | .dict _ :: _,_,h=>by cases h
theorem cz:∀ns:List Int,hG (ns.map int)=some ns
 | []=>rfl
 |n :: ns=>by show (hG (ns.map int)).map (n :: ·)=_;rw[cz ns];rfl
theorem qh:∀{ns:List Int} {xs:List V},bP K G xs (ns.map int)->xs=ns.map V.int
 | [],_,.nil=>rfl
 |n :: ns,_,.cons r t=>by cases r;rw[qh t];rfl
def EB (d y:D):Option D:=match d,y with
 | .tuple ds,.int k=>(match hG ds with
  |some ns=>if k∈ns then some (.int (ns.idxOf k:Nat)) else none
  |none=>none)
 |_,_=>none
def zd:D->Bool
 | .tuple _=>true
 |_=>false
def pz (fa fb:VF D):VF D:=λvs β=>(fa vs β).bnd λx β1=>if zd x=true then (fb vs β1).bnd λy β2=>R.of (EB x y) β2 else .bad
theorem ml (hK:X.K=Γ.K)(ha:SE X Γ E a fa La ma)(hb:SE X Γ E b fb Lb mb)
  (hbase:attributeBase a "index" X.env (eval a X.env)=eval a X.env:=by rfl)
  (hfew:((backTo cpos (starEach [b] X.env)).all (λx=> !x.1) && (backToKw cpos (keywordEach [] X.env)).all (λx=>x.1.isSome)
   && decide ([b].length + ([]:List Keyword).length + (if ([]:List Keyword).isEmpty then 0 else 1) < 30))=true:=by rfl)
  (hline:(apos.endLine == cpos.line)=true:=by rfl) (hs:starEach [b] X.env=(false,eval b X.env) :: starEach [] X.env:=by rfl) :
  SE X Γ E (.Call (.Attribute a "index" apos) [b] [] cpos) (pz fa fb) (La ++ Lb) .v:=by
 refine PE.post' (IU PySem.F.slot_tuple_index PySem.F.type_tuple_index An ha (ao hb aJ hs) hbase hfew hline hs rfl) λσ H Q ⟨env,G,B,β,I,o⟩=>?_
 refine⟨env,G,B,β,I,o.bnd.imp λd1 β1 h x G1 H1 I1 s1 m1 vx=>?_⟩
 have vx:=vx.brw I.boxThere
 cases d1 with
 |tuple ds=>
  rw[M7 (show zd (.tuple ds)=true from rfl)] at h
  obtain⟨p,xs,rfl,hq,r⟩:=vx.tuple I1.sub
  refine⟨⟨p,xs,rfl,by rw[hK];exact hq⟩,?_⟩
  refine⟨aS La env,G1,B,β1,I1,?_⟩
  rw[fV]
  refine h.bnd.imp λd2 β2 h y G2 H2 I2 s2 m2 vy=>?_
  obtain⟨d,e,k⟩:=h.of
  have vy:=vy.brw I1.boxThere
  cases d2 with
  |int kk=>
   obtain rfl:=vy.int
   simp only[EB] at e
   cases q:hG ds with
   |none=>rw[q] at e;cases e
   |some ns=>
    rw[q] at e
    dsimp only at e
    split at e
    ·rename_i hk
     cases e
     have eds:=mJ q
     subst eds
     have exs:=qh r
     subst exs
     have hq2:fS X.K H2 p (ns.map V.int):=by
      rw[hK]
      rcases hq with hq |hq
      ·rcases vx with vx | ⟨_,_,_,vx⟩
       ·cases vx with
        |tup g1 r9=>have z9:=qh r9;subst z9;exact (g1.grow (s2.trans I2.sub).grow)
       ·exact vx.elim
      ·exact .inr hq
     exact⟨p,ns,kk,rfl,rfl,hq2,hk,k _ G2 H2 (by rw[cj];exact I2) (s1.trans s2) (m1.trans m2) (.int _)⟩
    ·cases e
  |_=>simp only[EB] at e;cases e
 |_=>exact h.elim
abbrev Fx.at (Γ:Fx)(H0:Hp):Fx:=⟨Γ.K,H0,Γ.G0,Γ.par,Γ.ca,Γ.br,Γ.bx⟩
end
end L2
namespace L2
open PySem PySem.Spec PyProof.Rows
def JD (W:Addr->Str->Prop):Sp:=λvs H Q _=>∃(ea D:Addr) (x:Str),vs= [.ref ea]/\H ea=some (.ext (i3 ea (.ref D)))/\W D x/\∀H',ak H H'->Q (.str x) H'
def kf:En->Bool
 | []=>true
 | .no :: env=>kf env
 | .fz _ :: env=>kf env
 |_=>false
theorem kP:∀{env:En} {i:Nat} {s:Sl},kf env=true->env[i]? =some s->s=.no\/∃d,s=.fz d
 | [],_,_,_,e=>by simp at e
 | .no :: env,0,_,_,e=>by simp at e;exact .inl e.symm
 | .fz d :: env,0,_,_,e=>by simp at e;exact .inr ⟨d,e.symm⟩
 | .no :: env,i + 1,s,h,e=>kP (env:=env) h (by simpa using e)
 | .fz d :: env,i + 1,s,h,e=>kP (env:=env) h (by simpa using e)
 | .ow _ :: _,_,_,h,_=>by cases h
 | .br _ :: _,_,_,h,_=>by cases h
 | .bx :: _,_,_,h,_=>by cases h
def vn (marks:Str->Option Str)(m:SF):SF:=λenv β=>if kf env=true then (match m env 0 with
 | .rt d fr _=>.rt d fr β
 | .exc c=>(match marks c with
  |some x=>.rt (.str x) false β
  |none=>.bad)
 |_=>.bad) else .bad
section
variable {X:Cx}{Γ:Fx}{E:XK}{m:SF}
def SR.drop {B:Option Addr}{G H:Hp}{σ:St}{env:En}{β:Int}(I:SR Γ B G H σ env β)(hf:kf env=true):SR (Fx.fn Γ.K H G Γ.ca) none G H σ env 0:=by
 refine⟨I.sub,ak.refl _,λb _ h=>h,λb o h _=>Kt.of h,λb h=>(by cases h),λb h=>(by cases h),λb h=>(by cases h),I.len,λi s e=>?_,λi j a d e h=>?_⟩
 ·rcases kP hf e with rfl | ⟨d,rfl⟩
  ·trivial
  ·exact I.slot i _ e
 ·rcases kP hf h with z | ⟨_,z⟩ <;> cases z
def SR.undrop {B B':Option Addr}{G H G' H':Hp}{σ σ':St}{env env':En}{β β':Int}(I:SR Γ B G H σ env β)(J:SR (Fx.fn Γ.K H G Γ.ca) B' G' H' σ' env' β'):SR Γ B G' H' σ (List.replicate env.length .no) β:=by
 have kp:∀b o,H b=some o->Kt H' b o:=λb o e=>J.keep b o e (by simp)
 have ks:ak H H':=kp
 refine⟨J.sub,I.old.trans J.old,λb h1 h2=>J.new b (I.thereM h1) (I.new b h1 h2),λb o h1 h2=>(I.keep b o h1 h2).step ks,λb hb=>(I.pin b hb).same (kp b),I.fix,λb e=>?_,by rw[OH];exact I.len,λi s e=>?_,λi j a d e h=>?_⟩
 ·obtain⟨h1,h2,h3⟩:=I.box b e
  exact⟨kp b _ h1,J.new b (Mx.lst h1) h2,h3⟩
 ·rw[OO (Nm e)];trivial
 ·have:=OO (Nm h);cases this
def SR.forget {B:Option Addr}{G H H':Hp}{σ:St}{env:En}{β:Int}(I:SR Γ B G H σ env β)(hh:ak H H'):SR Γ B G H' σ env β:=I.ext ⟨hh,ak.refl _,I.sub.trans hh,λ_ _=>rfl⟩
def IP {n x y:Str}{i k:Nat}{Dc gm:Addr}{dm:FuncData}{W:Addr->Str->Prop}{marks:Str->Option Str}{np hpos pos cp fp ap rp:Pos}{body:List Stmt}(hb:∀Eb Ex pn H G,Passes (mE X.prog X.w) (X.inTry Ex pn) Eb->A7 (X.inTry Ex pn) (Fx.fn Γ.K H G Γ.ca) Eb body m)
  (hM:sL X.prog X.w X.K X.mg X.base yh k gm dm ["e"] (JD W)) (hr:∀e,ni k (X.inEx e).A) (hmg:X.mg y=some (.ref gm)) (hkp:PySem.W.keepIn X.K (.ref gm)=true) (hbi:Binds X.K dm ["e"] [])
  (hw:∀c z,marks c=some z->Mt X.K (.ref (Γ.ca c)) Dc/\W (Γ.ca c) z)
  (hm:X.mg x=some (.ref Dc)) (hN:X.N.Nodup) (hgy:∀e,Gl (X.inEx e) y:=by intro _;rfl) (hst:X.stack=X.env :: X.outer:=by rfl) (hfr:X.env.frame=some X.env.locals:=by rfl) (hex:X.ex= []:=by rfl) (hg:Gl X x:=by rfl) (hi:X.N[i]? =some n:=by rfl) (hk:X.env.scope.names.lookup n=some .local:=by rfl)
  (hd:(n == ("__debug__":Str))=false:=by decide) (hcd:(n == ("__classdict__":Str))=false:=by decide)
  (hdb:(x == ("__debug__":Str))=false:=by decide) (hdy:(y == ("__debug__":Str))=false:=by decide)
  (he:∀e,starEach [.Name n ap] (X.inEx e).env=(false,eval (.Name n ap) (X.inEx e).env) :: starEach [] (X.inEx e).env:=by intro _;rfl) :
  SS X Γ E (.Try body [.ExceptHandler (some (.Name x np)) (some n) [.Return (some (.Call (.Name y fp) [.Name n ap] [] cp)) rp] hpos] [] [] pos) (vn marks m):=by
 have hbU:∀Eb Ex pn,Passes (mE X.prog X.w) (X.inTry Ex pn) Eb->oJ (X.inTry Ex pn) body (λD σ H=>∃H0 G0,sT (Fx.fn Γ.K H0 G0 Γ.ca) Eb m D σ H):=λEb Ex pn hp pins s σ H D I ⟨H0,G0,q⟩=>hb Eb Ex pn H0 G0 hp pins s σ H D I q
 have hsU:∀e,oJ (X.inEx e) [.Return (some (.Call (.Name y fp) [.Name n ap] [] cp)) rp] _:=λe=>di (iM (C7 hM (hr e) (hgy e) hmg hkp hbi .nil Gz (ao (iL (i:=i) hi (Or.inl hk) hd hcd) aJ (he e)) hdy (he e) rfl))
 refine PS.post (IW (i:=i) hst hfr hex hbU hsU hg hm hN hi hk hdb) λN σ H ⟨env,G,B,β,I,o⟩=>?_
 unfold vn at o
 by_cases hf:kf env=true
 case neg=>rw[Nd hf] at o;exact o.elim
 rw[M7 hf] at o
 refine⟨λcls _ H'=>∃c z,cls=.ref (Γ.ca c)/\marks c=some z/\ak H H'/\m env 0=.exc c,⟨H,G,env,G,none,0,I.drop hf,?_⟩,?_⟩
 ·cases q:m env 0 with
  |nx e b=>rw[q] at o;exact o.elim
  |bk e b=>rw[q] at o;exact o.elim
  |ct e b=>rw[q] at o;exact o.elim
  |bad=>rw[q] at o;exact o.elim
  |rt d fr b=>
   rw[q] at o
   intro B' G' H' σ' env' v J s rv
   refine o B G' H' σ _ v (I.undrop J) s ?_
   unfold RV at rv ⊢
   cases fr with
   |false=>exact rv
   |true=>
    rw[M7 rfl] at rv ⊢
    obtain⟨a,rfl,h1,h2,h3⟩:=rv
    exact⟨a,rfl,(I.fresh h1).1,h2,h3⟩
  |exc c=>
   rw[q] at o
   intro H' kp
   cases q2:marks c with
   |none=>dsimp only at o;rw[q2] at o;exact o.elim
   |some z=>exact⟨c,z,rfl,q2,λb u e=>kp b u e (by simp),rfl⟩
 ·rintro cls d H' ⟨c,z,rfl,q2,s',q⟩
  rw[q] at o
  dsimp only at o
  rw[q2] at o
  obtain⟨w1,w2⟩:=hw c z q2
  refine⟨w1,λea σ' hea hlen=>?_⟩
  have hil:i < σ'.length:=by rw[hlen];exact (Np.mp hi).1
  refine⟨.ref ea,Nt hil,ea,_,z,rfl,ah,w2,λH2 s2=>?_⟩
  exact o B G H2 σ _ (.str z) (I.forget ((s'.trans (ak.new hea)).trans s2)) (ak.refl _) (Rp.str z)
end
structure FO (P:Program)(w:World)(K:Frag)(mg:Str->Option Value)(base:Heap)(ca:Str->Addr)(x y:Str)(marks:Str->Option Str):Prop where
 ex:∃(gm Dc:Addr) (dm:FuncData) (W:Addr->Str->Prop),sL P w K mg base yh 1 gm dm ["e"] (JD W)/\mg y=some (.ref gm)/\PySem.W.keepIn K (.ref gm)=true/\Binds K dm ["e"] []/\mg x=some (.ref Dc)/\∀c z,marks c=some z->Mt K (.ref (ca c)) Dc/\W (ca c) z
section
variable {X:Cx}{Γ:Fx}{E:XK}{m:SF}
def Gd {n x y:Str}{i k:Nat}{marks:Str->Option Str}{np hpos pos cp fp ap rp:Pos}{body:List Stmt}(M:FO X.prog X.w X.K X.mg X.base Γ.ca x y marks)(hr:dG (k + 1) X.A)(hb:∀Eb Ex pn H G,Passes (mE X.prog X.w) (X.inTry Ex pn) Eb->A7 (X.inTry Ex pn) (Fx.fn Γ.K H G Γ.ca) Eb body m)
  (hN:X.N.Nodup) (hgy:∀e,Gl (X.inEx e) y:=by intro _;rfl) (hst:X.stack=X.env :: X.outer:=by rfl) (hfr:X.env.frame=some X.env.locals:=by rfl) (hex:X.ex= []:=by rfl) (hg:Gl X x:=by rfl) (hi:X.N[i]? =some n:=by rfl) (hk:X.env.scope.names.lookup n=some .local:=by rfl)
  (hd:(n == ("__debug__":Str))=false:=by decide) (hcd:(n == ("__classdict__":Str))=false:=by decide)
  (hdb:(x == ("__debug__":Str))=false:=by decide) (hdy:(y == ("__debug__":Str))=false:=by decide)
  (he:∀e,starEach [.Name n ap] (X.inEx e).env=(false,eval (.Name n ap) (X.inEx e).env) :: starEach [] (X.inEx e).env:=by intro _;rfl) :
  SS X Γ E (.Try body [.ExceptHandler (some (.Name x np)) (some n) [.Return (some (.Call (.Name y fp) [.Name n ap] [] cp)) rp] hpos] [] [] pos) (vn marks m):=by
 obtain⟨gm,Dc,dm,W,h1,h2,h3,h4,h5,h6⟩:=M.ex
 exact IP (i:=i) hb h1 (λe=>((hr.mono (by omega)).mark _)) h2 h3 h4 h6 h5 hN hgy hst hfr hex hg hi hk hd hcd hdb hdy he
end
end L2
namespace L2
open PySem
section
variable {α γ:Type}
@[simp] theorem lQ (a:α)(β:Int)(k:α->Int->R γ):(R.ok a β).bnd k=k a β:=rfl
@[simp] theorem Lp (c:Str)(k:α->Int->R γ):(R.exc c:R α).bnd k=.exc c:=rfl
@[simp] theorem Lo (k:α->Int->R γ):(R.bad:R α).bnd k=.bad:=rfl
@[simp] theorem Ma (a:α)(β:Int)(k:α->Int->R γ):(R.ok a β).okb k=k a β:=rfl
@[simp] theorem ui (a:α)(β:Int):R.of (some a) β=.ok a β:=rfl
@[simp] theorem of_none (β:Int):(R.of none β:R α)=.bad:=rfl
@[simp] theorem LJ (a:α)(β:Int)(k:α->Int->SO):toS (.ok a β) k=k a β:=rfl
@[simp] theorem Lq (c:Str)(k:α->Int->SO):toS (.exc c:R α) k=.exc c:=rfl
@[simp] theorem Lg (k:α->Int->SO):toS (.bad:R α) k=.bad:=rfl
end
section
variable (f fa fb fc:VF D)(t u:VF Bool)(m m':SF)(vs:List Nv)(β:Int)(env:En)(i j:Nat)(L:List Nat)
@[simp] theorem GO:gv i vs β=R.of (dat vs[i]?) β:=rfl
@[simp] theorem xm (d:D):dat (some (.da d))=some d:=rfl
@[simp] theorem Mn (d:D):cst d vs β=.ok d β:=rfl
@[simp] theorem MF (g:D->Option D):f1 fa g vs β=(fa vs β).bnd λx β1=>R.of (g x) β1:=rfl
@[simp] theorem MH (g:D->D->Option D):f2 fa fb g vs β=(fa vs β).bnd λx β1=>(fb vs β1).bnd λy β2=>R.of (g x y) β2:=rfl
@[simp] theorem zh:af vs β=.ok [] β:=rfl
@[simp] theorem cc (fr:VF (List D)):aa fa fr vs β=(fa vs β).bnd λx β1=>(fr vs β1).bnd λxs β2=>.ok (x :: xs) β2:=rfl
@[simp] theorem ux:j4 fa vs β=(fa vs β).bnd λx β1=>R.of (Hm x) β1:=rfl
@[simp] theorem uK:sF t vs β=(t vs β).bnd λc β1=>.ok (!c) β1:=rfl
@[simp] theorem lJ:DC t u vs β=(t vs β).bnd λc β1=>if c=true then u vs β1 else .ok false β1:=rfl
@[simp] theorem uD:lT t u vs β=(t vs β).bnd λc β1=>if c=true then .ok true β1 else u vs β1:=rfl
@[simp] theorem MC (n:Bool):tN fa n vs β=(fa vs β).bnd λx β1=>.ok (if n then !EX x else EX x) β1:=rfl
@[simp] theorem LN:MS t fa fb vs β=(t vs β).bnd λc β1=>if c=true then fa vs β1 else fb vs β1:=rfl
@[simp] theorem cB (c:Bool){β1:Int}(h:fa vs β=.ok (.bool c) β1):cK fa vs β=.ok c β1:=by unfold cK;rw[h];rfl
@[simp] theorem xT:vl []= []:=rfl
@[simp] theorem sU (s:Sl):vl (s :: env)=s.val :: vl env:=rfl
@[simp] theorem xj (d:D):(Sl.fz d).val=.da d:=rfl
@[simp] theorem LC (d:D):(Sl.ow d).val=.da d:=rfl
@[simp] theorem LU:Sl.no.val=.no:=rfl
@[simp] theorem Mo:Sl.bx.val=.bx:=rfl
@[simp] theorem K7:aS [] env=env:=rfl
@[simp] theorem J4:aS (i :: L) env=aS L (jc env i):=rfl
@[simp] theorem Lk:aI m m' env β=(match m env β with
 | .nx env' β'=>m' env' β'
 |r=>r):=rfl
@[simp] theorem Me:j6 L t m m' env β=toS (t (vl env) β) λc β'=>if c=true then m (aS L env) β' else m' (aS L env) β':=rfl
@[simp] theorem jB:bE f env β=toS (f (vl env) β) λd β'=>.rt d false β':=rfl
@[simp] theorem J6:nX f env β=toS (f (vl env) β) λd β'=>.rt d true β':=rfl
@[simp] theorem L9:mU env β=.nx env β:=rfl
@[simp] theorem ip:bI i L f env β=toS (f (vl env) β) λd β'=>.nx ((aS L env).set i (.fz d)) β':=rfl
@[simp] theorem pP:jU i L f env β=toS (f (vl env) β) λd β'=>.nx ((aS L env).set i (.ow d)) β':=rfl
@[simp] theorem KG:wo L f env β=toS (f (vl env) β) λ_ β'=>.nx (aS L env) β':=rfl
end
def aF {m m':SF}{env env':En}{β β':Int}(h:m env β=.nx env' β'):aI m m' env β=m' env' β':=by unfold aI;rw[h]
def mP {m m':SF}{env:En}{β β':Int}{d:D}{b:Bool}(h:m env β=.rt d b β'):aI m m' env β=.rt d b β':=by unfold aI;rw[h]
def lr {L:List Nat}{t:VF Bool}{m m':SF}{env:En}{β β':Int}(h:t (vl env) β=.ok true β'):j6 L t m m' env β=m (aS L env) β':=by unfold j6;rw[h];rfl
def kz {L:List Nat}{t:VF Bool}{m m':SF}{env:En}{β β':Int}(h:t (vl env) β=.ok false β'):j6 L t m m' env β=m' (aS L env) β':=by unfold j6;rw[h];rfl
def aH {F:List D->FR}{fr:VF (List D)}{vs:List Nv}{β β1:Int}{ds:List D}{d:D}{b:Bool}(h:fr vs β=.ok ds β1)(e:F ds=.ok d b):aw F fr vs β=.ok d β1:=by unfold aw;rw[h];dsimp only[R.bnd];rw[e]
def rQ {F:List D->FR}{fr:VF (List D)}{vs:List Nv}{β β1:Int}{ds:List D}{c:Str}(h:fr vs β=.ok ds β1)(e:F ds=.exc c):aw F fr vs β=.exc c:=by unfold aw;rw[h];dsimp only[R.bnd];rw[e]
def CW {F:List D->FR}{fr:VF (List D)}{vs:List Nv}{β β1:Int}{ds:List D}{d:D}(h:fr vs β=.ok ds β1)(e:F ds=.ok d true):wD F fr vs β=.ok d β1:=by unfold wD;rw[h];dsimp only[R.bnd];rw[e]
def b7 {fa:VF D}{g:D->Option D}{vs:List Nv}{β β1:Int}{x d:D}(h:fa vs β=.ok x β1)(e:g x=some d):f1 fa g vs β=.ok d β1:=by unfold f1;rw[h];dsimp only[R.bnd];rw[e];rfl
def aG {fa fb:VF D}{g:D->D->Option D}{vs:List Nv}{β β1 β2:Int}{x y d:D}(h:fa vs β=.ok x β1)(h':fb vs β1=.ok y β2)(e:g x y=some d):f2 fa fb g vs β=.ok d β2:=by unfold f2;rw[h];dsimp only[R.bnd];rw[h'];dsimp only[R.bnd];rw[e];rfl
def fT {i:Nat}{F:List D->Int->FB}{fr:VF (List D)}{vs:List Nv}{β β1 β2:Int}{ds:List D}{d:D}{b:Bool}(hi:yr vs i=true)(h:fr vs β=.ok ds β1)(e:F ds β1=.ok d b β2):jK i F fr vs β=.ok d β2:=by unfold jK;rw[M7 hi,h];dsimp only[R.bnd];rw[e]
def sz (n:Nat)(h:n<=1000):n<=sizeLine:=by rw[NA];omega
def KD (n:Nat)(h:n<=1000):n < sizeLine:=by rw[NA];omega
def mX {fr:VF (List D)}{vs:List Nv}{β β1:Int}{ds:List D}(h:fr vs β=.ok ds β1)(hz:ds.length<=1000):bK fr vs β=.ok (.tuple ds) β1:=by unfold bK;rw[h];exact M7 (sz _ hz)
def dJ {fr:VF (List D)}{vs:List Nv}{β β1:Int}{ds:List D}(h:fr vs β=.ok ds β1)(hz:ds.length<=1000):aY fr vs β=.ok (.list ds) β1:=by unfold aY;rw[h];exact M7 (sz _ hz)
def xc {i:Nat}{env:En}{β:Int}{g:List D->Option (List D)}{ds es:List D}(h:env[i]? =some (.ow (.list ds)))(e:g ds=some es):HE i env β g=.nx (env.set i (.ow (.list es))) β:=by unfold HE;rw[h];dsimp only;rw[e]
def pe {i:Nat}{L:List Nat}{f:VF D}{env:En}{β β':Int}{ds:List D}{d:D}(hi:env[i]? =some (.ow (.list ds)))(hf:f (vl env) β=.ok d β')(hL:(aS L env)[i]? =some (.ow (.list ds)))(hz:ds.length<=1000):lP i L f env β=.nx ((aS L env).set i (.ow (.list (ds ++ [d])))) β':=by
 unfold lP
 rw[M7 (by rw[hi];rfl),hf]
 exact xc hL (M7 (KD _ hz))
def yg {i j:Nat}{L:List Nat}{f:VF D}{env:En}{β β':Int}{ds es es':List D}{k d:D}(hi:env[i]? =some (.ow (.list ds)))(hj:env[j]? =some (.ow (.list es)))(hij:i≠j)(hf:f (vl env) β=.ok k β')(hL:aS L env=env)(hp:zP es k=some (d,es'))(hz:ds.length<=1000):jf i j L f env β=.nx ((env.set j (.ow (.list es'))).set i (.ow (.list (ds ++ [d])))) β':=by
 unfold jf
 rw[M7 ⟨by rw[hi];rfl,by rw[hj];rfl,hij⟩,hf,hL]
 dsimp only[toS]
 rw[hj]
 dsimp only
 rw[hp]
 exact xc (by rw[Nu (Ne.symm hij)];exact hi) (M7 (KD _ hz))
def CZ {i:Nat}{Le Li:List Nat}{fe fi:VF D}{env:En}{β β1 β2:Int}{ds:List D}{d:D}{k:Int}{n:Nat}(he:fe (vl env) β=.ok d β1)(h1:(aS Le env)[i]? =some (.ow (.list ds)))(hi:fi (vl env) β1=.ok (.int k) β2)(h2:(aS (Le ++ Li) env)[i]? =some (.ow (.list ds)))(hk:vG ds.length k=some n):vI i Le Li fe fi env β=.nx ((aS (Le ++ Li) env).set i (.ow (.list (ds.set n d)))) β2:=by
 unfold vI
 rw[he]
 dsimp only[toS]
 rw[M7 (by rw[h1];rfl),hi]
 exact xc h2 (by dsimp only;rw[hk];rfl)
theorem pF {t:Tg}{ft:VF Bool}{fe:VF D}{vs:List Nv}(g:D->Bool)(h:D->D):∀{ds:List D} {β:Int},(∀d,d∈ds->∃vs1,nW t d vs=some vs1/\ft vs1 β=.ok (g d) β/\(g d=true->fe vs1 β=.ok (h d) β))->hZ t ft fe vs ds β=.ok ((ds.filter g).map h) β
 | [],β,_=>rfl
 |d :: ds,β,hh=>by
  obtain⟨vs1,e1,e2,e3⟩:=hh d (Nb ..)
  have ih:=pF (t:=t) (ft:=ft) (fe:=fe) (vs:=vs) g h (ds:=ds) (β:=β) λd' hd=>hh d' (M8 _ hd)
  unfold hZ
  rw[e1]
  dsimp only
  rw[e2]
  dsimp only[R.okb]
  cases q:g d with
  |true=>
   rw[M7 rfl,e3 q]
   dsimp only
   rw[ih,List.filter_cons_of_pos q];rfl
  |false=>
   rw[Nd Nq,ih,List.filter_cons_of_neg (by rw[q];exact Nq)]
def xC {own:Nat}{ixs:List Nat}{t:Tg}{fi:VF (List D)}{ft:VF Bool}{fe:VF D}{vs:List Nv}{β β1:Int}{ds:List D}(g:D->Bool)(h:D->D)(hi:fi vs β=.ok ds β1)(hz:ds.length<=1000)
  (hh:∀d,d∈ds->∃vs1,nW t d (gi own ixs vs)=some vs1/\ft vs1 β1=.ok (g d) β1/\(g d=true->fe vs1 β1=.ok (h d) β1)):aX own ixs t fi ft fe vs β=.ok (.list ((ds.filter g).map h)) β1:=by
 unfold aX
 rw[hi]
 dsimp only[R.bnd]
 rw[M7 (sz _ hz),pF g h hh];rfl
def sr {own:Nat}{ixs:List Nat}{t:Tg}{fi:VF (List D)}{fe:VF D}{vs:List Nv}{β β1:Int}{ds:List D}(h:D->D)(hi:fi vs β=.ok ds β1)(hz:ds.length<=1000)
  (hh:∀d,d∈ds->∃vs1,nW t d (gi own ixs vs)=some vs1/\fe vs1 β1=.ok (h d) β1):aX own ixs t fi sk fe vs β=.ok (.list (ds.map h)) β1:=by
 rw[xC (ft:=sk) (λ_=>true) h hi hz λd hd=>let ⟨vs1,e1,e2⟩:=hh d hd;⟨vs1,e1,rfl,λ_=>e2⟩]
 rw[List.filter_eq_self.mpr (λ_ _=>rfl)]
def je {α:Type}{own:Nat}{ixs:List Nat}{t:Tg}{fi:VF (List D)}{fe:VF D}{vs:List Nv}{β β1:Int}{l:List α}{e:α->D}(h:α->D)(hi:fi vs β=.ok (l.map e) β1)(hz:l.length<=1000)
  (hh:∀x,x∈l->∃vs1,nW t (e x) (gi own ixs vs)=some vs1/\fe vs1 β1=.ok (h x) β1):aX own ixs t fi sk fe vs β=.ok (.list (l.map h)) β1:=by
 unfold aX
 rw[hi]
 dsimp only[R.bnd]
 rw[M7 (sz _ (by rw[Na];exact hz))]
 have key:∀m:List α,(∀x,x∈m->x∈l)->hZ t sk fe (gi own ixs vs) (m.map e) β1=.ok (m.map h) β1:=by
  intro m
  induction m with
  |nil=>intro _;rfl
  |cons x m ih=>
   intro hm
   obtain⟨vs1,e1,e2⟩:=hh x (hm x (Nb ..))
   rw[NO]
   unfold hZ
   rw[e1]
   dsimp only
   show (R.ok true β1).okb _=_
   dsimp only[R.okb]
   rw[M7 rfl,e2]
   dsimp only
   rw[ih λy hy=>hm y (M8 _ hy)];rfl
 rw[key l λ_ h=>h];rfl
def gY {α:Type}{own:Nat}{ixs:List Nat}{t:Tg}{fi:VF (List D)}{ft:VF Bool}{fe:VF D}{vs:List Nv}{β β1:Int}{l:List α}{e:α->D}(g:α->Bool)(h:α->D)(hi:fi vs β=.ok (l.map e) β1)(hz:l.length<=1000)
  (hh:∀x,x∈l->∃vs1,nW t (e x) (gi own ixs vs)=some vs1/\ft vs1 β1=.ok (g x) β1/\(g x=true->fe vs1 β1=.ok (h x) β1)):aX own ixs t fi ft fe vs β=.ok (.list ((l.filter g).map h)) β1:=by
 unfold aX
 rw[hi]
 dsimp only[R.bnd]
 rw[M7 (sz _ (by rw[Na];exact hz))]
 have key:∀m:List α,(∀x,x∈m->x∈l)->hZ t ft fe (gi own ixs vs) (m.map e) β1=.ok ((m.filter g).map h) β1:=by
  intro m
  induction m with
  |nil=>intro _;rfl
  |cons x m ih=>
   intro hm
   obtain⟨vs1,e1,e2,e3⟩:=hh x (hm x (Nb ..))
   have ih:=ih λy hy=>hm y (M8 _ hy)
   rw[NO]
   unfold hZ
   rw[e1]
   dsimp only
   rw[e2]
   dsimp only[R.okb]
   cases q:g x with
   |true=>
    rw[M7 rfl,e3 q]
    dsimp only
    rw[ih,List.filter_cons_of_pos q];rfl
   |false=>
    rw[Nd Nq,ih,List.filter_cons_of_neg (by rw[q];exact Nq)]
 rw[key l λ_ h=>h];rfl
theorem fO {t:Tg}{m:SF}(Pv:Nat->En->Int->Prop):∀{ds:List D} {k:Nat} {env:En} {β:Int},Pv k env β->
  (∀i d env β,ds[i]? =some d->Pv (k + i) env β->∃env1,gf t d env=some env1/\∃env2 β2,m env1 β=.nx env2 β2/\Pv (k + i + 1) env2 β2)->∃env' β',oO t m ds env β=.nx env' β'/\Pv (k + ds.length) env' β'
 | [],k,env,β,h0,_=>⟨env,β,rfl,h0⟩
 |d :: ds,k,env,β,h0,hs=>by
  obtain⟨env1,e1,env2,β2,e2,h1⟩:=hs 0 d env β rfl h0
  obtain⟨env',β',e3,h2⟩:=fO Pv (t:=t) (m:=m) (ds:=ds) (k:=k + 1) h1 λi d' en be hi hp=>by
   have:=hs (i + 1) d' en be (by simpa using hi) (by rw[show k + (i + 1)=k + 1 + i by omega];exact hp)
   rw[show k + (i + 1) + 1=k + 1 + i + 1 by omega] at this
   exact this
  refine⟨env',β',?_,by rw[NC,show k + (ds.length + 1)=k + 1 + ds.length by omega];exact h2⟩
  unfold oO
  rw[e1]
  dsimp only
  rw[e2]
  exact e3
theorem jM {L:List Nat}{t:VF Bool}{m:SF}(Pv:Nat->En->Int->Prop)(Dn:En->Int->Prop):∀{n k:Nat} {env:En} {β:Int},k < n->Pv k env β->
  (∀k env β,Pv k env β->∃c β1,t (vl env) β=.ok c β1/\((c=false/\Dn (aS L env) β1)\/(c=true/\∃env2 β2 k',m (aS L env) β1=.nx env2 β2/\k' < k/\Pv k' env2 β2)))->∃env' β',iQ L t m n env β=.nx env' β'/\Dn env' β'
 | 0,k,env,β,hk,_,_=>by omega
 |n + 1,k,env,β,hk,h0,hs=>by
  obtain⟨c,β1,e1,hc⟩:=hs k env β h0
  unfold iQ
  rw[e1]
  dsimp only[toS]
  rcases hc with⟨rfl,hd⟩ | ⟨rfl,env2,β2,k',e2,hl,h1⟩
  ·exact⟨_,_,rfl,hd⟩
  ·rw[M7 rfl,e2]
   exact jM Pv Dn (n:=n) (k:=k') (by omega) h1 hs
end L2
namespace RM
open PySem L2
def p5:SF:=(bE (fX (f1 (gv 0) (gZ "int")) (f1 (f1 (gv 0) (gZ "bool")) wM)))
def qm (bL:List D->FR):SF:=(bE (fX (aw bL (aa (gv 0) af)) (jr (cst (.int 0)) (gv 0) (gv 1) BJ DZ)))
def su (bL:List D->FR):SF:=(bE (fX (aw bL (aa (gv 0) af)) (jr (cst (.int 1)) (gv 0) (cst (.int 8)) BJ BJ)))
def rH (bD:List D->FR):SF:=(aI (j6 ([] ++ ([] ++ [])) (lT (sF (j4 (f1 (gv 0) (gZ "tuple")))) (cK (f2 (f1 (gv 0) cZ) (cst (.int 2)) (cF true))))
 (bE (cst (.bool false)))
 mU)
 (bE (fX (aw bD (aa (f2 (gv 0) (cst (.int 0)) cG) (aa (gv 1) af))) (aw bD (aa (f2 (gv 0) (cst (.int 1)) cG) (aa (gv 1) af))))))
def tx:SF:=(nX (aX 1 [0] (.nm 0) (gk (f2 (gv 0) (gv 0) fR)) sk (bK (aa (f2 (gv 0) (gv 1) Dw) (aa (f2 (gv 0) (gv 1) mw) af)))))
def qg:SF:=(bE (f1 (aX 2 [] (.two 0 1) (bN (gv 0)) sk (f2 (gv 0) (gv 1) (cF false))) (cA λbs=>bs.any id)))
def gX (gP gQ i4 fm:List D->FR):SF:=(aI (j6 ([] ++ ([] ++ [])) (lT (sF (j4 (f1 (gv 0) (gZ "tuple")))) (cK (f2 (f1 (gv 0) cZ) (cst (.int 2)) (cF true))))
 (bE (cst (.bool false)))
 mU)
 (aI (bI 1 ([] ++ []) (f2 (gv 0) (cst (.int 0)) cG))
 (aI (bI 2 ([] ++ []) (f2 (gv 0) (cst (.int 1)) cG))
 (aI (j6 (([1] ++ []) ++ []) (lT (sF (j4 (aw gP (aa (gv 1) af)))) (sF (j4 (f1 (gv 2) (gZ "tuple")))))
 (bE (cst (.bool false)))
 mU)
 (aI (j6 ([] ++ [1]) (sF (j4 (f1 (aX 1 [1] (.nm 0) (bN (gv 2)) sk (aw gQ (aa (gv 0) (aa (gv 1) af)))) (cA λbs=>bs.all id))))
 (bE (cst (.bool false)))
 mU)
 (bE (fX (f2 (gv 2) (aw i4 (aa (gv 1) (aa (gv 2) af))) (cF false)) (f1 (aw fm (aa (gv 2) af)) wM))))))))
def gF (eS:List D->FR):SF:=(j6 ([0] ++ []) (sF (j4 (aw eS (aa (gv 0) af))))
 (λenv β=>toS ((aa (cst (.str "this is no order")) af) (vl env) β) λds _=>if ds.length<=sizeLine then .exc "NoOrder" else .bad)
 mU)
def oo:SF:=(bE (fX (f2 (gv 1) (gv 2) (cF true)) (fX (f2 (bK (aa (gv 1) (aa (gv 2) af))) (f2 (gv 0) (cst (.int 1)) cG) (uC true)) (f2 (bK (aa (gv 2) (aa (gv 1) af))) (f2 (gv 0) (cst (.int 1)) cG) (uC true)))))
def fL:SF:=(aI (j6 ([] ++ []) (cK (f2 (gv 1) (f1 (gv 0) cZ) DZ))
 (bE (f2 (gv 0) (gv 1) cG))
 mU)
 (bE (cst (.int 0))))
def jz:SF:=(aI (bI 2 [] (aY (MD [48271,69621,16807,39373,30269,40014,40692,50021,61687,71993,83869,95561,30307]))) (aI (bI 3 ((((([] ++ []) ++ []) ++ ([] ++ ([] ++ []))) ++ ([] ++ [])) ++ ([] ++ ([] ++ []))) (f2 (f2 (f2 (f2 (f2 (gv 0) (cst (.int 2147483647)) mw) (cst (.int 12345)) dO) (f2 (gv 2) (f2 (gv 1) (cst (.int 13)) mw) cG) fR) (f2 (cst (.int 977)) (gv 1) fR) dO) (f2 (cst (.int 7919)) (f2 (gv 1) (cst (.int 13)) Dw) fR) dO))
 (aI (bI 3 ([] ++ []) (f2 (gv 3) (cst (.int 1000000007)) mw))
 (bE (f2 (f2 (f2 (f2 (gv 3) (gv 3) fR) (f2 (cst (.int 48271)) (gv 1) fR) dO) (cst (.int 1000000007)) mw) (cst (.int 7)) Dw)))))
def jt (dE eN:List D->FR):SF:=(aI (bI 2 ([0] ++ ([1] ++ [])) (aw dE (aa (gv 0) (aa (gv 1) af))))
 (aI (j6 (([] ++ []) ++ []) (cK (f2 (f2 (gv 2) (cst (.int 2)) mw) (cst (.int 0)) (cF false)))
 (nX (aY (aa (f2 (f1 (gv 2) E3) (cst (.int 2)) Dw) af)))
 mU)
 (aI (bI 3 [] (cst (.int 0)))
 (aI (dr (.nm 4) [] (gk (cst (.int 40)))
 (bI 3 (([] ++ []) ++ ([2] ++ ([4] ++ []))) (f2 (f2 (gv 3) (cst (.int 142857143)) fR) (aw eN (aa (gv 2) (aa (gv 4) af))) dO)))
 (nX (aY (aa (gv 3) af)))))))
def dg (aC:List D->Int->FB):SF:=(aI (jU 2 [] (f1 (gv 1) CS))
 (aI (jU 3 [] (aY af))
 (aI (iQ ([] ++ []) (cK (f2 (gv 2) (aY af) (cF true)))
 (jf 3 2 ([] ++ []) (jK 0 aC (aa (f1 (gv 2) cZ) af))) 1000)
 (sN 3))))
noncomputable def fu:SF:=(aI (bI 1 [] (f1 (gv 0) cn))
 (aI (bI 2 [] (f1 (cst (.int 1)) vH))
 (aI (iQ ([] ++ []) (cK (f2 (gv 2) (f1 (gv 1) cZ) (cF true)))
 (aI (bI 2 [] (f1 (gv 1) cZ))
 (aI (bI 3 [] (aY af))
 (aI (dr (.two 4 5) [1] (bN (gv 1))
 (bI 3 ([] ++ ([] ++ [4])) (f2 (gv 3) (aX 2 [5,4] (.two 0 1) (bN (gv 1)) (cK (f2 (gv 0) (gv 2) (cF false))) (bK (aa (gv 3) (aa (gv 1) af)))) dH)))
 (bI 1 ([] ++ []) (f1 (f2 (gv 1) (gv 3) dH) cn))))) 1000)
 (bE (f1 (gv 1) uQ)))))
def gG (cy:List D->FR)(aC aQ:List D->Int->FB):SF:=(aI (bI 2 ([] ++ ([1] ++ [])) (f2 (cst (.int 1)) (jK 0 aC (aa (gv 1) af)) dO))
 (aI (bI 3 ([] ++ []) (jK 0 aQ (aa (f1 (gv 2) cY) af)))
 (aI (bI 4 (([] ++ ([] ++ ([] ++ ([] ++ [])))) ++ ([] ++ [])) (f2 (aY (aa (cst (.int 2)) (aa (cst (.int 3)) (aa (cst (.int 4)) (aa (cst (.int 7)) af))))) (jK 0 aC (aa (cst (.int 4)) af)) cG))
 (aI (jU 5 [] (aY af))
 (aI (dr (.nm 6) [] (gk (gv 2))
 (dr (.nm 7) (([] ++ []) ++ []) (rY (f2 (gv 6) (cst (.int 1)) dO) (gv 2))
 (j6 (([4] ++ []) ++ []) (cK (f2 (jK 0 aC (aa (gv 4) af)) (cst (.int 0)) (cF false)))
 (lP 5 (([] ++ []) ++ (([] ++ []) ++ [])) (bK (aa (f2 (gv 3) (gv 6) cG) (aa (f2 (gv 3) (gv 7) cG) af))))
 mU)))
 (bE (bK (aa (gv 2) (aa (aw cy (aa (gv 5) af)) af)))))))))
def l4:SF:=(bE (fX (f2 (gv 1) (gv 2) (cF true)) (fX (f2 (bK (aa (gv 1) (aa (gv 2) af))) (f2 (gv 0) (cst (.int 1)) cG) (uC true)) (f2 (bK (aa (gv 2) (aa (gv 1) af))) (f2 (gv 0) (cst (.int 1)) cG) (uC true)))))
def wx:D->Bool
 | .int _=>true
 |_=>false
def j8:List D->FR
 | [d]=>if bM d=true then .bad else .ok (.bool (wx d)) false
 |_=>.bad
def mF {d:D}(h:bM d=false):j8 [d]=.ok (.bool (wx d)) false:=Nd (by rw[h];exact Nq)
def yN (ds:List D)(h:j8 ds≠.bad):bg 1 1 p5 ds=j8 ds:=by
 unfold j8 at h
 split at h
 ·rename_i d
  cases q:bM d with
  |true=>rw[q] at h;exact absurd rfl h
  |false=>
   rw[mF q]
   have e1:gZ "int" d=some (.bool (C3 d "int")):=by unfold gZ;rw[q];rfl
   have e2:gZ "bool" d=some (.bool (C3 d "bool")):=by unfold gZ;rw[q];rfl
   show fin (bE (fX (f1 (gv 0) (gZ "int")) (f1 (f1 (gv 0) (gZ "bool")) wM)) [.fz d] 0)=_
   unfold bE fX f1 gv
   simp only[sU,xT,xj,List.getElem?_cons_zero,xm,ui,lQ,e1,e2]
   cases d <;> rfl
 ·exact absurd rfl h
def jJ (d:D)(n:Int):Bool:=match d with
 | .int i=>decide (0<=i/\i < n)
 |_=>false
def fU:List D->FR
 | [d,.int n]=>if bM d=true then .bad else .ok (.bool (jJ d n)) false
 |_=>.bad
def zC {d:D}{n:Int}(h:bM d=false):fU [d,.int n]=.ok (.bool (jJ d n)) false:=Nd (by rw[h];exact Nq)
def vS {i lo n:Int}{vs:List Nv}{β:Int}{fa fb fc:VF D}{g':D->D->Option D}{q:Bool}(ha:fa vs β=.ok (.int lo) β)(hb:fb vs β=.ok (.int i) β)(hc:fc vs β=.ok (.int n) β)(hq:g' (.int i) (.int n)=some (.bool q)):jr fa fb fc BJ g' vs β=.ok (.bool (decide (lo<=i) && q)) β:=by
 unfold jr
 rw[ha];dsimp only[R.bnd];rw[hb];dsimp only[R.bnd]
 show (match (some (PyData.bool (decide (lo<=i))):Option D) with
  |some (.bool true)=>_
  |some (.bool false)=>_
  |_=>_)=_
 by_cases h:lo<=i
 ·rw[Nc h]
  dsimp only
  rw[hc]
  dsimp only[R.bnd]
  rw[hq];rfl
 ·rw[Nj h];rfl
def EC (ds:List D)(h:fU ds≠.bad):bg 2 2 (qm j8) ds=fU ds:=by
 unfold fU at h
 split at h
 ·rename_i d n
  cases q:bM d with
  |true=>rw[q] at h;exact absurd rfl h
  |false=>
   rw[zC q]
   show fin (bE (fX (aw j8 (aa (gv 0) af)) (jr (cst (.int 0)) (gv 0) (gv 1) BJ DZ)) [.fz d,.fz (.int n)] 0)=_
   unfold bE fX aw
   simp only[sU,xT,xj,cc,zh,GO,List.getElem?_cons_zero,xm,ui,lQ,mF q]
   cases d with
   |int i=>
    show fin (toS (jr (cst (.int 0)) (gv 0) (gv 1) BJ DZ [.da (.int i),.da (.int n)] 0) _)=_
    rw[vS (lo:=0) (i:=i) (n:=n) rfl rfl rfl rfl]
    show FR.ok (.bool (decide (0<=i) && decide (i < n))) false=.ok (.bool (decide (0<=i/\i < n))) false
    rw[Bool.decide_and]
   |_=>rfl
 ·exact absurd rfl h
def Gx (d:D):Bool:=match d with
 | .int i=>decide (1<=i/\i<=8)
 |_=>false
def lu:List D->FR
 | [d]=>if bM d=true then .bad else .ok (.bool (Gx d)) false
 |_=>.bad
def DJ {d:D}(h:bM d=false):lu [d]=.ok (.bool (Gx d)) false:=Nd (by rw[h];exact Nq)
def G6 (ds:List D)(h:lu ds≠.bad):bg 1 1 (su j8) ds=lu ds:=by
 unfold lu at h
 split at h
 ·rename_i d
  cases q:bM d with
  |true=>rw[q] at h;exact absurd rfl h
  |false=>
   rw[DJ q]
   show fin (bE (fX (aw j8 (aa (gv 0) af)) (jr (cst (.int 1)) (gv 0) (cst (.int 8)) BJ BJ)) [.fz d] 0)=_
   unfold bE fX aw
   simp only[sU,xT,xj,cc,zh,GO,List.getElem?_cons_zero,xm,ui,lQ,mF q]
   cases d with
   |int i=>
    show fin (toS (jr (cst (.int 1)) (gv 0) (cst (.int 8)) BJ BJ [.da (.int i)] 0) _)=_
    rw[vS (lo:=1) (i:=i) (n:=8) rfl rfl rfl rfl]
    show FR.ok (.bool (decide (1<=i) && decide (i<=8))) false=.ok (.bool (decide (1<=i/\i<=8))) false
    rw[Bool.decide_and]
   |_=>rfl
 ·exact absurd rfl h
def pairF:List D->FR
 | [d,.int n]=>(match qu d with
  |some p=>.ok (.bool (decide ((0<=p.1/\p.1 < n)/\(0<=p.2/\p.2 < n)))) false
  |none=>.bad)
 |_=>.bad
def CT (p:Pr)(n:Int):pairF [aK p,.int n]=.ok (.bool (decide ((0<=p.1/\p.1 < n)/\(0<=p.2/\p.2 < n)))) false:=rfl
def HF (ds:List D)(h:pairF ds≠.bad):bg 2 2 (rH fU) ds=pairF ds:=by
 unfold pairF at h
 split at h
 ·rename_i d n
  cases q:qu d with
  |none=>rw[q] at h;exact absurd rfl h
  |some p=>
   obtain rfl:=vb q
   rw[CT]
   obtain⟨a,b⟩:=p
   show fin (toS (fX (aw fU (aa (f2 (gv 0) (cst (.int 0)) cG) (aa (gv 1) af))) (aw fU (aa (f2 (gv 0) (cst (.int 1)) cG) (aa (gv 1) af))) [.da (.tuple [.int a,.int b]),.da (.int n)] 0) λd β'=>.rt d false β')=_
   have e1:aw fU (aa (f2 (gv 0) (cst (.int 0)) cG) (aa (gv 1) af)) [.da (.tuple [.int a,.int b]),.da (.int n)] 0=.ok (.bool (decide (0<=a/\a < n))) 0:=rfl
   have e2:aw fU (aa (f2 (gv 0) (cst (.int 1)) cG) (aa (gv 1) af)) [.da (.tuple [.int a,.int b]),.da (.int n)] 0=.ok (.bool (decide (0<=b/\b < n))) 0:=rfl
   unfold fX
   rw[e1]
   dsimp only[R.bnd]
   by_cases c:0<=a/\a < n
   ·rw[Nc c,e2]
    show FR.ok (.bool (decide (0<=b/\b < n))) false=.ok (.bool (decide ((0<=a/\a < n)/\(0<=b/\b < n)))) false
    simp[c]
   ·rw[Nj c]
    show FR.ok (.bool false) false=.ok (.bool (decide ((0<=a/\a < n)/\(0<=b/\b < n)))) false
    simp[c]
 ·exact absurd rfl h
def aA (n:Nat)(l:List Pr):D:=.tuple [.int n,.tuple (l.map aK)]
open Classical in
noncomputable def rL (f:Nat->List Pr->FR):D->FR:=λd=>if h:∃nl:Nat×List Pr,d=aA nl.1 nl.2/\OM.Ord nl.1 nl.2 then f (Classical.choose h).1 (Classical.choose h).2 else .bad
def FD {p q:Pr}(h:aK p=aK q):p=q:=by
 obtain⟨a,b⟩:=p
 obtain⟨c,d⟩:=q
 unfold aK at h
 simp at h
 rw[h.1,h.2]
theorem nY:∀{l m:List Pr},l.map aK=m.map aK->l=m
 | [],[],_=>rfl
 | [],_ :: _,h=>by cases h
 |_ :: _,[],h=>by cases h
 |p :: l,q :: m,h=>by
  simp only[NO,List.cons.injEq] at h
  rw[FD h.1,nY h.2]
def CJ {n m:Nat}{l k:List Pr}(h:aA n l=aA m k):n=m/\l=k:=by
 unfold aA at h
 simp only[PyData.tuple.injEq,List.cons.injEq,int.injEq,and_true] at h
 exact⟨by omega,nY h.2⟩
def wN {f:Nat->List Pr->FR}{n:Nat}{l:List Pr}(O:OM.Ord n l):rL f (aA n l)=f n l:=by
 unfold rL
 have h:∃nl:Nat×List Pr,aA n l=aA nl.1 nl.2/\OM.Ord nl.1 nl.2:=⟨(n,l),rfl,O⟩
 rw[dif_pos h]
 obtain⟨e,_⟩:=Classical.choose_spec h
 obtain⟨e1,e2⟩:=CJ e
 rw[<-e1,<-e2]
def wO {f:Nat->List Pr->FR}{d:D}(h:rL f d≠.bad):∃n l,d=aA n l/\OM.Ord n l:=by
 unfold rL at h
 by_cases q:∃nl:Nat×List Pr,d=aA nl.1 nl.2/\OM.Ord nl.1 nl.2
 ·obtain⟨nl,e,O⟩:=q;exact⟨nl.1,nl.2,e,O⟩
 ·rw[dif_neg q] at h;exact absurd rfl h
noncomputable def cN:List D->FR
 | [.int n,d]=>(match ig d with
  |some ds=>(match fY ds with
   |some ps=>(open Classical in if 1<=n/\n<=8/\OM.Wn n.toNat ps then .ok (.tuple ((OM.b4 n.toNat (OM.Tr (OM.Mem ps))).map aK)) false else .bad)
   |none=>.bad)
  |none=>.bad)
 |_=>.bad
def DM {n:Nat}{ps:List Pr}(h1:1<=n)(h8:n<=8)(w:OM.Wn n ps):cN [.int n,.tuple (ps.map aK)]=.ok (.tuple ((OM.b4 n (OM.Tr (OM.Mem ps))).map aK)) false:=by
 unfold cN
 simp only[ig,hJ]
 rw[M7 ⟨by omega,by omega,by rw[NM];exact w⟩,NM]
def jT:List D->FR
 | [.tuple ds]=>(match fY ds with
  |some ps=>if ps.length<=1000 then .ok (.bool (ps.any λp=>decide (p.1=p.2))) false else .bad
  |none=>.bad)
 |_=>.bad
theorem gL {α:Type}(f:α->Bool):∀l:List α,kH (l.map λx=>PyData.bool (f x))=some (l.map f)
 | []=>rfl
 |x :: l=>by
  show (kH (l.map λx=>PyData.bool (f x))).map (f x :: ·)=_
  rw[gL f l];rfl
def Hd (ds:List D)(h:jT ds≠.bad):bg 1 1 qg ds=jT ds:=by
 unfold jT at h
 split at h
 ·rename_i ds
  cases q:fY ds with
  |none=>rw[q] at h;exact absurd rfl h
  |some ps=>
   rw[q] at h
   dsimp only at h
   by_cases hz:ps.length<=1000
   case neg=>rw[Nd hz] at h;exact absurd rfl h
   obtain rfl:=kQ q
   have e:jT [.tuple (ps.map aK)]=.ok (.bool (ps.any λp=>decide (p.1=p.2))) false:=by
    unfold jT;simp only[hJ];rw[M7 hz]
   rw[e]
   have ec:aX 2 [] (.two 0 1) (bN (gv 0)) sk (f2 (gv 0) (gv 1) (cF false)) [.da (.tuple (ps.map aK))] 0=.ok (.list (ps.map λp=>PyData.bool (decide (p.1=p.2)))) 0:=by
    exact je (l:=ps) (e:=aK) (λp=>PyData.bool (decide (p.1=p.2))) rfl hz λp hp=>⟨_,rfl,rfl⟩
   show fin (toS ((aX 2 [] (.two 0 1) (bN (gv 0)) sk (f2 (gv 0) (gv 1) (cF false)) [.da (.tuple (ps.map aK))] 0).bnd λx β1=>R.of (cA (λbs=>bs.any id) x) β1) λd β'=>.rt d false β')=_
   rw[ec]
   simp only[lQ,cA]
   rw[gL]
   simp[fin,List.any_map]
 ·exact absurd rfl h
def sR (p:Pr):SeqAt.shaped (aK p)=true:=rfl
theorem y9:∀l:List Pr,PyData.canLayAll0 (l.map aK)=true
 | []=>rfl
 |p :: l=>by
  show ((aK p).canLay0 && PyData.canLayAll0 (l.map aK))=true
  rw[y9 l];rfl
theorem zz:∀l:List Pr,PyData.depthAll (l.map aK)<=1
 | []=>by show (0:Nat)<=1;omega
 |p :: l=>by
  show max (aK p).depth (PyData.depthAll (l.map aK))<=1
  have h1:(aK p).depth=1:=by simp[aK,PyData.depth,PyData.depthAll]
  have h2:=zz l
  omega
def qk (l:List Pr):SeqAt.shaped (.tuple (l.map aK))=true:=by
 unfold SeqAt.shaped
 have h1:(PyData.tuple (l.map aK)).canLay0=true:=by simp only[PyData.canLay0];exact y9 l
 have h2:(PyData.tuple (l.map aK)).depth<=64:=by simp only[PyData.depth];have:=zz l;omega
 rw[h1,Nc h2];rfl
def Bo (p q:Pr):PyData.eqv (aK p) (aK q)=decide (p=q):=by
 obtain⟨a,b⟩:=p
 obtain⟨c,d⟩:=q
 simp only[aK,PyData.eqv,PyData.eqvAll,Bool.and_true]
 rw[NY]
 simp
theorem zp:∀l m:List Pr,PyData.eqvAll (l.map aK) (m.map aK)=decide (l=m)
 | [],[]=>rfl
 | [],_ :: _=>rfl
 |_ :: _,[]=>rfl
 |p :: l,q :: m=>by
  show (PyData.eqv (aK p) (aK q) && PyData.eqvAll (l.map aK) (m.map aK))=_
  rw[Bo,zp l m,NY]
  simp
def yE {n:Nat}{l:List Pr}(O:OM.Ord n l):l.length < 64:=by
 have h8:=O.hi
 have e:=O.closed
 by_cases h:l.length < 64
 ·exact h
 ·exfalso
  have h1:l.length<=n * n:=by rw[<-e];exact OM.Bq _ _
  have h2:n * n<=64:=Ot h8 h8
  have hn:n=8:=by
   by_cases h7:n<=7
   ·have:n * n<=7 * 7:=Ot h7 h7
    omega
   ·omega
  have hlen:l.length=n * n:=by subst hn;omega
  have hg:l=OM.eQ n:=by
   refine OM.sub_eq O.ris (OM.mO n) (λx hx=>OM.cu.mpr (O.wn x hx)) ?_
   rw[hlen];unfold OM.eQ;simp
  have:((0:Int),(0:Int))∈l:=by rw[hg];exact OM.cu.mpr ⟨⟨by omega,by omega⟩,by omega,by omega⟩
  exact O.irr 0 this
def Ca {n:Nat}(h1:1<=n)(h8:n<=8):lu [.int n]=.ok (.bool true) false:=by
 rw[DJ rfl]
 show FR.ok (.bool (decide (1<=(n:Int)/\(n:Int)<=8))) false=_
 rw[Nc (by omega)]
def Cb (neg:Bool)(l m:List Pr):cF neg (.tuple (l.map aK)) (.tuple (m.map aK))=some (.bool (if neg then !decide (l=m) else decide (l=m))):=by
 unfold cF
 rw[qk,qk]
 simp only[PK,Ob,PyData.eqv,zp]
def E7 {n:Nat}{l:List Pr}(O:OM.Ord n l):jT [.tuple (l.map aK)]=.ok (.bool false) false:=by
 have hl:=yE O
 unfold jT
 simp only[hJ]
 rw[M7 (by omega)]
 have:(l.any λp=>decide (p.1=p.2))=false:=by
  rw[P4]
  intro p hp
  simp only[Nx]
  intro e
  obtain⟨a,b⟩:=p
  simp only at e
  subst e
  exact O.irr a hp
 rw[this]
def Az {n:Nat}{l:List Pr}(O:OM.Ord n l):bg 3 1 (gX lu pairF cN jT) [aA n l]=.ok (.bool true) false:=by
 have hl:=yE O
 show fin (gX lu pairF cN jT [.fz (aA n l),.no,.no] 0)=_
 unfold gX
 rw[aF (env':=[.fz (aA n l),.no,.no]) (β':=0) (by rfl)]
 rw[aF (env':=[.fz (aA n l),.fz (.int n),.no]) (β':=0) (by rfl)]
 rw[aF (env':=[.fz (aA n l),.fz (.int n),.fz (.tuple (l.map aK))]) (β':=0) (by rfl)]
 have e4:aw lu (aa (gv 1) af) [.da (aA n l),.da (.int n),.da (.tuple (l.map aK))] 0=.ok (.bool true) 0:=aH rfl (Ca O.lo O.hi)
 rw[aF (env':=[.fz (aA n l),.fz (.int n),.fz (.tuple (l.map aK))]) (β':=0) ?h4]
 case h4=>
  refine kz ?_
  show lT (sF (j4 (aw lu (aa (gv 1) af)))) _ [.da (aA n l),.da (.int n),.da (.tuple (l.map aK))] 0=_
  rw[uD,uK,ux,e4]
  rfl
 have e5:aX 1 [1] (.nm 0) (bN (gv 2)) sk (aw pairF (aa (gv 0) (aa (gv 1) af))) [.da (aA n l),.da (.int n),.da (.tuple (l.map aK))] 0=.ok (.list (l.map λ_=>PyData.bool true)) 0:=by
  refine je (l:=l) (e:=aK) (λ_=>PyData.bool true) rfl (by omega) λp hp=>⟨_,rfl,?_⟩
  refine aH (b:=false) (ds:=[aK p,.int n]) rfl ?_
  rw[CT,Nc (by have:=O.wn p hp;exact this)]
 rw[aF (env':=[.fz (aA n l),.fz (.int n),.fz (.tuple (l.map aK))]) (β':=0) ?h5]
 case h5=>
  refine kz ?_
  show sF (j4 (f1 (aX 1 [1] (.nm 0) (bN (gv 2)) sk (aw pairF (aa (gv 0) (aa (gv 1) af)))) (cA λbs=>bs.all id))) [.da (aA n l),.da (.int n),.da (.tuple (l.map aK))] 0=_
  rw[uK,ux,b7 (d:=.bool true) e5 (by simp only[cA];rw[gL];simp)]
  rfl
 have e6:aw cN (aa (gv 1) (aa (gv 2) af)) [.da (aA n l),.da (.int n),.da (.tuple (l.map aK))] 0=.ok (.tuple (l.map aK)) 0:=aH rfl (by rw[DM O.lo O.hi O.wn,O.closed])
 have e7:aw jT (aa (gv 2) af) [.da (aA n l),.da (.int n),.da (.tuple (l.map aK))] 0=.ok (.bool false) 0:=aH rfl (E7 O)
 show fin (toS (fX (f2 (gv 2) (aw cN (aa (gv 1) (aa (gv 2) af))) (cF false)) (f1 (aw jT (aa (gv 2) af)) wM) [.da (aA n l),.da (.int n),.da (.tuple (l.map aK))] 0) _)=_
 unfold fX
 rw[aG (d:=.bool true) (x:=.tuple (l.map aK)) rfl e6 (by rw[Cb];simp)]
 dsimp only[R.bnd]
 rw[b7 (d:=.bool true) e7 rfl]
 rfl
noncomputable def dP:List D->FR
 | [d]=>rL (λ_ _=>.ok (.bool true) false) d
 |_=>.bad
def rN {n:Nat}{l:List Pr}(O:OM.Ord n l):dP [aA n l]=.ok (.bool true) false:=by simp only[dP];exact wN O
def xO (ds:List D)(h:dP ds≠.bad):bg 3 1 (gX lu pairF cN jT) ds=dP ds:=by
 unfold dP at h
 split at h
 ·obtain⟨n,l,rfl,O⟩:=wO h
  rw[Az O,rN O]
 ·exact absurd rfl h
noncomputable def oA:List D->FR
 | [d]=>rL (λ_ _=>.ok .none false) d
 |_=>.bad
def x6 {n:Nat}{l:List Pr}(O:OM.Ord n l):oA [aA n l]=.ok .none false:=by simp only[oA];exact wN O
def Fb (ds:List D)(h:oA ds≠.bad):bg 1 1 (gF dP) ds=oA ds:=by
 unfold oA at h
 split at h
 ·obtain⟨n,l,rfl,O⟩:=wO h
  rw[x6 O]
  have e:aw dP (aa (gv 0) af) [.da (aA n l)] 0=.ok (.bool true) 0:=aH (ds:=[aA n l]) rfl (rN O)
  show fin (gF dP [.fz (aA n l)] 0)=_
  unfold gF
  rw[kz (β':=0)]
  ·rfl
  ·show sF (j4 (aw dP (aa (gv 0) af))) [.da (aA n l)] 0=_
   rw[uK,ux,e];rfl
 ·exact absurd rfl h
abbrev cJ (ns:List Int):D:=.dict [(.none,.list (ns.map int))]
def qe {i j:Int}(h: -(2 ^ 64) < i/\i < 2 ^ 64):fR (.int i) (.int j)=some (.int (i * j)):=M7 (by dsimp only;rw[Nc h.1,Nc h.2];rfl)
def Hr {i j:Int}(h: -(2 ^ 64) < j/\j < 2 ^ 64):fR (.int i) (.int j)=some (.int (i * j)):=M7 (by dsimp only;rw[Nc h.1,Nc h.2,PK,Bool.or_true])
def pU {i j:Int}(h:0 < j):mw (.int i) (.int j)=some (.int (i % j)):=M7 (Nc h)
def Cj {i j:Int}(h:0 < j)(h2:j < 1073741824):Dw (.int i) (.int j)=some (.int (i / j)):=M7 (by dsimp only;rw[Nc h,Nc h2];rfl)
theorem mH {α β:Type}(f:α->β)(l:List α)(i:Int):kg (l.map f) i=(kg l i).map f:=by
 unfold kg
 rw[Na]
 cases vG l.length i with
 |none=>rfl
 |some j=>simp
def tG {α:Type}{l:List α}{k:Nat}(h:k < l.length):kg l (k:Int)=some l[k]:=jO (M1 h)
def Iy {fa fb:VF D}{vs:List Nv}{β β1 β2:Int}{i j:Int}(h:fa vs β=.ok (.int i) β1)(h':fb vs β1=.ok (.int j) β2):cK (f2 fa fb DZ) vs β=.ok (decide (i < j)) β2:=cB _ _ _ _ (aG h h' rfl)
def kX {neg:Bool}{fa fb:VF D}{vs:List Nv}{β β1 β2:Int}{i j:Int}(h:fa vs β=.ok (.int i) β1)(h':fb vs β1=.ok (.int j) β2):cK (f2 fa fb (cF neg)) vs β=.ok (if neg then !decide (i=j) else decide (i=j)) β2:=by
 refine cB _ _ _ _ (aG h h' ?_)
 cases neg <;> rfl
def HZ (ns:List Int)(k:Nat):∃z,bg 2 2 fL [cJ ns,.int k]=.ok (.int z) false:=by
 show ∃z,fin (fL [.fz (cJ ns),.fz (.int k)] 0)=.ok (.int z) false
 unfold fL
 have e:cK (f2 (gv 1) (f1 (gv 0) cZ) DZ) [.da (cJ ns),.da (.int k)] 0=.ok (decide ((k:Int) < (ns.map int).length)) 0:=Iy rfl rfl
 by_cases h:k < ns.length
 ·refine⟨ns[k],?_⟩
  rw[Nc (by simp;exact h)] at e
  rw[mP (d:=.int ns[k]) (b:=false) (β':=0)]
  ·rfl
  ·rw[lr e]
   show toS (f2 (gv 0) (gv 1) cG [.da (cJ ns),.da (.int k)] 0) _=_
   rw[aG (x:=cJ ns) (y:=.int k) (d:=.int ns[k]) (β1:=0) (β2:=0) rfl rfl]
   ·rfl
   ·show kg (ns.map int) (k:Int)=_
    rw[mH,tG h];rfl
 ·refine⟨0,?_⟩
  rw[Nj (by simp;omega)] at e
  rw[aF (env':=[.fz (cJ ns),.fz (.int k)]) (β':=0)]
  ·rfl
  ·rw[kz e];rfl
noncomputable def zG:List D->FR:=bg 2 2 fL
noncomputable def Cg:List D->FR:=bg 4 2 jz
abbrev xf:List Int:=[48271,69621,16807,39373,30269,40014,40692,50021,61687,71993,83869,95561,30307]
def Kq (c k:Int):∃z,Cg [.int c,.int k]=.ok (.int z) false:=by
 show ∃z,fin (jz [.fz (.int c),.fz (.int k),.no,.no] 0)=.ok (.int z) false
 unfold jz
 rw[aF (env':=[.fz (.int c),.fz (.int k),.fz (.list (xf.map int)),.no]) (β':=0) (by rfl)]
 obtain⟨j,hj⟩:∃j:Nat,k % 13=j:=⟨(k % 13).toNat,by omega⟩
 have hj13:j < xf.length:=by show j < 13;omega
 have e1:f2 (f2 (f2 (f2 (f2 (gv 0) (cst (.int 2147483647)) mw) (cst (.int 12345)) dO) (f2 (gv 2) (f2 (gv 1) (cst (.int 13)) mw) cG) fR) (f2 (cst (.int 977)) (gv 1) fR) dO) (f2 (cst (.int 7919)) (f2 (gv 1) (cst (.int 13)) Dw) fR) dO [.da (.int c),.da (.int k),.da (.list (xf.map int)),.no] 0
   =.ok (.int ((c % 2147483647 + 12345) * xf[j] + 977 * k + 7919 * (k / 13))) 0:=by
  refine aG (aG (aG (aG (aG (x:=.int c) (y:=.int 2147483647) rfl rfl (pU (by omega))) rfl rfl) (aG (x:=.list (xf.map int)) rfl (aG (x:=.int k) (y:=.int 13) rfl rfl (pU (by omega))) (d:=.int xf[j]) ?_) (qe ⟨by omega,by omega⟩)) (aG (x:=.int 977) (y:=.int k) rfl rfl (qe ⟨by omega,by omega⟩)) rfl) (aG (x:=.int 7919) rfl (aG (x:=.int k) (y:=.int 13) rfl rfl (Cj (by omega) (by omega))) (qe ⟨by omega,by omega⟩)) rfl
  show kg (xf.map int) (k % 13)=_
  rw[hj,mH,tG hj13];rfl
 generalize ((c % 2147483647 + 12345) * xf[j] + 977 * k + 7919 * (k / 13))=st at e1
 rw[aF (env':=[.fz (.int c),.fz (.int k),.fz (.list (xf.map int)),.fz (.int st)]) (β':=0) ?h]
 case h=>
  show toS (f2 _ _ dO [.da (.int c),.da (.int k),.da (.list (xf.map int)),.no] 0) _=_
  rw[e1];rfl
 have e2:f2 (gv 3) (cst (.int 1000000007)) mw [.da (.int c),.da (.int k),.da (.list (xf.map int)),.da (.int st)] 0=.ok (.int (st % 1000000007)) 0:=aG rfl rfl (pU (by omega))
 rw[aF (env':=[.fz (.int c),.fz (.int k),.fz (.list (xf.map int)),.fz (.int (st % 1000000007))]) (β':=0) ?h2]
 case h2=>
  show toS (f2 (gv 3) (cst (.int 1000000007)) mw [.da (.int c),.da (.int k),.da (.list (xf.map int)),.da (.int st)] 0) _=_
  rw[e2];rfl
 have hb: -(2 ^ 64) < st % 1000000007/\st % 1000000007 < 2 ^ 64:=⟨by omega,by omega⟩
 generalize st % 1000000007=u at hb
 have e3:f2 (f2 (f2 (f2 (gv 3) (gv 3) fR) (f2 (cst (.int 48271)) (gv 1) fR) dO) (cst (.int 1000000007)) mw) (cst (.int 7)) Dw [.da (.int c),.da (.int k),.da (.list (xf.map int)),.da (.int u)] 0=.ok (.int ((u * u + 48271 * k) % 1000000007 / 7)) 0:=
  aG (aG (aG (aG (x:=.int u) (y:=.int u) rfl rfl (qe hb)) (aG (x:=.int 48271) (y:=.int k) rfl rfl (qe ⟨by omega,by omega⟩)) rfl) rfl (pU (by omega))) rfl (Cj (by omega) (by omega))
 refine⟨(u * u + 48271 * k) % 1000000007 / 7,?_⟩
 show fin (toS (f2 _ (cst (.int 7)) Dw [.da (.int c),.da (.int k),.da (.list (xf.map int)),.da (.int u)] 0) _)=_
 rw[e3];rfl
noncomputable def Ih:List D->FR:=bg 5 2 (jt zG Cg)
def KJ (ns:List Int)(k:Nat):∃z,Ih [cJ ns,.int k]=.ok (.list [.int z]) true:=by
 obtain⟨c,hc⟩:=HZ ns k
 show ∃z,fin (jt zG Cg [.fz (cJ ns),.fz (.int k),.no,.no,.no] 0)=.ok (.list [.int z]) true
 unfold jt
 have e0:aw zG (aa (gv 0) (aa (gv 1) af)) [.da (cJ ns),.da (.int k),.no,.no,.no] 0=.ok (.int c) 0:=aH rfl hc
 rw[aF (env':=[.fz (cJ ns),.fz (.int k),.fz (.int c),.no,.no]) (β':=0) ?h]
 case h=>
  show toS (aw zG _ [.da (cJ ns),.da (.int k),.no,.no,.no] 0) _=_
  rw[e0];rfl
 have e1:cK (f2 (f2 (gv 2) (cst (.int 2)) mw) (cst (.int 0)) (cF false)) [.da (cJ ns),.da (.int k),.da (.int c),.no,.no] 0=.ok (decide (c % 2=0)) 0:=kX (neg:=false) (aG rfl rfl (pU (by omega))) rfl
 by_cases h:c % 2=0
 ·rw[Nc h] at e1
  refine⟨(if c < 0 then -c else c) / 2,?_⟩
  rw[mP (d:=.list [.int ((if c < 0 then -c else c) / 2)]) (b:=true) (β':=0)]
  ·rfl
  ·rw[lr e1]
   show toS (aY (aa (f2 (f1 (gv 2) E3) (cst (.int 2)) Dw) af) [.da (cJ ns),.da (.int k),.da (.int c),.no,.no] 0) _=_
   rw[dJ (ds:=[.int ((if c < 0 then -c else c) / 2)]) (β1:=0)]
   ·rfl
   ·have e2:f2 (f1 (gv 2) E3) (cst (.int 2)) Dw [.da (cJ ns),.da (.int k),.da (.int c),.no,.no] 0=.ok (.int ((if c < 0 then -c else c) / 2)) 0:=aG (b7 (x:=.int c) rfl rfl) rfl (Cj (by omega) (by omega))
    rw[cc,e2];rfl
   ·simp
 ·rw[Nj h] at e1
  rw[aF (env':=[.fz (cJ ns),.fz (.int k),.fz (.int c),.no,.no]) (β':=0) (by rw[kz e1];rfl)]
  rw[aF (env':=[.fz (cJ ns),.fz (.int k),.fz (.int c),.fz (.int 0),.no]) (β':=0) (by rfl)]
  obtain⟨env',β',el,z,x,rfl,rfl⟩:=fO (t:=.nm 4) (m:=bI 3 (([] ++ []) ++ ([2] ++ ([4] ++ []))) (f2 (f2 (gv 3) (cst (.int 142857143)) fR) (aw Cg (aa (gv 2) (aa (gv 4) af))) dO)) (ds:=cC 0 40) (k:=0)
   (λ_ env β=>∃(z:Int) (x:Sl),env= [.fz (cJ ns),.fz (.int k),.fz (.int c),.fz (.int z),x]/\β=0) (env:=[.fz (cJ ns),.fz (.int k),.fz (.int c),.fz (.int 0),.no]) (β:=0) ⟨0,.no,rfl,rfl⟩ (by
    rintro i d env β hi ⟨z,x,rfl,rfl⟩
    obtain⟨j,rfl⟩:∃j:Int,d=.int j:=by
     unfold cC at hi
     rw[Ng] at hi
     cases q:(List.range 40)[i]? with
     |none=>rw[q] at hi;cases hi
     |some j=>rw[q] at hi;cases hi;exact⟨_,rfl⟩
    obtain⟨y,hy⟩:=Kq c j
    refine⟨_,rfl,_,_,?_,z * 142857143 + y,.fz (.int j),rfl,rfl⟩
    show toS (f2 (f2 (gv 3) (cst (.int 142857143)) fR) (aw Cg (aa (gv 2) (aa (gv 4) af))) dO [.da (cJ ns),.da (.int k),.da (.int c),.da (.int z),.da (.int j)] 0) _=_
    rw[aG (d:=.int (z * 142857143 + y)) (aG (x:=.int z) (y:=.int 142857143) (β1:=0) (β2:=0) rfl rfl (Hr ⟨by omega,by omega⟩)) (aH (ds:=[.int c,.int j]) (β1:=0) rfl hy) rfl]
    rfl)
  refine⟨z,?_⟩
  rw[aF (env':=[.fz (cJ ns),.fz (.int k),.fz (.int c),.fz (.int z),x]) (β':=0) ?h2]
  case h2=>exact el
  show fin (toS (aY (aa (gv 3) af) [.da (cJ ns),.da (.int k),.da (.int c),.da (.int z),x.val] 0) _)=_
  rw[dJ (ds:=[.int z]) (β1:=0) rfl (by simp)]
  rfl
noncomputable def kK:List D->Int->FB:=oP 4 1 (dg bX)
theorem lay_ints:∀ns:List Int,PyData.canLayAll0 (ns.map int)=true
 | []=>rfl
 |n :: ns=>by
  show ((int n).canLay0 && PyData.canLayAll0 (ns.map int))=true
  rw[lay_ints ns];rfl
theorem pS:∀ns:List Int,PyData.depthAll (ns.map int)=0
 | []=>rfl
 |n :: ns=>by
  show max (int n).depth (PyData.depthAll (ns.map int))=0
  rw[pS ns];rfl
def shaped_ints (ns:List Int):SeqAt.shaped (.list (ns.map int))=true:=by
 unfold SeqAt.shaped
 have h1:(PyData.list (ns.map int)).canLay0=true:=by simp only[PyData.canLay0];exact lay_ints ns
 have h2:(PyData.list (ns.map int)).depth<=64:=by simp only[PyData.depth];rw[pS];omega
 rw[h1,Nc h2];rfl
theorem pE:∀l m:List Int,PyData.eqvAll (l.map int) (m.map int)=decide (l=m)
 | [],[]=>rfl
 | [],_ :: _=>rfl
 |_ :: _,[]=>rfl
 |p :: l,q :: m=>by
  show ((p == q) && PyData.eqvAll (l.map int) (m.map int))=_
  rw[pE l m,NY]
  simp
def gW (neg:Bool)(l m:List Int):cF neg (.list (l.map int)) (.list (m.map int))=some (.bool (if neg then !decide (l=m) else decide (l=m))):=by
 unfold cF
 rw[shaped_ints,shaped_ints]
 simp only[PK,Ob,PyData.eqv,pE]
theorem gS {α:Type}:∀{l:List α} {k:Nat} {x:α},l[k]? =some x->(x :: l.eraseIdx k).Perm l
 | [],_,_,h=>by simp at h
 |y :: l,0,x,h=>by simp at h;subst h;exact List.Perm.refl _
 |y :: l,k + 1,x,h=>by
  have h:l[k]? =some x:=by simpa using h
  have ih:=gS h
  show (x :: y :: l.eraseIdx k).Perm (y :: l)
  exact (List.Perm.swap y x _).trans (ih.cons y)
theorem rZ {α β:Type}(f:α->β):∀(l:List α) (k:Nat),(l.map f).eraseIdx k=(l.eraseIdx k).map f
 | [],_=>rfl
 |_ :: _,0=>rfl
 |x :: l,k + 1=>by simp[rZ f l k]
def yX (ns:List Int)(hz:ns.length<=100)(β:Int):∃(ms:List Int) (β':Int),kK [.list (ns.map int)] β=.ok (.list (ms.map int)) true β'/\ms.Perm ns:=by
 show ∃(ms:List Int) (β':Int),x8 (dg bX [.bx,.fz (.list (ns.map int)),.no,.no] β)=.ok (.list (ms.map int)) true β'/\ms.Perm ns
 unfold dg
 rw[aF (env':=[.bx,.fz (.list (ns.map int)),.ow (.list (ns.map int)),.no]) (β':=β) (by rfl)]
 have ez:aY af [Nv.bx,.da (.list (ns.map int)),.da (.list (ns.map int)),.no] β=.ok (.list []) β:=dJ rfl (by simp)
 rw[aF (env':=[.bx,.fz (.list (ns.map int)),.ow (.list (ns.map int)),.ow (.list [])]) (β':=β) ?h]
 case h=>
  show toS (aY af [Nv.bx,.da (.list (ns.map int)),.da (.list (ns.map int)),.no] β) _=_
  rw[ez];rfl
 obtain⟨env',β',ew,ms,rfl,hp⟩:=jM (L:=[] ++ []) (t:=cK (f2 (gv 2) (aY af) (cF true))) (m:=jf 3 2 ([] ++ []) (jK 0 bX (aa (f1 (gv 2) cZ) af)))
  (λk env β=>∃ls ms:List Int,env= [.bx,.fz (.list (ns.map int)),.ow (.list (ls.map int)),.ow (.list (ms.map int))]/\(ms ++ ls).Perm ns/\k=ls.length)
  (λenv β=>∃ms:List Int,env= [.bx,.fz (.list (ns.map int)),.ow (.list []),.ow (.list (ms.map int))]/\ms.Perm ns) (n:=1000) (k:=ns.length) (env:=[.bx,.fz (.list (ns.map int)),.ow (.list (ns.map int)),.ow (.list [])]) (β:=β) (by omega) ⟨ns,[],rfl,by simp,rfl⟩ (by
   rintro k env β ⟨ls,ms,rfl,hp,rfl⟩
   have e1:aY af [Nv.bx,.da (.list (ns.map int)),.da (.list (ls.map int)),.da (.list (ms.map int))] β=.ok (.list (([]:List Int).map int)) β:=dJ rfl (by simp)
   have et:cK (f2 (gv 2) (aY af) (cF true)) [Nv.bx,.da (.list (ns.map int)),.da (.list (ls.map int)),.da (.list (ms.map int))] β=.ok (!decide (ls= [])) β:=
    cB _ _ _ _ (aG (x:=.list (ls.map int)) rfl e1 (by rw[gW];rfl))
   refine⟨_,_,et,?_⟩
   have hlen:=hp.length_eq
   rw[NK] at hlen
   cases ls with
   |nil=>exact .inl ⟨rfl,ms,rfl,by simpa using hp⟩
   |cons y ys=>
    refine .inr ⟨rfl,?_⟩
    have hm:(0:Int) < ((y :: ys).length:Nat)/\(((y :: ys).length:Nat):Int) < 1073741824:=by
     have:(y :: ys).length<=100:=by omega
     constructor
     ·simp
     ·omega
    obtain⟨j,hj⟩:∃j:Nat,β % (((y :: ys).length:Nat):Int)=j:=⟨(β % (((y :: ys).length:Nat):Int)).toNat,by have:=Int.emod_nonneg β (b:=(((y :: ys).length:Nat):Int)) (by omega);omega⟩
    have hj2:j < (y :: ys).length:=by have:=Int.emod_lt_of_pos β hm.1;omega
    have ef:jK 0 bX (aa (f1 (gv 2) cZ) af) [Nv.bx,.da (.list (ns.map int)),.da (.list ((y :: ys).map int)),.da (.list (ms.map int))] β=.ok (.int (j:Int)) (β / (((y :: ys).length:Nat):Int)):=by
     refine fT (ds:=[.int (((y :: ys).length:Nat):Int)]) (b:=false) (by rfl) ?_ (by rw[tm hm.1 hm.2,hj])
     show R.ok [int ((((y :: ys).map int).length:Nat):Int)] β=_
     rw[Na]
    have hpop:zP ((y :: ys).map int) (.int (j:Int))=some (.int (y :: ys)[j],((y :: ys).eraseIdx j).map int):=by
     unfold zP
     dsimp only
     rw[M7 ⟨by omega,by omega⟩]
     have es:seqIndex? (j:Int) ((y :: ys).map int).length=some j:=by
      rw[Na]
      exact PySem.StrLaws.seqIndex_nonneg (by omega) (by omega)
     rw[es]
     dsimp only
     rw[Ng,M1 hj2,rZ];rfl
    refine⟨[.bx,.fz (.list (ns.map int)),.ow (.list (((y :: ys).eraseIdx j).map int)),.ow (.list ((ms ++ [(y :: ys)[j]]).map int))],β / (((y :: ys).length:Nat):Int),((y :: ys).eraseIdx j).length,?_,?_,(y :: ys).eraseIdx j,ms ++ [(y :: ys)[j]],rfl,?_,rfl⟩
    ·show jf 3 2 ([] ++ []) (jK 0 bX (aa (f1 (gv 2) cZ) af)) [.bx,.fz (.list (ns.map int)),.ow (.list ((y :: ys).map int)),.ow (.list (ms.map int))] β=_
     rw[yg (ds:=ms.map int) (es:=(y :: ys).map int) (by rfl) (by rfl) (by decide) ef (by rfl) hpop (by rw[Na];omega),NU]
     rfl
    ·rw[List.length_eraseIdx]
     rw[M7 hj2]
     show (y :: ys).length - 1 < (y :: ys).length
     simp
    ·rw[O5]
     exact (List.Perm.append_left ms (gS (M1 hj2))).trans hp)
 refine⟨ms,β',?_,hp⟩
 rw[aF ew]
 rfl
def Kn {n:Nat}{l:List Pr}(h8:n<=8)(w:OM.Wn n l):OM.b4 8 (OM.Mem l)=OM.b4 n (OM.Mem l):=by
 refine OM.iH (OM.de _ _) (OM.de _ _) λx=>?_
 rw[OM.a7,OM.a7]
 constructor
 ·rintro⟨_,h⟩;exact⟨w x h,h⟩
 ·rintro⟨h1,h⟩;exact⟨⟨⟨h1.1.1,by omega⟩,h1.2.1,by omega⟩,h⟩
def FF {n:Nat}{l:List Pr}(h1:1<=n)(h8:n<=8)(w:OM.Wn n l)(nd:l.Nodup)(irr:∀a,(a,a)∉l):l.length < 64:=by
 have:=OM.eY (l:=(0,0) :: l) (m:=OM.eQ n) (NP.mpr ⟨irr 0,nd⟩) (λx hx=>by
  rcases M6.mp hx with e |e
  ·subst e;exact OM.cu.mpr ⟨⟨by simp,by simp;omega⟩,by simp,by simp;omega⟩
  ·exact OM.cu.mpr (w x e))
 have hg:(OM.eQ n).length=n * n:=by unfold OM.eQ;simp
 have hn:n * n<=64:=Ot h8 h8
 rw[hg,NC] at this
 omega
def Hg {n:Nat}{l:List Pr}(h8:n<=8)(w:OM.Wn n l):l.all Jp=true:=by
 rw[NH]
 intro p hp
 have:=w p hp
 unfold Jp
 rw[Nc this.1.1,Nc (by omega:p.1 < 8),Nc this.2.1,Nc (by omega:p.2 < 8)];rfl
def og {n:Nat}{l:List Pr}{d:D}(h8:n<=8)(w:OM.Wn n l)(hl:(OM.b4 n (OM.Mem l)).length < 64)(hd:ig d=some (l.map aK)):cn d=some (.list ((OM.b4 n (OM.Mem l)).map aK)):=by
 unfold cn
 rw[hd]
 simp only[hJ]
 rw[Kn h8 w,M7 ⟨Hg h8 w,hl⟩]
def wR (l:List Pr)(p:Pr):List Pr:=(l.filter λq=>decide (q.1=p.2)).map λq=>(p.1,q.2)
def zA (l:List Pr)(p:Pr):(wR l p).length<=l.length:=by unfold wR;rw[Na];exact Ov ..
theorem wQ (l m:List Pr):(m.flatMap (wR l)).length<=m.length * l.length:=by
 induction m with
 |nil=>simp
 |cons p m ih=>
  rw[List.flatMap_cons,NK,NC,Nat.succ_mul]
  have:=zA l p
  omega
def kU {a b:List D}(h:a.length + b.length<=10000):dH (.list a) (.list b)=some (.list (a ++ b)):=M7 (by rw[NA];omega)
noncomputable def iZ:List D->FR:=bg 6 1 fu
def A6 {n:Nat}{ps:List Pr}(h1:1<=n)(h8:n<=8)(w:OM.Wn n ps)(irr:∀a,¬OM.Tr (OM.Mem ps) a a):iZ [.list (ps.map aK)]=.ok (.tuple ((OM.b4 n (OM.Tr (OM.Mem ps))).map aK)) false:=by
 have blen:∀{l:List Pr},OM.Gr n ps l->l.length < 64:=λ{l} B=>FF h1 h8 B.wn (OM.gN B.ris) λa ha=>irr a (B.sup _ ha)
 show fin (fu [.fz (.list (ps.map aK)),.no,.no,.no,.no,.no] 0)=_
 unfold fu
 have B0:=OM.AJ (ps:=ps) w
 have e0:f1 (gv 0) cn [.da (.list (ps.map aK)),.no,.no,.no,.no,.no] 0=.ok (.list ((OM.b4 n (OM.Mem ps)).map aK)) 0:=b7 rfl (og h8 w (blen B0) rfl)
 rw[aF (env':=[.fz (.list (ps.map aK)),.fz (.list ((OM.b4 n (OM.Mem ps)).map aK)),.no,.no,.no,.no]) (β':=0) ?h0]
 case h0=>
  show toS (f1 (gv 0) cn [.da (.list (ps.map aK)),.no,.no,.no,.no,.no] 0) _=_
  rw[e0];rfl
 rw[aF (env':=[.fz (.list (ps.map aK)),.fz (.list ((OM.b4 n (OM.Mem ps)).map aK)),.fz (.int (-1)),.no,.no,.no]) (β':=0) (by rfl)]
 obtain⟨env',β',ew,rfl,x,sz,a,b,rfl⟩:=jM (L:=[] ++ []) (t:=cK (f2 (gv 2) (f1 (gv 1) cZ) (cF true)))
  (m:=aI (bI 2 [] (f1 (gv 1) cZ)) (aI (bI 3 [] (aY af)) (aI (dr (.two 4 5) [1] (bN (gv 1)) (bI 3 ([] ++ ([] ++ [4])) (f2 (gv 3) (aX 2 [5,4] (.two 0 1) (bN (gv 1)) (cK (f2 (gv 0) (gv 2) (cF false))) (bK (aa (gv 3) (aa (gv 1) af)))) dH))) (bI 1 ([] ++ []) (f1 (f2 (gv 1) (gv 3) dH) cn)))))
  (λk env β=>β=0/\∃(l:List Pr) (sz:Int) (x a b:Sl),env= [.fz (.list (ps.map aK)),.fz (.list (l.map aK)),.fz (.int sz),x,a,b]/\OM.Gr n ps l/\(sz= -1\/∃lp,OM.Gr n ps lp/\l=OM.km n lp/\sz=lp.length)/\k=2 * (64 - l.length) + (if sz=l.length then 0 else 1))
  (λenv β=>β=0/\∃(x sz a b:Sl),env= [.fz (.list (ps.map aK)),.fz (.list ((OM.b4 n (OM.Tr (OM.Mem ps))).map aK)),sz,x,a,b])
  (n:=1000) (k:=2 * (64 - (OM.b4 n (OM.Mem ps)).length) + (if (-1:Int)=(OM.b4 n (OM.Mem ps)).length then 0 else 1)) (env:=[.fz (.list (ps.map aK)),.fz (.list ((OM.b4 n (OM.Mem ps)).map aK)),.fz (.int (-1)),.no,.no,.no]) (β:=0)
  (by split <;> omega) ⟨rfl,_,_,_,_,_,rfl,B0,.inl rfl,rfl⟩ (by
   rintro k env β ⟨rfl,l,sz,x,a,b,rfl,B,hsz,rfl⟩
   have hl:=blen B
   have et:cK (f2 (gv 2) (f1 (gv 1) cZ) (cF true)) [.da (.list (ps.map aK)),.da (.list (l.map aK)),.da (.int sz),x.val,a.val,b.val] 0=.ok (!decide (sz=((l.map aK).length:Nat))) 0:=kX (neg:=true) rfl rfl
   rw[Na] at et
   refine⟨_,_,et,?_⟩
   by_cases c:sz=(l.length:Nat)
   ·refine .inl ⟨by rw[Nc c];rfl,rfl,x,.fz (.int sz),a,b,?_⟩
    rcases hsz with h | ⟨lp,Bp,rfl,h⟩
    ·omega
    ·show [Sl.fz (.list (ps.map aK)),.fz (.list ((OM.km n lp).map aK)),.fz (.int sz),x,a,b]=_
     rw[OM.Bi Bp (by omega)]
   ·refine .inr ⟨by rw[Nj c];rfl,?_⟩
    obtain⟨B2,hs⟩:=OM.vK B
    have hl2:=blen B2
    have hge:l.length<=(OM.km n l).length:=OM.eY (OM.gN B.ris) hs
    have eturn:∃x' a' b':Sl,aI (bI 2 [] (f1 (gv 1) cZ)) (aI (bI 3 [] (aY af)) (aI (dr (.two 4 5) [1] (bN (gv 1)) (bI 3 ([] ++ ([] ++ [4])) (f2 (gv 3) (aX 2 [5,4] (.two 0 1) (bN (gv 1)) (cK (f2 (gv 0) (gv 2) (cF false))) (bK (aa (gv 3) (aa (gv 1) af)))) dH))) (bI 1 ([] ++ []) (f1 (f2 (gv 1) (gv 3) dH) cn)))) [.fz (.list (ps.map aK)),.fz (.list (l.map aK)),.fz (.int sz),x,a,b] 0
      =.nx [.fz (.list (ps.map aK)),.fz (.list ((OM.km n l).map aK)),.fz (.int (l.length:Nat)),x',a',b'] 0:=by
     rw[aF (env':=[.fz (.list (ps.map aK)),.fz (.list (l.map aK)),.fz (.int (l.length:Nat)),x,a,b]) (β':=0) ?g1]
     case g1=>
      show SO.nx [.fz (.list (ps.map aK)),.fz (.list (l.map aK)),.fz (.int ((l.map aK).length:Nat)),x,a,b] 0=_
      rw[Na]
     have e3:aY af [.da (.list (ps.map aK)),.da (.list (l.map aK)),.da (.int (l.length:Nat)),x.val,a.val,b.val] 0=.ok (.list []) 0:=dJ rfl (by simp)
     rw[aF (env':=[.fz (.list (ps.map aK)),.fz (.list (l.map aK)),.fz (.int (l.length:Nat)),.fz (.list []),a,b]) (β':=0) ?g2]
     case g2=>
      show toS (aY af [.da (.list (ps.map aK)),.da (.list (l.map aK)),.da (.int (l.length:Nat)),x.val,a.val,b.val] 0) _=_
      rw[e3];rfl
     obtain⟨env2,β2,ef,rfl,a2,b2,rfl⟩:=fO (t:=.two 4 5) (m:=bI 3 ([] ++ ([] ++ [4])) (f2 (gv 3) (aX 2 [5,4] (.two 0 1) (bN (gv 1)) (cK (f2 (gv 0) (gv 2) (cF false))) (bK (aa (gv 3) (aa (gv 1) af)))) dH)) (ds:=l.map aK) (k:=0)
      (λi env β=>β=0/\∃a b:Sl,env= [.fz (.list (ps.map aK)),.fz (.list (l.map aK)),.fz (.int (l.length:Nat)),.fz (.list (((l.take i).flatMap (wR l)).map aK)),a,b]) (env:=[.fz (.list (ps.map aK)),.fz (.list (l.map aK)),.fz (.int (l.length:Nat)),.fz (.list []),a,b]) (β:=0) ⟨rfl,a,b,rfl⟩ (by
       rintro i d env β hi ⟨rfl,a,b,rfl⟩
       rw[Ng] at hi
       cases q:l[i]? with
       |none=>rw[q] at hi;cases hi
       |some p=>
        rw[q] at hi
        cases hi
        have hil:i < l.length:=(Np.mp q).1
        refine⟨[.fz (.list (ps.map aK)),.fz (.list (l.map aK)),.fz (.int (l.length:Nat)),.fz (.list (((l.take (0 + i)).flatMap (wR l)).map aK)),.fz (.int p.1),.fz (.int p.2)],rfl,[.fz (.list (ps.map aK)),.fz (.list (l.map aK)),.fz (.int (l.length:Nat)),.fz (.list (((l.take (0 + i + 1)).flatMap (wR l)).map aK)),.fz (.int p.1),.fz (.int p.2)],0,?_,rfl,_,_,rfl⟩
        have ec:aX 2 [5,4] (.two 0 1) (bN (gv 1)) (cK (f2 (gv 0) (gv 2) (cF false))) (bK (aa (gv 3) (aa (gv 1) af))) [.da (.list (ps.map aK)),.da (.list (l.map aK)),.da (.int (l.length:Nat)),.da (.list (((l.take (0 + i)).flatMap (wR l)).map aK)),.da (.int p.1),.da (.int p.2)] 0=.ok (.list ((wR l p).map aK)) 0:=by
         rw[gY (l:=l) (e:=aK) (λq=>decide (q.1=p.2)) (λq=>aK (p.1,q.2)) rfl (by omega) (β1:=0)]
         ·unfold wR;rw[PH];rfl
         ·intro q hq
          refine⟨_,rfl,kX (neg:=false) (i:=q.1) (j:=p.2) rfl rfl,λ_=>?_⟩
          exact mX (ds:=[.int p.1,.int q.2]) rfl (by simp)
        have hk:(l.take (0 + i)).length<=63:=by rw[Oq];omega
        have hfl:=wQ l (l.take (0 + i))
        have hfl2:(l.take (0 + i)).length * l.length<=63 * 63:=Ot hk (by omega)
        have hm1:=zA l p
        have e5:f2 (gv 3) (aX 2 [5,4] (.two 0 1) (bN (gv 1)) (cK (f2 (gv 0) (gv 2) (cF false))) (bK (aa (gv 3) (aa (gv 1) af)))) dH [.da (.list (ps.map aK)),.da (.list (l.map aK)),.da (.int (l.length:Nat)),.da (.list (((l.take (0 + i)).flatMap (wR l)).map aK)),.da (.int p.1),.da (.int p.2)] 0=.ok (.list (((l.take (0 + i + 1)).flatMap (wR l)).map aK)) 0:=by
         refine aG rfl ec ?_
         rw[kU (by rw[Na,Na];omega),<-NU]
         have:l.take (0 + i + 1)=l.take (0 + i) ++ [p]:=by rw[Ow,Oc,q];rfl
         rw[this,List.flatMap_append,List.flatMap_cons,List.flatMap_nil,Pp]
        show toS (f2 (gv 3) (aX 2 [5,4] (.two 0 1) (bN (gv 1)) (cK (f2 (gv 0) (gv 2) (cF false))) (bK (aa (gv 3) (aa (gv 1) af)))) dH [.da (.list (ps.map aK)),.da (.list (l.map aK)),.da (.int (l.length:Nat)),.da (.list (((l.take (0 + i)).flatMap (wR l)).map aK)),.da (.int p.1),.da (.int p.2)] 0) _=_
        rw[e5];rfl)
     rw[Ow,Na,OE (M9 _)] at ef
     rw[aF (env':=[.fz (.list (ps.map aK)),.fz (.list (l.map aK)),.fz (.int (l.length:Nat)),.fz (.list ((l.flatMap (wR l)).map aK)),a2,b2]) (β':=0) ?g3]
     case g3=>exact ef
     have hfl:=wQ l l
     have hfl2:l.length * l.length<=63 * 63:=Ot (by omega) (by omega)
     have e6:f1 (f2 (gv 1) (gv 3) dH) cn [.da (.list (ps.map aK)),.da (.list (l.map aK)),.da (.int (l.length:Nat)),.da (.list ((l.flatMap (wR l)).map aK)),a2.val,b2.val] 0=.ok (.list ((OM.km n l).map aK)) 0:=by
      refine b7 (x:=.list ((l ++ OM.more l).map aK)) (aG rfl rfl ?_) (og h8 (OM.CP B) hl2 rfl)
      rw[kU (by rw[Na,Na];omega),<-NU];rfl
     refine⟨.fz (.list ((l.flatMap (wR l)).map aK)),a2,b2,?_⟩
     show toS (f1 (f2 (gv 1) (gv 3) dH) cn [.da (.list (ps.map aK)),.da (.list (l.map aK)),.da (.int (l.length:Nat)),.da (.list ((l.flatMap (wR l)).map aK)),a2.val,b2.val] 0) _=_
     rw[e6];rfl
    obtain⟨x',a',b',et2⟩:=eturn
    refine⟨_,_,_,et2,?_,rfl,_,_,_,_,_,rfl,B2,.inr ⟨l,B,rfl,rfl⟩,rfl⟩
    rw[Nd c]
    split <;> omega)
 rw[aF ew]
 rfl
def vf (ms:List Int)(ps:List Pr):Prop:=∀p,p∈ps->∃i j:Nat,i < j/\ms[i]? =some p.1/\ms[j]? =some p.2
theorem mr {α:Type}:∀{l:List α} {i j:Nat} {x:α},l.Nodup->l[i]? =some x->l[j]? =some x->i=j
 | [],_,_,_,_,h,_=>by simp at h
 |y :: l,0,0,_,_,_,_=>rfl
 |y :: l,0,j + 1,x,nd,h1,h2=>by
  simp at h1
  subst h1
  exact absurd (Nm (by simpa using h2)) (NP.mp nd).1
 |y :: l,i + 1,0,x,nd,h1,h2=>by
  simp at h2
  subst h2
  exact absurd (Nm (by simpa using h1)) (NP.mp nd).1
 |y :: l,i + 1,j + 1,x,nd,h1,h2=>by
  rw[mr (l:=l) (i:=i) (j:=j) (NP.mp nd).2 (by simpa using h1) (by simpa using h2)]
def DF {ms:List Int}{ps:List Pr}(nd:ms.Nodup)(h:vf ms ps){a b:Int}(t:OM.Tr (OM.Mem ps) a b):∃i j:Nat,i < j/\ms[i]? =some a/\ms[j]? =some b:=by
 refine t.least (S:=λa b=>∃i j:Nat,i < j/\ms[i]? =some a/\ms[j]? =some b) (λa b r=>h _ r) ?_
 rintro a b c ⟨i,j,hij,h1,h2⟩ ⟨k,l,hkl,h3,h4⟩
 have:=mr nd h2 h3
 exact⟨i,l,by omega,h1,h4⟩
def AG {ms:List Int}{ps:List Pr}(nd:ms.Nodup)(h:vf ms ps)(a:Int):¬OM.Tr (OM.Mem ps) a a:=λt=>by
 obtain⟨i,j,hij,h1,h2⟩:=DF nd h t
 have:=mr nd h1 h2
 omega
def fE (n:Nat):List Int:=(List.range n).map λ(k:Nat)=>(k:Int)
def df (n:Nat):(fE n).length=n:=by unfold fE;simp
def bu {n:Nat}{x:Int}:x∈fE n↔0<=x/\x < n:=by
 unfold fE
 rw[Nh]
 constructor
 ·rintro⟨k,hk,rfl⟩
  have:=Ny.mp hk
  omega
 ·intro h
  exact⟨x.toNat,Ny.mpr (by omega),by omega⟩
def kS (n:Nat):(fE n).Nodup:=by
 unfold fE
 rw[O4,N0]
 exact (O4.mp OW).imp λ{a b} h e=>h (by omega)
def rK (n:Nat):cC 0 n=(fE n).map int:=by
 unfold cC fE
 rw[PH]
 refine OD λk _=>?_
 show int (0 + (k:Int))=_
 rw[Pj];rfl
theorem kx {lo:Int}{n i:Nat}{d:D}(h:(cC lo n)[i]? =some d):i < n/\d=.int (lo + i):=by
 unfold cC at h
 rw[Ng] at h
 cases q:(List.range n)[i]? with
 |none=>rw[q] at h;cases h
 |some j=>
  rw[q] at h
  cases h
  obtain⟨hi,ej⟩:=Np.mp q
  rw[O7] at hi
  rw[List.getElem_range] at ej
  subst ej
  exact⟨hi,rfl⟩
def j9 {n:Nat}(h:n<=1000):cY (.int n)=some (.list ((fE n).map int)):=by
 unfold cY
 dsimp only
 rw[M7 ⟨by omega,by omega⟩,NM,rK]
def l7 {fa:VF D}{vs:List Nv}{β β1:Int}{n:Nat}(h:fa vs β=.ok (.int n) β1)(hn:n<=1000):gk fa vs β=.ok (cC 0 n) β1:=by
 unfold gk
 rw[h]
 simp only[lQ]
 rw[M7 (ny (by omega) (by omega)),NM]
def BW {fa fb:VF D}{vs:List Nv}{β β1 β2:Int}{i j:Int}(h:fa vs β=.ok (.int i) β1)(h':fb vs β1=.ok (.int j) β2)(hi:0<=i/\i<=1000)(hj:0<=j/\j<=1000):rY fa fb vs β=.ok (cC i (j - i).toNat) β2:=by
 unfold rY
 rw[h]
 simp only[lQ]
 rw[h']
 simp only[lQ]
 rw[M7 (by rw[ny (by omega) (by omega),ny (by omega) (by omega)];rfl)]
def iY {t:Tg}{L:List Nat}{fi:VF (List D)}{m:SF}{env:En}{β β1:Int}{ds:List D}(h:fi (vl env) β=.ok ds β1):dr t L fi m env β=oO t m ds (aS L env) β1:=by unfold dr;rw[h];rfl
noncomputable def tV:List D->Int->FB:=oP 8 1 (gG iZ bX kK)
def AB {n:Nat}{ms:List Int}{ps:List Pr}(h1:1<=n)(h8:n<=8)(hp:ms.Perm (fE n))(ha:vf ms ps):OM.Wn n ps/\(∀a,¬OM.Tr (OM.Mem ps) a a)/\OM.Ord n (OM.b4 n (OM.Tr (OM.Mem ps))):=by
 have nd:ms.Nodup:=hp.nodup_iff.mpr (kS n)
 have w:OM.Wn n ps:=λp hm=>by
  obtain⟨i,j,_,e1,e2⟩:=ha p hm
  have m1:=bu.mp (hp.mem_iff.mp (Nm e1))
  have m2:=bu.mp (hp.mem_iff.mp (Nm e2))
  exact⟨m1,m2⟩
 have ir:=λa=>AG nd ha a
 exact⟨w,ir,OM.GZ h1 h8 w ir⟩
def i6 {m:Nat}(h:1<=m)(h2:m<=1000)(β:Int):∃j:Nat,j < m/\bX [.int m] β=.ok (.int (j:Int)) false (β / m):=by
 refine⟨(β % m).toNat,?_,?_⟩
 ·have h0:=Int.emod_nonneg β (b:=(m:Int)) (by omega)
  have h3:=Int.emod_lt_of_pos β (b:=(m:Int)) (by omega)
  omega
 ·rw[tm (by omega) (by omega)]
  have h0:=Int.emod_nonneg β (b:=(m:Int)) (by omega)
  rw[show ((β % m).toNat:Int)=β % m by omega]
def Dk {most:Nat}(hm1:1<=most)(hm8:most<=8)(β:Int):∃(n:Nat) (l:List Pr) (β':Int),tV [.int most] β=.ok (aA n l) false β'/\OM.Ord n l/\n<=most:=by
 obtain⟨j,hj,ej⟩:=i6 hm1 (by omega) β
 show ∃(n:Nat) (l:List Pr) (β':Int),x8 (gG iZ bX kK [.bx,.fz (.int most),.no,.no,.no,.no,.no,.no] β)=.ok (aA n l) false β'/\OM.Ord n l/\n<=most
 unfold gG
 generalize hβ1:β / (most:Int)=β1 at ej
 have n8:1 + j<=8:=by omega
 have e1:f2 (cst (.int 1)) (jK 0 bX (aa (gv 1) af)) dO [Nv.bx,.da (.int most),.no,.no,.no,.no,.no,.no] β=.ok (.int ((1 + j:Nat):Int)) β1:=by
  refine aG (x:=.int 1) rfl (fT (by rfl) rfl ej) ?_
  show some (int (1 + (j:Int)))=_
  rw[show ((1 + j:Nat):Int)=1 + (j:Int) by omega]
 rw[aF (env':=[.bx,.fz (.int most),.fz (.int ((1 + j:Nat):Int)),.no,.no,.no,.no,.no]) (β':=β1) ?g1]
 case g1=>
  show toS (f2 (cst (.int 1)) (jK 0 bX (aa (gv 1) af)) dO [Nv.bx,.da (.int most),.no,.no,.no,.no,.no,.no] β) _=_
  rw[e1];rfl
 generalize hn:1 + j=n at n8
 have n1:1<=n:=by omega
 obtain⟨ms,β2,em,hp⟩:=yX (fE n) (by rw[df];omega) β1
 have hml:ms.length=n:=by rw[hp.length_eq,df]
 have e2:jK 0 kK (aa (f1 (gv 2) cY) af) [Nv.bx,.da (.int most),.da (.int n),.no,.no,.no,.no,.no] β1=.ok (.list (ms.map int)) β2:=by
  refine fT (ds:=[.list ((fE n).map int)]) (b:=true) (β1:=β1) (by rfl) ?_ em
  rw[cc,b7 (x:=.int n) (d:=.list ((fE n).map int)) (β1:=β1) rfl (j9 (by omega))];rfl
 rw[aF (env':=[.bx,.fz (.int most),.fz (.int n),.fz (.list (ms.map int)),.no,.no,.no,.no]) (β':=β2) ?g2]
 case g2=>
  show toS (jK 0 kK (aa (f1 (gv 2) cY) af) [Nv.bx,.da (.int most),.da (.int n),.no,.no,.no,.no,.no] β1) _=_
  rw[e2];rfl
 obtain⟨q,hq,eq⟩:=i6 (m:=4) (by omega) (by omega) β2
 obtain⟨th,hth,hthv⟩:∃th:Nat,([2,3,4,7]:List Nat)[q]? =some th/\1<=th/\th<=7:=by
  rcases (show q=0\/q=1\/q=2\/q=3 by omega) with rfl |rfl |rfl |rfl
  ·exact⟨2,rfl,by omega,by omega⟩
  ·exact⟨3,rfl,by omega,by omega⟩
  ·exact⟨4,rfl,by omega,by omega⟩
  ·exact⟨7,rfl,by omega,by omega⟩
 generalize hβ3:β2 / ((4:Nat):Int)=β3 at eq
 have e3:f2 (aY (aa (cst (.int 2)) (aa (cst (.int 3)) (aa (cst (.int 4)) (aa (cst (.int 7)) af))))) (jK 0 bX (aa (cst (.int 4)) af)) cG [Nv.bx,.da (.int most),.da (.int n),.da (.list (ms.map int)),.no,.no,.no,.no] β2=.ok (.int th) β3:=by
  refine aG (x:=.list (([2,3,4,7]:List Nat).map λ(k:Nat)=>int (k:Int))) (y:=.int q) (dJ rfl (by simp)) (fT (ds:=[.int 4]) (by rfl) rfl eq) ?_
  show kg (([2,3,4,7]:List Nat).map λ(k:Nat)=>int (k:Int)) (q:Int)=_
  rw[mH,jO hth];rfl
 rw[aF (env':=[.bx,.fz (.int most),.fz (.int n),.fz (.list (ms.map int)),.fz (.int th),.no,.no,.no]) (β':=β3) ?g3]
 case g3=>
  show toS (f2 (aY (aa (cst (.int 2)) (aa (cst (.int 3)) (aa (cst (.int 4)) (aa (cst (.int 7)) af))))) (jK 0 bX (aa (cst (.int 4)) af)) cG [Nv.bx,.da (.int most),.da (.int n),.da (.list (ms.map int)),.no,.no,.no,.no] β2) _=_
  rw[e3];rfl
 have e4:aY af [Nv.bx,.da (.int most),.da (.int n),.da (.list (ms.map int)),.da (.int th),.no,.no,.no] β3=.ok (.list []) β3:=dJ rfl (by simp)
 rw[aF (env':=[.bx,.fz (.int most),.fz (.int n),.fz (.list (ms.map int)),.fz (.int th),.ow (.list []),.no,.no]) (β':=β3) ?g4]
 case g4=>
  show toS (aY af [Nv.bx,.da (.int most),.da (.int n),.da (.list (ms.map int)),.da (.int th),.no,.no,.no] β3) _=_
  rw[e4];rfl
 obtain⟨env',β',ef,ps,a,b,rfl,hal,hpl⟩:=fO (t:=.nm 6) (m:=dr (.nm 7) (([] ++ []) ++ []) (rY (f2 (gv 6) (cst (.int 1)) dO) (gv 2))
   (j6 (([4] ++ []) ++ []) (cK (f2 (jK 0 bX (aa (gv 4) af)) (cst (.int 0)) (cF false)))
   (lP 5 (([] ++ []) ++ (([] ++ []) ++ [])) (bK (aa (f2 (gv 3) (gv 6) cG) (aa (f2 (gv 3) (gv 7) cG) af)))) mU)) (ds:=cC 0 n) (k:=0)
  (λi env β=>∃(ps:List Pr) (a b:Sl),env= [.bx,.fz (.int most),.fz (.int n),.fz (.list (ms.map int)),.fz (.int th),.ow (.list (ps.map aK)),a,b]/\vf ms ps/\ps.length<=8 * i)
  (env:=[.bx,.fz (.int most),.fz (.int n),.fz (.list (ms.map int)),.fz (.int th),.ow (.list []),.no,.no]) (β:=β3) ⟨[],.no,.no,rfl,λp hp=>(by cases hp),by simp⟩ (by
   rintro i d env β hi ⟨ps,a,b,rfl,hal,hpl⟩
   obtain⟨hin,rfl⟩:=kx hi
   refine⟨[.bx,.fz (.int most),.fz (.int n),.fz (.list (ms.map int)),.fz (.int th),.ow (.list (ps.map aK)),.fz (.int (0 + (i:Int))),b],rfl,?_⟩
   have er:rY (f2 (gv 6) (cst (.int 1)) dO) (gv 2) [Nv.bx,.da (.int most),.da (.int n),.da (.list (ms.map int)),.da (.int th),.da (.list (ps.map aK)),.da (.int (0 + (i:Int))),b.val] β=.ok (cC (0 + (i:Int) + 1) ((n:Int) - (0 + (i:Int) + 1)).toNat) β:=BW rfl rfl ⟨by omega,by omega⟩ ⟨by omega,by omega⟩
   rw[iY (env:=[.bx,.fz (.int most),.fz (.int n),.fz (.list (ms.map int)),.fz (.int th),.ow (.list (ps.map aK)),.fz (.int (0 + (i:Int))),b]) er]
   obtain⟨env',β',ef,qs,b,rfl,hal2,hql⟩:=fO (t:=.nm 7) (m:=j6 (([4] ++ []) ++ []) (cK (f2 (jK 0 bX (aa (gv 4) af)) (cst (.int 0)) (cF false)))
     (lP 5 (([] ++ []) ++ (([] ++ []) ++ [])) (bK (aa (f2 (gv 3) (gv 6) cG) (aa (f2 (gv 3) (gv 7) cG) af)))) mU) (ds:=cC (0 + (i:Int) + 1) ((n:Int) - (0 + (i:Int) + 1)).toNat) (k:=0)
    (λk env β=>∃(qs:List Pr) (b:Sl),env= [.bx,.fz (.int most),.fz (.int n),.fz (.list (ms.map int)),.fz (.int th),.ow (.list (qs.map aK)),.fz (.int (0 + (i:Int))),b]/\vf ms qs/\qs.length<=8 * i + k)
    (env:=[.bx,.fz (.int most),.fz (.int n),.fz (.list (ms.map int)),.fz (.int th),.ow (.list (ps.map aK)),.fz (.int (0 + (i:Int))),b]) (β:=β) ⟨ps,b,rfl,hal,by omega⟩ (by
     rintro k d env β hk ⟨qs,b,rfl,hal,hql⟩
     obtain⟨hkn,rfl⟩:=kx hk
     have hkn:i + 1 + k < n:=by omega
     refine⟨[.bx,.fz (.int most),.fz (.int n),.fz (.list (ms.map int)),.fz (.int th),.ow (.list (qs.map aK)),.fz (.int (0 + (i:Int))),.fz (.int (0 + (i:Int) + 1 + (k:Int)))],rfl,?_⟩
     obtain⟨z,hz,ez⟩:=i6 hthv.1 (by omega) β
     have et:cK (f2 (jK 0 bX (aa (gv 4) af)) (cst (.int 0)) (cF false)) [Nv.bx,.da (.int most),.da (.int n),.da (.list (ms.map int)),.da (.int th),.da (.list (qs.map aK)),.da (.int (0 + (i:Int))),.da (.int (0 + (i:Int) + 1 + (k:Int)))] β=.ok (decide ((z:Int)=0)) (β / th):=kX (neg:=false) (fT (ds:=[.int th]) (by rfl) rfl ez) rfl
     by_cases c:(z:Int)=0
     ·rw[Nc c] at et
      have h1:i < ms.length:=by omega
      have h2:i + 1 + k < ms.length:=by omega
      refine⟨[.bx,.fz (.int most),.fz (.int n),.fz (.list (ms.map int)),.fz (.int th),.ow (.list ((qs ++ [(ms[i],ms[i + 1 + k])]).map aK)),.fz (.int (0 + (i:Int))),.fz (.int (0 + (i:Int) + 1 + (k:Int)))],β / th,?_,qs ++ [(ms[i],ms[i + 1 + k])],_,rfl,?_,?_⟩
      ·rw[lr et]
       have ep:bK (aa (f2 (gv 3) (gv 6) cG) (aa (f2 (gv 3) (gv 7) cG) af)) [Nv.bx,.da (.int most),.da (.int n),.da (.list (ms.map int)),.da (.int th),.da (.list (qs.map aK)),.da (.int (0 + (i:Int))),.da (.int (0 + (i:Int) + 1 + (k:Int)))] (β / th)=.ok (aK (ms[i],ms[i + 1 + k])) (β / th):=by
        refine mX (ds:=[.int ms[i],.int ms[i + 1 + k]]) ?_ (by simp)
        have a1:f2 (gv 3) (gv 6) cG [Nv.bx,.da (.int most),.da (.int n),.da (.list (ms.map int)),.da (.int th),.da (.list (qs.map aK)),.da (.int (0 + (i:Int))),.da (.int (0 + (i:Int) + 1 + (k:Int)))] (β / th)=.ok (.int ms[i]) (β / th):=by
         refine aG rfl rfl ?_
         show kg (ms.map int) (0 + (i:Int))=_
         rw[Pj,mH,tG h1];rfl
        have a2:f2 (gv 3) (gv 7) cG [Nv.bx,.da (.int most),.da (.int n),.da (.list (ms.map int)),.da (.int th),.da (.list (qs.map aK)),.da (.int (0 + (i:Int))),.da (.int (0 + (i:Int) + 1 + (k:Int)))] (β / th)=.ok (.int ms[i + 1 + k]) (β / th):=by
         refine aG rfl rfl ?_
         show kg (ms.map int) (0 + (i:Int) + 1 + (k:Int))=_
         rw[show (0 + (i:Int) + 1 + (k:Int))=((i + 1 + k:Nat):Int) by omega,mH,tG h2];rfl
        rw[cc,a1]
        dsimp only[R.bnd]
        rw[cc,a2];rfl
       have:=pe (i:=5) (L:=([] ++ []) ++ (([] ++ []) ++ [])) (env:=[.bx,.fz (.int most),.fz (.int n),.fz (.list (ms.map int)),.fz (.int th),.ow (.list (qs.map aK)),.fz (.int (0 + (i:Int))),.fz (.int (0 + (i:Int) + 1 + (k:Int)))]) (ds:=qs.map aK) (by rfl) ep (by rfl) (by rw[Na];omega)
       rw[NU]
       exact this
      ·intro p hp
       rcases Nw.mp hp with hp |hp
       ·exact hal p hp
       ·have:p=(ms[i],ms[i + 1 + k]):=by simpa using hp
        subst this
        exact⟨i,i + 1 + k,by omega,M1 h1,M1 h2⟩
      ·rw[NK];simp;omega
     ·rw[Nj c] at et
      refine⟨_,_,by rw[kz et];rfl,qs,_,rfl,hal,by omega⟩)
   have hlen:(cC (0 + (i:Int) + 1) ((n:Int) - (0 + (i:Int) + 1)).toNat).length<=7:=by rw[kY];omega
   exact⟨_,_,ef,qs,_,b,rfl,hal2,by omega⟩)
 rw[aF (env':=[.bx,.fz (.int most),.fz (.int n),.fz (.list (ms.map int)),.fz (.int th),.ow (.list (ps.map aK)),a,b]) (β':=β') ?g5]
 case g5=>
  rw[iY (env:=[.bx,.fz (.int most),.fz (.int n),.fz (.list (ms.map int)),.fz (.int th),.ow (.list []),.no,.no]) (l7 (n:=n) rfl (by omega))]
  exact ef
 obtain⟨w,ir,O⟩:=AB n1 n8 hp hal
 refine⟨n,OM.b4 n (OM.Tr (OM.Mem ps)),β',?_,O,by omega⟩
 have e9:bK (aa (gv 2) (aa (aw iZ (aa (gv 5) af)) af)) [Nv.bx,.da (.int most),.da (.int n),.da (.list (ms.map int)),.da (.int th),.da (.list (ps.map aK)),a.val,b.val] β'=.ok (aA n (OM.b4 n (OM.Tr (OM.Mem ps)))) β':=by
  refine mX (ds:=[.int n,.tuple ((OM.b4 n (OM.Tr (OM.Mem ps))).map aK)]) ?_ (by simp)
  have a1:aw iZ (aa (gv 5) af) [Nv.bx,.da (.int most),.da (.int n),.da (.list (ms.map int)),.da (.int th),.da (.list (ps.map aK)),a.val,b.val] β'=.ok (.tuple ((OM.b4 n (OM.Tr (OM.Mem ps))).map aK)) β':=aH rfl (A6 n1 n8 w ir)
  rw[cc]
  show (R.ok (int n) β').bnd _=_
  dsimp only[R.bnd]
  rw[cc,a1];rfl
 show x8 (toS (bK (aa (gv 2) (aa (aw iZ (aa (gv 5) af)) af)) [Nv.bx,.da (.int most),.da (.int n),.da (.list (ms.map int)),.da (.int th),.da (.list (ps.map aK)),a.val,b.val] β') _)=_
 rw[e9];rfl
theorem zu (p:Pr):∀l:List Pr,((l.map aK).any λe=>PyData.eqv e (aK p))=decide (p∈l)
 | []=>rfl
 |q :: l=>by
  rw[NO,O3,zu p l,Bo,NY]
  simp only[PU,Nx,M6]
  exact⟨λh=>h.imp Eq.symm id,λh=>h.imp Eq.symm id⟩
def EG (l:List Pr):(l.map aK).all SeqAt.shaped=true:=by
 rw[NH]
 intro d hd
 obtain⟨p,_,rfl⟩:=Nh.mp hd
 exact sR p
def yO (neg:Bool)(p:Pr)(l:List Pr):uC neg (aK p) (.tuple (l.map aK))=some (.bool (if neg then !decide (p∈l) else decide (p∈l))):=by
 unfold uC
 simp only[ig,sR,EG,PK,Ob,zu]
def tR (neg:Bool)(i j:Int):cF neg (.int i) (.int j)=some (.bool (if neg then !decide (i=j) else decide (i=j))):=rfl
theorem zq {fa fb:VF D}{vs:List Nv}{β:Int}{a b:Bool}(h:fa vs β=.ok (.bool a) β)(h':fb vs β=.ok (.bool b) β):fX fa fb vs β=.ok (.bool (a && b)) β:=by
 unfold fX
 rw[h]
 dsimp only[R.bnd]
 cases a with
 |true=>exact h'
 |false=>rfl
def qq {fa fb:VF D}{vs:List Nv}{β:Int}{a b:Int}(h:fa vs β=.ok (.int a) β)(h':fb vs β=.ok (.int b) β):bK (aa fa (aa fb af)) vs β=.ok (aK (a,b)) β:=by
 refine mX (ds:=[.int a,.int b]) ?_ (by simp)
 rw[cc,h]
 dsimp only[R.bnd]
 rw[cc,h'];rfl
def kO (l:List Pr)(p:Pr):Bool:= !decide (p.1=p.2) && (!decide ((p.1,p.2)∈l) && !decide ((p.2,p.1)∈l))
def LW {n:Nat}{l:List Pr}{fa:VF D}{vs:List Nv}{β:Int}(h:fa vs β=.ok (aA n l) β):f2 fa (cst (.int 1)) cG vs β=.ok (.tuple (l.map aK)) β:=aG h rfl rfl
def Gs {n:Nat}{l:List Pr}{fa:VF D}{vs:List Nv}{β:Int}(h:fa vs β=.ok (aA n l) β):f2 fa (cst (.int 0)) cG vs β=.ok (.int n) β:=aG h rfl rfl
def Lj:List D->FR:=bg 3 3 oo
def lH:List D->FR:=bg 3 3 l4
def Kk (n:Nat)(l:List Pr)(a b:Int):Lj [aA n l,.int a,.int b]=.ok (.bool (kO l (a,b))) false:=by
 show fin (toS (fX (f2 (gv 1) (gv 2) (cF true)) (fX (f2 (bK (aa (gv 1) (aa (gv 2) af))) (f2 (gv 0) (cst (.int 1)) cG) (uC true)) (f2 (bK (aa (gv 2) (aa (gv 1) af))) (f2 (gv 0) (cst (.int 1)) cG) (uC true))) [.da (aA n l),.da (.int a),.da (.int b)] 0) _)=_
 rw[zq (aG (x:=.int a) (y:=.int b) rfl rfl (tR true a b)) (zq (aG (qq (a:=a) (b:=b) rfl rfl) (LW (n:=n) (l:=l) rfl) (yO true (a,b) l)) (aG (qq (a:=b) (b:=a) rfl rfl) (LW (n:=n) (l:=l) rfl) (yO true (b,a) l)))]
 rfl
def DA (n:Nat)(l:List Pr)(a b:Int):lH [aA n l,.int a,.int b]=.ok (.bool (kO l (a,b))) false:=Kk n l a b
def Jo (n:Nat)(l:List Pr):List Pr:=(OM.eQ n).filter (kO l)
def g9 (n:Nat):(OM.eQ n).length=n * n:=by unfold OM.eQ;simp
def fM {fa:VF D}{vs:List Nv}{β:Int}{c:Bool}(h:fa vs β=.ok (.bool c) β):j4 fa vs β=.ok c β:=by rw[ux,h];rfl
theorem C8 {c:Nat}:∀(ts:List Str) (k:Nat) (acc:Str),(∀t∈ts,t.length + 2<=c)->(textFrom k acc ts).length<=acc.length + c * ts.length
 | [],k,acc,_=>by show acc.length<=_;omega
 |t :: r,k,acc,h=>by
  have ih:=C8 r (k + 1) (acc ++ (if k > 0 then ", " else "":String) ++ t) λu hu=>h u (M8 _ hu)
  have e:(acc ++ (if k > 0 then ", " else "":String) ++ t).length=acc.length + (if k > 0 then 2 else 0) + t.length:=by
   rw[Po,Po]
   split <;> rfl
  rw[e] at ih
  have ht:=h t (Nb ..)
  show (textFrom (k + 1) _ r).length<=_
  have e2:c * (t :: r).length=c * r.length + c:=by rw[NC,Nat.mul_succ]
  rw[e2]
  have:(if k > 0 then 2 else 0:Nat)<=2:=by split <;> omega
  omega
end RM
namespace L2
open PySem PySem.Spec PyProof.Rows
section
variable {X:Cx}{pins:List (Addr×Obj)}{σ:St}{H:Hp}{s:Shared}
def Inv.turnedL {t':Nat}{ch:List Addr}{h':Heap}(I:Inv X pins σ H s)(k:∀b o,b∉ch->s.heap.get? b=some o->h'.get? b=some o)(hf:∀b∈ch,oQ X pins H b):Inv X pins σ H {s with heap:=h',toks:=t'}:=by
 have nit:∀b u,H b=some u->b∉ch:=λb u e z=>by rw[(hf b z).1] at e;cases e
 have nL:X.env.locals∉ch:=λz=>(hf _ z).2.1 rfl
 refine I.step (g':=s.gens) (d':=s.drawn) (ch:=ch) (λb hb=>?_) (λb o _ _ hc e _=>k b o hc e) (λb o _ _ hc e _=>⟨o.slots,k b o hc e⟩) (λ_ _ _ _ n=>n)
  (λb o hc e=>⟨o,k b o hc e⟩) (λ_ _ e=>e) (λ_ _ _ e=>e) (λb ps e=>⟨#[],by rw[e];simp⟩) (λm hm=>?_) (λb u e=>?_) I.bare
 ·obtain⟨f0,f1,f2,f3,f4,f5⟩:=hf b hb
  exact⟨f3,f1,f4,f5⟩
 ·obtain⟨o,es,ep,ho,r⟩:=hm
  exact⟨o,es,ep,k _ o nL ho,r⟩
 ·refine (I.hok b u e).stay (λc v hc q=>k c v ?_ q) (λ_ q=>q) λ_ _ q=>q
  rcases hc with z |z
  ·rw[z];exact nit b u e
  ·exact nit c _ z
end
def Mu {n:Nat}(i j:Nat)(h:(i == j)=false):(n + i:Nat)≠n + j:=by
 have:i≠j:=by simpa using h
 omega
section
variable {X:Cx}{Γ:Fx}{E:XK}{e a b c:Expr}{f fa fb:VF D}{L La Lb:List Nat}{md ma mb:Md}{pos:Pos}
def CB:D->Option D
 | .int i=>some (.int i)
 | .bool k=>some (.int (if k then 1 else 0))
 |_=>none
theorem IK {K:Frag}:Bg K (λx H Q=>(∃i,[x]= [.int i]/\Q (.int i) H)\/∃k,[x]= [.bl k]/\Q (.int (if k then 1 else 0)) H) CB .v:=by
 intro B G H x dx d Q s hB bx e k
 cases dx with
 |int i=>cases e;obtain rfl:=bx.int;exact .inl ⟨i,rfl,k _ G H (Ext.refl s) (.int _)⟩
 |bool b=>cases e;obtain rfl:=bx.bool;exact .inr ⟨b,rfl,k _ G H (Ext.refl s) (.int _)⟩
 |_=>cases e
end
section
variable {κ:Type}[DecidableEq κ]
def FE (kvs:List (κ×V))(k:κ):Option V:=(kvs.find? λkv=>decide (kv.1=k)).map (·.2)
def putK (kvs:List (κ×V))(k:κ)(v:V):List (κ×V):=
 if (kvs.any λkv=>decide (kv.1=k))=true then kvs.map (λkv=>if kv.1=k then (kv.1,v) else kv) else kvs ++ [(k,v)]
def wt (kvs:List (κ×V))(k:κ)(v:V):(putK kvs k v).length<=kvs.length + 1:=by
 unfold putK
 split
 ·rw[Na];omega
 ·rw[NK,NC,PQ];omega
theorem KV.any {kvs:List (κ×V)}{vs:List (κ×Value)}(r:KV kvs vs)(k:κ):(kvs.any λkv=>decide (kv.1=k))=vs.any λkv=>decide (kv.1=k):=by
 unfold KV at r
 induction r with
 |nil=>rfl
 |cons h t ih=>rw[O3,O3,ih,h.1]
theorem KV.repl {kvs:List (κ×V)}{vs:List (κ×Value)}(r:KV kvs vs)(k:κ){y:V}{u:Value}(ry:RelV y u) :
  KV (kvs.map λkv=>if kv.1=k then (kv.1,y) else kv) (vs.map λkv=>if kv.1=k then (kv.1,u) else kv):=by
 unfold KV at r ⊢
 induction r with
 |nil=>exact .nil
 | @cons p q ps qs h t ih=>
  rw[NO,NO]
  refine .cons ?_ ih
  obtain⟨h1,h2⟩:=h
  by_cases e:p.1=k
  ·rw[M7 e,M7 (h1.symm.trans e)];exact⟨h1,ry⟩
  ·rw[Nd e,Nd (λz=>e (h1.trans z))];exact⟨h1,h2⟩
def KV.put {kvs:List (κ×V)}{vs:List (κ×Value)}(r:KV kvs vs)(k:κ){y:V}{u:Value}(ry:RelV y u):KV (putK kvs k y) (stored vs k u):=by
 unfold putK stored
 rw[r.any k]
 by_cases e:(vs.any λkv=>decide (kv.1=k))=true
 ·rw[M7 e,M7 e];exact r.repl k ry
 ·rw[Nd e,Nd e];exact Paired.snoc r ⟨rfl,ry⟩
end
theorem Kd {P:Program}{w:World}{k:Key}{u:Value}(r:RelV (kV k) u):(dN P w).is k u=true:=by
 cases k with
 |inl i=>obtain⟨t,e⟩:=(show ∃t,u=Value.int i t from r);subst e;exact v8 P w i t
 |inr x=>obtain⟨t,e⟩:=(show ∃t,u=Value.str x t from r);subst e;exact vg P w x t
section
variable {P:Program}{w:World}{H:Hp}{h:Heap}{a:Addr}
def JF {u:HO}(ok:j5 P w H h)(e:Rd H a u):bA P w H h a u:=e.ok ok
def Ks {kvs:List (Key×V)}(ok:j5 P w H h)(e:Rd H a (.dK kvs)):kvs.length<=sizeLine/\(a == sysModules)=false/\∃vs,KV kvs vs/\h.DictOf (dN P w) a vs:=
 show bA P w H h a (.dK kvs) from JF ok e
def JO {kvs:List (Key×V)}(ok:j5 P w H h)(e:H a=some (.dK kvs)):kvs.length<=sizeLine/\(a == sysModules)=false/\∃vs,KV kvs vs/\h.DictOf (dN P w) a vs:=Ks ok (.inl e)
end
def FC (H:Hp)(a:Addr)(y:V)(r:Option V):Prop:=
 (∃kvs k,Rd H a (.dK kvs)/\y=kV k/\r=FE kvs k)\/∃kvs k b,Rd H a (.dT kvs)/\y=.ref b/\Rd H b (.tup (k.map kV))/\r=FE kvs k
def ET (H:Hp)(a:Addr)(y v:V)(H':Hp):Prop:=
 (∃kvs k,H a=some (.dK kvs)/\y=kV k/\kvs.length < sizeLine/\H'=upd H a (.dK (putK kvs k v)))\/
 ∃kvs k b,H a=some (.dT kvs)/\y=.ref b/\Rd H b (.tup (k.map kV))/\kvs.length < sizeLine/\H'=upd H a (.dT (putK kvs k v))
def FC.k {H:Hp}{a:Addr}{kvs:List (Key×V)}{k:Key}(e:H a=some (.dK kvs)):FC H a (kV k) (FE kvs k):=.inl ⟨kvs,k,.inl e,rfl,rfl⟩
def FC.t {H:Hp}{a b:Addr}{kvs:List (List Key×V)}{k:List Key}(e:H a=some (.dT kvs))(eb:Rd H b (.tup (k.map kV))):FC H a (.ref b) (FE kvs k):=.inr ⟨kvs,k,b,.inl e,rfl,eb,rfl⟩
def ET.k {H:Hp}{a:Addr}{kvs:List (Key×V)}{k:Key}{v:V}(e:H a=some (.dK kvs))(hl:kvs.length < sizeLine):ET H a (kV k) v (upd H a (.dK (putK kvs k v))):=.inl ⟨kvs,k,e,rfl,hl,rfl⟩
def ET.t {H:Hp}{a b:Addr}{kvs:List (List Key×V)}{k:List Key}{v:V}(e:H a=some (.dT kvs))(eb:Rd H b (.tup (k.map kV)))(hl:kvs.length < sizeLine) :
  ET H a (.ref b) v (upd H a (.dT (putK kvs k v))):=.inr ⟨kvs,k,b,e,rfl,eb,hl,rfl⟩
section
variable {X:Cx}{pins:List (Addr×Obj)}{σ:St}{H:Hp}{s:Shared}{a:Addr}{y v:V}{u r:Value}{o:Option V}{A:Around}{E:Value->Shared->Prop}
def Inv.big (I:Inv X pins σ H s):sysModules < s.heap.objs.size:=by
 have h:mainGlobals < s.heap.objs.size:=(I.mod.glob.keeps I.bk).lt
 exact Nat.lt_trans (by decide) h
def EY {h':Heap}{t':Nat}{ob:HO}(I:Inv X pins σ H s)(mu:Jv (H a))(hs:Heap.SameBut a s.heap h')(he:∃q,h'.get? a=some q)(new:bA X.prog X.w (upd H a ob) h' a ob) :
  Inv X pins σ (upd H a ob) {s with heap:=h',toks:=t'}:=
 I.write (x:=a) (e:=a) mu (.inl rfl) (λb q hb z=>(hs.2 b hb).trans z) he new
def Jh {P:Program}{w:World}{H':Hp}{h':Heap}{kvs:List (Key×V)}{vs:List (Key×Value)}(z:kvs.length<=sizeLine)(hd:(a == sysModules)=false)(rel:KV kvs vs)(dd:h'.DictOf (dN P w) a vs) :
  bA P w H' h' a (.dK kvs):=⟨z,hd,vs,rel,dd⟩
end
def Ck {P:Program}{w:World}{H:Hp}(h:Heap)(hb:sysModules < h.objs.size):bA P w H (h.push {cls:=.type "dict",data:=.dict #[]}) h.objs.size (.dK []):=
 ⟨NQ _,beq_eq_false_iff_ne.mpr (Ne.symm (NG hb)),[],.nil,Heap.DictOf.new h⟩
def xP:List (TE×TE)->St->Hp->(List (V×V)->Hp->Prop)->Prop
 | [],_,H,Q=>Q [] H
 | (tk,tv) :: r,σ,H,Q=>tk σ H λx H1=>tv σ H1 λy H2=>xP r σ H2 λps H3=>Q ((x,y) :: ps) H3
abbrev VV:List (V×V)->List (Value×Value)->Prop:=Paired λp q=>RelV p.1 q.1/\RelV p.2 q.2
def KZ (X:Cx)(pos:Pos)(keys:List (Option Expr))(values:List Expr)(trs:List (TE×TE)):Prop:=
 ∀(pins:List (Addr×Obj)) (s:Shared) (σ:St) (H:Hp) (Q:List (V×V)->Hp->Prop),Inv X pins σ H s->xP trs σ H Q->
  wpAny (model X.prog X.w) X.A (evalPairs (pairTrees keys values X.env pos)) (λvs s'=>∃ps H',Inv X pins σ H' s'/\VV ps vs/\Q ps H') X.xe s
def Et {X:Cx}{pos:Pos}:KZ X pos [] [] []:=λpins s σ H Q I h=>pairTrees_nil_walk ⟨[],H,I,.nil,h⟩
def Dv {X:Cx}{pos:Pos}{k v:Expr}{ks:List (Option Expr)}{vs:List Expr}{tk tv:TE}{trs:List (TE×TE)}(hk:PE X k tk)(hv:PE X v tv)(hr:KZ X pos ks vs trs) :
  KZ X pos (some k :: ks) (v :: vs) ((tk,tv) :: trs):=λpins s σ H Q I h=>
 pairTrees_cons_walk (b6 (hk pins s σ H _ I h) λu s1 ⟨x,H1,I1,rx,q1⟩=>b6 (hv pins s1 σ H1 _ I1 q1) λw2 s2 ⟨y,H2,I2,ry,q2⟩=>
  b6 (hr pins s2 σ H2 _ I2 q2) λws s3 ⟨ps,H3,I3,rel,q3⟩=>⟨(x,y) :: ps,H3,I3,.cons ⟨rx,ry⟩ rel,q3⟩)
def pZ (kvs more:List (Key×V)):List (Key×V):=more.foldl (λacc kv=>putK acc kv.1 kv.2) kvs
theorem KV.merge:∀{more:List (Key×V)} {rs:List (Key×Value)} {kvs:List (Key×V)} {vs:List (Key×Value)},KV more rs->KV kvs vs->KV (pZ kvs more) (merged vs rs):=by
 intro more rs kvs vs r
 unfold KV at r
 induction r generalizing kvs vs with
 |nil=>intro q;exact q
 | @cons p q ps qs h t ih=>
  intro r0
  have e:KV (putK kvs p.1 p.2) (stored vs q.1 q.2):=by
   have:=r0.put p.1 h.2
   rw[<-h.1];exact this
  exact ih e
theorem lb:∀(more kvs:List (Key×V)),(pZ kvs more).length<=kvs.length + more.length
 | [],kvs=>by show kvs.length<=kvs.length + 0;omega
 |p :: r,kvs=>by
  have h1:=lb r (putK kvs p.1 p.2)
  have h2:=wt kvs p.1 p.2
  show (pZ (putK kvs p.1 p.2) r).length<=_
  rw[NC];omega
theorem pN {P:Program}{w:World}:∀{kvs:List (Key×V)} {ws:List (Value×Value)},VV (kvs.map λkv=>(kV kv.1,kv.2)) ws->∃rs,Carries (dN P w) ws rs/\KV kvs rs
 | [],_,r=>by rw[List.map_nil] at r;cases r;exact⟨[],True.intro,.nil⟩
 |p :: kvs,_,r=>by
  rw[NO] at r
  cases r with
  | @cons a b as bs h t=>
   obtain⟨rs,c,q⟩:=pN (P:=P) (w:=w) t
   obtain⟨b1,b2⟩:=b
   exact⟨(p.1,b2) :: rs,⟨Kd h.1,rfl,c⟩,.cons ⟨rfl,h.2⟩ q⟩
def KC (trs:List (TE×TE)):TE:=λσ H Q=>∀p,H p=none->xP trs σ (upd H p (.dK [])) λps H2=>H2 p=some (.dK [])/\∃kvs:List (Key×V),ps=kvs.map (λkv=>(kV kv.1,kv.2))/\kvs.length<=15/\Q (.ref p) (upd H2 p (.dK (pZ [] kvs)))
def EH {X:Cx}{pos:Pos}{keys:List (Option Expr)}{values:List Expr}{trs:List (TE×TE)}(h:KZ X pos keys values trs)(hall:keys.all (·.isSome)=true)(hl:keys.length=values.length)(h0:keys≠ [])
  (h15:keys.length<=15):PE X (.Dict keys values pos) (KC trs):=by
 intro pins s σ H Q I q
 have hn:=I.hok.fresh (M9 s.heap.objs.size)
 have I1:=I.laid (a:=s.heap.objs.size) (o:=.dK []) (h':=s.heap.push {cls:=.type "dict",data:=.dict #[]}) (t':=s.toks) (λ_ _ q=>M4 _ q) (M9 _) (Ck s.heap I.big)
 refine wpAny_Dict_walk (knd:=dN X.prog X.w) hall hl h0 h15 (b6 (h pins _ σ _ _ I1 (q _ hn)) λws s2 ⟨ps,H2,I2,rel,e,kvs,ep,lk,q2⟩=>?_)
 subst ep
 obtain⟨rs,c,rk⟩:=pN (P:=X.prog) (w:=X.w) rel
 obtain⟨z,hd,vs0,r0,dd⟩:=JO I2.hok e
 cases r0
 refine⟨rs,c,dd,λh' dd' hs=>⟨.ref s.heap.objs.size,_,?_,rfl,q2⟩⟩
 have hz:(pZ [] kvs).length<=sizeLine:=by
  have h1:=lb kvs []
  rw[PQ] at h1
  rw[NA];omega
 have he:∃q,h'.get? s.heap.objs.size=some q:=let ⟨q,_,_,hq,_⟩:=dd';⟨q,hq⟩
 exact EY I2 (by rw[e];exact True.intro) hs he (Jh hz hd (rk.merge .nil) dd')
section
variable {X:Cx}{Γ:Fx}{E:XK}{pos:Pos}
def E5 {k:Str}{i:Int}{j j'}{p p':Pos}:SE X Γ E (.Dict [some (.Constant (.str k) j p)] [.Constant (.int i) j' p'] pos) (cst (.dict [(.str k,.int i)])) [] .v:=by
 refine PE.post' (EH (Dv qx nP Et) rfl rfl (by simp) (by simp)) ?_
 rintro σ H Q ⟨env,G,B,β,I,o⟩ p hp
 have o:∀v G' H',SR Γ B G' H' σ (aS [] env) β->ak G G'->ic B H H'->Rp Γ.K G' v (.dict [(.str k,.int i)])->Q v H':=o
 refine⟨ah,[(.inr k,.int i)],rfl,by simp,?_⟩
 rw[Gf]
 have xn:=Ext.new I.sub (o:=.dK [((.inr k:Key),V.int i)]) hp
 exact o _ _ _ (I.ext xn) xn.gg (xn.hh.mov B) (.dK (kvs:=[((.inr k:Key),V.int i)]) ah (.cons (.int i) .nil))
end
mutual
def Ea:D->Bool
 | .list ds=>Bw ds
 | .tuple ds=>Bw ds
 | .dict kvs=> !kvs.isEmpty && kvs.all λkv=>match kv.1,kv.2 with
  | .str _,.int _=>true
  |_,_=>false
 |_=>true
def Bw:List D->Bool
 | []=>true
 |d :: ds=>Ea d && Bw ds
end
abbrev D0 (n:Nat):List Nat:=[n + 1,n]
def AD:bootBuiltins "enumerate"=some (.type "enumerate"):=by decide +kernel
section
variable {X:Cx}{Γ:Fx}{E:XK}{e a b c:Expr}{f fa fb:VF D}{L La Lb:List Nat}{md ma mb:Md}{pos:Pos}
def kI (ds:List D):List D:=ds.mapIdx λi d=>.tuple [.int i,d]
end
def isStar:Expr->Bool
 | .Starred _ _=>true
 |_=>false
def zX {a:Expr}{es:List Expr}{env:Env}(h:isStar a=false):starEach (a :: es) env=(false,eval a env) :: starEach es env:=by
 cases a <;> first |rfl |cases h
def Ik (sc:Scope)(x:Str):Bool:=match sc.names.lookup x with
 |some .local=>true
 |some .cell=>true
 |some .free=>true
 |_=>false
def EA {sc:Scope}{x:Str}(h:Ik sc x=true):xw sc x:=by
 unfold Ik at h
 unfold xw
 split at h
 ·exact .inl (by assumption)
 ·exact .inr (.inl (by assumption))
 ·exact .inr (.inr (by assumption))
 ·cases h
def xq (N:List Str)(sc:Scope):List (Str×Nat)->Bool
 | []=>true
 | (x,i) :: r=>decide (N[i]? =some x) && (Ik sc x && ((!(x == ("__debug__":Str))) && ((!(x == ("__classdict__":Str))) && xq N sc r)))
theorem yF {N:List Str}{sc:Scope}:∀{l:List (Str×Nat)} {x:Str} {i:Nat},xq N sc l=true->l.lookup x=some i->N[i]? =some x/\xw sc x/\(x == ("__debug__":Str))=false/\(x == ("__classdict__":Str))=false
 | [],_,_,_,h=>by cases h
 | (y,j) :: r,x,i,h,e=>by
  simp only[xq,Ni,Nx,Od] at h
  obtain⟨h1,h2,h3,h4,h5⟩:=h
  rw[Pf] at e
  split at e
  ·rename_i q
   have q:x=y:=by simpa using q
   subst q
   cases e
   exact⟨h1,EA h2,h3,h4⟩
  ·exact yF h5 e
def Ad:Expr->Option Int
 | .Constant (.int i) _ _=>some i
 |_=>none
theorem o6 {e:Expr}{i:Int}(h:Ad e=some i):∃j p,e=.Constant (.int i) j p:=by
 cases e with
 |Constant c j p=>cases c <;> first | (cases h;exact⟨_,_,rfl⟩) |cases h
 |_=>cases h
def LM (op:UnaryOp)(e:Expr):Option Int:=match op with
 | .USub=>Ad e
 |_=>none
def Gn:Operator->Bool
 | .Pow=>true
 |_=>false
def CU {o:Operator}(h:Gn o=true):o=.Pow:=by cases o <;> first |rfl |cases h
def IL (ks:List (Option Expr))(vs:List Expr):Option (Str×Int):=match ks,vs with
 | [some (.Constant (.str k) _ _)],[v]=>(Ad v).map λi=>(k,i)
 |_,_=>none
def F0 {ks:List (Option Expr)}{vs:List Expr}{r:Str×Int}(h:IL ks vs=some r):∃j p j' p',ks= [some (.Constant (.str r.1) j p)]/\vs= [.Constant (.int r.2) j' p']:=by
 unfold IL at h
 split at h
 ·rename_i k j p v
  cases q:Ad v with
  |none=>rw[q] at h;cases h
  |some i=>
   rw[q] at h
   cases h
   obtain⟨j',p',rfl⟩:=o6 q
   exact⟨_,_,_,_,rfl,rfl⟩
 ·cases h
def Mq:Const->Option D
 | .int i=>some (.int i)
 | .bool b=>some (.bool b)
 | .none=>some .none
 | .str x=>some (.str x)
 |_=>none
mutual
def rD (nm:List (Str×Nat)):Expr->Option (VF D×List Nat)
 | .Name x _=>(nm.lookup x).map λi=>(gv i,[i])
 | .Constant c _ _=>(Mq c).map λd=>(cst d,[])
 | .UnaryOp op a _=>(LM op a).map λi=>(cst (.int (-i)),[])
 | .BinOp a o b _=>if Gn o=true then (Ad a).bind λi=>(Ad b).map λj=>(f2 (cst (.int i)) (cst (.int j)) Co,[]) else none
 | .Dict ks vs _=>(IL ks vs).map λr=>(cst (.dict [(.str r.1,.int r.2)]),[])
 | .Tuple es _ _=>(GD nm es).map λr=>(bK r.1,r.2)
 | .List es _=>(GD nm es).map λr=>(aY r.1,r.2)
 | .BoolOp ..=>none
 | .NamedExpr ..=>none
 | .Lambda ..=>none
 | .IfExp ..=>none
 | .Set ..=>none
 | .ListComp ..=>none
 | .SetComp ..=>none
 | .DictComp ..=>none
 | .GeneratorExp ..=>none
 | .Await ..=>none
 | .Yield ..=>none
 | .YieldFrom ..=>none
 | .Compare ..=>none
 | .Call ..=>none
 | .FormattedValue ..=>none
 | .JoinedStr ..=>none
 | .Attribute ..=>none
 | .Subscript ..=>none
 | .Starred ..=>none
 | .Slice ..=>none
def GD (nm:List (Str×Nat)):List Expr->Option (VF (List D)×List Nat)
 | []=>some (af,[])
 |e :: es=>(rD nm e).bind λr=>(GD nm es).map λq=>(aa r.1 q.1,r.2 ++ q.2)
end
section
variable {X:Cx}{Γ:Fx}{E:XK}{nm:List (Str×Nat)}
theorem kr {α β:Type}{o:Option α}{f:α->β}{b:β}(h:o.map f=some b):∃a,o=some a/\f a=b:=by
 cases o with
 |none=>cases h
 |some a=>exact⟨a,rfl,Option.some.inj h⟩
theorem yU {α β:Type}{o:Option α}{f:α->Option β}{b:β}(h:o.bind f=some b):∃a,o=some a/\f a=some b:=by
 cases o with
 |none=>cases h
 |some a=>exact⟨a,rfl,h⟩
mutual
theorem JK (hc:xq X.N X.env.scope nm=true)(hb:∀i,Γ.br i=false):∀{e:Expr} {f:VF D} {L:List Nat},rD nm e=some (f,L)->SE X Γ E e f L .v/\isStar e=false
 | .Name x p,f,L,h=>by
  rw[rD] at h
  obtain⟨i,q,e⟩:=kr h
  cases e
  obtain⟨h1,h2,h3,h4⟩:=yF hc q
  exact⟨az i (hb i) h1 h2 h3 h4,rfl⟩
 | .Constant c j p,f,L,h=>by
  rw[rD] at h
  obtain⟨d,q,e⟩:=kr h
  cases e
  cases c <;> first | (cases q;first |exact⟨ax,rfl⟩ |exact⟨gj,rfl⟩ |exact⟨CF,rfl⟩ |exact⟨nI,rfl⟩) |cases q
 | .UnaryOp op a p,f,L,h=>by
  rw[rD] at h
  obtain⟨i,q,e⟩:=kr h
  cases e
  cases op <;> first | (cases q;done) |skip
  obtain⟨j,p,rfl⟩:=o6 q
  exact⟨uX nH vO ax,rfl⟩
 | .BinOp a op b p,f,L,h=>by
  rw[rD] at h
  split at h
  ·rename_i ho
   obtain rfl:=CU ho
   obtain⟨i,q,h⟩:=yU h
   obtain⟨j,q2,e⟩:=kr h
   cases e
   obtain⟨j1,p1,rfl⟩:=o6 q
   obtain⟨j2,p2,rfl⟩:=o6 q2
   exact⟨bp Jd JT ax ax,rfl⟩
  ·cases h
 | .Dict ks vs p,f,L,h=>by
  rw[rD] at h
  obtain⟨r,q,e⟩:=kr h
  cases e
  obtain⟨_,_,_,_,rfl,rfl⟩:=F0 q
  exact⟨E5,rfl⟩
 | .Tuple es c p,f,L,h=>by
  rw[rD] at h
  obtain⟨r,q,e⟩:=kr h
  cases e
  exact⟨gV (tD hc hb q),rfl⟩
 | .List es p,f,L,h=>by
  rw[rD] at h
  obtain⟨r,q,e⟩:=kr h
  cases e
  exact⟨SE.wv (bh (tD hc hb q)),rfl⟩
 | .BoolOp ..,_,_,h=>by rw[rD] at h;cases h
 | .NamedExpr ..,_,_,h=>by rw[rD] at h;cases h
 | .Lambda ..,_,_,h=>by rw[rD] at h;cases h
 | .IfExp ..,_,_,h=>by rw[rD] at h;cases h
 | .Set ..,_,_,h=>by rw[rD] at h;cases h
 | .ListComp ..,_,_,h=>by rw[rD] at h;cases h
 | .SetComp ..,_,_,h=>by rw[rD] at h;cases h
 | .DictComp ..,_,_,h=>by rw[rD] at h;cases h
 | .GeneratorExp ..,_,_,h=>by rw[rD] at h;cases h
 | .Await ..,_,_,h=>by rw[rD] at h;cases h
 | .Yield ..,_,_,h=>by rw[rD] at h;cases h
 | .YieldFrom ..,_,_,h=>by rw[rD] at h;cases h
 | .Compare ..,_,_,h=>by rw[rD] at h;cases h
 | .Call ..,_,_,h=>by rw[rD] at h;cases h
 | .FormattedValue ..,_,_,h=>by rw[rD] at h;cases h
 | .JoinedStr ..,_,_,h=>by rw[rD] at h;cases h
 | .Attribute ..,_,_,h=>by rw[rD] at h;cases h
 | .Subscript ..,_,_,h=>by rw[rD] at h;cases h
 | .Starred ..,_,_,h=>by rw[rD] at h;cases h
 | .Slice ..,_,_,h=>by rw[rD] at h;cases h
theorem tD (hc:xq X.N X.env.scope nm=true)(hb:∀i,Γ.br i=false):∀{es:List Expr} {f:VF (List D)} {L:List Nat},GD nm es=some (f,L)->SA X Γ E es f L
 | [],f,L,h=>by rw[GD] at h;cases h;exact ar
 |e :: es,f,L,h=>by
  rw[GD] at h
  obtain⟨r,q,h⟩:=yU h
  obtain⟨r2,q2,e⟩:=kr h
  cases e
  obtain⟨a,b⟩:=JK hc hb q
  exact ae a (tD hc hb q2) (zX b)
end
def Es {es:List Expr}{p:Pos}{t:Option Expr}{l:Nat}{env:Env}:swapsWith (.List es p) t l env=pure false:=rfl
def GA {es:List Expr}{f:VF (List D)}{L:List Nat}{pos:Pos}(nm:List (Str×Nat))(hc:xq X.N X.env.scope nm=true)(hb:∀i,Γ.br i=false)(h:GD nm es=some (f,L)):SE X Γ E (.List es pos) (aY f) L .w:=bh (tD hc hb h)
def Kv {i:Nat}{x:Str}{es:List Expr}{f:VF (List D)}{L:List Nat}{pos' p pos:Pos}(nm:List (Str×Nat))(hc:xq X.N X.env.scope nm=true)(hb:∀i,Γ.br i=false)(h:GD nm es=some (f,L))(hN:X.N.Nodup)(hi:X.N[i]? =some x)(hx:Loc X.env.scope x)(hf:X.fn x=true\/X.env.scope.names.lookup x=some .local) :
  SS X Γ E (.Assign [.Name x pos'] (.List es p) pos) (bI i L (aY f)):=bt (SE.wv (GA nm hc hb h)) hN hi hx Es hf
end
end L2
section
namespace HT
open PySem PyProof.Rows PySem.Builtin PyProof
theorem p9 {α β:Type}{f g:α->Option β}:∀{l:List α},(∀m,m∈l->f m=g m)->l.filterMap f=l.filterMap g
 | [],_=>rfl
 |x :: l,h=>by rw[OT,OT,h x (Nb ..),p9 λm hm=>h m (M8 _ hm)]
def z5 {α:Type}(xs:Array α):((List.range xs.size).filterMap λ(m:Nat)=>xs[(((xs.size:Int) - 1) + (m:Int) * (-1)).toNat]?)=xs.toList.reverse:=by
 have e:∀m,m∈List.range xs.size->xs[(((xs.size:Int) - 1) + (m:Int) * (-1)).toNat]? =xs.toList.reverse[m]?:=λm hm=>by
  have hm:=Ny.mp hm
  rw[List.getElem?_reverse (by simpa using hm)]
  have:(((xs.size:Int) - 1) + (m:Int) * (-1)).toNat=xs.toList.length - 1 - m:=by simp;omega
  rw[this]
  simp
 have e2:((List.range xs.size).filterMap λ(m:Nat)=>xs[(((xs.size:Int) - 1) + (m:Int) * (-1)).toNat]?)=(List.range xs.toList.reverse.length).filterMap λm=>xs.toList.reverse[m]?:=by
  rw[List.length_reverse,OU]
  exact p9 e
 rw[e2]
 generalize xs.toList.reverse=l
 clear e e2
 apply O6
 intro i
 have key:∀n,n<=l.length->(List.range n).filterMap (λm=>l[m]?)=l.take n:=by
  intro n
  induction n with
  |zero=>intro _;simp
  |succ n ih=>
   intro hn
   rw[List.range_succ,List.filterMap_append,ih (by omega),List.take_succ,M1 (by omega)]
   simp[M1 (show n < l.length by omega)]
 rw[key l.length (M9 _),List.take_length]
end HT
namespace L2
open PySem PySem.Spec PyProof.Rows
section
variable {X:Cx}{Γ:Fx}{E:XK}{e a:Expr}{te:TE}{fa:VF D}{La:List Nat}{ma:Md}{pos p2 p3 p4:Pos}{j:Nat}
theorem bP.reverse {K:Frag}{G:Hp}:∀{xs:List V} {ds:List D},bP K G xs ds->bP K G xs.reverse ds.reverse
 |_,_,.nil=>.nil
 |_,_,.cons h hs=>by rw[P5,P5];exact (bP.reverse hs).snoc h
end
end L2
end
namespace L2
open PySem PySem.Spec PyProof.Rows
def C5 (items:Array Value):slicePick items none none (some (-1))=items.toList.reverse.toArray:=by
 have e:slicePick items none none (some (-1))=(((List.range (if ((items.size:Int) - 1) > -1 then (((items.size:Int) - 1) - (-1) - (-1) - 1) / (-(-1)) else 0).toNat).map λ(k:Nat)=>(((items.size:Int) - 1) + (-1) * (k:Int)).toNat).filterMap (items[·]?)).toArray:=rfl
 rw[e]
 have ec:(if ((items.size:Int) - 1) > -1 then (((items.size:Int) - 1) - (-1) - (-1) - 1) / (-(-1)) else 0).toNat=items.size:=by
  rw[show (-(-1:Int))=1 by rfl,Int.ediv_one]
  split <;> omega
 rw[ec,List.filterMap_map]
 congr 1
 rw[<-HT.z5]
 refine HT.p9 λm _=>?_
 show items[(((items.size:Int) - 1) + (-1) * (m:Int)).toNat]? =items[(((items.size:Int) - 1) + (m:Int) * (-1)).toNat]?
 rw[Int.mul_comm]
section
variable {X:Cx}{Γ:Fx}{E:XK}{e a:Expr}{te:TE}{fa:VF D}{La:List Nat}{ma:Md}{pos p2 p3 p4:Pos}{j:Nat}
def Dh (he:PE X e te):PE X (.Subscript e (.Slice none none (some (.UnaryOp .USub (.Constant (.int 1) j p3) p4)) p2) pos) (λσ H Q=>te σ H λx H1=>∃a xs,x=.ref a/\dZ X.K H1 a xs/\∀l,H1 l=none->Q (.ref l) (upd H1 l (.lst xs.reverse))):=by
 intro pins s σ H Q I h
 refine Subscript_ (b6 (he pins s σ H _ I h) λv s1 ⟨x,H1,I1,r1,q1⟩=>?_)
 obtain⟨a,xs,rfl,hx,q⟩:=q1
 cases r1
 refine wpAny_Slice ?_
 rw[evalPart_none]
 refine M5 (M5 ?_)
 refine b6 (yZ (GQ nH nP) pins s1 σ H1 (λo H2=>o=some (-1)/\H2=H1) I1 ⟨1,rfl, -1,rfl,rfl,rfl⟩) λvs s2 ⟨o,H2,I2,ps,q2,q3⟩=>?_
 subst q2 q3
 have I3:Inv X pins σ H2 {s2 with heap:=s2.heap.push {cls:=.type "slice",data:=.fields #[.none,.none,vs]}}:=I2.kept (t':=s2.toks) λb ob q=>M4 _ q
 obtain⟨its,r,ht,hz⟩:=I3.list hx
 have hlen:=r.length
 show wpAny (model X.prog X.w) X.A (subscriptTail e (.Slice none none (some (.UnaryOp .USub (.Constant (.int 1) j p3) p4)) p2) (.ref a) (.ref s2.heap.objs.size)) (EP X pins σ Q) X.xe {s2 with heap:=s2.heap.push {cls:=.type "slice",data:=.fields #[.none,.none,vs]}}
 refine tail_any (ops:=[.ref a,.ref s2.heap.objs.size]) ht.isList.typeIs slot_list_getitem.lookup ?_ (by with_unfolding_all rfl)
 refine wpAny_getItem_list_slice ht.isList (Heap.IsSliceOf.new ..) .none .none ps (by simp) ?_ (by rw[Nl] <;> omega)
 rw[C5]
 refine⟨.ref _,_,I3.laid (t':=s2.toks) (o:=.lst xs.reverse) (λb ob q=>M4 _ q) (M9 _) ?_,rfl,q _ (I3.hok.fresh (M9 _))⟩
 exact⟨by rw[List.length_reverse];exact hz,_,0,r.reverse,Nk _ rfl⟩
def GJ:D->Option D
 | .list ds=>some (.list ds.reverse)
 |_=>none
theorem DG (hK:X.K=Γ.K)(ha:SE X Γ E a fa La ma):SE X Γ E (.Subscript a (.Slice none none (some (.UnaryOp .USub (.Constant (.int 1) j p3) p4)) p2) pos) (f1 fa GJ) La .w:=by
 refine PE.post' (Dh ha) ?_
 rintro σ H Q ⟨env,G,B,β,I,o⟩
 refine⟨env,G,B,β,I,o.bnd.imp λd1 β1 h x G1 H1 I1 s1 m1 vx=>?_⟩
 have bx:=vx.brw I.boxThere
 obtain⟨d,e,k⟩:=h.of
 cases d1 with
 |list ds=>
  cases e
  obtain⟨p,xs,rfl,hq,r⟩:=bx.list I1.sub
  rw[hK]
  refine⟨p,xs,rfl,.inl hq,λl hl=>?_⟩
  have x:=Ext.own I1.sub (o:=.lst xs.reverse) hl
  exact k _ _ _ (I1.ext x) s1 (m1.trans (x.hh.mov B)) ⟨l,rfl,du m1 I1.boxThere hl,I1.sub.free hl,xs.reverse,ah,r.reverse⟩
 |_=>cases e
end
end L2
namespace L2
open PySem PyProof.Rows
section
variable {X:Cx}{K:Frag}{pins:List V}{σ:St}{H:Hp}{s:Shared}{E:XK}
theorem bP.intsB {G:Hp}:∀{ns:List Int} {xs:List V},bP K G xs (ns.map int)->xs=ns.map V.int
 | [],_,.nil=>rfl
 |n :: ns,_,.cons r t=>by cases r;rw[bP.intsB t];rfl
variable {Γ:Fx}{e a b c:Expr}{f fa fb fc:VF D}{L La Lb:List Nat}{md ma mb mc:Md}{pos:Pos}
def sortI (ns:List Int):List Int:=ns.mergeSort λa b=>decide (a<=b)
def sortI_perm (ns:List Int):(sortI ns).Perm ns:=List.mergeSort_perm ..
def u9 (ns:List Int):(sortI ns).Pairwise (· <= ·):=by
 have:=List.pairwise_mergeSort (le:=λa b:Int=>decide (a<=b)) (λa b c h1 h2=>by simp only[Nx] at *;omega) (λa b=>by simp only[PU,Nx];omega) ns
 exact this.imp λh=>by simpa using h
def eO {ns ms:List Int}(h:ms.Perm ns)(h2:ms.Pairwise (· <= ·)):ms=sortI ns:=
 List.Perm.eq_of_pairwise (le:=(· <= ·)) (λa b _ _ h1 h2=>by omega) h2 (u9 ns) (h.trans (sortI_perm ns).symm)
def Hu (K:Frag):List V->Hp->VK->Prop:=λxs H Q=>∃a ns,xs= [.ref a]/\dZ K H a (ns.map V.int)/\ns.length < 64/\∀l,H l=none->Q (.ref l) (upd H l (.lst ((sortI ns).map V.int)))
theorem o4:∀{us:List Value} {ns:List Int},IntsAre us ns->Vals (ns.map V.int) us
 |_,_,.nil=>.nil
 |_,_,.cons n t hr=>.cons ⟨t,rfl⟩ (o4 hr)
def xg:cg X (.builtin "sorted") (Hu X.K):=by
 intro pins s σ H xs us Q I r h
 obtain⟨a,ns,rfl,hq,hl,q⟩:=h
 obtain⟨u,rfl,rx⟩:=vals1 r
 cases rx
 obtain⟨its,rv,pl,hz⟩:=I.list hq
 have hil:its.length=ns.length:=by rw[<-rv.length,Na]
 refine sorted_ints pl.isList (intsAre_of rv) (by omega) λout ns' a1 a2 a3=>?_
 obtain rfl:=eO a2 a3
 obtain⟨c,he⟩:=sortedAll_at s.heap its out
 have hf:H (s.heap.objs.size + 1)=none:=I.hok.fresh (Pd _)
 have hz':((sortI ns).map V.int).length<=sizeLine:=by
  have:=a2.length_eq
  rw[Na,NA];omega
 have I2:Inv X pins σ (upd H (s.heap.objs.size + 1) (.lst ((sortI ns).map V.int))) {s with heap:=sortedAll s.heap its out,toks:=s.toks}:=I.laid (t':=s.toks) (λ_ _=>sortedAll_old) (Pd _) (show bA X.prog X.w _ _ _ (.lst ((sortI ns).map V.int)) from⟨hz',out.toList,c,o4 a1,he⟩)
 exact⟨.ref _,_,I2,rfl,q _ hf⟩
end
end L2
namespace L2
open PySem
section
variable {K:Frag}{h:Heap}{mg:Str->Option Value}
theorem Ar {α:Type}{P:List α->Prop}(q:∀a,P [a]):∀us:List α,us.length=1->P us
 | [a],_=>q a
theorem ln2 {α:Type}{P:List α->Prop}(q:∀a b,P [a,b]):∀us:List α,us.length=2->P us
 | [a,b],_=>q a b
theorem K2 {α:Type}{P:List α->Prop}(q:∀a b c,P [a,b,c]):∀us:List α,us.length=3->P us
 | [a,b,c],_=>q a b c
def aV (x:Str)(st:Stmt)(ps:List Str):Prop:=∀(kV doc pm:Value) (an:Option Addr) (cdv ct:Value) (us:List Value),us.length=ps.length->bindArgs (PySem.W.fnOf x x (iF st) (bO st) (aq st) .none kV doc pm an cdv ct) ⟨us,[]⟩=pure (ps.zip us)
structure Fo (K:Frag)(mg:Str->Option Value)(x:Str)(st:Stmt)(ps:List Str):Prop where
 ex:∃f fd,jL K mg x st ps f fd
def bB {x:Str}{st:Stmt}{ps:List Str}{f:Addr}{oc:Value}{od an:Option Addr}{sl:Array (Option Value)}{kV doc pm cdv ct:Value}(X:K.In h)(G:h.Ns mainGlobals mg)(b:aV x st ps)(a:PySem.W.nsIn K mainGlobals x=some (some (.ref f)))
  (l:K.lookup f=some ⟨oc,od,.func (PySem.W.fnOf x x (iF st) (bO st) (aq st) .none kV doc pm an cdv ct),sl⟩) (c:PySem.W.codeIn K cdv x=true) (k:PySem.W.keepIn K (.ref f)=true):Fo K mg x st ps:=
 ⟨⟨f,_,NW X G a,xV l c k,(xV l c k).binds b⟩⟩
def LB:List Str:=["len","range","enumerate","zip","min","max","sum","abs","sorted","reversed","int","str","bool","list","tuple","dict","set","isinstance","repr","any","all","divmod"]
def L6 (K:Frag):Bool:=LB.all λx=>match PySem.W.nsIn K mainGlobals x with
 |some none=>true
 |_=>false
def IC (q:L6 K=true){x:Str}(hx:x∈LB):PySem.W.nsIn K mainGlobals x=some none:=by
 have:=NH.mp q x hx
 split at this
 ·assumption
 ·cases this
def Ky (X:K.In h)(G:h.Ns mainGlobals mg)(q:L6 K=true):jQ mg:=by
 have key:∀{x:Str},x∈LB->mg x=none:=λhx=>PySem.W.mg_none_of X G (IC q hx)
 constructor <;> exact key (by decide)
end
end L2
namespace L2
open PySem PySem.Spec PyProof.Rows
def Fi {prog:Program}{w:World}{A:Around}{it t:Addr}{xs:Array Value}(hh:A.handled=none)(i:Nat)(hx:xs[i]? =none):Draws prog w A it [it,t] i (λ_ _=>False) (λj h=>j=i/\h.IsListIter it t i/\h.IsList t xs) where
 live:=λ_ _ st=>let ⟨o,ho,_⟩:=st.2.1;⟨o,ho⟩
 frame:=λ_ _ _ st hk=>⟨st.1,st.2.1.at λo e=>hk it (by simp) o e,st.2.2.at λo e=>hk t (by simp) o e⟩
 item:=λj s Q E hi st k=>absurd st.1 (by omega)
 done:=λs Q E st k=>wpAny_nextOf_list_end hh st.2.1 st.2.2 hx k
def Hf (K:Frag)(a:Addr):It:=
 ⟨λi H=>∃xs x,dZ K H a xs/\xs[i]? =some x,
  λi H v H'=>∃x t,H t=none/\(∀xs,dZ K H a xs->xs[i]? =some x)/\v=.ref t/\H'=upd H t (.tup [.int i,x]),
  λi H=>∃xs,dZ K H a xs/\xs.length<=i⟩
def AI {h:Heap}{a n:Addr}{i:Nat}{its:Array Value}{b:Addr}(p:h.IsList a its)(q:h.IsListIter n b i):a≠n:=λz=>by
 subst z
 obtain⟨o,e,c,_⟩:=p
 obtain⟨o',e',c',_⟩:=q
 rw[e] at e';cases e'
 rw[c] at c'
 simp at c'
def AH {h:Heap}{a n it:Addr}{i:Int}{its:Array Value}{old:Value}(p:h.IsList a its)(q:IsEnum h n it i old):n≠a:=λz=>by
 subst z
 obtain⟨o,e,c,_⟩:=p
 rw[q] at e;cases e
 simp at c
def xD {P:Program}{w:World}{K:Frag}{elts:List Expr}{x1}{pos:Pos}(a:Addr)(n:Nat):Turn P w K (.Tuple elts x1 pos) (Hf K a) (D0 n) (n + 1)
  (λi h=>(∃old,IsEnum h (n + 1) n i old)/\h.IsListIter n a i) where
 mem:=by simp
 obj:=λi h st c hc=>by
  obtain⟨⟨old,z1⟩,⟨o2,z2,_,d2⟩⟩:=st
  simp only[D0,M6,N9,Pg] at hc
  rcases hc with rfl |rfl
  ·exact⟨_,z1,λv z=>by
    have z':Data.fields _=Data.cell v:=z
    cases z'⟩
  ·exact⟨o2,z2,λv z=>by rw[d2] at z;cases z⟩
 keep:=λi h h' st k=>by
  obtain⟨⟨old,z1⟩,z2⟩:=st
  exact⟨⟨old,k _ (by simp) _ z1⟩,z2.at λo e=>k _ (by simp) o e⟩
 item:=by
  intro X hP hw hK hc i pins s σ H E I hf st hg
  subst hP hw hK
  obtain⟨xs,x,ha,hx⟩:=hg
  obtain⟨its,rv,p,hz⟩:=I.list ha
  have p:s.heap.IsList a its.toArray:=p.isList
  obtain⟨u0,hu0,ru0⟩:=rv.get hx
  obtain⟨⟨old,z1⟩,z2⟩:=st
  have hh:X.A.in1.handled=none:=I.ok.hd hc
  have hlt:i < its.toArray.size:=by
   have:=Np.mp hu0
   simpa using this.1
  refine wpAny_pyNext_enum_itemD (Draws.list hh n a (AI p z2) its.toArray) z1 ⟨z2,p⟩ hlt (Mu 1 0 rfl) (by
   simp only[M6,N9,Pg,not_or]
   exact⟨Mu 1 0 rfl,AH p z1⟩) λu h' tk hu q1 q2 q3 q4 q5=>?_
  have eu:u0=u:=by
   have hu:its.toArray[i]? =some u:=hu
   rw[O2,hu0] at hu
   exact Option.some.inj hu
  subst eu
  refine⟨_,rfl,wpAny_letOwnedTupleGo_enum (s:={s with heap:=h',toks:=tk + 1}) q1 λh2 r1 r2=>?_⟩
  have r2:∀c,c≠n + 1->h2.get? c=h'.get? c:=r2.2
  have lz:n + 1 < s.heap.objs.size:=Nf z1
  have hT:H s.heap.objs.size=none:=I.hok.fresh (M9 _)
  have I1:Inv X pins σ (upd H s.heap.objs.size (.tup [.int i,x])) {s with heap:=s.heap.push {cls:=.type "tuple",data:=.seq #[.int i tk,u0]},toks:=s.toks}:=
   I.laid (λb o e=>M4 _ e) (M9 _) ⟨by show 2<=sizeLine;rw[NA];omega,[.int i tk,u0],.cons ⟨tk,rfl⟩ (.cons ru0 .nil),vW.new _ _⟩
  have hf':∀c∈D0 n,oQ X pins (upd H s.heap.objs.size (.tup [.int i,x])) c:=λc hc=>⟨by
   rw[au (λz=>?_)]
   ·exact (hf c hc).1
   ·subst z
    simp only[D0,M6,N9,Pg] at hc
    omega,(hf c hc).2⟩
  have I2:Inv X pins σ (upd H s.heap.objs.size (.tup [.int i,x])) {s with heap:=h2,toks:=tk + 1}:=by
   refine I1.turnedL (ch:=D0 n) (λc o hc e=>?_) hf'
   have e:(s.heap.push {cls:=.type "tuple",data:=.seq #[.int i tk,u0]}).get? c=some o:=e
   simp only[D0,M6,N9,Pg,not_or] at hc
   rw[r2 c hc.1]
   by_cases z:c=s.heap.objs.size
   ·subst z
    rw[Nk _ rfl] at e
    rw[<-e];exact q3
   ·refine q5 c o hc.1 hc.2 ?_
    rw[Heap.get?_push_ne _ _ _ z] at e
    exact e
  refine⟨.ref s.heap.objs.size,_,I2,rfl,⟨x,_,hT,λxs' h'=>?_,rfl,rfl⟩,⟨⟨u0,r1⟩,q2.1.at λo e=>(r2 _ (Mu 0 1 rfl)).trans e⟩,λc hc=>(hf' c hc).1⟩
  rw[I.list_inj h' ha];exact hx
 done:=by
  intro X hP hw hK hc i pins s σ H E I hf st hg
  subst hP hw hK
  obtain⟨xs,ha,hl⟩:=hg
  obtain⟨its,rv,p,hz⟩:=I.list ha
  obtain⟨⟨old,z1⟩,z2⟩:=st
  have hh:X.A.in1.handled=none:=I.ok.hd hc
  have l1:=rv.length
  refine wpAny_pyNext_enum_endD (Fi hh i (xs:=its.toArray) (by simp;omega)) z1 ⟨rfl,z2,p.isList⟩ λh' q=>⟨rfl,?_⟩
  refine I.turnedL (t':=s.toks) (ch:=D0 n) (λc o hc e=>?_) hf
  simp only[D0,M6,N9,Pg,not_or] at hc
  exact q c o hc.2 e
 self:=λ_ _ _ _ _ st h=>by
  obtain⟨⟨old,z1⟩,_⟩:=st
  exact wpAny_pyIter_enum z1 h
def L8 (K:Frag)(ta:TA):TI:=λσ H R=>ta σ H λvs H2=>∃a xs,vs= [.ref a]/\dZ K H2 a xs/\R (Hf K a) H2
section
variable {X:Cx}
theorem Iq {a:Expr}{ta:TA}{p pos pt:Pos}{elts:List Expr}{x1}(hg:Gl X "enumerate")(hm:X.mg "enumerate"=none)(ha:PA X [a] ta)(hs:starEach [a] X.env= [(false,eval a X.env)]:=by rfl) :
  PI X (.Tuple elts x1 pt) (.Call (.Name "enumerate" p) [a] [] pos) (L8 X.K ta):=by
 intro pins s σ H R I h
 refine Call_ (nG I hg hm AD (OZ (b6 (ha pos pins s σ H _ I h) λus s1 ⟨vs,H1,I1,r1,q1⟩=>?_) hs rfl))
 obtain⟨a,xs,e,h1,q⟩:=q1
 subst e
 cases r1 with
 |cons r rr=>
  cases rr
  cases r
  obtain⟨its,rv,p1,hz⟩:=I1.list h1
  refine call_enumerate_list p1.isList λh' z1 z2 _ z3=>?_
  refine wpAny_pyIter_enum z1 ⟨_,D0 s1.heap.objs.size,_,_,H1,rfl,I1.kept (t':=s1.toks) z3,xD a s1.heap.objs.size,⟨⟨_,z1⟩,z2⟩,λc hc=>?_,q⟩
  have:s1.heap.objs.size<=c:=by
   simp only[D0,M6,N9,Pg] at hc
   rcases hc with rfl |rfl <;> first |exact M9 _ |exact Nat.le_add_right _ _
  exact I1.fpOk this (I1.hok.fresh this)
end
section
variable {X:Cx}{Γ:Fx}{E:XK}{e a b c:Expr}{f fa fb:VF D}{L La Lb:List Nat}{md ma mb:Md}{pos:Pos}
def JM (fa:VF D):VF (List D):=λvs β=>(fa vs β).bnd λx β1=>match x with
 | .list ds=>.ok (kI ds) β1
 |_=>.bad
def DQ {K:Frag}{B:Option Addr}{G H1:Hp}{p:Addr}{xs:List V}{ds:List D}(hp:∀Gc H,ak G Gc->ak Gc H->ic B H1 H->dZ K H p xs)(r:bP K G xs ds):Walk K B G H1 (kI ds) (Hf K p):=λGc H i s1 s2 m=>by
 have hp':=hp Gc H s1 s2 m
 have l1:=r.len
 have lz:(kI ds).length=ds.length:=by unfold kI;rw[List.length_mapIdx]
 refine⟨λhi=>⟨?_,λx H' y=>?_⟩,λhi=>⟨xs,hp',by omega⟩⟩
 ·have h1:i < xs.length:=by omega
  exact⟨xs,xs[i],hp',by simp[h1]⟩
 ·obtain⟨x,t,ht,hx,rfl,rfl⟩:=y
  obtain⟨d,ed,rd⟩:=r.at' (hx xs hp')
  have xn:=Ext.new s2 (o:=.tup [.int i,x]) ht
  refine⟨upd Gc t (.tup [.int i,x]),.tuple [.int i,d],xn,?_,.tup (.inl (.inl ah)) (.cons (.int i) (.cons (rd.mono (s1.trans xn.gg)) .nil))⟩
  unfold kI
  rw[List.getElem?_mapIdx,ed];rfl
theorem Bm {p pt:Pos}{elts:List Expr}{x1}(hK:X.K=Γ.K)(hg:Gl X "enumerate")(hm:X.mg "enumerate"=none)(ha:SE X Γ E a fa La .v)(hs:starEach [a] X.env= [(false,eval a X.env)]:=by rfl)(hs':starEach [a] X.env=(false,eval a X.env) :: starEach [] X.env:=by rfl) :
  SI X Γ E (.Tuple elts x1 pt) (.Call (.Name "enumerate" p) [a] [] pos) (JM fa) La .v:=by
 refine PI.post (Iq hg hm (ao ha aJ hs') hs) ?_
 rintro σ H Q ⟨env,G,B,β,I,o⟩
 refine⟨env,G,B,β,I,o.bnd.imp λd1 β1 h x G1 H1 I1 s1 m1 vx=>?_⟩
 have vx:Rp Γ.K G1 x d1:=vx
 rw[hK]
 cases d1 with
 |list ds=>
  cases vx with
  | @lst p xs _ hq r=>exact⟨p,xs,rfl,.inl (Rd.mono (.inl hq) I1.sub),h _ G1 H1 I1 s1 m1 (DQ (λGc H t1 t2 _=>.inl (Rd.mono (.inl hq) (t1.trans t2))) r)⟩
 |_=>exact h.elim
end
end L2
section
namespace PyProof.Rows
open PySem PySem.Spec PySem.Calls
section
variable {prog:Program}{w:World}{A:Around}{E:Value->Shared->Prop}{s:Shared}
def pK {l:Addr}{vs:List Value}{Q:List Value->Shared->Prop}(hl:s.heap.IsTuple l vs.toArray)
  (h:Q vs {s with heap:=(s.heap.push (seqObj "list" #[] 0)).update s.heap.objs.size (Obj.mapSeq (· ++ vs.toArray))}) (hsz:vs.length<=sizeLine) :
  wpAny (model prog w) A (collect (.ref l)) Q E s:=by
 obtain⟨o,ho,hc,n,hd⟩:=id hl
 unfold collect
 refine MZ (wpAny_runValue (Om entry_proto_collect' ?_))
 show wpAny _ _ (do again (.builtin "list.__iadd__" ⟨[<-newList [],.ref l],[]⟩)) _ _ s
 refine MZ (PL (M5 ⟨Code.quiet_builtin _ (by decide +kernel),Om entry_list_iadd' ?_⟩))
 show wpAny _ _ (Builtin.List.listExtendWith (.ref s.heap.objs.size) (.ref l) (.ref s.heap.objs.size)) _ _ {s with heap:=s.heap.push (seqObj "list" #[] 0)}
 unfold Builtin.List.listExtendWith
 have ho':(s.heap.push (seqObj "list" #[] 0)).get? l=some o:=M4 _ ho
 refine MZ (wpAny_typeOf (T:="tuple") ⟨o,ho',hc⟩ ?_)
 have ht:(Value.type "tuple" == Value.type "tuple")=true:=by rfl
 rw[M7 (by rw[ht,Bool.or_true])]
 refine MZ (listItems_at ho' hd ?_)
 refine MZ (listItems_at (xs:=#[]) (n:=0) (Nk _ rfl) rfl ?_)
 rw[Nd (by simp)]
 refine MZ (listUpdate_at (xs:=#[]) (n:=0) (Nk _ rfl) rfl ?_ (NQ _) (by show (#[] ++ vs.toArray).size<=sizeLine + 1;simp only[Array.size_append,Nl,PQ];omega))
 refine M5 ?_
 show wpAny (model prog w) A (do
   let o <-load s.heap.objs.size
   match o.data with
   | .seq xs _=>pure xs.toList
   |_=>unsupported "internal:collect") Q E {s with heap:=(s.heap.push (seqObj "list" #[] 0)).update s.heap.objs.size (Obj.mapSeq (· ++ vs.toArray))}
 refine MZ (wpAny_load (get?_update_seq (Nk _ rfl) _) ?_)
 show wpAny _ _ (pure ((#[]:Array Value) ++ vs.toArray).toList) Q E _
 rw[show ((#[]:Array Value) ++ vs.toArray).toList=vs by simp]
 exact M5 h
def ue {l:Addr}{vs:List Value}{ns:List Int}{Q:Value->Shared->Prop}(hl:s.heap.IsTuple l vs.toArray)(hI:IntsAre vs ns)(h64:vs.length < 64)
  (h:∀(out:Array Value) (ns':List Int),IntsAre out.toList ns'->ns'.Perm ns->ns'.Pairwise (· <= ·)->Q (.ref (s.heap.objs.size + 1)) {s with heap:=sortedAll s.heap vs out}) :
  wpAny (model prog w) A (call (.builtin "sorted") [.ref l]) Q E s:=by
 refine PR kind_sorted plain_sorted entry_sorted (args_sorted1 _) ?_
 unfold Builtin.«sorted»
 refine MZ (m:=checkCount "sorted" 1 1 _) (M5 ?_)
 refine MZ (pK hl ?_ (by rw[NA];omega))
 refine MZ (PL ?_)
 have hsz:((s.heap.push (seqObj "list" #[] 0)).update s.heap.objs.size (Obj.mapSeq (· ++ vs.toArray))).objs.size=s.heap.objs.size + 1:=by
  rw[Heap.size_update,size_push']
 have hoL:(((s.heap.push (seqObj "list" #[] 0)).update s.heap.objs.size (Obj.mapSeq (· ++ vs.toArray))).push (seqObj "list" vs.toArray 0)).get? (s.heap.objs.size + 1)=some (seqObj "list" vs.toArray 0):=by
  rw[<-hsz];exact Nk _ rfl
 show wpAny _ _ _ _ _ {s with heap:=((s.heap.push (seqObj "list" #[] 0)).update s.heap.objs.size (Obj.mapSeq (· ++ vs.toArray))).push (seqObj "list" vs.toArray 0)}
 rw[hsz]
 refine MZ (N6 (OX slot_list_sort ⟨_,hoL,rfl⟩ entry_list_sort (list_sort_tree hoL hI h64 λout ns' a1 a2 a3=>⟨_,rfl,?_⟩) (args_list_sort _)))
 exact M5 ⟨_,rfl,h out ns' a1 a2 a3⟩
end
end PyProof.Rows
namespace L2
open PySem PyProof.Rows
section
variable {X:Cx}{K:Frag}{pins:List V}{σ:St}{H:Hp}{s:Shared}{E:XK}
def CO (K:Frag):List V->Hp->VK->Prop:=λxs H Q=>∃a ns,xs= [.ref a]/\(dZ K H a (ns.map V.int)\/fS K H a (ns.map V.int))/\ns.length < 64/\∀l,H l=none->Q (.ref l) (upd H l (.lst ((sortI ns).map V.int)))
def lK:cg X (.builtin "sorted") (CO X.K):=by
 intro pins s σ H xs us Q I r h
 obtain⟨a,ns,rfl,hq,hl,q⟩:=h
 rcases hq with hq |hq
 ·exact xg pins s σ H [.ref a] us Q I r ⟨a,ns,rfl,hq,hl,q⟩
 obtain⟨u,rfl,rx⟩:=vals1 r
 cases rx
 obtain⟨its,rv,pl,hz⟩:=I.tuple hq
 have hil:its.length=ns.length:=by rw[<-rv.length,Na]
 refine ue pl (intsAre_of rv) (by omega) λout ns' a1 a2 a3=>?_
 obtain rfl:=eO a2 a3
 obtain⟨c,he⟩:=sortedAll_at s.heap its out
 have hf:H (s.heap.objs.size + 1)=none:=I.hok.fresh (Pd _)
 have hz':((sortI ns).map V.int).length<=sizeLine:=by
  have:=a2.length_eq
  rw[Na,NA];omega
 have I2:Inv X pins σ (upd H (s.heap.objs.size + 1) (.lst ((sortI ns).map V.int))) {s with heap:=sortedAll s.heap its out,toks:=s.toks}:=I.laid (t':=s.toks) (λ_ _=>sortedAll_old) (Pd _) (show bA X.prog X.w _ _ _ (.lst ((sortI ns).map V.int)) from⟨hz',out.toList,c,o4 a1,he⟩)
 exact⟨.ref _,_,I2,rfl,q _ hf⟩
def iN (d:D):Option D:=match ig d with
 |some ds=>(match hG ds with
  |some ns=>if ns.length < 64 then some (.list ((sortI ns).map int)) else none
  |none=>none)
 |_=>none
theorem tX:Bg K (λx=>CO K [x]) iN .w:=by
 intro B G H x dx d Q s hB bx e k
 unfold iN at e
 cases q:ig dx with
 |none=>rw[q] at e;cases e
 |some ds=>
  rw[q] at e
  dsimp only at e
  cases q2:hG ds with
  |none=>rw[q2] at e;cases e
  |some ns=>
   rw[q2] at e
   dsimp only at e
   split at e
   ·rename_i hz
    cases e
    obtain⟨p,xs,rfl,hq,r⟩:=bx.seq q s
    rw[mJ q2] at r
    have r:=r.intsB
    subst r
    refine⟨p,ns,rfl,hq,hz,λl hl=>?_⟩
    have hh:ak H (upd H l (.lst ((sortI ns).map V.int))):=ak.new hl
    refine k _ _ _ (Ext.tups s hh) ⟨l,rfl,hl,?_,_,ah,bP.ints _⟩
    unfold lI
    rw[s.free hl,ah]
    exact Nd λy=>y
   ·cases e
end
end L2
end
namespace RM
open PySem L2
def mV:SF:=(bE (fX (f1 (gv 0) (gZ "int")) (f1 (f1 (gv 0) (gZ "bool")) wM)))
def jI (aC:List D->Int->FB):SF:=(aI (bI 1 ([] ++ ([] ++ ([] ++ ([] ++ ([] ++ ([] ++ ([] ++ ([] ++ ([] ++ ([] ++ (([] ++ []) ++ (([] ++ ([] ++ [])) ++ (([] ++ []) ++ []))))))))))))) (aY (aa (cst .none) (aa (cst (.bool true)) (aa (cst (.bool false)) (aa (cst (.int (-1))) (aa (cst (.int 0)) (aa (cst (.int 1)) (aa (cst (.str "")) (aa (cst (.str "1")) (aa (bK af) (aa (aY af) (aa (bK (aa (cst (.int 0)) af)) (aa (bK (aa (cst (.int 1)) (aa (bK af) af))) (aa (aY (aa (cst (.int 0)) af)) af)))))))))))))))
 (aI (bI 1 ([] ++ ([] ++ (([] ++ ([] ++ [])) ++ ([] ++ ((([] ++ ([] ++ [])) ++ []) ++ ([] ++ [])))))) (f2 (gv 1) (aY (aa (cst (.dict [(.str "a",.int 1)])) (aa (bK (aa (cst (.int 0)) (aa (cst (.int 1)) af))) (aa (f2 (cst (.int 10)) (cst (.int 39)) Co) (aa (bK (aa (bK (aa (cst (.int 0)) (aa (cst (.int 1)) af))) af)) (aa (cst (.str "a")) af)))))) dH))
 (bE (f2 (gv 1) (jK 0 aC (aa (cst (.int 18)) af)) cG))))
def ij:SF:=(bE (f2 (aX 2 [1] (.two 0 1) (bN (f2 (gv 0) (cst (.int 1)) cG)) (cK (f2 (pz (gv 2) (gv 0)) (pz (gv 2) (gv 1)) DW)) (cst (.int 1))) (aY af) (cF false)))
noncomputable def fy (cV:List D->FR):SF:=(aI (j6 ([] ++ (([] ++ []) ++ ([] ++ []))) (lT (sF (j4 (f1 (gv 0) (gZ "tuple")))) (lT (cK (f2 (f1 (gv 0) cZ) (gv 1) (cF true))) (sF (j4 (f1 (aX 1 [] (.nm 0) (bN (gv 0)) sk (aw cV (aa (gv 0) af))) (cA λbs=>bs.all id))))))
 (bE (cst (.bool false)))
 mU)
 (bE (f2 (f1 (gv 0) iN) (f1 (gv 1) cY) (cF false))))
def gB (aN:List D->FR):SF:=(aI (bI 1 [] (aY af))
 (aI (dr (.nm 2) ([] ++ []) (gk (f2 (gv 0) (cst (.int 0)) cG))
 (bI 1 ([] ++ (([] ++ []) ++ [0,2])) (f2 (gv 1) (aX 1 [0,2] (.nm 0) (gk (f2 (gv 0) (cst (.int 0)) cG)) (j4 (aw aN (aa (gv 1) (aa (gv 2) (aa (gv 0) af))))) (bK (aa (gv 2) (aa (gv 0) af)))) dH)))
 (sN 1)))
def gH:SF:=(bE (f2 (gv 0) (f2 (cst (.int 1)) (gv 1) Hx) ML))
def fq (aM:List D->FR):SF:=(aI (jU 1 (([] ++ []) ++ ([] ++ [])) (f2 (aY (aa (cst (.int 0)) af)) (f2 (gv 0) (cst (.int 0)) cG) v3))
 (aI (dr (.two 2 3) ([] ++ []) (bN (f2 (gv 0) (cst (.int 1)) cG))
 (vI 1 (([] ++ []) ++ ([2] ++ [])) [] (aw aM (aa (f2 (gv 1) (gv 3) cG) (aa (gv 2) af))) (gv 3)))
 (sN 1)))
def fF (aM:List D->FR):SF:=(aI (jU 2 [] (aY af))
 (aI (dr (.two 3 4) [0] (JM (gv 0))
 (j6 ((([1] ++ ([3] ++ [])) ++ []) ++ (([] ++ []) ++ [])) (DC (cK (f2 (aw aM (aa (gv 1) (aa (gv 3) af))) (gv 1) (cF true))) (cK (f2 (f2 (gv 1) (gv 4) Bv) (gv 4) (cF false))))
 (lP 2 [3] (gv 3))
 mU))
 (sN 2)))
def ik (cw aM:List D->FR):SF:=(aI (jU 2 [] (aY af))
 (aI (bI 3 [] (cst (.int 0)))
 (aI (iQ ([] ++ []) (cK (f2 (f1 (gv 2) cZ) (f1 (gv 0) cZ) DZ))
 (aI (bI 4 ([0] ++ ([3] ++ [])) (aw cw (aa (gv 0) (aa (gv 3) af))))
 (aI (bI 5 ([] ++ []) (aX 1 [1] (.nm 0) (bN (gv 4)) (cK (f2 (gv 0) (gv 1) (uC true))) (gv 0)))
 (aI (lP 2 (([] ++ []) ++ []) (f2 (f2 (gv 5) (gv 4) dH) (cst (.int 0)) cG))
 (bI 3 ([3] ++ (([] ++ []) ++ [])) (aw aM (aa (gv 3) (aa (f2 (gv 2) (f1 (cst (.int 1)) vH) cG) af))))))) 1000)
 (bE (f1 (gv 2) uQ)))))
end RM
namespace L2.ST
open PySem PySem.SetTable
def y1 (k:Int):Prop:=0<=k/\k < 8
def BQ {t:SetTable}{hs:List Int}(T:Tab t hs)(h:Int):∃j,t.freeSlot h=some (j,false)/\j∉t.place/\j<=t.mask/\Reach t.mask (· ∈t.place) h j:=by
 obtain⟨n,h1,h2,h3⟩:=T.first h
 refine⟨(dI t.mask n (st t.mask h)).j,?_,h2,?_,⟨n,h1,rfl,h3⟩⟩
 ·have e:t.probe (λ_=>h + 1) h (t.probeStart h)=some (.empty (dI t.mask n (st t.mask h)).j none):=by
   unfold probe
   rw[C4]
   refine uT n _ _ h1 rfl (λm hm=>?_) (T.slotE h2)
   obtain⟨i,e,q⟩:=T.slotL (h3 m hm)
   exact⟨i,e,λz=>by omega⟩
  unfold freeSlot
  rw[e];rfl
 ·have:=uk n (GU t.mask h)
  unfold In at this;omega
def Df {mask:Nat}(hm:AR mask){es:List (Int×Value)}(hl:es.length * 5 < mask * 3)(finger moves:Nat)(led:Bool) :
  ∃(t:SetTable) (order:Array Nat) (es':List (Int×Value)),laid mask finger moves led true (es.toArray.map (·.1))=some (t,order)/\order.filterMap (λi=>es.toArray[i]?)=es'.toArray/\es'.length=es.length/\
   (∀q,q∈es'↔q∈es)/\Tab t (es'.map (·.1))/\t.led=led/\coversAll order es.length=true/\es'.Perm es:=by
 obtain⟨t,order,e,el,em,nd,mem,T⟩:=sQ hm (es.toArray.map (·.1)) (by simpa using hl) finger moves led
 have hsz:(es.toArray.map (·.1)).size=es.length:=by simp
 obtain⟨es',f1,f2,f3,f4⟩:=filterMap_get es.toArray order.toList λk hk=>by
  have:=(mem k).mp hk;rw[hsz] at this;simpa using this
 have hpm:order.toList.Perm (List.range es.length):=(List.perm_ext_iff_of_nodup nd OW).mpr λx=>by rw[mem x,hsz,Ny]
 have hlen:order.toList.length=es.length:=by rw[hpm.length_eq,O7]
 have hp:es'.Perm es:=by
  rw[<-f1]
  refine (hpm.filterMap _).trans ?_
  have:=filterMap_getElem?_range es.toArray
  simp only[Nl,Oa] at this
  rw[this]
 refine⟨t,order,es',e,?_,by omega,λq=>hp.mem_iff,?_,el,by unfold coversAll;exact List.isPerm_iff.mpr hpm,hp⟩
 ·apply Array.toList_inj.mp
  rw[Array.toList_filterMap,<-f1]
 ·have:(order.toList.map λk=>(es.toArray.map (·.1)).toList.getD k 0)=es'.map (·.1):=by
   apply O6
   intro i
   rw[Ng,Ng]
   cases hi:order.toList[i]? with
   |none=>
    have:es'[i]? =none:=Pc.mpr (by rw[f2];exact Pc.mp hi)
    rw[this];rfl
   |some k=>
    have hk:k < es.length:=by have:=(mem k).mp (Nm hi);rwa [hsz] at this
    have:=f3 i k hi
    rw[O2,M1 hk] at this
    rw[this]
    simp[hk]
  rw[<-this];exact T
structure pV (f:Int->Int)(led:Bool)(h:Heap)(S:Addr)(es:List (Int×Value)):Prop where
 ex:∃o ep t,h.get? S=some o/\o.ExactSet/\o.data=.set es.toArray ep t/\Tab t (es.map (·.1))/\t.led=led
 el:∀e,e∈es->∃k tk,e=(f k,.int k tk)/\y1 k
 nd:(es.map (·.1)).Nodup
def pV.len {f:Int->Int}{led:Bool}{h:Heap}{S:Addr}{es:List (Int×Value)}(P:pV f led h S es):es.length<=8:=by
 have:=bw (m:=(List.range 8).map λ(k:Nat)=>f (k:Int)) P.nd λx hx=>by
  obtain⟨e,he,rfl⟩:=Nh.mp hx
  obtain⟨k,tk,rfl,h0,h8⟩:=P.el e he
  exact Nh.mpr ⟨k.toNat,Ny.mpr (by omega),by show f ((k.toNat:Nat):Int)=f k;rw[Pl h0]⟩
 simpa using this
section
variable {prog:Program}{w:World}{A:Around}{E:Value->Shared->Prop}{s:Shared}
theorem pV.add {led:Bool}{S:Addr}{es:List (Int×Value)}{k:Int}{tk:Tok}{Q:Bool->Shared->Prop}(hinj:∀a b,y1 a->y1 b->(intKind prog w).hash a=(intKind prog w).hash b->a=b)(P:pV (intKind prog w).hash led s.heap S es)(hs:y1 k)
  (h:∀(b:Bool) (h':Heap) (es':List (Int×Value)),Heap.SameBut S s.heap h'->pV (intKind prog w).hash led h' S es'->(∀e,e∈es'->e∈es\/e=((intKind prog w).hash k,.int k tk))->(∀e,e∈es->e∈es')->(∃tk',((intKind prog w).hash k,Value.int k tk')∈es')->Q b {s with heap:=h'}) :
  wpAny (model prog w) A (setAddHashed S (.int k tk) ((intKind prog w).hash k)) Q E s:=by
 obtain⟨o,ep,t,ho,hex,hd,T,hled⟩:=P.ex
 have hl8:=P.len
 have hfit:t.fits es.toArray.size=true:=ke T (by simp)
 have hel:ElemsOf (intKind prog w) es.toArray.toList:=λe he=>by
  obtain⟨k',tk',rfl,_⟩:=P.el e (by simpa using he)
  exact⟨⟨k',by simp[intKind,Value.isInt],rfl⟩,rfl⟩
 have hb:es.toArray.size < scanBound:=by unfold scanBound;simp;omega
 have hsc:(Value.int k tk).scannable=true:=rfl
 have hkey:(intKind prog w).is k (.int k tk)=true:=by simp[intKind,Value.isInt]
 unfold setAddHashed setAddHashedIn
 refine N6 (MZ (N3 ho hd hfit ?_))
 dsimp only
 rw[byScan_of hsc hb hel]
 simp only[↓reduceIte]
 unfold setAddByScan
 refine MZ ?_
 refine MZ (wpAny_rule ?_)
 refine MZ (wpAny_setScan_of hkey ho hd hfit hel ?_)
 cases hr:List.findIdx? (λe=>(intKind prog w).is k e.2) es.toArray.toList with
 |some j=>
  dsimp only
  obtain⟨hj,hpj,_⟩:=List.findIdx?_eq_some_iff_getElem.mp hr
  refine M5 (M5 ?_)
  have hm:es.toArray.toList[j]∈es:=by simpa using Oh hj
  obtain⟨k',tk',e,_⟩:=P.el _ hm
  rw[e] at hpj hm
  have:k'=k:=by simpa[intKind,Value.isInt] using hpj
  subst this
  exact h false s.heap es (Heap.SameBut.refl ..) P (λe he=>.inl he) (λe he=>he) ⟨tk',hm⟩
 |none=>
  dsimp only
  obtain⟨hh,hhe⟩:∃hh,hh=(intKind prog w).hash k:=⟨_,rfl⟩
  have hn:hh∉es.map (·.1):=λz=>by
   obtain⟨e,he,e1⟩:=Nh.mp z
   obtain⟨k',tk',rfl,hk'⟩:=P.el e he
   have:k'=k:=hinj _ _ hk' hs (e1.trans hhe)
   subst this
   have:=List.findIdx?_eq_none_iff.mp hr _ (by simpa using he)
   simp[intKind,Value.isInt] at this
  rw[<-hhe]
  obtain⟨j,e1,e2,e3,e4⟩:=BQ T hh
  obtain⟨q1,q2⟩:=nz t j T.dum
  have hpl:(t.put j).1.plain=true:=by rw[q1];exact T.plain
  have hbl:(t.put j).2<=es.length:=by
   rw[q2]
   have:=(bY T.rise j).1
   rw[T.size] at this;simpa using this
  obtain⟨es1,hes1⟩:∃es1,es1=es.take (t.put j).2 ++ (hh,Value.int k tk) :: es.drop (t.put j).2:=⟨_,rfl⟩
  have hins:insertAt es.toArray (t.put j).2 (hh,Value.int k tk)=es1.toArray:=by
   apply Array.toList_inj.mp
   rw[bq _ _ _ (by simpa using hbl),hes1]
  have perm:es1.Perm ((hh,Value.int k tk) :: es):=by
   rw[hes1]
   refine List.perm_middle.trans ?_
   rw[PB]
  have len1:es1.length=es.length + 1:=by rw[perm.length_eq];rfl
  have nd1:(es1.map (·.1)).Nodup:=(perm.map (·.1)).nodup_iff.mpr (NP.mpr ⟨hn,P.nd⟩)
  have el1:∀e,e∈es1->∃k tk,e=((intKind prog w).hash k,.int k tk)/\y1 k:=λe he=>by
   rcases M6.mp (perm.mem_iff.mp he) with z |z
   ·exact⟨k,tk,by rw[z,hhe],hs⟩
   ·exact P.el e z
  have psz:(t.put j).1.place.size=es.length + 1:=by
   rw[q1]
   show (insertAt t.place (below t.place j) j).size=_
   rw[<-OU,bq _ _ _ (bY T.rise j).1]
   have:=T.size
   simp at this ⊢
   have:=(bY T.rise j).1
   omega
  have dum1:(t.put j).1.dummies=#[]:=by rw[q1];exact T.dum
  have mask1:(t.put j).1.mask=t.mask:=by rw[q1]
  have tsz:t.place.size=es.length:=by simpa using T.size
  have hload:=T.load
  rw[tsz] at hload
  have hfit1:(t.put j).1.fits es1.toArray.size=true:=by
   unfold SetTable.fits SetTable.fill
   have hpl2:es.length + 1<=t.mask:=by
    rcases T.mask with e |e |e <;> rw[e] at hload ⊢ <;> omega
   rw[psz,dum1,mask1]
   simp[len1,hpl2]
  have hL:layNew t es.toArray hh (.int k tk)=(es1.toArray,(t.put j).1,false,false):=by
   unfold layNew
   rw[e1]
   dsimp only
   rw[hins]
   unfold orStandIn
   rw[hfit1];rfl
  have hgw:∀{s₁:Shared} {Q':Unit->Shared->Prop},Q' () s₁->wpAny (model prog w) A (match false with |true=>rule "set.scan.the-table-gave-way" |false=>pure ()) Q' E s₁:=λhq=>M5 hq
  rw[hL]
  dsimp only
  refine MZ (hgw ?_)
  rw[hpl]
  simp only[↓reduceIte]
  refine MZ ?_
  rw[hashByValue_scannable 8 hsc]
  refine M5 ?_
  rw[show plainKind (Value.int k tk)=true from rfl]
  simp only[↓reduceIte]
  have hsize:es1.toArray.size<=sizeLine:=by rw[NA];simp;omega
  refine MZ (P8 ho hd ?_ hsize)
  have ho1:(s.heap.update S (Obj.putSet es1.toArray (t.put j).1)).get? S=some {o with data:=.set es1.toArray (ep + 1) (t.put j).1}:=by
   have:=NX (Obj.putSet es1.toArray (t.put j).1) ho (by rw[PY _ _ hd];rfl)
   rw[PY _ _ hd] at this;exact this
  have sb1:=Heap.SameBut.update s.heap S (Obj.putSet es1.toArray (t.put j).1)
  have m1:∀e,e∈es1->e∈es\/e=((intKind prog w).hash k,.int k tk):=λe he=>by
   rcases M6.mp (perm.mem_iff.mp he) with z |z
   ·exact .inr (by rw[z,hhe])
   ·exact .inl z
  have m2:∀e,e∈es->e∈es1:=λe he=>perm.mem_iff.mpr (M8 _ he)
  have m3:((intKind prog w).hash k,Value.int k tk)∈es1:=perm.mem_iff.mpr (by rw[<-hhe];exact Nb ..)
  simp only[Bool.not_false,Bool.true_and]
  cases htf:(t.put j).1.tooFull with
  |false=>
   simp only[Nr,NT]
   have hload2:(t.place.size + 1) * 5 < t.mask * 3:=by
    unfold SetTable.tooFull SetTable.fill at htf
    rw[psz,dum1,mask1] at htf
    simp at htf
    rw[tsz];exact htf
   obtain⟨T1,_⟩:=T.put e2 e3 e4 hload2
   refine M5 (M5 (h true _ es1 sb1 ⟨⟨_,ep + 1,_,ho1,hex,rfl,?_,?_⟩,el1,nd1⟩ m1 m2 ⟨tk,m3⟩))
   ·rw[hes1]
    simpa[List.map_take,List.map_drop] using T1
   ·rw[q1];exact hled
  |true=>
   simp only[Ob]
   have hfull:t.mask * 3<=(es.length + 1) * 5:=by
    unfold SetTable.tooFull SetTable.fill at htf
    rw[psz,dum1,mask1] at htf
    simpa using htf
   have hcase:∃mask',AR mask'/\sizeAbove (grown (es.length + 1)) - 1=mask'/\(es.length + 1) * 5 < mask' * 3:=by
    rcases T.mask with e |e |e
    ·have:es.length + 1=5:=by rw[e] at hfull hload;omega
     rw[this,Bl.1]
     exact⟨31,.inr (.inl rfl),rfl,by decide⟩
    ·rw[e] at hfull;omega
    ·rw[e] at hfull;omega
   obtain⟨mask',hm3,em,hl2⟩:=hcase
   obtain⟨t2,order,es2,g1,g2,g3,g4,g5,g6,g7,g8⟩:=Df hm3 (es:=es1) (by rw[len1];exact hl2) (t.put j).1.finger ((t.put j).1.movedTo mask') (t.put j).1.led
   have hfit2:t2.fits es2.toArray.size=true:=ke g5 (by simp)
   have hR:relayAll (t.put j).1 es1.toArray (grown es1.toArray.size)=(es2.toArray,t2,false):=by
    unfold relayAll
    rw[oj _ _ _ hpl,Nl,len1,em,g1]
    dsimp only
    rw[g2,hfit2,<-len1,g7];rfl
   rw[hR]
   dsimp only
   refine MZ (hgw ?_)
   have hsize2:es2.toArray.size<=sizeLine:=by rw[NA];simp;omega
   refine MZ (P8 ho1 rfl ?_ hsize2)
   have ho2:((s.heap.update S (Obj.putSet es1.toArray (t.put j).1)).update S (Obj.putSet es2.toArray t2)).get? S=some {o with data:=.set es2.toArray (ep + 1 + 1) t2}:=by
    have:=NX (Obj.putSet es2.toArray t2) ho1 (by rw[PY (ep:=ep + 1) _ _ rfl];rfl)
    rw[PY (ep:=ep + 1) _ _ rfl] at this;exact this
   have sb2:=sb1.trans (Heap.SameBut.update _ S (Obj.putSet es2.toArray t2))
   refine M5 (M5 (h true _ es2 sb2 ⟨⟨_,ep + 1 + 1,t2,ho2,hex,rfl,g5,?_⟩,λe he=>el1 e ((g4 e).mp he),(g8.map (·.1)).nodup_iff.mpr nd1⟩ (λe he=>m1 e ((g4 e).mp he)) (λe he=>(g4 e).mpr (m2 e he)) ⟨tk,(g4 _).mpr m3⟩))
   rw[g6,q1];exact hled
def p0 (vs:List Value)(ns:List Int):Prop:=vs.length=ns.length/\∀(i:Nat) (v:Value) (m:Int),vs[i]? =some v->ns[i]? =some m->(∃tk,v=.int m tk)/\y1 m
abbrev yC (prog:Program)(w:World)(h:Heap)(S:Addr)(ns:List Int)(k:Nat):Prop:=∃es:List (Int×Value),pV (intKind prog w).hash (dY w) h S es/\
 (∀e,e∈es->∃m tk,e=((intKind prog w).hash m,.int m tk)/\m∈ns.take k)/\∀m,m∈ns.take k->∃tk,((intKind prog w).hash m,Value.int m tk)∈es
def pV.to {f:Int->Int}{led:Bool}{h h':Heap}{S:Addr}{es:List (Int×Value)}(P:pV f led h S es)(k:∀o,h.get? S=some o->h'.get? S=some o):pV f led h' S es:=by
 obtain⟨o,ep,t,ho,r⟩:=P.ex
 exact⟨⟨o,ep,t,k o ho,r⟩,P.el,P.nd⟩
def yP:∀k:Nat,k < 8->hashInt (k:Int)=(k:Int):=by decide +kernel
def Fd (prog:Program)(w:World):∀a b,y1 a->y1 b->(intKind prog w).hash a=(intKind prog w).hash b->a=b:=λa b ha hb e=>by
 have e:hashInt a=hashInt b:=e
 obtain⟨a0,a8⟩:=ha
 obtain⟨b0,b8⟩:=hb
 have ea:=yP a.toNat (by omega)
 have eb:=yP b.toNat (by omega)
 rw[Pl a0] at ea
 rw[Pl b0] at eb
 omega
theorem lO {R:Result->Shared->Prop}{I:Addr}{fp wr:List Addr}{n:Nat}{P:Nat->Value->Prop}{St:Nat->Heap->Prop}(W:Walks prog w A.in1 I fp wr n P St)(S:Addr)(hSf:S∉fp){vs:List Value}{ns:List Int}(hn:vs.length=n)(hP:∀i v,P i v->vs[i]? =some v)
  (hps:p0 vs ns):∀(k i:Nat) (s:Shared),n - i=k->i<=n->St i s.heap->yC prog w s.heap S ns i->
   (∀h' tk,(∀b o,b∉S :: wr->s.heap.get? b=some o->h'.get? b=some o)->yC prog w h' S ns n->R (.ok (.ret .none)) {s with heap:=h',toks:=tk})->
   codeAny (model prog w) A (.builtin "set.update.loop" ⟨[.ref S,.ref I],[]⟩) R s:=by
 have nw:S∉wr:=λh=>hSf (W.sub _ h)
 intro k
 induction k with
 |zero=>
  intro i s hk hi hst hF hR
  obtain rfl:i=n:=by omega
  refine Om Oy ?_
  rw[OA N4 _]
  show wpAny _ A.in1 (pyNext (.ref I) >>= λr=>_) _ _ s
  refine MZ (W.done s _ _ hst λh' tk hm=>?_)
  show wpAny _ A.in1 (ret Value.none) _ _ _
  obtain⟨es,Q1,Q2,Q3⟩:=hF
  exact M5 (hR h' tk (λb o hb e=>hm b o (λz=>hb (M8 _ z)) e) ⟨es,Q1.to λo e=>hm S o nw e,Q2,Q3⟩)
 |succ k ih=>
  intro i s hk hi hst hF hR
  have hlt:i < n:=by omega
  refine Om Oy ?_
  rw[OA N4 _]
  show wpAny _ A.in1 (pyNext (.ref I) >>= λr=>_) _ _ s
  refine MZ (W.item i s _ _ hlt hst λv h1 tk1 hv hst1 hm=>?_)
  have hvi:=hP i v hv
  have hip:i < ns.length:=by rw[<-hps.1,hn];exact hlt
  obtain⟨⟨tv,rfl⟩,hsm⟩:=hps.2 i v ns[i] hvi (M1 hip)
  obtain⟨es,Q1,Q2,Q3⟩:=hF
  have P1:pV (intKind prog w).hash (dY w) h1 S es:=Q1.to λo e=>hm S o nw e
  show wpAny _ A.in1 (holding [Value.int ns[i] tv] (setAdd S (.int ns[i] tv)) >>= λ_=>_) _ _ _
  refine MZ (N6 ?_)
  unfold setAdd
  refine N6 (MZ (wpAny_pyHash_int ?_))
  refine pV.add (Fd prog w) (s:={s with heap:=h1,toks:=tk1 + 1}) P1 hsm λb h2 es' sb P2 m1 m2 m3=>?_
  have htk:∀{α:Type} {l:List α} {x:α},x∈l.take i->x∈l.take (i + 1):=λ{α l x} hx=>by
   rw[Oc];exact Of _ hx
  refine M5 ⟨plainId_quiet N4 _,ih (i + 1) _ (by omega) hlt (W.frame _ _ _ hst1 λb hb o e=>?_) ⟨es',P2,λe he=>?_,λm hm'=>?_⟩ λh' tk hm' F'=>?_⟩
  ·rw[sb.2 b λz=>hSf (by rw[<-z];exact hb)];exact e
  ·rcases m1 e he with z |z
   ·obtain⟨m,t',e',hmm⟩:=Q2 e z
    exact⟨m,t',e',htk hmm⟩
   ·refine⟨ns[i],tv,z,?_⟩
    rw[Oc,M1 hip];exact NJ _ (by simp)
  ·rw[Oc,M1 hip] at hm'
   rcases Nw.mp hm' with z |z
   ·obtain⟨t',ht'⟩:=Q3 m z
    exact⟨t',m2 _ ht'⟩
   ·have:m=ns[i]:=by simpa using z
    subst this
    exact m3
  ·refine hR h' tk (λb o hb e=>hm' b o hb ?_) F'
   show h2.get? b=some o
   rw[sb.2 b λz=>hb (by rw[z];exact Nb)]
   exact hm b o (λz=>hb (M8 _ z)) e
set_option maxHeartbeats 3200000 in
theorem oS {l:Addr}{vs:List Value}{ns:List Int}{T:String}{itO:Obj}{St:Addr->Nat->Heap->Prop}{Q:Value->Shared->Prop}(X:Src prog w s.heap l vs T itO St)(hh:A.handled=none)(hps:p0 vs ns)
  (h:∀(h':Heap) (tk:Nat),yC prog w h' s.heap.objs.size ns vs.length->(∀b o,s.heap.get? b=some o->h'.get? b=some o)->Q (.ref s.heap.objs.size) {s with heap:=h',toks:=tk}) :
  wpAny (model prog w) A (call (.type "set") [.ref l]) Q E s:=by
 obtain⟨c0,tl0,hmro0⟩:=N8.mro
 have hmade0:=N8.made
 have hsub0:=N8.sub
 refine wpAny_call (codeAny_of_tree ?_)
 show wpAny _ _ (callAny (.type "set") ⟨[.ref l],[]⟩) _ _ _
 refine M5 ⟨Code.quiet_builtin _ (by decide +kernel),Om F.entry_type_call ?_⟩
 (rw[Around.under_plain (weight_type_call_type "set" [.ref l] []) rfl])
 have g1:=N8.notType
 have g2:=N8.canCreate
 have g3:=F.typeCall_set_1 (.ref l)
 repeat (any_goals (first |assumption |wp_step))
 refine O0 (nZ (.ref l) (E:=E) (Q1:=λobj s1=>obj=.ref s.heap.objs.size/\s1={s with heap:=s.heap.push {cls:=.type "set",dict:=none,data:=.set #[] 0 (.fresh 0 0 (dY w))}}) ⟨rfl,rfl⟩) λr s1 hr=>?_
 cases r with
 |error e=>exact hr
 |ok fl=>
  cases fl with
  |ret obj=>
   obtain⟨rfl,rfl⟩:=hr
   generalize hO:({cls:=.type "set",dict:=none,data:=.set #[] 0 (.fresh 0 0 (dY w))}:Obj)=O
   have hS0:(s.heap.push O).get? s.heap.objs.size=some O:=Nk _ (by rw[<-hO];rfl)
   have hT0:Shared.TypeIs {s with heap:=s.heap.push O} (.ref s.heap.objs.size) "set":=⟨_,hS0,by rw[<-hO]⟩
   have g4:=N8.init.lookup
   have g5:=N8.init.bind (.ref s.heap.objs.size)
   repeat (any_goals (first |assumption |wp_step))
   refine O0 (codeAny_call_builtin (R:=wants (λr s2=>r=.none/\∃h' tk,s2={s with heap:=h',toks:=tk}/\yC prog w h' s.heap.objs.size ns vs.length/\(∀b o,s.heap.get? b=some o->h'.get? b=some o)) E)
    N8.init.plain F.entry_set_init (check_set_init_1 hT0 ?_)) λr2 s2 hr2=>?_
   ·obtain⟨ol,hol,hcl⟩:=X.ty
    have hol':(s.heap.push O).get? l=some ol:=M4 _ hol
    have e1:=X.ns
    have e2:=X.nf
    have e3:=X.nd
    have hTl:Shared.TypeIs {s with heap:=s.heap.push O} (.ref l) T:=⟨ol,hol',hcl⟩
    have hdat:O.data=.set #[] 0 (.fresh 0 0 (dY w)):=by rw[<-hO]
    (unfold Builtin.«set.__init__» noKeywords Builtin.Frozenset.updateFrom)
    subst hO
    obtain⟨oc,od,odt,osl⟩:=ol
    simp only at hcl
    subst hcl
    (generalize hPI0:pyIter=PI0)
    wp_walk
    subst hPI0
    have kp:∀b o,s.heap.get? b=some o->(s.heap.push {cls:=.type "set",dict:=none,data:=.set #[] 0 (.fresh 0 0 (dY w))}).get? b=some o:=λb o e=>M4 _ e
    refine X.it _ _ _ _ kp ?_
    refine MZ (wpAny_runValue ?_)
    have hlS:l < s.heap.objs.size:=Nf hol
    have hh3:A.in1.in1.in1.handled=none:=by simp[hh]
    have hneI:l≠(s.heap.push {cls:=.type "set",dict:=none,data:=.set #[] 0 (.fresh 0 0 (dY w))}).objs.size:=by
     rw[OJ];exact NG (P9 hlS)
    have hSf:s.heap.objs.size∉ [(s.heap.push {cls:=.type "set",dict:=none,data:=.set #[] 0 (.fresh 0 0 (dY w))}).objs.size,l]:=by
     rw[OJ]
     intro z
     rcases M6.mp z with e |z
     ·exact absurd e (NG (Nat.lt_succ_self _))
     ·exact absurd (Nz.mp z) (Nat.ne_of_gt hlS)
    refine lO (X.wk _ _ hh3 hneI) s.heap.objs.size hSf rfl (λi v e=>e) hps (vs.length - 0) 0 _ (by omega) (NQ _) (X.st _ kp) ?_ ?_
    ·refine⟨[],⟨⟨_,0,_,M4 _ hS0,⟨rfl,rfl,rfl⟩,rfl,sd _,rfl⟩,λq hq=>(by cases hq),PD⟩,λq hq=>(by cases hq),λp hp=>(by simp at hp)⟩
    ·intro h' tk hm F'
     show wpAny _ _ _ _ _ _
     refine M5 ?_
     show wpAny _ _ (ret Value.none) _ _ _
     refine M5 ⟨rfl,h',tk,rfl,F',λb o e=>hm b o (λz=>?_) (M4 _ (kp b o e))⟩
     have hlt:=Nf e
     rw[OJ] at z
     rcases M6.mp z with z |z
     ·exact absurd hlt (by rw[z];exact NR _)
     ·rw[Nz.mp z] at hlt
      exact absurd hlt (Nat.not_lt.mpr (Pd _))
   ·cases r2 with
    |error e=>exact hr2
    |ok fl2=>
     cases fl2 with
     |ret r=>
      obtain⟨rfl,h',tk,rfl,hF,hk⟩:=hr2
      repeat (any_goals (first |assumption |wp_step))
      exact h _ _ hF hk
     |_=>exact hr2.elim
  |_=>exact hr.elim
end
end L2.ST
namespace L2
open PySem PySem.Spec PyProof.Rows L2.ST
def GV:List Int:=[0,1,2,3,4,5,6,7]
def sI (ns:List Int):List Int:=GV.filter λk=>decide (k∈ns)
def Ez {k:Int}(h:y1 k):k∈GV:=by
 obtain⟨h0,h8⟩:=h
 simp only[GV,M6,N9,Pg];omega
def Gy (ns:List Int):(sI ns).Nodup:=List.Nodup.sublist (PM ..) (by decide)
def CY (ns:List Int):(sI ns).Pairwise (· < ·):=List.Pairwise.sublist (PM ..) (by decide)
def HX {ns:List Int}(h:∀k,k∈ns->y1 k){k:Int}:k∈sI ns↔k∈ns:=by
 unfold sI
 rw[NF,decide_eq_true_iff]
 exact⟨λx=>x.2,λx=>⟨Ez (h k x),x⟩⟩
def yK {ns ms:List Int}(h:∀k,k∈ns->y1 k)(nd:ms.Nodup)(hm:∀k,k∈ms↔k∈ns):sortI ms=sI ns:=
 (eO ((List.perm_ext_iff_of_nodup (Gy ns) nd).mpr λk=>(HX h).trans (hm k).symm) ((CY ns).imp λh=>Int.le_of_lt h)).symm
section
variable {K:Frag}{X:Cx}{G H:Hp}
def BI (w:World)(S:Addr)(es:List (Int×Value))(h:Heap):Prop:=∃o ep t,h.get? S=some o/\o.ExactSet/\o.data=.set es.toArray ep t/\Tab t (es.map (·.1))/\t.led=dY w
def va (w:World)(S:Addr)(es:List (Int×Value)):HO:=.ext (BI w S es)
def MJ (f:Int->Int)(es:List (Int×Value))(ns:List Int):Prop:=(∀e,e∈es->∃m tk,e=(f m,.int m tk)/\m∈ns)/\(∀m,m∈ns->∃tk,(f m,Value.int m tk)∈es)/\(es.map (·.1)).Nodup/\es.length<=8
def Gp (P:Program)(w:World)(K:Frag):List V->Hp->VK->Prop:=λxs H Q=>∃a ns,xs= [.ref a]/\(dZ K H a (ns.map V.int)\/fS K H a (ns.map V.int))/\(∀k,k∈ns->y1 k)/\
 ∀S es,H S=none->MJ (intKind P w).hash es ns->Q (.ref S) (upd H S (va w S es))
def AE (hc:X.calm=true):cg X (.type "set") (Gp X.prog X.w X.K):=by
 intro pins s σ H xs us Q I r h
 obtain⟨a,ns,rfl,hq,hs,q⟩:=h
 obtain⟨u,rfl,rx⟩:=vals1 r
 cases rx
 have hh:=I.ok.hd hc
 have core:∀{its:List Value} {T:String} {itO:Obj} {St:Addr->Nat->Heap->Prop},Vals (ns.map V.int) its->Src X.prog X.w s.heap a its T itO St->wpAny (model X.prog X.w) X.A (call (.type "set") [.ref a]) (EP X pins σ Q) X.xe s:=λ{its T itO St} rv src=>by
  have hlen:its.length=ns.length:=by rw[<-rv.length,Na]
  have sm:p0 its ns:=⟨hlen,λi v m e1 e2=>by
   obtain⟨t,ht⟩:=(intsAre_of rv).get i m e2
   rw[e1] at ht
   cases ht
   exact⟨⟨t,rfl⟩,hs m (Nm e2)⟩⟩
  refine oS src hh sm λh' tk F k=>?_
  obtain⟨es,P1,P2,P3⟩:=F
  rw[hlen,OE (M9 _)] at P2 P3
  have hf:H s.heap.objs.size=none:=I.hok.fresh (M9 _)
  obtain⟨o,ep,t,ho,r1⟩:=P1.ex
  have new:bA X.prog X.w (upd H s.heap.objs.size (va X.w s.heap.objs.size es)) h' s.heap.objs.size (va X.w s.heap.objs.size es):=
   ⟨⟨o,ep,t,ho,r1⟩,⟨o,ho⟩,λh1 h2 ⟨o1,ep1,t1,g1,g2⟩ kk=>⟨o1,ep1,t1,kk _ g1,g2⟩⟩
  exact⟨.ref _,_,I.laid (t':=tk) k (M9 _) new,rfl,q _ es hf ⟨P2,P3,P1.nd,P1.len⟩⟩
 rcases hq with hq |hq
 ·obtain⟨its,rv,pl,hz⟩:=I.list hq
  exact core rv (Src.list pl.isList)
 ·obtain⟨its,rv,pl,hz⟩:=I.tuple hq
  exact core rv (Src.tuple pl)
def sH (P:Program)(w:World)(K:Frag):List V->Hp->VK->Prop:=λxs H Q=>∃S es ns,xs= [.ref S]/\H S=some (va w S es)/\MJ (intKind P w).hash es ns/\(∀k,k∈ns->y1 k)/\∀l,H l=none->Q (.ref l) (upd H l (.lst ((sI ns).map V.int)))
theorem p7 {f:Int->Int}{ns:List Int}:∀{es:List (Int×Value)},(∀e,e∈es->∃m tk,e=(f m,Value.int m tk)/\m∈ns)->∃ms,IntsAre (es.map (·.2)) ms/\es.map (·.1)=ms.map f/\∀m,m∈ms↔∃tk,(f m,Value.int m tk)∈es
 | [],_=>⟨[],.nil,rfl,λm=>⟨(λh=>by cases h),(λ⟨_,h⟩=>by cases h)⟩⟩
 |e :: es,h=>by
  obtain⟨ms,a1,a2,a3⟩:=p7 λe he=>h e (M8 _ he)
  obtain⟨m,tk,rfl,_⟩:=h e (Nb ..)
  refine⟨m :: ms,.cons m tk a1,by rw[NO,NO,a2],λx=>?_⟩
  rw[M6,a3 x]
  constructor
  ·rintro (rfl | ⟨t,ht⟩)
   ·exact⟨tk,Nb ..⟩
   ·exact⟨t,M8 _ ht⟩
  ·rintro⟨t,ht⟩
   rcases M6.mp ht with z |z
   ·simp only[Prod.mk.injEq,Value.int.injEq] at z;exact .inl z.2.1
   ·exact .inr ⟨t,z⟩
def qU (hc:X.calm=true):cg X (.builtin "sorted") (sH X.prog X.w X.K):=by
 intro pins s σ H xs us Q I r h
 obtain⟨S,es,ns,rfl,hS,⟨h1,h2,nd,hl⟩,hs,q⟩:=h
 obtain⟨u,rfl,rx⟩:=vals1 r
 cases rx
 have hh:=I.ok.hd hc
 obtain⟨⟨o,ep,t,ho,hex,hd,T,hled⟩,_,_⟩:BI X.w S es s.heap/\_:=I.hok S _ hS
 have T':Tab t (es.toArray.toList.map (·.1)):=by rw[Oa];exact T
 have htp:=nF X.w S ep es.toArray
 rw[Oa] at htp
 obtain⟨ms,a1,a2,a3⟩:=p7 (f:=(intKind X.prog X.w).hash) (ns:=ns) (es:=(told X.w S ep es.toArray).toList) λe he=>h1 e (htp.mem_iff.mp he)
 have ndm:ms.Nodup:=by
  have:((told X.w S ep es.toArray).toList.map (·.1)).Nodup:=(htp.map (·.1)).nodup_iff.mpr nd
  rw[a2] at this
  exact (N0.mp this).imp λhxy e=>hxy (by rw[e])
 have hms:∀m,m∈ms↔m∈ns:=λm=>by
  rw[a3 m]
  constructor
  ·rintro⟨tk,ht⟩
   obtain⟨m',tk',e,hm'⟩:=h1 _ (htp.mem_iff.mp ht)
   simp only[Prod.mk.injEq,Value.int.injEq] at e
   rw[e.2.1];exact hm'
  ·intro hm
   obtain⟨tk,ht⟩:=h2 m hm
   exact⟨tk,htp.mem_iff.mpr ht⟩
 have hlen:((told X.w S ep es.toArray).toList.map (·.2)).length<=8:=by rw[Na,htp.length_eq];exact hl
 (refine PR kind_sorted plain_sorted entry_sorted (args_sorted1 _) ?_)
 unfold Builtin.«sorted»
 refine MZ (m:=checkCount "sorted" 1 1 ([Value.ref S]:List Value).length) (M5 ?_)
 refine MZ (oi (by simpa using hh) ho hd hex.1 T' hled (by simp;omega) λh1' tk1 vs ev k1=>?_)
 rw[ev]
 generalize hvs:(told X.w S ep es.toArray).toList.map (·.2)=vs' at a1 hlen
 have hz:vs'.length<=sizeLine:=by rw[NA];omega
 refine MZ (PL ?_ hz)
 show wpAny _ _ _ _ _ {s with heap:=h1'.push (seqObj "list" vs'.toArray 0),toks:=tk1}
 have hoL:(h1'.push (seqObj "list" vs'.toArray 0)).get? h1'.objs.size=some (seqObj "list" vs'.toArray 0):=Nk _ rfl
 refine MZ (N6 (OX slot_list_sort ⟨_,hoL,rfl⟩ entry_list_sort (list_sort_tree hoL a1 (by omega) λout ns' b1 b2 b3=>⟨_,rfl,?_⟩) (args_list_sort _)))
 refine M5 ⟨_,rfl,?_⟩
 obtain rfl:=eO b2 b3
 rw[yK hs ndm hms] at b1
 obtain⟨c,he⟩:∃c,(sortedHeap (h1'.push (seqObj "list" vs'.toArray 0)) h1'.objs.size vs' out).get? h1'.objs.size=some (seqObj "list" out c):=sortedHeap_at hoL
 have k2:∀b o,h1'.get? b=some o->(sortedHeap (h1'.push (seqObj "list" vs'.toArray 0)) h1'.objs.size vs' out).get? b=some o:=λb o e=>by
  have hlt:=Nf e
  rw[sortedHeap_old (NG hlt) (by rw[size_push'];exact P9 hlt),Heap.get?_push_ne _ _ _ (NG hlt)];exact e
 have I1:Inv X pins σ H {s with heap:=h1',toks:=tk1}:=I.kept k1
 have hf:H h1'.objs.size=none:=I1.hok.fresh (M9 _)
 have hz':((sI ns).map V.int).length<=sizeLine:=by
  have:(sI ns).length<=8:=(PM (l:=GV)).length_le
  rw[Na,NA];omega
 have I2:Inv X pins σ (upd H h1'.objs.size (.lst ((sI ns).map V.int))) {s with heap:=sortedHeap (h1'.push (seqObj "list" vs'.toArray 0)) h1'.objs.size vs' out,toks:=tk1}:=I1.laid (t':=tk1) k2 (M9 _) (show bA X.prog X.w _ _ _ (.lst ((sI ns).map V.int)) from⟨hz',out.toList,c,o4 b1,he⟩)
 exact⟨.ref _,_,I2,rfl,q _ hf⟩
def L4 (k:Int):Bool:=decide (0<=k) && decide (k < 8)
def gO (d:D):Option D:=match ig d with
 |some ds=>(match hG ds with
  |some ns=>if ns.all L4=true then some (.list ((sI ns).map int)) else none
  |none=>none)
 |none=>none
variable {Γ:Fx}{E:XK}{e a b c:Expr}{f fa fb fc:VF D}{L La Lb:List Nat}{md ma mb mc:Md}{pos:Pos}
theorem wG {p1 p2 pos2:Pos}(hc:X.calm=true)(hK:X.K=Γ.K)(hg:Gl X "sorted")(hm:X.mg "sorted"=none)(hg2:Gl X "set")(hm2:X.mg "set"=none)(ha:SE X Γ E a fa La ma)
  (he:starEach [a] X.env=(false,eval a X.env) :: starEach [] X.env:=by rfl)
  (he2:starEach [.Call (.Name "set" p2) [a] [] pos2] X.env=(false,eval (.Call (.Name "set" p2) [a] [] pos2) X.env) :: starEach [] X.env:=by rfl) :
  SE X Γ E (.Call (.Name "sorted" p1) [.Call (.Name "set" p2) [a] [] pos2] [] pos) (f1 fa gO) La .w:=by
 refine PE.post' (ba (qU hc) hg hm (by decide +kernel) (ao (gM (AE hc) hg2 hm2 (by decide +kernel) (ao ha aJ he) (by decide) (by decide) he) aJ he2) (by decide) (by decide) he2) λσ H Q ⟨env,G,B,β,I,o⟩=>?_
 refine iz (r:=λx H1 Q=>Gp X.prog X.w X.K [x] H1 λy H2=>sH X.prog X.w X.K [y] H2 Q) ?_ I o
 intro B G H x dx d Q s hB bx e k
 rw[hK]
 unfold gO at e
 cases q:ig dx with
 |none=>rw[q] at e;cases e
 |some ds=>
  rw[q] at e
  dsimp only at e
  cases q2:hG ds with
  |none=>rw[q2] at e;cases e
  |some ns=>
   rw[q2] at e
   dsimp only at e
   split at e
   ·rename_i hh
    cases e
    obtain⟨p,xs,rfl,hq,r⟩:=bx.seq q s
    rw[mJ q2] at r
    have r:=r.intsB
    subst r
    have sm:∀k,k∈ns->y1 k:=λk hk=>by
     have:=NH.mp hh k hk
     unfold L4 at this
     simp only[Ni,Nx] at this
     exact this
    refine⟨p,ns,rfl,hq,sm,λS es hS he'=>?_⟩
    refine⟨S,es,ns,rfl,ah,he',sm,λl hl=>?_⟩
    have hlH:H l=none:=by
     by_cases z:l=S
     ·subst z;exact hS
     ·rw[au z] at hl;exact hl
    have hh:ak H (upd (upd H S (va X.w S es)) l (.lst ((sI ns).map V.int))):=(ak.new hS).trans (ak.new hl)
    refine k _ _ _ (Ext.tups s hh) ⟨l,rfl,hlH,?_,_,ah,bP.ints _⟩
    unfold lI
    rw[s.free hlH,ah]
    exact Nd λy=>y
   ·cases e
end
end L2
section
namespace PySem.SeqAt
open MeetsSeq
def jh (l b:Addr)(items:Array Value)(n:Nat)(dd dd2:Option Addr)(sl sl2:Array (Option Value))(es:Array DictEntry)(ep:Nat) :
  Meets (Builtin.«list.__eq__» ⟨[.ref l,.ref b],[]⟩) (λ_ R s=>s.heap.get? l=some {cls:=.type "list",dict:=dd,data:=.seq items n,slots:=sl}/\s.heap.get? b=some {cls:=.type "dict",dict:=dd2,data:=.dict es ep,slots:=sl2}/\R (.ok (.ret .notImplemented)) s):=
 .of_wp λprog w A R s h=>by obtain⟨hp,g,d,tk,os⟩:=s;obtain⟨hl,hb,h⟩:=h;have f1:=F.sub_dict_list;wp_walk using wpAny_loadPart' hl,wpAny_loadPart' hb;exact⟨_,rfl,h⟩
def jA (l b:Addr)(items:Array Value)(n:Nat)(dd dd2:Option Addr)(sl sl2:Array (Option Value))(es:Array DictEntry)(ep:Nat) :
  Meets (Builtin.«dict.__eq__» ⟨[.ref b,.ref l],[]⟩) (λ_ R s=>s.heap.get? b=some {cls:=.type "dict",dict:=dd2,data:=.dict es ep,slots:=sl2}/\s.heap.get? l=some {cls:=.type "list",dict:=dd,data:=.seq items n,slots:=sl}/\R (.ok (.ret .notImplemented)) s):=
 .of_wp λprog w A R s h=>by obtain⟨hp,g,d,tk,os⟩:=s;obtain⟨hb,hl,h⟩:=h;have f1:=F.sub_list_dict;wp_walk using wpAny_loadPart' hl,wpAny_loadPart' hb;exact⟨_,rfl,h⟩
section
variable {A:Around}{s:Shared}
def EqAt.list_dictL {l b:Addr}{items:Array Value}{o2:Obj}{es:Array DictEntry}{ep:Nat}(hl:s.heap.IsList l items)(ho2:s.heap.get? b=some o2)(hc2:o2.cls=.type "dict")(hd2:o2.data=.dict es ep)(hu:A.units < cLine):EqAt A s (.ref l) (.ref b) false:=by
 have hne:l≠b:=λe=>by
  subst e
  obtain⟨o,ho,hc,_⟩:=hl
  rw[ho] at ho2
  cases ho2
  rw[hc] at hc2
  exact absurd hc2 (by simp)
 refine .of_refs hne λprog w E Q h=>?_
 obtain⟨⟨cls,dd,data,sl⟩,ho,hc,n,hd⟩:=id hl
 obtain⟨cls2,dd2,data2,sl2⟩:=o2
 simp only at hc hd hc2 hd2
 subst hc hd hc2 hd2
 exact (rc_eq_decline_or (k:=false) ⟨_,ho,rfl⟩ ⟨_,ho2,rfl⟩ (by decide) F.sub_dict_list F.slot_list_eq F.slot_dict_eq_refl
  (λ_ hq=>Pa F.slot_list_eq ⟨_,ho,rfl⟩ F.entry_list_eq (F.args_list_eq_2 _ _) (jh l b items n dd dd2 sl sl2 es ep) ⟨ho,ho2,hq⟩)
  (λ_ hq=>Pa F.slot_dict_eq_refl ⟨_,ho2,rfl⟩ F.entry_dict_eq (F.args_dict_eq_2 _ _) (jA l b items n dd dd2 sl sl2 es ep) ⟨ho2,ho,hq⟩)
  (λ_ hq=>wpAny_isSame_ref_other hne ho ho2 (by simp) hq) (.inr hu) h)
end
end PySem.SeqAt
namespace L2
open PySem PySem.Spec PyProof.Rows
section
variable {K:Frag}{X:Cx}{G H:Hp}
def HQ (K:Frag):R2:=λx y H Q=>∃a p xs,x=.ref a/\((∃kvs,H a=some (.dK kvs))\/∃kvs,H a=some (.dT kvs))/\y=.ref p/\fS K H p xs/\(∀v,v∈xs->∃b zs,v=.ref b/\H b=some (.lst zs))/\Q (.bl true) H
def Ak (hu:X.A.units + 100 < cLine):la X (compareOp .NotIn) (HQ X.K):=by
 intro pins s σ H x y v u Q I rx ry h
 obtain⟨a,p,xs,rfl,hd,rfl,hq,hx,q⟩:=h
 cases rx
 cases ry
 obtain⟨o2,es,ep,ho2,hc2,hd2⟩:∃o es ep,s.heap.get? a=some o/\o.cls=.type "dict"/\o.data=.dict es ep:=by
  rcases hd with⟨kvs,e⟩ | ⟨kvs,e⟩
  ·obtain⟨_,_,vs,_,o,es,ep,h1,h2,h3,_⟩:=I.hok a _ e
   exact⟨o,es,ep,h1,h2.1,h3⟩
  ·obtain⟨_,_,vs,_,o,es,ep,h1,h2,h3,_⟩:=I.hok a _ e
   exact⟨o,es,ep,h1,h2.1,h3⟩
 obtain⟨its,r,pl,hz⟩:=I.tuple hq
 refine SeqAt.notIn_tupleAt (λ_=>false) pl (λw hw=>?_) ⟨.bl _,H,I,rfl,?_⟩
 ·have hw:w∈its:=by simpa using hw
  obtain⟨i,hi,ew⟩:=NL.mp hw
  have hi':i < xs.length:=by rw[r.length];exact hi
  obtain⟨b,zs,eb,hb⟩:=hx xs[i] (Oh hi')
  obtain⟨u',eu,ru⟩:=r.get (M1 hi')
  rw[M1 hi,ew] at eu
  cases eu
  rw[eb] at ru
  cases ru
  obtain⟨its2,_,pl2,_⟩:=I.list (show dZ X.K H b zs from .inl (.inl hb))
  exact SeqAt.EqAt.list_dictL pl2.isList ho2 hc2 hd2 (by show X.A.units + 1 < _;omega)
 ·rw[show (!its.toArray.any λ_=>false)=true by simp];exact q
def IG:List D->Bool
 | []=>true
 | .list _ :: ds=>IG ds
 |_=>false
theorem vR:∀{ds:List D} {xs:List V},bP K G xs ds->IG ds=true->∀v,v∈xs->∃b zs,v=.ref b/\G b=some (.lst zs)
 |_,_,.nil,_,v,hv=>by cases hv
 |_,_,.cons (d:=d) (ds:=ds) r t,e,v,hv=>by
  cases d with
  |list l=>
   rcases M6.mp hv with rfl |hv
   ·cases r with
    |lst h _=>exact⟨_,_,rfl,h⟩
   ·exact vR t e v hv
  |_=>cases e
def JA (x y:D):Option D:=match x,y with
 | .dict ds,.tuple es=>if bM (.dict ds)=false/\IG es=true then some (.bool true) else none
 |_,_=>none
def rz (x y:D):Option D:=match uC true x y with
 |some d=>some d
 |none=>JA x y
def Am (hu:X.A.units + 100 < cLine):la X (compareOp .NotIn) (λx y H Q=>D6 X.K true x y H Q\/HQ X.K x y H Q):=by
 intro pins s σ H x y v u Q I rx ry h
 rcases h with h |h
 ·exact gK hu pins s σ H x y v u Q I rx ry h
 ·exact Ak hu pins s σ H x y v u Q I rx ry h
theorem Ju:nk K (λx y H Q=>D6 K true x y H Q\/HQ K x y H Q) rz .v:=by
 intro B G H x y dx dy d Q s hB bx by' e k
 unfold rz at e
 cases q:uC true dx dy with
 |some d'=>rw[q] at e;cases e;exact .inl (A1 B G H x y dx dy d Q s hB bx by' q k)
 |none=>
  rw[q] at e
  dsimp only at e
  unfold JA at e
  split at e
  ·rename_i ds es
   split at e
   ·rename_i hh
    cases e
    obtain⟨p,xs,rfl,hq,r⟩:=by'.tuple s
    refine .inr ?_
    have rx:=bx.rpH s
    have hx:∃a,x=.ref a/\((∃kvs,H a=some (.dK kvs))\/∃kvs,H a=some (.dT kvs)):=by
     cases rx with
     |scr _=>exact absurd hh.1 (by simp[bM])
     |dK h _=>exact⟨_,rfl,.inl ⟨_,h⟩⟩
     |dT h _=>exact⟨_,rfl,.inr ⟨_,h⟩⟩
    obtain⟨a,rfl,ha⟩:=hx
    exact⟨a,p,xs,rfl,ha,rfl,hq,vR (r.mono s) hh.2,k _ G H (Ext.refl s) (.bl _)⟩
   ·cases e
  ·cases e
end
end L2
end
namespace RM
open PySem L2
def tw (dA:List D->FR):SF:=(bE (f1 (f1 (aX 1 [0,2] (.nm 0) (bN (gv 1)) sk (aw dA (aa (gv 1) (aa (gv 0) (aa (gv 2) af))))) (cA λbs=>bs.any id)) wM))
noncomputable def jG (bD nM:List D->FR):SF:=(aI (j6 ([] ++ ([] ++ [])) (lT (sF (j4 (f1 (gv 0) (gZ "list")))) (cK (f2 (f1 (gv 0) cZ) (cst (.int 0)) (cF false))))
 (bE (cst (.bool false)))
 mU)
 (aI (j6 (([] ++ []) ++ ([] ++ [])) (lT (sF (j4 (f1 (aX 1 [1] (.nm 0) (bN (gv 0)) sk (aw bD (aa (gv 0) (aa (f2 (gv 1) (cst (.int 0)) cG) af)))) (cA λbs=>bs.all id)))) (cK (f2 (gv 0) (f1 (gv 0) gO) (cF true))))
 (bE (cst (.bool false)))
 mU)
 (bE (f1 (aX 1 [1,0] (.nm 0) (bN (gv 0)) sk (aw nM (aa (gv 1) (aa (gv 2) (aa (gv 0) af))))) (cA λbs=>bs.all id)))))
def dt (cQ eV dB cv:List D->FR):SF:=(aI (wo ([0] ++ []) (aw cQ (aa (gv 0) af)))
 (aI (j6 ([1] ++ ([0] ++ [])) (sF (j4 (aw eV (aa (gv 1) (aa (gv 0) af)))))
 (λenv β=>toS ((aa (cst (.str "this is no chain of the order")) af) (vl env) β) λds _=>if ds.length<=sizeLine then .exc "NoChain" else .bad)
 mU)
 (bE (aw dB (aa (aw cv (aa (gv 0) af)) (aa (gv 1) af))))))
def ou (marks:Str->Option Str)(dw:List D->FR):SF:=(vn marks (bE (aw dw (aa (gv 0) (aa (gv 1) af)))))
noncomputable def gz (aN:List D->FR)(aQ aC:List D->Int->FB):SF:=(aI (jU 2 [] (aY af))
 (aI (dr (.nm 3) (([] ++ []) ++ []) (bN (jK 0 aQ (aa (f1 (f2 (gv 1) (cst (.int 0)) cG) cY) af)))
 (j6 ((([] ++ [1,3]) ++ []) ++ (([] ++ []) ++ [])) (DC (cK (f2 (aX 1 [1,3] (.nm 0) (bN (gv 2)) (j4 (aw aN (aa (gv 1) (aa (gv 0) (aa (gv 2) af))))) (gv 0)) (aY af) (cF false))) (cK (f2 (jK 0 aC (aa (cst (.int 4)) af)) (cst (.int 0)) DW)))
 (lP 2 [3] (gv 3))
 mU))
 (nX (f1 (f2 (gv 2) (f2 (aY (aa (jK 0 aC (aa (f2 (gv 1) (cst (.int 0)) cG) af)) af)) (f1 (f2 (gv 2) (aY af) (cF false)) CB) v3) dH) iN))))
def gC (cx dv aN:List D->FR):SF:=(aI (j6 (([0] ++ (([] ++ []) ++ [])) ++ ([1] ++ ([0] ++ []))) (lT (sF (j4 (aw cx (aa (gv 0) (aa (f2 (gv 1) (cst (.int 0)) cG) af))))) (sF (j4 (aw dv (aa (gv 1) (aa (gv 0) af))))))
 (bE (cst (.bool false)))
 mU)
 (aI (dr (.nm 3) [2] (bN (gv 2))
 (dr (.nm 4) ([] ++ []) (gk (f2 (gv 1) (cst (.int 0)) cG))
 (j6 (([1] ++ ([3] ++ ([4] ++ []))) ++ (([] ++ []) ++ ([] ++ []))) (DC (j4 (aw aN (aa (gv 1) (aa (gv 3) (aa (gv 4) af))))) (cK (f2 (pz (gv 0) (gv 4)) (pz (gv 0) (gv 3)) DW)))
 (bE (cst (.bool false)))
 mU)))
 (bE (cst (.bool true)))))
noncomputable def yD (fg bW cP cL:List D->FR)(cW cR e8:List D->Int->FB):SF:=(aI (dr (.nm 1) ([] ++ ([] ++ [])) (gk (f2 (cst (.int 1)) (f2 (f1 (gv 0) cZ) (cst (.int 4)) (wV λi j=>.int (if j < i then j else i))) (wV λi j=>.int (if j > i then j else i))))
 (aI (zb 2 ([0] ++ ([1] ++ [])) (wD fg (aa (gv 0) (aa (gv 1) af))))
 (aI (bI 3 ([] ++ []) (jK 2 cW (aa (cst (.int 8)) af)))
 (aI (bI 4 ([3] ++ []) (jK 2 cR (aa (gv 3) af)))
 (aI (bI 5 [] (f1 (gv 4) CS))
 (aI (bI 6 ([3] ++ ([5] ++ [])) (aw bW (aa (gv 3) (aa (gv 5) af))))
 (aI (j6 (([6] ++ ([3] ++ ([4] ++ []))) ++ (([] ++ []) ++ (([3] ++ ([5] ++ [])) ++ []))) (lT (sF (j4 (aw cP (aa (gv 6) (aa (gv 3) (aa (gv 4) af)))))) (lT (cK (f2 (gv 5) (gv 4) (cF true))) (cK (f2 (aw bW (aa (gv 3) (aa (gv 5) af))) (gv 6) (cF true)))))
 (bE (cst (.bool false)))
 mU)
 (aI (dr (.two 7 8) ((([3] ++ []) ++ []) ++ []) (bN (Fh (aw cL (aa (gv 3) af)) (λ_ β=>.ok none β) (Gj (cst (.int 3)))))
 (j6 (([3] ++ (([7] ++ ([8] ++ [])) ++ [])) ++ []) (cK (f2 (aw bW (aa (gv 3) (aa (f1 (aY (aa (gv 7) (aa (gv 8) af))) iN) af))) (cst (.str "chain")) (cF true)))
 (bE (cst (.bool false)))
 mU))
 (aI (jU 9 ([] ++ ([] ++ ([] ++ (([] ++ (([] ++ []) ++ [])) ++ ((([] ++ []) ++ []) ++ (([] ++ (([] ++ []) ++ [])) ++ (([] ++ []) ++ (([] ++ []) ++ (([] ++ []) ++ []))))))))) (aY (aa (aY af) (aa (cst .none) (aa (f1 (gv 4) uQ) (aa (f2 (gv 4) (aY (aa (f2 (gv 3) (cst (.int 0)) cG) af)) dH) (aa (f2 (aY (aa (f1 (cst (.int 1)) vH) af)) (gv 4) dH) (aa (f2 (gv 4) (Fh (gv 4) (Gj (f1 (cst (.int 1)) vH)) (λ_ β=>.ok none β)) dH) (aa (aY (aa (cst (.bool true)) af)) (aa (aY (aa (cst (.str "0")) af)) (aa (f2 (gv 4) (cst (.int 0)) cG) af)))))))))))
 (aI (j6 ([] ++ []) (cK (f2 (f1 (gv 4) cZ) (cst (.int 1)) DW))
 (lP 9 [] (f1 (gv 4) GJ))
 mU)
 (dr (.nm 10) ([] ++ ([] ++ [])) (bN (f2 (gv 9) (aY (aa (jK 2 e8 af) af)) dH))
 (j6 (([] ++ (([] ++ []) ++ (([] ++ []) ++ []))) ++ (([3] ++ ([10] ++ [])) ++ [])) (DC (cK (f2 (gv 10) (bK (aa (aY (aa (cst (.int 0)) af)) (aa (aY (aa (cst (.int 1)) af)) af))) rz)) (cK (f2 (aw bW (aa (gv 3) (aa (gv 10) af))) (cst (.str "chain")) (cF true))))
 (bE (cst (.bool false)))
 mU))))))))))))
 (bE (cst (.bool true))))
end RM
namespace RQ
open PySem L2 RM
def top (i:Nat):Stmt:=PySem.Challenge.pw_rowsorder_k19_rows_for_chains.main.body.getD i (.Pass ⟨0,0,0,0⟩)
section
variable {P:Program}{w:World}{K:Frag}{mg:Str->Option Value}{base:Heap}{ca:Str->Addr}
abbrev jP:Stmt:=top 2
def uY:aE ["thing"] ["thing"] (aq jP):=⟨rfl,rfl,rfl,by decide +kernel,rfl,by decide +kernel,by decide +kernel⟩
def tM {f:Addr}{fd:FuncData}(F:jL K mg "is_whole" jP ["thing"] f fd)(B:jQ mg):cX P w K mg base ca "is_whole" ["thing"] 1 (bg 1 1 (p5)):=
 ⟨⟨f,fd,F.mg,F.F.kp,F.b,aU (N:=["thing"]) (k:=0) F.F uY λcdv A outer s H G E hr=>
  (ay (aR (iS (jo "int" (by decide) rfl rfl B.isinstance rfl B.int (by decide +kernel) (ag 0)) (kF (tI (jo "bool" (by decide) rfl rfl B.isinstance rfl B.bool (by decide +kernel) (ag 0)))) (λ_ _=>rfl))))⟩,λds h=>aP ds h⟩
abbrev jv:Stmt:=top 3
def wq:aE ["thing","bound"] ["thing","bound"] (aq jv):=⟨rfl,rfl,rfl,by decide +kernel,rfl,by decide +kernel,by decide +kernel⟩
def uy {f:Addr}{fd:FuncData}{bL:List D->FR}(F:jL K mg "is_below" jv ["thing","bound"] f fd)(B:jQ mg)(eZ:cX P w K mg base ca "is_whole" ["thing"] 1 bL):cX P w K mg base ca "is_below" ["thing","bound"] 2 (bg 2 2 (qm bL)):=
 ⟨⟨f,fd,F.mg,F.F.kp,F.b,aU (N:=["thing","bound"]) (k:=1) F.F wq λcdv A outer s H G E hr=>
  (ay (aR (iS (aL eZ (hr.mono (by decide)) bc rfl rfl (ae (az 0 rfl) ar)) (kF (wK DE BG Hb Il ax (ag 0) (ag 1))) (λ_ _=>rfl))))⟩,λds h=>aP ds h⟩
abbrev kN:Stmt:=top 4
def xu:aE ["thing"] ["thing"] (aq kN):=⟨rfl,rfl,rfl,by decide +kernel,rfl,by decide +kernel,by decide +kernel⟩
def wz {f:Addr}{fd:FuncData}{bL:List D->FR}(F:jL K mg "is_many" kN ["thing"] f fd)(B:jQ mg)(eZ:cX P w K mg base ca "is_whole" ["thing"] 1 bL){qO:Tok}(iV:mg "MOST_THINGS"=some (.int 8 qO)):cX P w K mg base ca "is_many" ["thing"] 2 (bg 1 1 (su bL)):=
 ⟨⟨f,fd,F.mg,F.F.kp,F.b,aU (N:=["thing"]) (k:=1) F.F xu λcdv A outer s H G E hr=>
  (ay (aR (iS (aL eZ (hr.mono (by decide)) bc rfl rfl (ae (az 0 rfl) ar)) (kF (wK DE DE Hb Hb ax (ag 0) (Eg (by rfl) iV))) (λ_ _=>rfl))))⟩,λds h=>aP ds h⟩
abbrev kW:Stmt:=top 5
def xQ:aE ["thing","many"] ["thing","many"] (aq kW):=⟨rfl,rfl,rfl,by decide +kernel,rfl,by decide +kernel,by decide +kernel⟩
def vD {f:Addr}{fd:FuncData}{bD:List D->FR}(F:jL K mg "is_pair" kW ["thing","many"] f fd)(B:jQ mg)(dq:cX P w K mg base ca "is_below" ["thing","bound"] 2 bD):cX P w K mg base ca "is_pair" ["thing","many"] 3 (bg 2 2 (rH bD)):=
 ⟨⟨f,fd,F.mg,F.F.kp,F.b,aU (N:=["thing","many"]) (k:=2) F.F xQ λcdv A outer s H G E hr=>
  (av (dC (sf.t (lx (dR (cI rfl (jo "tuple" (by decide) rfl rfl B.isinstance rfl B.tuple (by decide +kernel) (ag 0)))) (kM (bF (fk hr.units) gE (aZ cq jV rfl B.len Oj (ag 0)) ax (a9 _))) (λ_ _=>rfl)))
  (ay (aR gj))
  cf)
  (ay (aR (iS (aL dq (hr.mono (by decide)) bc rfl rfl (ae (bV bo dM (ag 0) ax (λ_ _=>rfl)) (ae (az 1 rfl) ar))) (kF (aL dq (hr.mono (by decide)) bc rfl rfl (ae (bV bo dM (ag 0) ax (λ_ _=>rfl)) (ae (az 1 rfl) ar)))) (λ_ _=>rfl)))))⟩,λds h=>aP ds h⟩
abbrev dS:Stmt:=top 6
def qY:aE ["many"] ["many"] (aq dS):=⟨rfl,rfl,rfl,by decide +kernel,rfl,by decide +kernel,by decide +kernel⟩
def pj {f:Addr}{fd:FuncData}(F:jL K mg "every_pair" dS ["many"] f fd)(B:jQ mg):cX P w K mg base ca "every_pair" ["many"] 1 (bg 1 1 (tx)):=
 ⟨⟨f,fd,F.mg,F.F.kp,F.b,aU (N:=["many"]) (k:=0) F.F qY λcdv A outer s H G E hr=>
  (ay (o9 (dW (NB:=["number","many"]) (own:=1) (ixs:=[0]) [] rfl (fZ (by kernel_rfl)) (λ_ _=>rfl) (pY rfl B.range (bp kC lR (ag 0) (ag 0))) (λH0 G0 par br bx C ex s3 H3 pn=>(eG (i:=0) (show (["number","many"]:List Str).Nodup by decide +kernel))) (λH0 G0 par br bx C ex s3 H3 pn hB1=>jd) (λH0 G0 par br bx C ex s3 H3 pn hB1=>(gV (ae (bp mq Fw (ag 0) (ag 1)) (ae (bp lU rG (ag 0) (ag 1)) ar)))))))⟩,λds h=>aP ds h⟩
abbrev jw:Stmt:=top 24
def wu:aE ["pairs"] ["pairs"] (aq jw):=⟨rfl,rfl,rfl,by decide +kernel,rfl,by decide +kernel,by decide +kernel⟩
def uL {f:Addr}{fd:FuncData}(F:jL K mg "has_ring" jw ["pairs"] f fd)(B:jQ mg):cX P w K mg base ca "has_ring" ["pairs"] 1 (bg 1 1 (qg)):=
 ⟨⟨f,fd,F.mg,F.F.kp,F.b,aU (N:=["pairs"]) (k:=0) F.F wu λcdv A outer s H G E hr=>
  (ay (aR (aZ (wC rfl) kR rfl B.any (by decide +kernel) (dW (NB:=["a","b"]) (own:=2) (ixs:=[]) [] rfl (fZ (by kernel_rfl)) (λ_ _=>rfl) (qJ rfl (ag 0)) (λH0 G0 par br bx C ex s3 H3 pn=>(lV (i:=0) (j:=1) (show (["a","b"]:List Str).Nodup by decide +kernel))) (λH0 G0 par br bx C ex s3 H3 pn hB1=>jd) (λH0 G0 par br bx C ex s3 H3 pn hB1=>(gR (hV hr.units) gE (ag 0) (ag 1) (a9 _)))))))⟩,λds h=>aP ds h⟩
abbrev jy:Stmt:=top 22
def kq:aE ["thing","many","pairs"] ["thing"] (aq jy):=⟨rfl,rfl,rfl,by decide +kernel,rfl,by decide +kernel,by decide +kernel⟩
def sX {f:Addr}{fd:FuncData}{gP gQ i4 fm:List D->FR}(F:jL K mg "is_order" jy ["thing"] f fd)(B:jQ mg)(nJ:cX P w K mg base ca "is_many" ["thing"] 2 gP)(nv:cX P w K mg base ca "is_pair" ["thing","many"] 3 gQ)(pO:cX P w K mg base ca "closed" ["many","pairs"] 3 i4)(ly:cX P w K mg base ca "has_ring" ["pairs"] 1 fm):cX P w K mg base ca "is_order" ["thing"] 4 (bg 3 1 (gX gP gQ i4 fm)):=
 ⟨⟨f,fd,F.mg,F.F.kp,F.b,aU (N:=["thing","many","pairs"]) (k:=3) F.F kq λcdv A outer s H G E hr=>
  (av (dC (sf.t (lx (dR (cI rfl (jo "tuple" (by decide) rfl rfl B.isinstance rfl B.tuple (by decide +kernel) (ag 0)))) (kM (bF (fk hr.units) gE (aZ cq jV rfl B.len Oj (ag 0)) ax (a9 _))) (λ_ _=>rfl)))
  (ay (aR gj))
  cf)
  (av (bt (i:=1) (bV bo dM (ag 0) ax (λ_ _=>rfl)) kq.nd)
  (av (bt (i:=2) (bV bo dM (ag 0) ax (λ_ _=>rfl)) kq.nd)
  (av (dC (sf.t (lx (dR (cI rfl (aL nJ (hr.mono (by decide)) bc rfl rfl (ae (az 1 rfl) ar)))) (kM (dR (cI rfl (jo "tuple" (by decide) rfl rfl B.isinstance rfl B.tuple (by decide +kernel) (ag 2))))) (λ_ _=>rfl)))
  (ay (aR gj))
  cf)
  (av (dC (dR (cI rfl (aZ (mC rfl) kR rfl B.all (by decide +kernel) (dW (NB:=["pair","many"]) (own:=1) (ixs:=[1]) [1] rfl (fZ (by kernel_rfl)) (λ_ _=>rfl) (qJ rfl (ag 2)) (λH0 G0 par br bx C ex s3 H3 pn=>(eG (i:=0) (show (["pair","many"]:List Str).Nodup by decide +kernel))) (λH0 G0 par br bx C ex s3 H3 pn hB1=>jd) (λH0 G0 par br bx C ex s3 H3 pn hB1=>(aL nv (hr.mono (by decide)) qy rfl rfl (ae (az 0 (hB1 0 (by decide))) (ae (az 1 (hB1 1 (by decide))) ar))))))))
  (ay (aR gj))
  cf)
  (ay (aR (iS (gR (hV hr.units) gE (ag 2) (aL pO (hr.mono (by decide)) bc rfl rfl (ae (az 1 rfl) (ae (az 2 rfl) ar))) (a9 _)) (kF (tI (aL ly (hr.mono (by decide)) bc rfl rfl (ae (az 2 rfl) ar)))) (λ_ _=>rfl)))))))))⟩,λds h=>aP ds h⟩
abbrev gJ:Stmt:=top 25
def qP:aE ["thing"] ["thing"] (aq gJ):=⟨rfl,rfl,rfl,by decide +kernel,rfl,by decide +kernel,by decide +kernel⟩
def pI {f:Addr}{fd:FuncData}{eS:List D->FR}(F:jL K mg "need_order" gJ ["thing"] f fd)(B:jQ mg)(lC:cX P w K mg base ca "is_order" ["thing"] 4 eS)(ja:Exc K mg ca "NoOrder"):cX P w K mg base ca "need_order" ["thing"] 5 (bg 1 1 (gF eS)):=
 ⟨⟨f,fd,F.mg,F.F.kp,F.b,aU (N:=["thing"]) (k:=4) F.F qP λcdv A outer s H G E hr=>
  (ay (dC (dR (cI rfl (aL lC (hr.mono (by decide)) bc rfl rfl (ae (az 0 rfl) ar))))
  (ay (uZ ja.ex ja.ca rfl ja.mg (ae nI ar)))
  cf))⟩,λds h=>aP ds h⟩
abbrev iq:Stmt:=top 26
def uj:aE ["order","a","b"] ["order","a","b"] (aq iq):=⟨rfl,rfl,rfl,by decide +kernel,rfl,by decide +kernel,by decide +kernel⟩
def qQ {f:Addr}{fd:FuncData}(F:jL K mg "are_apart" iq ["order","a","b"] f fd)(B:jQ mg):cX P w K mg base ca "are_apart" ["order","a","b"] 1 (bg 3 3 (oo)):=
 ⟨⟨f,fd,F.mg,F.F.kp,F.b,aU (N:=["order","a","b"]) (k:=0) F.F uj λcdv A outer s H G E hr=>
  (ay (aR (iS (gR (fk hr.units) gE (ag 1) (ag 2) (a9 _)) (iS (gR (gK hr.u1) A1 (gV (ae (az 1 rfl) (ae (az 2 rfl) ar))) (bV bo dM (ag 0) ax (λ_ _=>rfl)) (by with_unfolding_all rfl)) (kF (gR (gK hr.u1) A1 (gV (ae (az 2 rfl) (ae (az 1 rfl) ar))) (bV bo dM (ag 0) ax (λ_ _=>rfl)) (by with_unfolding_all rfl))) (λ_ _=>rfl)) (λ_ _=>rfl))))⟩,λds h=>aP ds h⟩
abbrev gx:Stmt:=top 28
def rj:aE ["placed","thing"] ["placed","thing"] (aq gx):=⟨rfl,rfl,rfl,by decide +kernel,rfl,by decide +kernel,by decide +kernel⟩
def pR {f:Addr}{fd:FuncData}(F:jL K mg "with_thing" gx ["placed","thing"] f fd)(B:jQ mg):cX P w K mg base ca "with_thing" ["placed","thing"] 1 (bg 2 2 (gH)):=
 ⟨⟨f,fd,F.mg,F.F.kp,F.b,aU (N:=["placed","thing"]) (k:=0) F.F rj λcdv A outer s H G E hr=>
  (ay (aR (bp Ku Mj (ag 0) (bp G8 Kl ax (ag 1)))))⟩,λds h=>aP ds h⟩
abbrev fw:Stmt:=top 29
def hW:aE ["order","masks","a","b"] ["order"] (aq fw):=⟨rfl,rfl,rfl,by decide +kernel,rfl,by decide +kernel,by decide +kernel⟩
def oG {f:Addr}{fd:FuncData}{aM:List D->FR}(F:jL K mg "masks_ahead" fw ["order"] f fd)(B:jQ mg)(bG:cX P w K mg base ca "with_thing" ["placed","thing"] 1 aM):cX P w K mg base ca "masks_ahead" ["order"] 2 (bg 4 1 (fq aM)):=
 ⟨⟨f,fd,F.mg,F.F.kp,F.b,aU (N:=["order","masks","a","b"]) (k:=1) F.F hW λcdv A outer s H G E hr=>
  (av (iA (i:=1) (BY (bh (ae ax ar)) (bV bo dM (ag 0) ax (λ_ _=>rfl))) hW.nd)
  (av (eJ PassesOwn.leaving rfl (Ao rfl (bV bo dM (ag 0) ax (λ_ _=>rfl))) (lV (i:=2) (j:=3) hW.nd)
  (ay (Em 1 (λ_=>rfl) (aL bG (hr.mono (by decide)) bc rfl rfl (ae (bV bo dM (ag 1) (ag 3) (λ_ _=>rfl)) (ae (az 2 rfl) ar))) (ag 3))))
  (ay (o7 1))))⟩,λds h=>aP ds h⟩
abbrev fC:Stmt:=top 30
def hU:aE ["masks","placed","free","thing","mask"] ["masks","placed"] (aq fC):=⟨rfl,rfl,rfl,by decide +kernel,rfl,by decide +kernel,by decide +kernel⟩
def oH {f:Addr}{fd:FuncData}{aM:List D->FR}(F:jL K mg "free_things" fC ["masks","placed"] f fd)(B:jQ mg)(bG:cX P w K mg base ca "with_thing" ["placed","thing"] 1 aM):cX P w K mg base ca "free_things" ["masks","placed"] 2 (bg 5 2 (fF aM)):=
 ⟨⟨f,fd,F.mg,F.F.kp,F.b,aU (N:=["masks","placed","free","thing","mask"]) (k:=1) F.F hU λcdv A outer s H G E hr=>
  (av (iA (i:=2) (bh ar) hU.nd)
  (av (eJ PassesOwn.leaving rfl (Bm rfl rfl B.enumerate (az 0 rfl)) (lV (i:=3) (j:=4) hU.nd)
  (ay (dC (sf.t (tH (bF (fk hr.units) gE (aL bG (hr.mono (by decide)) bc rfl rfl (ae (az 1 rfl) (ae (az 3 rfl) ar))) (ag 1) (a9 _)) (oV (bF (hV hr.units) gE (bp Hq Ki (ag 1) (ag 4)) (ag 4) (a9 _))) (λ_ _=>rfl)))
  (ay (i7 2 (λ_=>rfl) (az 3 rfl)))
  cf)))
  (ay (o7 2))))⟩,λds h=>aP ds h⟩
abbrev iC:Stmt:=top 31
def cS:aE ["masks","late","row","placed","free","early"] ["masks","late"] (aq iC):=⟨rfl,rfl,rfl,by decide +kernel,rfl,by decide +kernel,by decide +kernel⟩
def rn {f:Addr}{fd:FuncData}{cw aM:List D->FR}(F:jL K mg "row_along" iC ["masks","late"] f fd)(B:jQ mg)(iX:cX P w K mg base ca "free_things" ["masks","placed"] 2 cw)(bG:cX P w K mg base ca "with_thing" ["placed","thing"] 1 aM):cX P w K mg base ca "row_along" ["masks","late"] 3 (bg 6 2 (ik cw aM)):=
 ⟨⟨f,fd,F.mg,F.F.kp,F.b,aU (N:=["masks","late","row","placed","free","early"]) (k:=2) F.F cS λcdv A outer s H G E hr=>
  (av (iA (i:=2) (bh ar) cS.nd)
  (av (bt (i:=3) ax cS.nd)
  (av (pC 1000 PassesOwn.leaving (bF BG Il (aZ cq jV rfl B.len Oj (ag 2)) (aZ cq jV rfl B.len Oj (ag 0)) (a9 _))
  (av (bt (i:=4) (aL iX (hr.mono (by decide)) bc rfl rfl (ae (az 0 rfl) (ae (az 3 rfl) ar))) cS.nd)
  (av (FX (i:=5) (NB:=["thing","late"]) (own:=1) (ixs:=[1]) [] rfl (fZ (by kernel_rfl)) (λ_ _=>rfl) (qJ rfl (ag 4)) (λH0 G0 par br bx C ex s3 H3 pn=>(eG (i:=0) (show (["thing","late"]:List Str).Nodup by decide +kernel))) (λH0 G0 par br bx C ex s3 H3 pn hB1=>(mj (bF (gK hr.u1) A1 (ag 0) (ag 1) (by with_unfolding_all rfl)))) (λH0 G0 par br bx C ex s3 H3 pn hB1=>(az 0 (hB1 0 (by decide)))) cS.nd)
  (av (i7 2 (λ_=>rfl) (bV bo dM (bp fA lg (ag 5) (ag 4)) ax (λ_ _=>rfl)))
  (ay (bt (i:=3) (aL bG (hr.mono (by decide)) bc rfl rfl (ae (az 3 rfl) (ae (bV bo dM (ag 2) (uX nH vO ax) (λ_ _=>rfl)) ar))) cS.nd))))))
  (ay (aR (i0 fG uM rfl B.tuple (by decide +kernel) (ag 2)))))))⟩,λds h=>aP ds h⟩
abbrev uv:Stmt:=top 33
def Ff:aE ["order","chain","thing"] ["order","chain","thing"] (aq uv):=⟨rfl,rfl,rfl,by decide +kernel,rfl,by decide +kernel,by decide +kernel⟩
def C6 {f:Addr}{fd:FuncData}{dA:List D->FR}(F:jL K mg "fits" uv ["order","chain","thing"] f fd)(B:jQ mg)(ki:cX P w K mg base ca "are_apart" ["order","a","b"] 1 dA):cX P w K mg base ca "fits" ["order","chain","thing"] 2 (bg 3 3 (tw dA)):=
 ⟨⟨f,fd,F.mg,F.F.kp,F.b,aU (N:=["order","chain","thing"]) (k:=1) F.F Ff λcdv A outer s H G E hr=>
  (ay (aR (tI (aZ (wC rfl) kR rfl B.any (by decide +kernel) (dW (NB:=["one","order","thing"]) (own:=1) (ixs:=[0,2]) [0,2] rfl (fZ (by kernel_rfl)) (λ_ _=>rfl) (qJ rfl (ag 1)) (λH0 G0 par br bx C ex s3 H3 pn=>(eG (i:=0) (show (["one","order","thing"]:List Str).Nodup by decide +kernel))) (λH0 G0 par br bx C ex s3 H3 pn hB1=>jd) (λH0 G0 par br bx C ex s3 H3 pn hB1=>(aL ki (hr.mono (by decide)) qy rfl rfl (ae (az 1 (hB1 1 (by decide))) (ae (az 0 (hB1 0 (by decide))) (ae (az 2 (hB1 2 (by decide))) ar))))))))))⟩,λds h=>aP ds h⟩
abbrev jm:Stmt:=top 34
def vk:aE ["thing","order"] ["thing","order"] (aq jm):=⟨rfl,rfl,rfl,by decide +kernel,rfl,by decide +kernel,by decide +kernel⟩
def ua {f:Addr}{fd:FuncData}{bD nM:List D->FR}(F:jL K mg "is_chain" jm ["thing","order"] f fd)(B:jQ mg)(dq:cX P w K mg base ca "is_below" ["thing","bound"] 2 bD)(xZ:cX P w K mg base ca "fits" ["order","chain","thing"] 2 nM):cX P w K mg base ca "is_chain" ["thing","order"] 3 (bg 2 2 (jG bD nM)):=
 ⟨⟨f,fd,F.mg,F.F.kp,F.b,aU (N:=["thing","order"]) (k:=2) F.F vk λcdv A outer s H G E hr=>
  (av (dC (sf.t (lx (dR (cI rfl (jo "list" (by decide) rfl rfl B.isinstance rfl B.list (by decide +kernel) (ag 0)))) (kM (bF (hV hr.units) gE (aZ cq jV rfl B.len Oj (ag 0)) ax (a9 _))) (λ_ _=>rfl)))
  (ay (aR gj))
  cf)
  (av (dC (sf.t (lx (dR (cI rfl (aZ (mC rfl) kR rfl B.all (by decide +kernel) (dW (NB:=["one","order"]) (own:=1) (ixs:=[1]) [] rfl (fZ (by kernel_rfl)) (λ_ _=>rfl) (qJ rfl (ag 0)) (λH0 G0 par br bx C ex s3 H3 pn=>(eG (i:=0) (show (["one","order"]:List Str).Nodup by decide +kernel))) (λH0 G0 par br bx C ex s3 H3 pn hB1=>jd) (λH0 G0 par br bx C ex s3 H3 pn hB1=>(aL dq (hr.mono (by decide)) qy rfl rfl (ae (az 0 (hB1 0 (by decide))) (ae (bV bo dM (ag 1) ax (λ_ _=>rfl)) ar)))))))) (kM (bF (fk hr.units) gE (ag 0) (wG rfl rfl rfl B.sorted rfl B.set (ag 0)) (a9 _))) (λ_ _=>rfl)))
  (ay (aR gj))
  cf)
  (ay (aR (aZ (mC rfl) kR rfl B.all (by decide +kernel) (dW (NB:=["one","order","thing"]) (own:=1) (ixs:=[1,0]) [0,1] rfl (fZ (by kernel_rfl)) (λ_ _=>rfl) (qJ rfl (ag 0)) (λH0 G0 par br bx C ex s3 H3 pn=>(eG (i:=0) (show (["one","order","thing"]:List Str).Nodup by decide +kernel))) (λH0 G0 par br bx C ex s3 H3 pn hB2=>jd) (λH0 G0 par br bx C ex s3 H3 pn hB2=>(aL xZ (hr.mono (by decide)) qy rfl rfl (ae (az 1 (hB2 1 (by decide))) (ae (az 2 (hB2 2 (by decide))) (ae (az 0 (hB2 0 (by decide))) ar)))))))))))⟩,λds h=>aP ds h⟩
abbrev iI:Stmt:=top 35
def ub:aE ["order","chain"] ["order","chain"] (aq iI):=⟨rfl,rfl,rfl,by decide +kernel,rfl,by decide +kernel,by decide +kernel⟩
def rA {f:Addr}{fd:FuncData}{cQ eV dB cv:List D->FR}(F:jL K mg "chain_row" iI ["order","chain"] f fd)(B:jQ mg)(jN:cX P w K mg base ca "need_order" ["thing"] 5 cQ)(lG:cX P w K mg base ca "is_chain" ["thing","order"] 3 eV)(j7:cX P w K mg base ca "row_along" ["masks","late"] 3 dB)(iW:cX P w K mg base ca "masks_ahead" ["order"] 2 cv)(i5:Exc K mg ca "NoChain"):cX P w K mg base ca "chain_row" ["order","chain"] 6 (bg 2 2 (dt cQ eV dB cv)):=
 ⟨⟨f,fd,F.mg,F.F.kp,F.b,aU (N:=["order","chain"]) (k:=5) F.F ub λcdv A outer s H G E hr=>
  (av (EM (aL jN (hr.mono (by decide)) bc rfl rfl (ae (az 0 rfl) ar)))
  (av (dC (dR (cI rfl (aL lG (hr.mono (by decide)) bc rfl rfl (ae (az 1 rfl) (ae (az 0 rfl) ar)))))
  (ay (uZ i5.ex i5.ca rfl i5.mg (ae nI ar)))
  cf)
  (ay (aR (aL j7 (hr.mono (by decide)) bc rfl rfl (ae (aL iW (hr.mono (by decide)) bc rfl rfl (ae (az 0 rfl) ar)) (ae (az 1 rfl) ar)))))))⟩,λds h=>aP ds h⟩
abbrev iG:Stmt:=top 37
def uA:aE ["script","k"] ["script","k"] (aq iG):=⟨rfl,rfl,rfl,by decide +kernel,rfl,by decide +kernel,by decide +kernel⟩
def qK {f:Addr}{fd:FuncData}(F:jL K mg "_law_cell" iG ["script","k"] f fd)(B:jQ mg):cX P w K mg base ca "_law_cell" ["script","k"] 1 (bg 2 2 (fL)):=
 ⟨⟨f,fd,F.mg,F.F.kp,F.b,aU (N:=["script","k"]) (k:=0) F.F uA λcdv A outer s H G E hr=>
  (av (dC (bF BG Il (ag 1) (aZ cq jV rfl B.len Oj (ag 0)) (a9 _))
  (ay (aR (bV bo dM (ag 0) (ag 1) (λ_ _=>rfl))))
  cf)
  (ay (aR ax)))⟩,λds h=>aP ds h⟩
abbrev eT:Stmt:=top 38
def il:aE ["cell","k","some","stir"] ["cell","k"] (aq eT):=⟨rfl,rfl,rfl,by decide +kernel,rfl,by decide +kernel,by decide +kernel⟩
def tq:∃(es:List Expr) (p1 p2 p3:Pos),bO eT=.Assign [.Name "some" p1] (.List es p2) p3 :: (bO eT).drop 1/\constsOf es=some [48271,69621,16807,39373,30269,40014,40692,50021,61687,71993,83869,95561,30307]:=⟨_,_,_,_,rfl,by kernel_rfl⟩
def tE {f:Addr}{fd:FuncData}(F:jL K mg "_law_mix" eT ["cell","k"] f fd)(B:jQ mg):cX P w K mg base ca "_law_mix" ["cell","k"] 1 (bg 4 2 (jz)):=by
 obtain⟨es,p1,p2,p3,hb,hes⟩:=tq
 refine⟨⟨f,fd,F.mg,F.F.kp,F.b,aU (N:=["cell","k","some","stir"]) (k:=0) F.F il λcdv A outer s H G E hr=>?_⟩,λds h=>aP ds h⟩
 rw[hb]
 exact (av (bt (i:=2) (SE.wv (bh (rV hes))) il.nd) (av (bt (i:=3) (bp lY lN (bp lY lN (bp kC lR (bp lY lN (bp lU rG (ag 0) ax) ax) (bV bo dM (ag 2) (bp lU rG (ag 1) ax) (λ_ _=>rfl))) (bp kC lR ax (ag 1))) (bp kC lR ax (bp mq Fw (ag 1) ax))) il.nd)
  (av (bt (i:=3) (bp lU rG (ag 3) ax) il.nd)
  (ay (aR (bp mq Fw (bp lU rG (bp lY lN (bp kC lR (ag 3) (ag 3)) (bp kC lR ax (ag 1))) ax) ax))))))
abbrev jl:Stmt:=top 39
def fQ:aE ["script","k","cell","number","j"] ["script","k"] (aq jl):=⟨rfl,rfl,rfl,by decide +kernel,rfl,by decide +kernel,by decide +kernel⟩
def uJ {f:Addr}{fd:FuncData}{dE eN:List D->FR}(F:jL K mg "_law_box" jl ["script","k"] f fd)(B:jQ mg)(kn:cX P w K mg base ca "_law_cell" ["script","k"] 1 dE)(lZ:cX P w K mg base ca "_law_mix" ["cell","k"] 1 eN):cX P w K mg base ca "_law_box" ["script","k"] 2 (bg 5 2 (jt dE eN)):=
 ⟨⟨f,fd,F.mg,F.F.kp,F.b,aU (N:=["script","k","cell","number","j"]) (k:=1) F.F fQ λcdv A outer s H G E hr=>
  (av (bt (i:=2) (aL kn (hr.mono (by decide)) bc rfl rfl (ae (az 0 rfl) (ae (az 1 rfl) ar))) fQ.nd)
  (av (dC (bF (hV hr.units) gE (bp lU rG (ag 2) ax) ax (a9 _))
  (ay (o9 (bh (ae (bp mq Fw (aZ B9 KL rfl B.abs (by decide +kernel) (ag 2)) ax) ar))))
  cf)
  (av (bt (i:=3) ax fQ.nd)
  (av (eJ PassesOwn.leaving rfl (pY rfl B.range ax) (eG (i:=4) fQ.nd)
  (ay (bt (i:=3) (bp lY lN (bp kC lR (ag 3) ax) (aL lZ (hr.mono (by decide)) bc rfl rfl (ae (az 2 rfl) (ae (az 4 rfl) ar)))) fQ.nd)))
  (ay (o9 (bh (ae (az 3 rfl) ar))))))))⟩,λds h=>aP ds h⟩
abbrev iu:Stmt:=top 40
def mK:aE ["box","many","left","digit"] ["box","many"] (aq iu):=⟨rfl,rfl,rfl,by decide +kernel,rfl,by decide +kernel,by decide +kernel⟩
def qV {f:Addr}{fd:FuncData}(F:jL K mg "_law_take" iu ["box","many"] f fd)(B:jQ mg):lD P w K mg base "_law_take" ["box","many"] 1 bX:=by
 refine⟨⟨f,fd,F.mg,F.F.kp,F.b,?_⟩,λds β h=>?_⟩
 ·refine F.F.A9 mK (λvs H Q E h=>?_) (λcdv A outer s H vs Q E hr h=>?_)
  ·obtain⟨b,rest,G,ds,β,rfl,hb,gb,sG,hl,r,_⟩:=h
   rw[NC,r.len,hl];rfl
  ·obtain⟨b,rest,G,ds,β,rfl,hb,gb,sG,hl,r,h⟩:=h
   obtain⟨m,rfl,h0,h1⟩:=ze (λz=>by rw[z] at h;exact h)
   rw[tm h0 h1] at h
   have kk:∀v G' H',ic (some b) H H'->H' b=some (.lst [.int (β / m)])->ak G G'->ak G' H'->(∀c,Mx H c->G c=none->G' c=none)->FV K H G' H' false (.int (β % m)) v->Q v H':=h
   cases r with
   |cons r1 r2=>
    cases r1
    cases r2
    refine⟨_,b9 (qj (ba v5 rfl B.divmod (by decide +kernel) (ao (kc fB (pv 0) nP (λ_ _=>rfl)) (ao (pv 1) aJ))) (ED (i:=2) (j:=3) mK.nd rfl rfl rfl rfl rfl))
     (b9 (qj (pv 2) (sS (pv 0) nP set_list)) (di (iM (pv 3)))),?_⟩
    refine⟨_,rfl,b,_,0,.int β,rfl,rfl,.inl (.inl hb),rfl,_,rfl,β,m,rfl,⟨h0,h1⟩,λp hp=>⟨p,_,rfl,.inl (.inl ah),rfl,_,_,rfl,_,_,rfl,rfl,?_⟩⟩
    have hbp:b≠p:=aB hb hp
    exact⟨_,rfl,_,rfl,b,[.int β],0,0,rfl,rfl,by rw[au hbp];exact hb,rfl,_,rfl,BF hb sG hp kk gb⟩
 ·obtain⟨m,rfl,_⟩:=ze h
  rfl
abbrev gp:Stmt:=top 41
def rB:aE ["thing"] ["thing"] (aq gp):=⟨rfl,rfl,rfl,by decide +kernel,rfl,by decide +kernel,by decide +kernel⟩
def pD {f:Addr}{fd:FuncData}(F:jL K mg "_law_whole" gp ["thing"] f fd)(B:jQ mg):cX P w K mg base ca "_law_whole" ["thing"] 1 (bg 1 1 (mV)):=
 ⟨⟨f,fd,F.mg,F.F.kp,F.b,aU (N:=["thing"]) (k:=0) F.F rB λcdv A outer s H G E hr=>
  (ay (aR (iS (jo "int" (by decide) rfl rfl B.isinstance rfl B.int (by decide +kernel) (ag 0)) (kF (tI (jo "bool" (by decide) rfl rfl B.isinstance rfl B.bool (by decide +kernel) (ag 0)))) (λ_ _=>rfl))))⟩,λds h=>aP ds h⟩
abbrev jD:Stmt:=top 42
def kl:aE ["box","some"] ["box"] (aq jD):=⟨rfl,rfl,rfl,by decide +kernel,rfl,by decide +kernel,by decide +kernel⟩
def uz {f:Addr}{fd:FuncData}{aC:List D->Int->FB}(F:jL K mg "_law_odd" jD ["box"] f fd)(B:jQ mg)(aW:lD P w K mg base "_law_take" ["box","many"] 1 aC):lD P w K mg base "_law_odd" ["box"] 2 (oP 2 0 (jI aC)):=
 ⟨⟨f,fd,F.mg,F.F.kp,F.b,nj (ca:=λ_=>0) (N:=["box","some"]) (k:=1) F.F kl (by decide) λcdv A outer s H G b E hr=>
  (@av _ _ _ _ _ _ _ (@Kv _ _ _ 1 _ _ (aa (cst .none) (aa (cst (.bool true)) (aa (cst (.bool false)) (aa (cst (.int (-1))) (aa (cst (.int 0)) (aa (cst (.int 1)) (aa (cst (.str "")) (aa (cst (.str "1")) (aa (bK af) (aa (aY af) (aa (bK (aa (cst (.int 0)) af)) (aa (bK (aa (cst (.int 1)) (aa (bK af) af))) (aa (aY (aa (cst (.int 0)) af)) af))))))))))))) ([] ++ ([] ++ ([] ++ ([] ++ ([] ++ ([] ++ ([] ++ ([] ++ ([] ++ ([] ++ (([] ++ []) ++ (([] ++ ([] ++ [])) ++ (([] ++ []) ++ []))))))))))))) _ _ _ [] (by kernel_rfl) (λ_=>rfl) (by kernel_rfl) kl.nd rfl (by first |exact Or.inl rfl |exact Or.inr rfl) (by first |exact .inl rfl |exact .inr rfl))
  (av (bt (i:=1) (SE.wv (bp fA lg (ag 1) (@GA _ _ _ _ (aa (cst (.dict [(.str "a",.int 1)])) (aa (bK (aa (cst (.int 0)) (aa (cst (.int 1)) af))) (aa (f2 (cst (.int 10)) (cst (.int 39)) Co) (aa (bK (aa (bK (aa (cst (.int 0)) (aa (cst (.int 1)) af))) af)) (aa (cst (.str "a")) af))))) ([] ++ (([] ++ ([] ++ [])) ++ ([] ++ ((([] ++ ([] ++ [])) ++ []) ++ ([] ++ []))))) _ [] (by kernel_rfl) (λ_=>rfl) (by kernel_rfl)))) kl.nd)
  (ay (aR (bV bo dM (ag 1) (jR 0 aW (hr.mono (by decide)) bc rfl rfl (ae ax ar)) (λ_ _=>rfl))))))⟩,λds β h=>mT ds β h⟩
abbrev dh:Stmt:=top 43
def eM:aE ["box","some","left","found"] ["box","some"] (aq dh):=⟨rfl,rfl,rfl,by decide +kernel,rfl,by decide +kernel,by decide +kernel⟩
def mh {f:Addr}{fd:FuncData}{aC:List D->Int->FB}(F:jL K mg "_law_mixed_up" dh ["box","some"] f fd)(B:jQ mg)(aW:lD P w K mg base "_law_take" ["box","many"] 1 aC):lD P w K mg base "_law_mixed_up" ["box","some"] 2 (oP 4 1 (dg aC)):=
 ⟨⟨f,fd,F.mg,F.F.kp,F.b,nj (ca:=λ_=>0) (N:=["box","some","left","found"]) (k:=1) F.F eM (by decide) λcdv A outer s H G b E hr=>
  (av (iA (i:=2) (i0 mY Dz rfl B.list (by decide +kernel) (ag 1)) eM.nd)
  (av (iA (i:=3) (bh ar) eM.nd)
  (av (pC 1000 PassesOwn.leaving (bF (fk hr.units) gE (ag 2) (bh ar) (a9 _))
  (ay (zZ 3 2 (λ_=>rfl) (jR 0 aW (hr.mono (by decide)) bc rfl rfl (ae (aZ cq jV rfl B.len Oj (ag 2)) ar)))))
  (ay (o7 3)))))⟩,λds β h=>mT ds β h⟩
abbrev fH:Stmt:=top 44
def bz:aE ["pairs","found","size","more","a","b"] ["pairs"] (aq fH):=⟨rfl,rfl,rfl,by decide +kernel,rfl,by decide +kernel,by decide +kernel⟩
def oM {f:Addr}{fd:FuncData}(F:jL K mg "_law_closed" fH ["pairs"] f fd)(B:jQ mg):cX P w K mg base ca "_law_closed" ["pairs"] 1 (bg 6 1 (fu)):=
 ⟨⟨f,fd,F.mg,F.F.kp,F.b,aU (N:=["pairs","found","size","more","a","b"]) (k:=0) F.F bz λcdv A outer s H G E hr=>
  (av (bt (i:=1) (SE.wv (pG rfl hr.units rfl rfl B.sorted rfl B.set (ag 0))) bz.nd)
  (av (bt (i:=2) (uX nH vO ax) bz.nd)
  (av (pC 1000 PassesOwn.leaving (bF (fk hr.units) gE (ag 2) (aZ cq jV rfl B.len Oj (ag 1)) (a9 _))
  (av (bt (i:=2) (aZ cq jV rfl B.len Oj (ag 1)) bz.nd)
  (av (bt (i:=3) (SE.wv (bh ar)) bz.nd)
  (av (eJ PassesOwn.leaving rfl (Ao rfl (az 1 rfl)) (lV (i:=4) (j:=5) bz.nd)
  (ay (bt (i:=3) (SE.wv (bp fA lg (ag 3) (dW (NB:=["c","d","b","a"]) (own:=2) (ixs:=[5,4]) [4] rfl (fZ (by kernel_rfl)) (λ_ _=>rfl) (qJ rfl (ag 1)) (λH0 G0 par br bx C ex s3 H3 pn=>(lV (i:=0) (j:=1) (show (["c","d","b","a"]:List Str).Nodup by decide +kernel))) (λH0 G0 par br bx C ex s3 H3 pn hB1=>(mj (bF (hV hr.units) gE (ag 0) (ag 2) (a9 _)))) (λH0 G0 par br bx C ex s3 H3 pn hB1=>(gV (ae (az 3 (hB1 3 (by decide))) (ae (az 1 (hB1 1 (by decide))) ar))))))) bz.nd)))
  (ay (bt (i:=1) (SE.wv (pG rfl hr.units rfl rfl B.sorted rfl B.set (bp fA lg (ag 1) (ag 3)))) bz.nd))))))
  (ay (aR (i0 fG uM rfl B.tuple (by decide +kernel) (ag 1)))))))⟩,λds h=>aP ds h⟩
abbrev gq:Stmt:=top 45
def bZ:aE ["box","most","many","names","thin","pairs","i","j"] ["box","most"] (aq gq):=⟨rfl,rfl,rfl,by decide +kernel,rfl,by decide +kernel,by decide +kernel⟩
def pQ {f:Addr}{fd:FuncData}{cy:List D->FR}{aC aQ:List D->Int->FB}(F:jL K mg "_law_order" gq ["box","most"] f fd)(B:jQ mg)(iP:cX P w K mg base ca "_law_closed" ["pairs"] 1 cy)(aW:lD P w K mg base "_law_take" ["box","many"] 1 aC)(bQ:lD P w K mg base "_law_mixed_up" ["box","some"] 2 aQ):lD P w K mg base "_law_order" ["box","most"] 3 (oP 8 1 (gG cy aC aQ)):=
 ⟨⟨f,fd,F.mg,F.F.kp,F.b,nj (ca:=ca) (N:=["box","most","many","names","thin","pairs","i","j"]) (k:=2) F.F bZ (by decide) λcdv A outer s H G b E hr=>
  (av (bt (i:=2) (bp lY lN ax (jR 0 aW (hr.mono (by decide)) bc rfl rfl (ae (az 1 rfl) ar))) bZ.nd)
  (av (bt (i:=3) (jR 0 bQ (hr.mono (by decide)) bc rfl rfl (ae (SE.wv (lM rfl rfl B.list rfl B.range (ag 2))) ar)) bZ.nd)
  (av (bt (i:=4) (bV bo dM (bh (ae ax (ae ax (ae ax (ae ax ar))))) (jR 0 aW (hr.mono (by decide)) bc rfl rfl (ae ax ar)) (λ_ _=>rfl)) bZ.nd)
  (av (iA (i:=5) (bh ar) bZ.nd)
  (av (eJ PassesOwn.leaving rfl (pY rfl B.range (ag 2)) (eG (i:=6) bZ.nd)
  (ay (eJ PassesOwn.leaving rfl (J0 rfl B.range (bp lY lN (ag 6) ax) (ag 2)) (eG (i:=7) bZ.nd)
  (ay (dC (bF (hV hr.units) gE (jR 0 aW (hr.mono (by decide)) bc rfl rfl (ae (az 4 rfl) ar)) ax (a9 _))
  (ay (i7 5 (λ_=>rfl) (gV (ae (bV bo dM (ag 3) (ag 6) (λ_ _=>rfl)) (ae (bV bo dM (ag 3) (ag 7) (λ_ _=>rfl)) ar)))))
  cf)))))
  (ay (aR (gV (ae (az 2 rfl) (ae (aL iP (hr.mono (by decide)) bc rfl rfl (ae (az 5 rfl) ar)) ar))))))))))⟩,λds β h=>mT ds β h⟩
abbrev gu:Stmt:=top 46
def rh:aE ["order","a","b"] ["order","a","b"] (aq gu):=⟨rfl,rfl,rfl,by decide +kernel,rfl,by decide +kernel,by decide +kernel⟩
def qB {f:Addr}{fd:FuncData}(F:jL K mg "_law_apart" gu ["order","a","b"] f fd)(B:jQ mg):cX P w K mg base ca "_law_apart" ["order","a","b"] 1 (bg 3 3 (l4)):=
 ⟨⟨f,fd,F.mg,F.F.kp,F.b,aU (N:=["order","a","b"]) (k:=0) F.F rh λcdv A outer s H G E hr=>
  (ay (aR (iS (gR (fk hr.units) gE (ag 1) (ag 2) (a9 _)) (iS (gR (gK hr.u1) A1 (gV (ae (az 1 rfl) (ae (az 2 rfl) ar))) (bV bo dM (ag 0) ax (λ_ _=>rfl)) (by with_unfolding_all rfl)) (kF (gR (gK hr.u1) A1 (gV (ae (az 2 rfl) (ae (az 1 rfl) ar))) (bV bo dM (ag 0) ax (λ_ _=>rfl)) (by with_unfolding_all rfl))) (λ_ _=>rfl)) (λ_ _=>rfl))))⟩,λds h=>aP ds h⟩
abbrev gA:Stmt:=top 47
def fD:aE ["order","found","a"] ["order"] (aq gA):=⟨rfl,rfl,rfl,by decide +kernel,rfl,by decide +kernel,by decide +kernel⟩
def pJ {f:Addr}{fd:FuncData}{aN:List D->FR}(F:jL K mg "_law_turns" gA ["order"] f fd)(B:jQ mg)(bH:cX P w K mg base ca "_law_apart" ["order","a","b"] 1 aN):cX P w K mg base ca "_law_turns" ["order"] 2 (bg 3 1 (gB aN)):=
 ⟨⟨f,fd,F.mg,F.F.kp,F.b,aU (N:=["order","found","a"]) (k:=1) F.F fD λcdv A outer s H G E hr=>
  (av (bt (i:=1) (SE.wv (bh ar)) fD.nd)
  (av (eJ PassesOwn.leaving rfl (pY rfl B.range (bV bo dM (ag 0) ax (λ_ _=>rfl))) (eG (i:=2) fD.nd)
  (ay (bt (i:=1) (SE.wv (bp fA lg (ag 1) (dW (NB:=["b","order","a"]) (own:=1) (ixs:=[0,2]) [0,2] rfl (fZ (by kernel_rfl)) (λ_ _=>rfl) (pY rfl B.range (bV bo dM (ag 0) ax (λ_ _=>rfl))) (λH0 G0 par br bx C ex s3 H3 pn=>(eG (i:=0) (show (["b","order","a"]:List Str).Nodup by decide +kernel))) (λH0 G0 par br bx C ex s3 H3 pn hB1=>(mj (cI rfl (aL bH (hr.mono (by decide)) qy rfl rfl (ae (az 1 (hB1 1 (by decide))) (ae (az 2 (hB1 2 (by decide))) (ae (az 0 (hB1 0 (by decide))) ar))))))) (λH0 G0 par br bx C ex s3 H3 pn hB1=>(gV (ae (az 2 (hB1 2 (by decide))) (ae (az 0 (hB1 0 (by decide))) ar))))))) fD.nd)))
  (ay (o7 1))))⟩,λds h=>aP ds h⟩
abbrev iE:Stmt:=top 48
def uf:aE ["order","row"] ["order","row"] (aq iE):=⟨rfl,rfl,rfl,by decide +kernel,rfl,by decide +kernel,by decide +kernel⟩
def qM {f:Addr}{fd:FuncData}(F:jL K mg "_law_fits" iE ["order","row"] f fd)(B:jQ mg):cX P w K mg base ca "_law_fits" ["order","row"] 1 (bg 2 2 (ij)):=
 ⟨⟨f,fd,F.mg,F.F.kp,F.b,aU (N:=["order","row"]) (k:=0) F.F uf λcdv A outer s H G E hr=>
  (ay (aR (gR (hV hr.units) gE (dW (NB:=["a","b","row"]) (own:=2) (ixs:=[1]) [] rfl (fZ (by kernel_rfl)) (λ_ _=>rfl) (qJ rfl (bV bo dM (ag 0) ax (λ_ _=>rfl))) (λH0 G0 par br bx C ex s3 H3 pn=>(lV (i:=0) (j:=1) (show (["a","b","row"]:List Str).Nodup by decide +kernel))) (λH0 G0 par br bx C ex s3 H3 pn hB1=>(mj (bF zo FQ (ml rfl (ag 2) (ag 0)) (ml rfl (ag 2) (ag 1)) (a9 _)))) (λH0 G0 par br bx C ex s3 H3 pn hB1=>ax)) (bh ar) (a9 _))))⟩,λds h=>aP ds h⟩
abbrev fo:Stmt:=top 49
def qt:aE ["thing","many"] ["thing","many"] (aq fo):=⟨rfl,rfl,rfl,by decide +kernel,rfl,by decide +kernel,by decide +kernel⟩
def oR {f:Addr}{fd:FuncData}{cV:List D->FR}(F:jL K mg "_law_is_row" fo ["thing","many"] f fd)(B:jQ mg)(jk:cX P w K mg base ca "_law_whole" ["thing"] 1 cV):cX P w K mg base ca "_law_is_row" ["thing","many"] 2 (bg 2 2 (fy cV)):=
 ⟨⟨f,fd,F.mg,F.F.kp,F.b,aU (N:=["thing","many"]) (k:=1) F.F qt λcdv A outer s H G E hr=>
  (av (dC (sf.t (lx (dR (cI rfl (jo "tuple" (by decide) rfl rfl B.isinstance rfl B.tuple (by decide +kernel) (ag 0)))) (lx (bF (fk hr.units) gE (aZ cq jV rfl B.len Oj (ag 0)) (ag 1) (a9 _)) (kM (dR (cI rfl (aZ (mC rfl) kR rfl B.all (by decide +kernel) (dW (NB:=["one"]) (own:=1) (ixs:=[]) [] rfl (fZ (by kernel_rfl)) (λ_ _=>rfl) (qJ rfl (ag 0)) (λH0 G0 par br bx C ex s3 H3 pn=>(eG (i:=0) (show (["one"]:List Str).Nodup by decide +kernel))) (λH0 G0 par br bx C ex s3 H3 pn hB1=>jd) (λH0 G0 par br bx C ex s3 H3 pn hB1=>(aL jk (hr.mono (by decide)) qy rfl rfl (ae (az 0 (hB1 0 (by decide))) ar)))))))) (λ_ _=>rfl)) (λ_ _=>rfl)))
  (ay (aR gj))
  cf)
  (ay (aR (gR (hV hr.units) gE (aZ lK tX rfl B.sorted (by decide +kernel) (ag 0)) (lM rfl rfl B.list rfl B.range (ag 1)) (a9 _)))))⟩,λds h=>aP ds h⟩
abbrev iw:Stmt:=top 51
def l6:aE ["order","thing","e"] ["order","thing"] (aq iw):=⟨rfl,rfl,rfl,by decide +kernel,rfl,by decide +kernel,by decide +kernel⟩
def qN {f:Addr}{fd:FuncData}{marks:Str->Option Str}{dw:List D->FR}(F:jL K mg "_law_said" iw ["order","thing"] f fd)(B:jQ mg)(kB:cX P w K mg base ca "chain_row" ["order","chain"] 6 dw)(MK:FO P w K mg base ca "RankError" "_law_marks" marks):cX P w K mg base ca "_law_said" ["order","thing"] 7 (bg 3 2 (ou marks dw)):=
 ⟨⟨f,fd,F.mg,F.F.kp,F.b,aU (N:=["order","thing","e"]) (k:=6) F.F l6 λcdv A outer s H G E hr=>
  (ay (Gd (i:=2) MK hr (λEb Ex pn H G hpT=>
  (ay (aR (aL kB (hr.mono (by decide)) hpT rfl rfl (ae (az 0 rfl) (ae (az 1 rfl) ar))))))
  l6.nd))⟩,λds h=>aP ds h⟩
abbrev gr:Stmt:=top 52
def iK:aE ["box","order","found","thing"] ["box","order"] (aq gr):=⟨rfl,rfl,rfl,by decide +kernel,rfl,by decide +kernel,by decide +kernel⟩
def qr {f:Addr}{fd:FuncData}{aN:List D->FR}{aQ aC:List D->Int->FB}(F:jL K mg "_law_chain" gr ["box","order"] f fd)(B:jQ mg)(bH:cX P w K mg base ca "_law_apart" ["order","a","b"] 1 aN)(bQ:lD P w K mg base "_law_mixed_up" ["box","some"] 2 aQ)(aW:lD P w K mg base "_law_take" ["box","many"] 1 aC):lD P w K mg base "_law_chain" ["box","order"] 3 (oP 4 1 (gz aN aQ aC)):=
 ⟨⟨f,fd,F.mg,F.F.kp,F.b,nj (ca:=ca) (N:=["box","order","found","thing"]) (k:=2) F.F iK (by decide) λcdv A outer s H G b E hr=>
  (av (iA (i:=2) (bh ar) iK.nd)
  (av (eJ PassesOwn.leaving rfl (Ao rfl (jR 0 bQ (hr.mono (by decide)) bc rfl rfl (ae (SE.wv (lM rfl rfl B.list rfl B.range (bV bo dM (ag 1) ax (λ_ _=>rfl)))) ar))) (eG (i:=3) iK.nd)
  (ay (dC (sf.t (tH (bF (hV hr.units) gE (dW (NB:=["one","order","thing"]) (own:=1) (ixs:=[1,3]) [1,3] rfl (fZ (by kernel_rfl)) (λ_ _=>rfl) (qJ rfl (ag 2)) (λH0 G0 par br bx C ex s3 H3 pn=>(eG (i:=0) (show (["one","order","thing"]:List Str).Nodup by decide +kernel))) (λH0 G0 par br bx C ex s3 H3 pn hB1=>(mj (cI rfl (aL bH (hr.mono (by decide)) qy rfl rfl (ae (az 1 (hB1 1 (by decide))) (ae (az 0 (hB1 0 (by decide))) (ae (az 2 (hB1 2 (by decide))) ar))))))) (λH0 G0 par br bx C ex s3 H3 pn hB1=>(az 0 (hB1 0 (by decide))))) (bh ar) (a9 _)) (oV (bF zo FQ (jR 0 aW (hr.mono (by decide)) bc rfl rfl (ae ax ar)) ax (a9 _))) (λ_ _=>rfl)))
  (ay (i7 2 (λ_=>rfl) (az 3 rfl)))
  cf)))
  (ay (o9 (aZ lK tX rfl B.sorted (by decide +kernel) (bp fA lg (ag 2) (BY (bh (ae (jR 0 aW (hr.mono (by decide)) bc rfl rfl (ae (bV bo dM (ag 1) ax (λ_ _=>rfl)) ar)) ar)) (i0 zS IK rfl B.int (by decide +kernel) (gR (hV hr.units) gE (ag 2) (bh ar) (a9 _))))))))))⟩,λds β h=>mT ds β h⟩
abbrev gy:Stmt:=top 53
def iJ:aE ["row","order","chain","thing","other"] ["row","order","chain"] (aq gy):=⟨rfl,rfl,rfl,by decide +kernel,rfl,by decide +kernel,by decide +kernel⟩
def qi {f:Addr}{fd:FuncData}{cx dv aN:List D->FR}(F:jL K mg "_law_right" gy ["row","order","chain"] f fd)(B:jQ mg)(iR:cX P w K mg base ca "_law_is_row" ["thing","many"] 2 cx)(kh:cX P w K mg base ca "_law_fits" ["order","row"] 1 dv)(bH:cX P w K mg base ca "_law_apart" ["order","a","b"] 1 aN):cX P w K mg base ca "_law_right" ["row","order","chain"] 3 (bg 5 3 (gC cx dv aN)):=
 ⟨⟨f,fd,F.mg,F.F.kp,F.b,aU (N:=["row","order","chain","thing","other"]) (k:=2) F.F iJ λcdv A outer s H G E hr=>
  (av (dC (sf.t (lx (dR (cI rfl (aL iR (hr.mono (by decide)) bc rfl rfl (ae (az 0 rfl) (ae (bV bo dM (ag 1) ax (λ_ _=>rfl)) ar))))) (kM (dR (cI rfl (aL kh (hr.mono (by decide)) bc rfl rfl (ae (az 1 rfl) (ae (az 0 rfl) ar)))))) (λ_ _=>rfl)))
  (ay (aR gj))
  cf)
  (av (eJ PassesOwn.leaving rfl (Ao rfl (az 2 rfl)) (eG (i:=3) iJ.nd)
  (ay (eJ PassesOwn.leaving rfl (pY rfl B.range (bV bo dM (ag 1) ax (λ_ _=>rfl))) (eG (i:=4) iJ.nd)
  (ay (dC (sf.t (tH (cI rfl (aL bH (hr.mono (by decide)) bc rfl rfl (ae (az 1 rfl) (ae (az 3 rfl) (ae (az 4 rfl) ar))))) (oV (bF zo FQ (ml rfl (ag 0) (ag 4)) (ml rfl (ag 0) (ag 3)) (a9 _))) (λ_ _=>rfl)))
  (ay (aR gj))
  cf)))))
  (ay (aR gj))))⟩,λds h=>aP ds h⟩
abbrev lj:Stmt:=top 54
def iU:aE ["script","k","box","order","chain","handed","row","a","b","bad","thing"] ["script"] (aq lj):=⟨rfl,rfl,rfl,by decide +kernel,rfl,by decide +kernel,by decide +kernel⟩
def D5 {f:Addr}{fd:FuncData}{fg bW cP cL:List D->FR}{cW cR e8:List D->Int->FB}(F:jL K mg "law" lj ["script"] f fd)(B:jQ mg)(lF:cX P w K mg base ca "_law_box" ["script","k"] 2 fg)(dz:cX P w K mg base ca "_law_said" ["order","thing"] 7 bW)(jq:cX P w K mg base ca "_law_right" ["row","order","chain"] 3 cP)(js:cX P w K mg base ca "_law_turns" ["order"] 2 cL)(jE:lD P w K mg base "_law_order" ["box","most"] 3 cW)(jx:lD P w K mg base "_law_chain" ["box","order"] 3 cR)(lE:lD P w K mg base "_law_odd" ["box"] 2 e8):fJ P w K mg base (mE P w) 8 f fd ["script"] (DY K ca 1 (bg 11 1 (yD fg bW cP cL cW cR e8))):=
 aU (N:=["script","k","box","order","chain","handed","row","a","b","bad","thing"]) (k:=7) F.F iU λcdv A outer s H G E hr=>
  (av (eJ PassesOwn.leaving rfl (pY rfl B.range (wy (Aq rfl) HM rfl B.max (by decide +kernel) ax (wy (Au rfl) HR rfl B.min (by decide +kernel) (aZ cq jV rfl B.len Oj (ag 0)) ax))) (eG (i:=1) iU.nd)
  (av (FP (i:=2) rfl (CD lF (hr.mono (by decide)) bc rfl rfl (ae (az 0 rfl) (ae (az 1 rfl) ar))) iU.nd)
  (av (bt (i:=3) (jR 2 jE (hr.mono (by decide)) bc rfl rfl (ae ax ar)) iU.nd)
  (av (bt (i:=4) (jR 2 jx (hr.mono (by decide)) bc rfl rfl (ae (az 3 rfl) ar)) iU.nd)
  (av (bt (i:=5) (SE.wv (i0 mY Dz rfl B.list (by decide +kernel) (ag 4))) iU.nd)
  (av (bt (i:=6) (aL dz (hr.mono (by decide)) bc rfl rfl (ae (az 3 rfl) (ae (az 5 rfl) ar))) iU.nd)
  (av (dC (sf.t (lx (dR (cI rfl (aL jq (hr.mono (by decide)) bc rfl rfl (ae (az 6 rfl) (ae (az 3 rfl) (ae (az 4 rfl) ar)))))) (lx (bF (fk hr.units) gE (ag 5) (ag 4) (a9 _)) (kM (bF (fk hr.units) gE (aL dz (hr.mono (by decide)) bc rfl rfl (ae (az 3 rfl) (ae (az 5 rfl) ar))) (ag 6) (a9 _))) (λ_ _=>rfl)) (λ_ _=>rfl)))
  (ay (aR gj))
  cf)
  (av (eJ PassesOwn.leaving rfl (Ao rfl (SE.wv (wF rfl (aL js (hr.mono (by decide)) bc rfl rfl (ae (az 3 rfl) ar)) yQ (zw ax)))) (lV (i:=7) (j:=8) iU.nd)
  (ay (dC (bF (fk hr.units) gE (aL dz (hr.mono (by decide)) bc rfl rfl (ae (az 3 rfl) (ae (SE.wv (aZ lK tX rfl B.sorted (by decide +kernel) (bh (ae (az 7 rfl) (ae (az 8 rfl) ar))))) ar))) nI (a9 _))
  (ay (aR gj))
  cf)))
  (av (iA (i:=9) (bh (ae (SE.wv (bh ar)) (ae CF (ae (i0 fG uM rfl B.tuple (by decide +kernel) (ag 4)) (ae (SE.wv (bp fA lg (ag 4) (bh (ae (bV bo dM (ag 3) ax (λ_ _=>rfl)) ar)))) (ae (SE.wv (bp fA lg (bh (ae (uX nH vO ax) ar)) (ag 4))) (ae (SE.wv (bp fA lg (ag 4) (wF rfl (ag 4) (zw (uX nH vO ax)) yQ))) (ae (SE.wv (bh (ae gj ar))) (ae (SE.wv (bh (ae nI ar))) (ae (bV bo dM (ag 4) ax (λ_ _=>rfl)) ar)))))))))) iU.nd)
  (av (dC (bF zo FQ (aZ cq jV rfl B.len Oj (ag 4)) ax (a9 _))
  (ay (i7 9 (λ_=>rfl) (SE.wv (DG rfl (ag 4)))))
  cf)
  (ay (eJ PassesOwn.leaving rfl (Ao rfl (SE.wv (bp fA lg (ag 9) (bh (ae (jR 2 lE (hr.mono (by decide)) bc rfl rfl ar) ar))))) (eG (i:=10) iU.nd)
  (ay (dC (sf.t (tH (bF (Am hr.u1) Ju (ag 10) (gV (ae (SE.wv (bh (ae ax ar))) (ae (SE.wv (bh (ae ax ar))) ar))) (by with_unfolding_all rfl)) (oV (bF (fk hr.units) gE (aL dz (hr.mono (by decide)) bc rfl rfl (ae (az 3 rfl) (ae (az 10 rfl) ar))) nI (a9 _))) (λ_ _=>rfl)))
  (ay (aR gj))
  cf))))))))))))))
  (ay (aR gj)))
end
end RQ
namespace RM
open PySem L2
theorem Hv {t u:VF Bool}{vs:List Nv}{β:Int}{a b:Bool}(h:t vs β=.ok a β)(h':u vs β=.ok b β):DC t u vs β=.ok (a && b) β:=by
 rw[lJ,h];dsimp only[R.bnd]
 cases a with
 |true=>rw[M7 rfl,h'];rfl
 |false=>rfl
def cH {t:VF Bool}{vs:List Nv}{β:Int}{a:Bool}(h:t vs β=.ok a β):sF t vs β=.ok (!a) β:=by rw[uK,h];rfl
def B6 (n:Nat):(fE n).Pairwise (· < ·):=by
 unfold fE
 rw[N0]
 exact List.pairwise_lt_range.imp λ{a b} h=>by omega
def tupI (r:List Int):D:=.tuple (r.map int)
def ph {fa fb:VF D}{vs:List Nv}{β:Int}{r:List Int}{k:Int}(h:fa vs β=.ok (tupI r) β)(h':fb vs β=.ok (.int k) β)(hk:k∈r):pz fa fb vs β=.ok (.int (r.idxOf k:Nat)) β:=by
 unfold pz
 rw[h]
 dsimp only[R.bnd]
 rw[M7 (by rfl),h']
 dsimp only[R.bnd,EB,tupI]
 rw[cz]
 dsimp only
 rw[M7 hk];rfl
def Gk {α:Type}{fa:VF D}{vs:List Nv}{β:Int}{l:List α}{f:α->Bool}(h:fa vs β=.ok (.list (l.map λq=>PyData.bool (f q))) β):f1 fa (cA λbs=>bs.all id) vs β=.ok (.bool (l.all f)) β:=by
 refine b7 h ?_
 simp only[cA]
 rw[gL]
 simp[List.all_map]
def Ew:D->Bool
 | .tuple _=>true
 |_=>false
theorem FL {d:D}(h:Ew d=true):∃ds,d=.tuple ds:=by
 cases d with
 |tuple ds=>exact⟨ds,rfl⟩
 |_=>cases h
def CQ {d:D}(h:bM d=false):gZ "tuple" d=some (.bool (Ew d)):=by
 unfold gZ;rw[h];cases d <;> rfl
section
variable {fa fb:VF D}{vs:List Nv}{β:Int}
def J1 {d:D}(ha:fa vs β=.ok d β)(h:bM d=false):j4 (f1 fa (gZ "tuple")) vs β=.ok (Ew d) β:=fM (b7 ha (CQ h))
def zk {l:List D}{f:D->Bool}(h:fa vs β=.ok (.list (l.map λq=>PyData.bool (f q))) β):f1 fa (cA λbs=>bs.all id) vs β=.ok (.bool (l.all f)) β:=by
 refine b7 h ?_
 simp only[cA]
 rw[gL]
 simp[List.all_map]
def yT {t u:VF Bool}(h:t vs β=.ok true β):lT t u vs β=.ok true β:=by rw[uD,h];rfl
def jS {t u:VF Bool}{c:Bool}(h:t vs β=.ok false β)(h':u vs β=.ok c β):lT t u vs β=.ok c β:=by rw[uD,h];exact h'
end
def Sq (c k:Nat)(d:D):Prop:=d.showable=true/\d.depth<=k/\d.shown.length<=c
def Sq.mono {c k c' k':Nat}{d:D}(h:Sq c k d)(h1:c<=c')(h2:k<=k'):Sq c' k' d:=⟨h.1,Oe h.2.1 h2,Oe h.2.2 h1⟩
theorem yt {c k:Nat}:∀{ds:List D},(∀d,d∈ds->Sq c k d)->PyData.showableAll ds=true/\PyData.depthAll ds<=k/\(∀t,t∈PyData.shownAll ds->t.length<=c)/\(PyData.shownAll ds).length=ds.length
 | [],_=>⟨by simp[PyData.showableAll],by simp[PyData.depthAll],λt h=>by simp[PyData.shownAll] at h,by simp[PyData.shownAll]⟩
 |d :: ds,h=>by
  obtain⟨h1,h2,h3,h4⟩:=yt λx hx=>h x (M8 _ hx)
  obtain⟨q1,q2,q3⟩:=h d (Nb ..)
  refine⟨?_,?_,λt ht=>?_,?_⟩
  ·rw[PyData.showableAll,q1,h1];rfl
  ·rw[PyData.depthAll];omega
  ·rw[PyData.shownAll] at ht
   rcases M6.mp ht with rfl |ht
   ·exact q3
   ·exact h3 t ht
  ·rw[PyData.shownAll,NC,NC,h4]
theorem vJ {c:Nat}:∀{ts:List Str},(∀t,t∈ts->t.length<=c)->(Str.join ", " ts).length<=(c + 2) * ts.length
 | [],_=>by show (Str.join ", " []).length<=_;exact NQ _
 | [x],h=>by
  have:=h x (Nb ..)
  show x.length<=(c + 2) * 1
  omega
 |x :: y :: r,h=>by
  have ih:=vJ (ts:=y :: r) λt ht=>h t (M8 _ ht)
  have:=h x (Nb ..)
  show (x ++ ", " ++ Str.join ", " (y :: r)).length<=_
  rw[Po,Po]
  have e2:((", ":String):Str).length=2:=rfl
  rw[e2]
  have e:(c + 2) * (x :: y :: r).length=(c + 2) * (y :: r).length + (c + 2):=by rw[NC,Nat.mul_succ]
  omega
def BP {c k:Nat}{ds:List D}(h:∀d,d∈ds->Sq c k d):Sq (3 + (c + 2) * ds.length) (k + 1) (.tuple ds):=by
 obtain⟨h1,h2,h3,h4⟩:=yt h
 refine⟨by rw[PyData.showable];exact h1,by rw[PyData.depth];omega,?_⟩
 rw[PyData.shown]
 unfold tupleText
 rw[Po,Po]
 have j:=vJ h3
 rw[h4] at j
 have e1:((("(":String):Str)).length=1:=rfl
 have e3:((if (PyData.shownAll ds).length == 1 then ",)" else ")":String):Str).length<=2:=by split <;> exact by decide
 rw[e1]
 omega
def Hi {c k:Nat}{ds:List D}(h:∀d,d∈ds->Sq c k d):Sq (2 + (c + 2) * ds.length) (k + 1) (.list ds):=by
 obtain⟨h1,h2,h3,h4⟩:=yt h
 refine⟨by rw[PyData.showable];exact h1,by rw[PyData.depth];omega,?_⟩
 rw[PyData.shown]
 unfold listText
 rw[Po]
 have:=C8 (c:=c + 2) (PyData.shownAll ds) 0 "[" λt ht=>by have:=h3 t ht;omega
 rw[h4] at this
 have e1:((("[":String):Str)).length=1:=rfl
 have e2:((("]":String):Str)).length=1:=rfl
 rw[e1] at this
 rw[e2];omega
def Bf (d:D):Prop:=Ea d=true
theorem wZ:∀{ds:List D},(∀d,d∈ds->Bf d)->Bw ds=true
 | [],_=>rfl
 |d :: ds,h=>by
  have h1:=wZ λx hx=>h x (M8 _ hx)
  have q1:Ea d=true:=h d (Nb ..)
  rw[Bw,q1,h1];rfl
def BS {ds:List D}(h:∀d,d∈ds->Bf d):Bf (.tuple ds):=by show Ea (.tuple ds)=true;rw[Ea];exact wZ h
def He {ds:List D}(h:∀d,d∈ds->Bf d):Bf (.list ds):=by show Ea (.list ds)=true;rw[Ea];exact wZ h
def LK:List Int:=[-1,0,1,2,3,4,5,6,7,8,9]
def CG:∀i∈LK,(int i).showable=true/\(int i).shown.length<=20:=by decide +kernel
def yx {i:Int}(h: -1<=i/\i<=9):i∈LK:=by
 simp only[LK,M6,N9,Pg]
 omega
def DU (d:D):Prop:=d=.none\/(∃b,d=.bool b)\/∃i:Int,d=.int i/\ -1<=i/\i<=9
def DU.sq {d:D}(h:DU d):Sq 20 0 d:=by
 rcases h with rfl | ⟨b,rfl⟩ | ⟨i,rfl,h⟩
 ·exact⟨by simp[PyData.showable],by simp[PyData.depth],by rw[PyData.shown];decide⟩
 ·exact⟨by simp[PyData.showable],by simp[PyData.depth],by rw[PyData.shown];cases b <;> decide⟩
 ·exact⟨(CG i (yx h)).1,by simp[PyData.depth],(CG i (yx h)).2⟩
def DU.bf {d:D}(h:DU d):Bf d:=by
 rcases h with rfl | ⟨b,rfl⟩ | ⟨i,rfl,h⟩ <;> exact by simp[Bf,Ea]
def DU.scr {d:D}(h:DU d):bM d=false:=by
 rcases h with rfl | ⟨b,rfl⟩ | ⟨i,rfl,h⟩ <;> rfl
section
variable {vs:List Nv}{β β1 β2:Int}{fa:VF D}{fr:VF (List D)}{d:D}{ds:List D}
def ac {fa:VF D}{fr:VF (List D)}(h:fa vs β=.ok d β)(h':fr vs β=.ok ds β):aa fa fr vs β=.ok (d :: ds) β:=by rw[cc,h];dsimp only[R.bnd];rw[h']
def an:af vs β=.ok [] β:=rfl
def tp (h:fr vs β=.ok ds β)(hz:ds.length<=1000:=by simp):bK fr vs β=.ok (.tuple ds) β:=mX h hz
def lp (h:fr vs β=.ok ds β)(hz:ds.length<=1000:=by simp):aY fr vs β=.ok (.list ds) β:=dJ h hz
def ck (d:D):cst d vs β=.ok d β:=rfl
end
def J8 {vs:List Nv}{β:Int}:f2 (cst (.int 10)) (cst (.int 39)) Co vs β=.ok (.int 1000000000000000000000000000000000000000) β:=aG (x:=.int 10) (y:=.int 39) rfl rfl (by rfl)
def za {i:Int}(h: -1<=i/\i<=9):DU (.int i):=.inr (.inr ⟨i,rfl,h⟩)
def Cu {d:D}(h:bM d=false):gZ "list" d=some (.bool (match d with | .list _=>true |_=>false)):=by
 unfold gZ;rw[h];cases d <;> rfl
def Cw:D->Bool
 | .list _=>true
 |_=>false
theorem Ek {d:D}(h:Cw d=true):∃ds,d=.list ds:=by
 cases d with
 |list ds=>exact⟨ds,rfl⟩
 |_=>cases h
def J5 {fa:VF D}{vs:List Nv}{β:Int}{d:D}(ha:fa vs β=.ok d β)(h:bM d=false):f1 fa (gZ "list") vs β=.ok (.bool (Cw d)) β:=b7 ha (by rw[Cu h];cases d <;> rfl)
def tJ {fa:VF D}{vs:List Nv}{β:Int}{ds:List D}(ha:fa vs β=.ok (.list ds) β):f1 fa cZ vs β=.ok (.int ds.length) β:=b7 ha rfl
def ju:List Str:=["order","many","pairs","ring","thing","row","rows","number","chain","turns","points","text"]
def AO (tbl:List (Str×Nat))(c:Str):Option Str:=(tbl.lookup c).map λj=>ju.getD j ""
def eH (n:Nat)(l:List Pr)(i:Nat):List Pr:=(OM.eQ n).filter λp=>decide (p.1 < i) && kO l p
def A5 (n:Nat)(l:List Pr):eH n l n=Jo n l:=by
 unfold eH Jo
 refine List.filter_congr λp hp=>?_
 have:=(OM.cu.mp hp).1.2
 rw[Nc this,Bool.true_and]
def Dy {n i:Nat}(l:List Pr)(hi:i < n):eH n l (i + 1)=eH n l i ++ ((fE n).filter λb=>kO l ((i:Int),b)).map λb=>((i:Int),b):=by
 refine OM.iH (OM.lL _ (OM.mO n)) ?_ λx=>?_
 ·show List.Pairwise OM.EJ _
  rw[List.pairwise_append]
  refine⟨OM.lL _ (OM.mO n),?_,λp hp q hq=>?_⟩
  ·rw[N0]
   exact ((B6 n).filter _).imp λ{a b} h=>.inr ⟨rfl,h⟩
  ·unfold eH at hp
   have h1:=(NF.mp hp).2
   rw[Ni,Nx] at h1
   obtain⟨b,_,rfl⟩:=Nh.mp hq
   exact .inl h1.1
 ·rw[Nw]
  unfold eH
  rw[NF,NF,Nh,OM.cu]
  simp only[Ni,Nx]
  constructor
  ·rintro⟨h1,h2,h3⟩
   by_cases z:x.1 < i
   ·exact .inl ⟨h1,z,h3⟩
   ·have e:x.1=i:=by omega
    obtain⟨xa,xb⟩:=x
    simp only at e h1 h3
    subst e
    exact .inr ⟨xb,NF.mpr ⟨bu.mpr h1.2,h3⟩,rfl⟩
  ·rintro (⟨h1,h2,h3⟩ | ⟨b,hb,rfl⟩)
   ·exact⟨h1,by omega,h3⟩
   ·obtain⟨hb1,hb2⟩:=NF.mp hb
    have:=bu.mp hb1
    exact⟨⟨⟨by omega,by omega⟩,this⟩,by omega,hb2⟩
def zQ {n:Nat}(l:List Pr)(i:Nat)(h8:n<=8):(eH n l i).length<=64:=by
 have h1:(eH n l i).length<=(OM.eQ n).length:=Ov _ _
 rw[g9] at h1
 have:n * n<=64:=Ot h8 h8
 omega
def o8:List D->FR:=bg 3 1 (gB lH)
def BX {n:Nat}{l:List Pr}(O:OM.Ord n l):o8 [aA n l]=.ok (.list ((Jo n l).map aK)) false:=by
 have h8:=O.hi
 show fin (gB lH [.fz (aA n l),.no,.no] 0)=_
 unfold gB
 rw[aF (env':=[.fz (aA n l),.fz (.list []),.no]) (β':=0) ?g1]
 case g1=>rw[ip,dJ (ds:=[]) rfl (by simp)];rfl
 have er:∀(s t:Sl),gk (f2 (gv 0) (cst (.int 0)) cG) [.da (aA n l),s.val,t.val] 0=.ok (cC 0 n) 0:=λs t=>l7 (n:=n) (Gs (n:=n) (l:=l) rfl) (by omega)
 obtain⟨env',β',ef,s,rfl,rfl⟩:=fO (t:=.nm 2) (m:=bI 1 ([] ++ (([] ++ []) ++ [0,2])) (f2 (gv 1) (aX 1 [0,2] (.nm 0) (gk (f2 (gv 0) (cst (.int 0)) cG)) (j4 (aw lH (aa (gv 1) (aa (gv 2) (aa (gv 0) af))))) (bK (aa (gv 2) (aa (gv 0) af)))) dH)) (ds:=cC 0 n) (k:=0)
  (λi env β=>∃s:Sl,env= [.fz (aA n l),.fz (.list ((eH n l i).map aK)),s]/\β=0)
  (env:=[.fz (aA n l),.fz (.list []),.no]) (β:=0) ⟨.no,by
   have:eH n l 0= []:=by
    unfold eH
    rw[List.filter_eq_nil_iff]
    intro p hp
    have:=(OM.cu.mp hp).1.1
    rw[Nj (by omega)];simp
   rw[this];rfl,rfl⟩ (by
   rintro i d env β hi ⟨s,rfl,rfl⟩
   obtain⟨hin,rfl⟩:=kx hi
   refine⟨[.fz (aA n l),.fz (.list ((eH n l (0 + i)).map aK)),.fz (.int (0 + (i:Int)))],rfl,?_⟩
   rw[Ow,Pj]
   have ec:aX 1 [0,2] (.nm 0) (gk (f2 (gv 0) (cst (.int 0)) cG)) (j4 (aw lH (aa (gv 1) (aa (gv 2) (aa (gv 0) af))))) (bK (aa (gv 2) (aa (gv 0) af))) [.da (aA n l),.da (.list ((eH n l i).map aK)),.da (.int i)] 0=.ok (.list (((fE n).filter λb=>kO l ((i:Int),b)).map λb=>aK ((i:Int),b))) 0:=by
    refine gY (l:=fE n) (e:=int) (λb=>kO l ((i:Int),b)) (λb=>aK ((i:Int),b)) ?_ (by rw[df];omega) λb hb=>⟨_,rfl,fM (aH (ds:=[aA n l,.int i,.int b]) rfl (DA n l i b)),λ_=>qq rfl rfl⟩
    rw[<-rK]
    exact er (.fz _) (.fz _)
   have ew:f2 (gv 1) (aX 1 [0,2] (.nm 0) (gk (f2 (gv 0) (cst (.int 0)) cG)) (j4 (aw lH (aa (gv 1) (aa (gv 2) (aa (gv 0) af))))) (bK (aa (gv 2) (aa (gv 0) af)))) dH [.da (aA n l),.da (.list ((eH n l i).map aK)),.da (.int i)] 0=.ok (.list ((eH n l (i + 1)).map aK)) 0:=by
    refine aG (x:=.list ((eH n l i).map aK)) rfl ec ?_
    rw[kU]
    ·rw[Dy l hin,NU,PH];rfl
    ·rw[Na,Na]
     have h1:=zQ l i h8
     have h2:((fE n).filter λb=>kO l ((i:Int),b)).length<=(fE n).length:=Ov _ _
     rw[df] at h2
     omega
   refine⟨[.fz (aA n l),.fz (.list ((eH n l (i + 1)).map aK)),.fz (.int i)],0,?_,_,rfl,rfl⟩
   rw[ip]
   show toS (f2 (gv 1) (aX 1 [0,2] (.nm 0) (gk (f2 (gv 0) (cst (.int 0)) cG)) (j4 (aw lH (aa (gv 1) (aa (gv 2) (aa (gv 0) af))))) (bK (aa (gv 2) (aa (gv 0) af)))) dH [.da (aA n l),.da (.list ((eH n l i).map aK)),.da (.int i)] 0) _=_
   rw[ew];rfl)
 rw[kY,Ow,A5] at ef
 rw[aF (env':=[.fz (aA n l),.fz (.list ((Jo n l).map aK)),s]) (β':=0) ?g2]
 case g2=>
  rw[iY (env:=[.fz (aA n l),.fz (.list []),.no]) (er (.fz (.list [])) .no)]
  exact ef
 rfl
def Ge (e:D):Prop:=bM e=false/\∀es,e=.tuple es->es.length<=100/\∀x,x∈es->bM x=false
def MY (n:Int):D->Bool
 | .tuple [x,y]=>jJ x n && jJ y n
 |_=>false
def Lf:List D->FR:=bg 1 1 mV
def Mk {d:D}(h:bM d=false):Lf [d]=.ok (.bool (wx d)) false:=by
 have:=yN [d] (by rw[mF h];exact λz=>by cases z)
 rw[mF h] at this
 exact this
def Sp (p:Pr):Prop:=(0<=p.1/\p.1<=8)/\(0<=p.2/\p.2<=8)
def El (e:D):Prop:=Ge e/\Sq 100 8 e/\Bf e
def Jb {es:List D}(hl:es.length<=100)(h:∀x,x∈es->bM x=false):Ge (.tuple es):=⟨rfl,λes' e=>by cases e;exact⟨hl,h⟩⟩
def MW:D->Bool
 | .tuple es=>decide (es.length<=100) && es.all λx=> !bM x
 |_=>true
def jZ:List D:=[.none,.bool true,.bool false,.int (-1),.int 0,.int 1,.str "",.str "1",.tuple [],.list [],.tuple [.int 0],.tuple [.int 1,.tuple []],.list [.int 0],.dict [(.str "a",.int 1)],.tuple [.int 0,.int 1],.int 1000000000000000000000000000000000000000,.tuple [.tuple [.int 0,.int 1]],.str "a"]
def EZ:∀x∈jZ,(x.showable=true/\x.depth<=5/\x.shown.length<=60)/\Ea x=true/\bM x=false/\MW x=true:=by decide +kernel
def HG {o:D}(h:o∈jZ):El o:=by
 obtain⟨h1,h2,h3,h4⟩:=EZ o h
 refine⟨⟨h3,λes e=>?_⟩,Sq.mono (c:=60) (k:=5) h1 (by omega) (by omega),h2⟩
 subst e
 have hb:(decide (es.length<=100) && es.all λx=> !bM x)=true:=h4
 rw[Ni,Nx,NH] at hb
 exact⟨hb.1,λx hx=>by have:=hb.2 x hx;rwa [Od] at this⟩
def Dj {fa fb:VF D}{vs:List Nv}{β:Int}{ds:List D}{i:Nat}(ha:fa vs β=.ok (.list ds) β)(hb:fb vs β=.ok (.int ((i:Nat):Int)) β):Fh fa (λ_ β=>.ok none β) (Gj fb) vs β=.ok (.list (ds.take i)) β:=by
 unfold Fh Gj
 rw[ha];dsimp only[R.bnd]
 rw[hb];dsimp only[R.bnd]
 congr 2
 unfold cutD
 rw[HT.uW,HT.D7]
 by_cases h:i<=ds.length
 ·rw[Nat.min_eq_left h];rfl
 ·rw[Nat.min_eq_right (by omega),OE (show ds.length<=i by omega)];simp
noncomputable def B5:List D->Int->FB:=oP 2 0 (jI bX)
def Ka (β:Int):∃o β',B5 [] β=.ok o false β'/\o∈jZ:=by
 show ∃o β',x8 (jI bX [.bx,.no] β)=.ok o false β'/\o∈jZ
 unfold jI
 rw[aF (env':=[.bx,.fz (.list (jZ.take 13))]) (β':=β) ?a]
 case a=>
  rw[ip,lp (ds:=jZ.take 13) (ac (ck _) (ac (ck _) (ac (ck _) (ac (ck _) (ac (ck _) (ac (ck _) (ac (ck _) (ac (ck _) (ac (tp an) (ac (lp an) (ac (tp (ac (ck _) an)) (ac (tp (ac (ck _) (ac (tp an) an))) (ac (lp (ac (ck _) an)) an))))))))))))) (by show (13:Nat)<=1000;omega)]
  rfl
 rw[aF (env':=[.bx,.fz (.list jZ)]) (β':=β) ?b]
 case b=>
  rw[ip,aG (x:=.list (jZ.take 13)) (y:=.list (jZ.drop 13)) (d:=.list jZ) (β1:=β) (β2:=β) rfl (lp (ds:=jZ.drop 13) (ac (ck _) (ac (tp (ac (ck _) (ac (ck _) an))) (ac J8 (ac (tp (ac (tp (ac (ck _) (ac (ck _) an))) an)) (ac (ck _) an))))) (by show (5:Nat)<=1000;omega)) ?c]
  ·rfl
  case c=>rw[kU (by show (13 + 5:Nat)<=10000;omega)];rfl
 obtain⟨j,hj,ej⟩:=i6 (m:=18) (by omega) (by omega) β
 have hlen:jZ.length=18:=rfl
 obtain⟨o,ho⟩:∃o,jZ[j]? =some o:=⟨_,M1 (by omega)⟩
 have e:f2 (gv 1) (jK 0 bX (aa (cst (.int 18)) af)) cG (vl [.bx,.fz (.list jZ)]) β=.ok o (β / ((18:Nat):Int)):=aG (x:=.list jZ) (y:=.int j) rfl (fT (ds:=[.int 18]) (by rfl) rfl ej) (show kg jZ (j:Int)=some o from jO ho)
 rw[jB,e]
 exact⟨o,_,rfl,Nm ho⟩
end RM
namespace RM
open PySem PySem.Spec L2 PyProof.Rows
theorem oE:∀{l m:List Int},l.Nodup->(∀x,x∈l->x∈m)->m.length<=l.length->l.Perm m
 | [],m,_,_,h=>by
  have:m= []:=List.length_eq_zero_iff.mp (by simpa using h)
  rw[this]
 |x :: l,m,nd,hs,h=>by
  obtain⟨h1,h2⟩:=NP.mp nd
  have hx:x∈m:=hs x (Nb ..)
  have pm:m.Perm (x :: m.erase x):=List.perm_cons_erase hx
  refine (List.Perm.cons x (oE (m:=m.erase x) h2 (λy hy=>?_) ?_)).trans pm.symm
  ·have hy':=pm.mem_iff.mp (hs y (M8 _ hy))
   rcases M6.mp hy' with rfl |q
   ·exact absurd hy h1
   ·exact q
  ·have:=pm.length_eq
   rw[NC] at this h
   omega
def Cz {n:Nat}{r:List Int}(hl:r.length=n)(hb:∀x,x∈r->0<=x/\x < n)(nd:r.Nodup):r.Perm (fE n):=oE nd (λx hx=>bu.mpr (hb x hx)) (by rw[df];omega)
def B7 {r q:List Int}(h:tupI r=tupI q):r=q:=by
 unfold tupI at h
 have h:=PyData.tuple.inj h
 exact List.map_inj_right (λa b e=>int.inj e) |>.mp h
theorem cz:∀r:List Int,hG (r.map int)=some r
 | []=>rfl
 |x :: r=>by
  have:=cz r
  simp only[NO,hG,this]
  try rfl
end RM
namespace RM
open PySem L2
def Fp (l:List Pr)(r:List Int):Bool:=l.all λp=>decide (r.idxOf p.1 < r.idxOf p.2)
def Row (n:Nat)(l:List Pr)(r:List Int):Prop:=r.Perm (fE n)/\Fp l r=true
def Gt (d:D):Prop:=bM d=false/\∀ds,d=.list ds->ds.length<=100/\∀e,e∈ds->Ge e
theorem any_ints (a:Int):∀s:List Int,((s.map int).any λe=>PyData.eqv e (.int a))=decide (a∈s)
 | []=>rfl
 |b :: s=>by
  rw[NO,O3,any_ints a s]
  show ((b == a) || _)=_
  rw[NY]
  simp only[PU,beq_iff_eq,Nx,M6]
  exact⟨λh=>h.imp Eq.symm id,λh=>h.imp Eq.symm id⟩
def zW (s:List Int):(s.map int).all SeqAt.shaped=true:=by
 rw[NH]
 intro d hd
 obtain⟨p,_,rfl⟩:=Nh.mp hd
 rfl
def zK (l:List Pr)(r:List Int)(x:Int):List Int:=(l.filter λp=>decide (p.2=x) && !decide (p.1∈r)).map (·.1)
def fI {l:List Pr}{r:List Int}{x a:Int}:a∈zK l r x↔(a,x)∈l/\a∉r:=by
 unfold zK
 rw[Nh]
 constructor
 ·rintro⟨p,hp,rfl⟩
  have:=NF.mp hp
  simp only[Ni,Nx,Od,OS] at this
  obtain⟨pa,pb⟩:=p
  obtain⟨h1,h2,h3⟩:=this
  simp only at h2 h3
  subst h2
  exact⟨h1,h3⟩
 ·rintro⟨h1,h2⟩
  exact⟨(a,x),NF.mpr ⟨h1,by simp[h2]⟩,rfl⟩
def Av {n:Nat}{l:List Pr}(O:OM.Ord n l)(r:List Int)(x:Int):(zK l r x).Nodup:=by
 unfold zK
 rw[O4,N0]
 refine Ox (λ{a b} ha hb h e=>h ?_) (O4.mp ((OM.gN O.ris).filter _))
 have h1:=(NF.mp ha).2
 have h2:=(NF.mp hb).2
 simp only[Ni,Nx] at h1 h2
 exact Prod.ext e (h1.1.trans h2.1.symm)
theorem least {n:Nat}{l:List Pr}(O:OM.Ord n l)(r:List Int):∀(k:Nat) (x:Int),(0<=x/\x < n)->x∉r->(zK l r x).length<=k->∃y:Int,(0<=y/\y < n)/\y∉r/\zK l r y= []
 | 0,x,hx,hr,hk=>⟨x,hx,hr,List.length_eq_zero_iff.mp (by omega)⟩
 |k + 1,x,hx,hr,hk=>by
  by_cases he:zK l r x= []
  ·exact⟨x,hx,hr,he⟩
  ·obtain⟨a,ha⟩:=List.exists_mem_of_ne_nil _ he
   obtain⟨h1,h2⟩:=fI.mp ha
   refine least O r k a (O.wn _ h1).1 h2 ?_
   have nd:(a :: zK l r a).Nodup:=NP.mpr ⟨λq=>O.irr a (fI.mp q).1,Av O r a⟩
   have:=L2.ST.bw nd (m:=zK l r x) λy hy=>by
    rcases M6.mp hy with rfl |hy
    ·exact ha
    ·obtain⟨q1,q2⟩:=fI.mp hy
     exact fI.mpr ⟨O.tr _ _ _ q1 h1,q2⟩
   rw[NC] at this
   omega
structure DX (n:Nat)(l:List Pr)(r:List Int):Prop where
 nd:r.Nodup
 inn:∀x,x∈r->0<=x/\x < (n:Int)
 fit:∀p,p∈l->p.2∈r->p.1∈r/\r.idxOf p.1 < r.idxOf p.2
def DX.len {n:Nat}{l:List Pr}{r:List Int}(B:DX n l r):r.length<=n:=by
 have:=L2.ST.bw B.nd (m:=fE n) λx hx=>bu.mpr (B.inn x hx)
 rwa [df] at this
def DX.row {n:Nat}{l:List Pr}{r:List Int}(O:OM.Ord n l)(B:DX n l r)(h:n<=r.length):Row n l r:=by
 have pm:=Cz (Nat.le_antisymm B.len h) B.inn B.nd
 refine⟨pm,NH.mpr λp hp=>Nc ?_⟩
 exact (B.fit p hp (pm.mem_iff.mpr (bu.mpr (O.wn p hp).2))).2
def dD (l:List Pr)(r:List Int)(x:Int):Bool:= !decide (x∈r) && decide (zK l r x= [])
def DX.more {n:Nat}{l:List Pr}{r:List Int}{x:Int}(B:DX n l r)(hx:0<=x/\x < (n:Int))(hf:dD l r x=true):DX n l (r ++ [x]):=by
 unfold dD at hf
 rw[Ni,Od,OS,Nx] at hf
 obtain⟨h1,h2⟩:=hf
 refine⟨?_,λy hy=>?_,λp hp hm=>?_⟩
 ·rw[Pz]
  refine⟨B.nd,NP.mpr ⟨by simp,PD⟩,λa ha b hb=>?_⟩
  rw[Nz] at hb
  subst hb
  exact λq=>h1 (q▸ha)
 ·rcases Nw.mp hy with hy |hy
  ·exact B.inn y hy
  ·rw[Nz] at hy;subst hy;exact hx
 ·rcases Nw.mp hm with hm |hm
  ·obtain⟨q1,q2⟩:=B.fit p hp hm
   refine⟨Of _ q1,?_⟩
   rw[O8,O8,M7 q1,M7 hm]
   exact q2
  ·rw[Nz] at hm
   have hp1:p.1∈r:=by
    by_cases z:p.1∈r
    ·exact z
    ·have:p.1∈zK l r x:=fI.mpr ⟨by rw[<-hm];exact hp,z⟩
     rw[h2] at this;cases this
   refine⟨Of _ hp1,?_⟩
   rw[O8,O8,M7 hp1,Nd (by rw[hm];exact h1)]
   have:=Oz.mpr hp1
   omega
def DX.free {n:Nat}{l:List Pr}{r:List Int}(O:OM.Ord n l)(B:DX n l r)(h:r.length < n):(fE n).filter (dD l r)≠ []:=by
 have:∃x,x∈fE n/\x∉r:=by
  apply Classical.byContradiction
  intro z
  have:=L2.ST.bw (kS n) (m:=r) λx hx=>Classical.byContradiction λq=>z ⟨x,hx,q⟩
  rw[df] at this
  omega
 obtain⟨x,hx,hr⟩:=this
 obtain⟨y,hy,hyr,hp⟩:=least O r _ x (bu.mp hx) hr (M9 _)
 intro q
 have:y∈(fE n).filter (dD l r):=NF.mpr ⟨bu.mpr hy,by unfold dD;simp[hyr,hp]⟩
 rw[q] at this
 cases this
def cM (l:List Pr)(r:List Int)(i:Nat):List Int:=(fE i).filter (dD l r)
def BO (i:Nat):fE (i + 1)=fE i ++ [(i:Int)]:=by unfold fE;rw[List.range_succ,NU];rfl
def sh (l:List Pr)(r:List Int)(i:Nat):cM l r (i + 1)=cM l r i ++ if dD l r (i:Int)=true then [(i:Int)] else []:=by
 unfold cM
 rw[BO,List.filter_append]
 congr 1
 by_cases h:dD l r (i:Int)=true
 ·rw[M7 h];simp[h]
 ·rw[Nd h];simp[h]
def mf (l:List Pr)(r:List Int)(i:Nat):(cM l r i).length<=i:=by
 have:(cM l r i).length<=(fE i).length:=Ov _ _
 rwa [df] at this
end RM
namespace RM
open PySem L2 PyProof.Rows
def mk (f:Nat->Bool):Nat->Nat
 | 0=>0
 |n + 1=>mk f n ||| if f n=true then 2 ^ n else 0
theorem jC (f:Nat->Bool):∀(n i:Nat),(mk f n).testBit i=(decide (i < n) && f i)
 | 0,i=>by simp[mk]
 |n + 1,i=>by
  unfold mk
  rw[Nat.testBit_or,jC f n i]
  by_cases h:f n=true
  ·rw[M7 h,Nat.testBit_two_pow]
   by_cases e:n=i
   ·subst e;simp[h]
   ·have e2:decide (i < n)=decide (i < n + 1):=by
     rw[OY];omega
    simp[e,e2]
  ·rw[Nd h]
   by_cases e:i=n
   ·subst e;simp[h]
   ·have e2:decide (i < n)=decide (i < n + 1):=by
     rw[OY];omega
    simp[e2]
def mk_eq {f g:Nat->Bool}{n:Nat}:mk f n=mk g n↔∀i,i < n->f i=g i:=by
 constructor
 ·intro h i hi
  have:=congrArg (λx=>x.testBit i) h
  simp only[jC,Nc hi,Bool.true_and] at this
  exact this
 ·intro h
  apply Nat.eq_of_testBit_eq
  intro i
  rw[jC,jC]
  by_cases hi:i < n
  ·rw[h i hi]
  ·rw[Nj hi];simp
def ng (f:Nat->Bool)(t:Nat):Nat->Bool:=λi=>f i || decide (i=t)
def Kb {f:Nat->Bool}{n t:Nat}(h:t < n):mk f n ||| 2 ^ t=mk (ng f t) n:=by
 apply Nat.eq_of_testBit_eq
 intro i
 rw[Nat.testBit_or,jC,jC,Nat.testBit_two_pow]
 unfold ng
 by_cases e:t=i
 ·subst e;simp[h]
 ·have e':¬i=t:=λq=>e q.symm
  simp[e,e']
def HI {f g:Nat->Bool}{n:Nat}:(mk f n &&& mk g n=mk g n)↔∀i,i < n->g i=true->f i=true:=by
 have e:mk f n &&& mk g n=mk (λi=>f i && g i) n:=by
  apply Nat.eq_of_testBit_eq
  intro i
  rw[Nat.testBit_and,jC,jC,jC]
  by_cases h:i < n
  ·simp[h]
  ·simp[h]
 rw[e,mk_eq]
 constructor
 ·intro h i hi hg
  have:=h i hi
  rw[hg,Bool.and_true] at this
  exact this
 ·intro h i hi
  cases hg:g i with
  |false=>simp
  |true=>rw[h i hi hg];rfl
def AX (a b:Nat):Builtin.bitOr (a:Int) (b:Int)=((a ||| b:Nat):Int):=by
 have h1:¬(0<=Builtin.bitNot (a:Int)):=by show ¬(0<= -(a:Int) - 1);omega
 have h2:¬(0<=Builtin.bitNot (b:Int)):=by show ¬(0<= -(b:Int) - 1);omega
 show Builtin.bitNot (Builtin.bitAnd (Builtin.bitNot a) (Builtin.bitNot b))=_
 rw[bitAnd_nn h1 h2]
 have e1:Builtin.bitNot (Builtin.bitNot (a:Int))=a:=by show -(-(a:Int) - 1) - 1=a;omega
 have e2:Builtin.bitNot (Builtin.bitNot (b:Int))=b:=by show -(-(b:Int) - 1) - 1=b;omega
 rw[e1,e2]
 show -(-((((a:Int).toNat ||| (b:Int).toNat:Nat):Int)) - 1) - 1=_
 rw[NM,NM];omega
def ya (a b:Nat):Builtin.bitAnd (a:Int) (b:Int)=((a &&& b:Nat):Int):=by
 rw[bitAnd_pp (by omega) (by omega),NM,NM]
def mI (f:Nat->Bool)(n:Nat):D:=.int ((mk f n:Nat):Int)
def Hw:∀t:Nat,t < 8->Hx (.int 1) (.int (t:Int))=some (.int ((2 ^ t:Nat):Int)):=by
 intro t ht
 have:t=0\/t=1\/t=2\/t=3\/t=4\/t=5\/t=6\/t=7:=by omega
 rcases this with rfl |rfl |rfl |rfl |rfl |rfl |rfl |rfl <;> rfl
def z7:List D->FR:=bg 2 2 gH
def IH {f:Nat->Bool}{n t:Nat}(h8:n<=8)(h:t < n):z7 [mI f n,.int (t:Int)]=.ok (mI (ng f t) n) false:=by
 show fin (gH [.fz (mI f n),.fz (.int t)] 0)=_
 unfold gH
 rw[jB,aG (x:=mI f n) (y:=.int ((2 ^ t:Nat):Int)) (d:=mI (ng f t) n) (β1:=0) (β2:=0) rfl (aG (x:=.int 1) (y:=.int t) rfl rfl (Hw t (by omega))) ?a]
 ·rfl
 case a=>
  show some (int (Builtin.bitOr _ _))=_
  rw[AX,Kb h];rfl
def fW (n:Nat)(M:Nat->Nat->Bool):D:=.list ((List.range n).map λb=>mI (M b) n)
def dX (l:List Pr)(b a:Nat):Bool:=decide ((((a:Nat):Int),((b:Nat):Int))∈l)
def Jy {n b:Nat}{M:Nat->Nat->Bool}(h:b < n):kg ((List.range n).map λb=>mI (M b) n) (b:Int)=some (mI (M b) n):=jO (by rw[Ng,Pk h];rfl)
def Ln:List D->FR:=bg 4 1 (fq z7)
def orM (M:Nat->Nat->Bool)(p:Pr)(b a:Nat):Bool:=M b a || (decide ((b:Int)=p.2) && decide ((a:Int)=p.1))
def HU {n:Nat}{M:Nat->Nat->Bool}{p:Pr}(h1:0<=p.1/\p.1 < n)(h2:0<=p.2/\p.2 < n):((List.range n).map λb=>mI (M b) n).set p.2.toNat (mI (ng (M p.2.toNat) p.1.toNat) n)=(List.range n).map λb=>mI (orM M p b) n:=by
 refine List.ext_getElem (by simp) λi h3 h4=>?_
 rw[List.getElem_set]
 simp only[List.getElem_map,List.getElem_range]
 unfold mI
 by_cases e:p.2.toNat=i
 ·rw[M7 e]
  congr 2
  rw[mk_eq]
  intro j hj
  unfold ng orM
  rw[e]
  have e1:((i:Nat):Int)=p.2:=by omega
  rw[Nc e1,Bool.true_and]
  congr 1
  rw[OY];omega
 ·rw[Nd e]
  congr 2
  rw[mk_eq]
  intro j hj
  unfold orM
  rw[Nj (by omega:¬((i:Nat):Int)=p.2)];simp
theorem zy {n:Nat}{l:List Pr}(h8:n<=8):∀(ps:List Pr) (M:Nat->Nat->Bool) (s2 s3:Sl),OM.Wn n ps->∃M' s2' s3',oO (.two 2 3) (vI 1 (([] ++ []) ++ ([2] ++ [])) [] (aw z7 (aa (f2 (gv 1) (gv 3) cG) (aa (gv 2) af))) (gv 3)) (ps.map aK) [.fz (aA n l),.ow (fW n M),s2,s3] 0=.nx [.fz (aA n l),.ow (fW n M'),s2',s3'] 0/\∀b a,b < n->a < n->M' b a=(M b a || dX ps b a)
 | [],M,s2,s3,_=>⟨M,s2,s3,rfl,λb a _ _=>by unfold dX;simp⟩
 |p :: ps,M,s2,s3,wn=>by
  have hp:=wn p (Nb ..)
  obtain⟨M',s2',s3',e,hM⟩:=zy (l:=l) h8 ps (orM M p) (.fz (.int p.1)) (.fz (.int p.2)) λq hq=>wn q (M8 _ hq)
  refine⟨M',s2',s3',?_,λb a hb ha=>?_⟩
  ·rw[NO]
   unfold oO
   rw[show gf (.two 2 3) (aK p) [.fz (aA n l),.ow (fW n M),s2,s3]=some [.fz (aA n l),.ow (fW n M),.fz (.int p.1),.fz (.int p.2)] from rfl]
   dsimp only
   have e1:(p.2.toNat:Int)=p.2:=by omega
   have e2:(p.1.toNat:Int)=p.1:=by omega
   have ew:aw z7 (aa (f2 (gv 1) (gv 3) cG) (aa (gv 2) af)) (vl [.fz (aA n l),.ow (fW n M),.fz (.int p.1),.fz (.int p.2)]) 0=.ok (mI (ng (M p.2.toNat) p.1.toNat) n) 0:=by
    refine aH (b:=false) (ds:=[mI (M p.2.toNat) n,.int (p.1.toNat:Int)]) (ac (aG (x:=fW n M) (y:=.int p.2) rfl rfl ?_) (ac ?_ an)) (IH h8 (by omega))
    ·have:=Jy (n:=n) (M:=M) (b:=p.2.toNat) (by omega)
     rw[e1] at this
     exact this
    ·show R.ok (int p.1) 0=_
     rw[e2]
   rw[CZ (ds:=(List.range n).map λb=>mI (M b) n) (d:=mI (ng (M p.2.toNat) p.1.toNat) n) (k:=p.2) (n:=p.2.toNat) (β1:=0) (β2:=0) ew (by rfl) rfl (by rfl) (by
    unfold vG
    rw[M7 hp.2.1,M7 (by simp;omega)]),HU hp.1 hp.2]
   dsimp only
   exact e
  ·rw[hM b a hb ha]
   unfold orM dX
   obtain⟨p1,p2⟩:=p
   rw[Bool.or_assoc]
   congr 1
   rw[NY]
   simp only[PU,Ni,Nx,M6,Prod.mk.injEq]
   constructor
   ·rintro (⟨h1,h2⟩ |h)
    ·exact .inl ⟨h2,h1⟩
    ·exact .inr h
   ·rintro (⟨h1,h2⟩ |h)
    ·exact .inl ⟨h2,h1⟩
    ·exact .inr h
def AZ {n:Nat}{M N:Nat->Nat->Bool}(h:∀b a,b < n->a < n->M b a=N b a):fW n M=fW n N:=by
 unfold fW
 congr 1
 refine OD λb hb=>?_
 unfold mI
 congr 2
 rw[mk_eq]
 exact λa ha=>h b a (Ny.mp hb) ha
def Mb {n:Nat}{l:List Pr}(O:OM.Ord n l):Ln [aA n l]=.ok (fW n (dX l)) true:=by
 have h8:=O.hi
 show fin (fq z7 [.fz (aA n l),.no,.no,.no] 0)=_
 unfold fq
 rw[aF (env':=[.fz (aA n l),.ow (fW n λ_ _=>false),.no,.no]) (β':=0) ?a]
 case a=>
  have e:f2 (aY (aa (cst (.int 0)) af)) (f2 (gv 0) (cst (.int 0)) cG) v3 (vl [.fz (aA n l),.no,.no,.no]) 0=.ok (fW n λ_ _=>false) 0:=by
   refine aG (lp (ac (ck _) an)) (Gs (n:=n) (l:=l) rfl) ?_
   simp only[v3]
   rw[M7 ⟨by omega,by omega,by rw[NA];simp;omega⟩]
   unfold fW
   congr 2
   rw[NM]
   have hz:∀m,mk (λ_=>false) m=0:=λm=>by
    induction m with
    |zero=>rfl
    |succ m ih=>unfold mk;rw[ih];simp
   unfold mI
   simp only[hz]
   have:∀m:Nat,(List.replicate m [int 0]).flatten=List.replicate m (int 0):=λm=>by
    induction m with
    |zero=>rfl
    |succ m ih=>rw[Oi,Oi,OQ,ih];rfl
   rw[this]
   refine List.ext_getElem (by simp) λi h1 h2=>by simp
  rw[pP,e];rfl
 obtain⟨M',s2,s3,e,hM⟩:=zy (l:=l) h8 l (λ_ _=>false) .no .no O.wn
 have hm:fW n M'=fW n (dX l):=AZ λb a hb ha=>by rw[hM b a hb ha];rfl
 rw[hm] at e
 rw[aF (env':=[.fz (aA n l),.ow (fW n (dX l)),s2,s3]) (β':=0) (by
  rw[iY (env:=[.fz (aA n l),.ow (fW n λ_ _=>false),.no,.no]) (ds:=l.map aK) (β1:=0) (by unfold bN;rw[LW (n:=n) (l:=l) rfl];rfl)]
  exact e)]
 rfl
end RM
namespace RM
open PySem L2
def cT (r:List Int)(i:Nat):Bool:=decide ((i:Int)∈r)
def K4:List D->FR:=bg 5 2 (fF z7)
def DH {n:Nat}{l:List Pr}(O:OM.Ord n l){r:List Int}{t:Nat}(ht:t < n):(!decide (mk (ng (cT r) t) n=mk (cT r) n) && decide (mk (cT r) n &&& mk (dX l t) n=mk (dX l t) n))=dD l r t:=by
 unfold dD
 congr 1
 ·congr 1
  rw[OY,mk_eq]
  constructor
  ·intro h
   have:=h t ht
   unfold ng cT at this
   simp at this
   exact this
  ·intro h i hi
   unfold ng cT
   by_cases e:i=t
   ·subst e;simp[h]
   ·simp[e]
 ·rw[OY,HI]
  constructor
  ·intro h
   rw[List.eq_nil_iff_forall_not_mem]
   intro a ha
   obtain⟨h1,h2⟩:=fI.mp ha
   have hw:=(O.wn _ h1).1
   simp only at hw
   have e:((a.toNat:Nat):Int)=a:=by omega
   have:=h a.toNat (by omega) (by unfold dX;rw[e];exact Nc h1)
   unfold cT at this
   rw[e] at this
   exact h2 (Ou this)
  ·intro h i hi hg
   unfold cT
   refine Nc (Classical.byContradiction λq=>?_)
   have:(i:Int)∈zK l r t:=fI.mpr ⟨Ou hg,q⟩
   rw[h] at this;cases this
def Fu {n:Nat}{l:List Pr}(O:OM.Ord n l)(r:List Int):∃s3 s4,oO (.two 3 4) (j6 ((([1] ++ ([3] ++ [])) ++ []) ++ (([] ++ []) ++ [])) (DC (cK (f2 (aw z7 (aa (gv 1) (aa (gv 3) af))) (gv 1) (cF true))) (cK (f2 (f2 (gv 1) (gv 4) Bv) (gv 4) (cF false))))
  (lP 2 [3] (gv 3)) mU) (kI ((List.range n).map λb=>mI (dX l b) n)) [.fz (fW n (dX l)),.fz (mI (cT r) n),.ow (.list []),.no,.no] 0=.nx [.fz (fW n (dX l)),.fz (mI (cT r) n),.ow (.list ((cM l r n).map int)),s3,s4] 0:=by
 have h8:=O.hi
 obtain⟨env',β',ef,s3,s4,rfl,rfl⟩:=fO (t:=.two 3 4) (m:=j6 ((([1] ++ ([3] ++ [])) ++ []) ++ (([] ++ []) ++ [])) (DC (cK (f2 (aw z7 (aa (gv 1) (aa (gv 3) af))) (gv 1) (cF true))) (cK (f2 (f2 (gv 1) (gv 4) Bv) (gv 4) (cF false))))
  (lP 2 [3] (gv 3)) mU) (ds:=kI ((List.range n).map λb=>mI (dX l b) n)) (k:=0)
  (λk env b=>∃s3 s4,env= [.fz (fW n (dX l)),.fz (mI (cT r) n),.ow (.list ((cM l r k).map int)),s3,s4]/\b=0)
  (env:=[.fz (fW n (dX l)),.fz (mI (cT r) n),.ow (.list []),.no,.no]) (β:=0) ⟨.no,.no,rfl,rfl⟩ (by
   rintro k d env b hk ⟨s3,s4,rfl,rfl⟩
   unfold kI at hk
   rw[List.getElem?_mapIdx,Ng] at hk
   have hkn:k < n:=by
    by_cases h:k < n
    ·exact h
    ·rw[OK (by simp;omega)] at hk;cases hk
   rw[Pk hkn] at hk
   cases hk
   refine⟨[.fz (fW n (dX l)),.fz (mI (cT r) n),.ow (.list ((cM l r (0 + k)).map int)),.fz (.int k),.fz (mI (dX l k) n)],rfl,?_⟩
   rw[Ow]
   have et:DC (cK (f2 (aw z7 (aa (gv 1) (aa (gv 3) af))) (gv 1) (cF true))) (cK (f2 (f2 (gv 1) (gv 4) Bv) (gv 4) (cF false))) (vl [.fz (fW n (dX l)),.fz (mI (cT r) n),.ow (.list ((cM l r k).map int)),.fz (.int k),.fz (mI (dX l k) n)]) 0=.ok (dD l r k) 0:=by
    rw[<-DH O hkn]
    refine Hv (cB _ _ _ _ (aG (x:=mI (ng (cT r) k) n) (y:=mI (cT r) n) (aH (ds:=[mI (cT r) n,.int k]) rfl (IH h8 hkn)) rfl ?_)) (cB _ _ _ _ (aG (x:=.int ((mk (cT r) n &&& mk (dX l k) n:Nat):Int)) (y:=mI (dX l k) n) (aG (x:=mI (cT r) n) (y:=mI (dX l k) n) rfl rfl ?_) rfl ?_))
    ·unfold mI;rw[tR,M7 rfl];congr 3;rw[OY];omega
    ·show some (int (Builtin.bitAnd _ _))=_
     rw[ya]
    ·unfold mI;rw[tR,Nd Nq];congr 2;rw[OY];omega
   cases c:dD l r (k:Int) with
   |true=>
    rw[c] at et
    refine⟨[.fz (fW n (dX l)),.fz (mI (cT r) n),.ow (.list ((cM l r (k + 1)).map int)),.fz (.int k),.fz (mI (dX l k) n)],0,?_,_,_,rfl,rfl⟩
    rw[lr et]
    have hz:=mf l r k
    rw[show aS ((([1] ++ ([3] ++ [])) ++ []) ++ (([] ++ []) ++ [])) [.fz (fW n (dX l)),.fz (mI (cT r) n),.ow (.list ((cM l r k).map int)),.fz (.int k),.fz (mI (dX l k) n)]= [.fz (fW n (dX l)),.fz (mI (cT r) n),.ow (.list ((cM l r k).map int)),.fz (.int k),.fz (mI (dX l k) n)] from rfl]
    rw[pe (i:=2) (ds:=(cM l r k).map int) (d:=.int k) (β':=0) (by rfl) rfl (by rfl) (by rw[Na];omega),sh,M7 c,NU]
    rfl
   |false=>
    rw[c] at et
    refine⟨[.fz (fW n (dX l)),.fz (mI (cT r) n),.ow (.list ((cM l r (k + 1)).map int)),.fz (.int k),.fz (mI (dX l k) n)],0,?_,_,_,rfl,rfl⟩
    rw[kz et,sh,c,show cM l r k ++ (if false=true then [(k:Int)] else [])=cM l r k by simp]
    rfl)
 have hle:(kI ((List.range n).map λb=>mI (dX l b) n)).length=n:=by unfold kI;simp
 rw[Ow,hle] at ef
 exact⟨s3,s4,ef⟩
def Mr {n:Nat}{l:List Pr}(O:OM.Ord n l)(r:List Int):K4 [fW n (dX l),mI (cT r) n]=.ok (.list ((cM l r n).map int)) true:=by
 show fin (fF z7 [.fz (fW n (dX l)),.fz (mI (cT r) n),.no,.no,.no] 0)=_
 unfold fF
 rw[aF (env':=[.fz (fW n (dX l)),.fz (mI (cT r) n),.ow (.list []),.no,.no]) (β':=0) (by rw[pP,lp (ds:=[]) an];rfl)]
 obtain⟨s3,s4,e⟩:=Fu O r
 rw[aF (env':=[.fz (fW n (dX l)),.fz (mI (cT r) n),.ow (.list ((cM l r n).map int)),s3,s4]) (β':=0) (by
  rw[iY (env:=[.fz (fW n (dX l)),.fz (mI (cT r) n),.ow (.list []),.no,.no]) (ds:=kI ((List.range n).map λb=>mI (dX l b) n)) (β1:=0) rfl]
  exact e)]
 rfl
noncomputable def K8:List D->FR:=bg 6 2 (ik K4 z7)
structure D1 (n:Nat)(l:List Pr)(late r:List Int):Prop where
 beg:DX n l r
 late:∀q x,(q ++ [x]) <+:r->x∈late->∀y:Int,(0<=y/\y < n)->dD l q y=true->y∈late
def BL (neg:Bool)(a:Int)(s:List Int):uC neg (.int a) (.list (s.map int))=some (.bool (if neg then !decide (a∈s) else decide (a∈s))):=by
 unfold uC
 simp only[ig,zW,any_ints]
 rfl
def D1.more {n:Nat}{l:List Pr}{late r:List Int}{x:Int}(R:D1 n l late r)(hx:0<=x/\x < (n:Int))(hf:dD l r x=true)(hl:x∈late->∀y:Int,(0<=y/\y < n)->dD l r y=true->y∈late):D1 n l late (r ++ [x]):=by
 refine⟨R.beg.more hx hf,λq z hp hz y hy hfy=>?_⟩
 rcases List.prefix_concat_iff.mp hp with e |hp
 ·have:=List.append_inj' e rfl
  obtain⟨rfl,e2⟩:=this
  cases e2
  exact hl hz y hy hfy
 ·exact R.late q z hp hz y hy hfy
def HY (n:Nat):mI (cT []) n=.int 0:=by
 unfold mI
 congr 1
 have:mk (cT []) n=0:=by
  induction n with
  |zero=>rfl
  |succ m ih=>unfold mk;rw[ih];simp[cT]
 rw[this];rfl
def Je {n:Nat}{r:List Int}{x:Int}(h:0<=x/\x < n):mI (ng (cT r) x.toNat) n=mI (cT (r ++ [x])) n:=by
 unfold mI
 congr 2
 rw[mk_eq]
 intro i hi
 unfold ng cT
 rw[NY]
 simp only[PU,Nx,Nw,Nz]
 constructor
 ·rintro (h |h)
  ·exact .inl h
  ·exact .inr (by omega)
 ·rintro (h |h)
  ·exact .inl h
  ·exact .inr (by omega)
def LX {n:Nat}{l:List Pr}{late:List Int}(O:OM.Ord n l)(hz:late.length<=100):∃r,K8 [fW n (dX l),.list (late.map int)]=.ok (tupI r) false/\Row n l r/\D1 n l late r:=by
 have h8:=O.hi
 show ∃r,fin (ik K4 z7 [.fz (fW n (dX l)),.fz (.list (late.map int)),.no,.no,.no,.no] 0)=.ok (tupI r) false/\Row n l r/\D1 n l late r
 unfold ik
 rw[aF (env':=[.fz (fW n (dX l)),.fz (.list (late.map int)),.ow (.list (([]:List Int).map int)),.no,.no,.no]) (β':=0) (by rw[pP,lp (ds:=[]) an];rfl)]
 rw[aF (env':=[.fz (fW n (dX l)),.fz (.list (late.map int)),.ow (.list (([]:List Int).map int)),.fz (mI (cT []) n),.no,.no]) (β':=0) (by rw[ip,HY];rfl)]
 obtain⟨env',β',ew,r,s4,s5,rfl,rfl,hr,R⟩:=jM (L:=[] ++ []) (t:=cK (f2 (f1 (gv 2) cZ) (f1 (gv 0) cZ) DZ))
  (m:=aI (bI 4 ([0] ++ ([3] ++ [])) (aw K4 (aa (gv 0) (aa (gv 3) af))))
   (aI (bI 5 ([] ++ []) (aX 1 [1] (.nm 0) (bN (gv 4)) (cK (f2 (gv 0) (gv 1) (uC true))) (gv 0)))
   (aI (lP 2 (([] ++ []) ++ []) (f2 (f2 (gv 5) (gv 4) dH) (cst (.int 0)) cG))
   (bI 3 ([3] ++ (([] ++ []) ++ [])) (aw z7 (aa (gv 3) (aa (f2 (gv 2) (f1 (cst (.int 1)) vH) cG) af)))))))
  (λk env b=>∃r s4 s5,env= [.fz (fW n (dX l)),.fz (.list (late.map int)),.ow (.list (r.map int)),.fz (mI (cT r) n),s4,s5]/\b=0/\D1 n l late r/\k=n - r.length)
  (λenv b=>∃r s4 s5,env= [.fz (fW n (dX l)),.fz (.list (late.map int)),.ow (.list (r.map int)),.fz (mI (cT r) n),s4,s5]/\b=0/\Row n l r/\D1 n l late r)
  (n:=1000) (k:=n) (env:=[.fz (fW n (dX l)),.fz (.list (late.map int)),.ow (.list (([]:List Int).map int)),.fz (mI (cT []) n),.no,.no]) (β:=0) (by omega)
  ⟨[],.no,.no,rfl,rfl,⟨⟨PD,(λx hx=>by cases hx),(λp _ h=>by cases h)⟩,λq x hp=>by simp at hp⟩,by simp⟩ (by
   rintro k env b ⟨r,s4,s5,rfl,rfl,R,rfl⟩
   have hrl:=R.beg.len
   have et:cK (f2 (f1 (gv 2) cZ) (f1 (gv 0) cZ) DZ) (vl [.fz (fW n (dX l)),.fz (.list (late.map int)),.ow (.list (r.map int)),.fz (mI (cT r) n),s4,s5]) 0=.ok (decide ((r.length:Int) < n)) 0:=by
    refine cB _ _ _ _ (aG (x:=.int r.length) (y:=.int n) (β1:=0) ?_ ?_ rfl)
    ·rw[tJ (ds:=r.map int) rfl,Na]
    ·rw[tJ (ds:=(List.range n).map λb=>mI (dX l b) n) rfl,Na,O7]
   refine⟨_,_,et,?_⟩
   by_cases hlt:r.length < n
   ·refine .inr ⟨Nc (by omega),?_⟩
    show ∃env2 β2 k',aI _ _ [.fz (fW n (dX l)),.fz (.list (late.map int)),.ow (.list (r.map int)),.fz (mI (cT r) n),s4,s5] 0=.nx env2 β2/\k' < n - r.length/\_
    rw[aF (env':=[.fz (fW n (dX l)),.fz (.list (late.map int)),.ow (.list (r.map int)),.fz (mI (cT r) n),.fz (.list ((cM l r n).map int)),s5]) (β':=0) (by rw[ip,aH (ds:=[fW n (dX l),mI (cT r) n]) (β1:=0) rfl (Mr O r)];rfl)]
    have ec:aX 1 [1] (.nm 0) (bN (gv 4)) (cK (f2 (gv 0) (gv 1) (uC true))) (gv 0) (vl [.fz (fW n (dX l)),.fz (.list (late.map int)),.ow (.list (r.map int)),.fz (mI (cT r) n),.fz (.list ((cM l r n).map int)),s5]) 0=.ok (.list (((cM l r n).filter λx=> !decide (x∈late)).map int)) 0:=by
     refine gY (l:=cM l r n) (e:=int) (λx=> !decide (x∈late)) int rfl (by have:=mf l r n;omega) λx hx=>⟨_,rfl,?_,λ_=>rfl⟩
     exact cB _ _ _ _ (aG (x:=.int x) (y:=.list (late.map int)) rfl rfl (BL true x late))
    generalize hEE:((cM l r n).filter λx=> !decide (x∈late))=EE at ec
    rw[aF (env':=[.fz (fW n (dX l)),.fz (.list (late.map int)),.ow (.list (r.map int)),.fz (mI (cT r) n),.fz (.list ((cM l r n).map int)),.fz (.list (EE.map int))]) (β':=0) (by rw[ip,ec];rfl)]
    have hne:cM l r n≠ []:=R.beg.free O hlt
    have hEl:EE.length<=n:=by rw[<-hEE];exact Oe (Ov _ _) (mf l r n)
    have hfl:=mf l r n
    obtain⟨x,L,hx⟩:∃x L,EE ++ cM l r n=x :: L:=List.exists_cons_of_ne_nil (by simp[hne])
    have hxm:x∈cM l r n:=by
     have:x∈EE ++ cM l r n:=by rw[hx];exact Nb ..
     rcases Nw.mp this with h |h
     ·rw[<-hEE] at h;exact (NF.mp h).1
     ·exact h
    obtain⟨hm1,hm2⟩:=NF.mp hxm
    have hxr:=bu.mp hm1
    have hlate:x∈late->∀y:Int,(0<=y/\y < n)->dD l r y=true->y∈late:=λhxl y hy hfy=>by
     apply Classical.byContradiction
     intro hn
     have hyE:y∈EE:=by rw[<-hEE];exact NF.mpr ⟨NF.mpr ⟨bu.mpr hy,hfy⟩,by simp[hn]⟩
     cases hE:EE with
     |nil=>rw[hE] at hyE;cases hyE
     |cons z Z=>
      rw[hE,List.cons_append] at hx
      have e1:=(List.cons.inj hx).1
      have:z∈EE:=by rw[hE];exact Nb ..
      rw[<-hEE] at this
      have:=(NF.mp this).2
      rw[e1] at this
      simp[hxl] at this
    have R':=R.more hxr hm2 hlate
    rw[aF (env':=[.fz (fW n (dX l)),.fz (.list (late.map int)),.ow (.list ((r ++ [x]).map int)),.fz (mI (cT r) n),.fz (.list ((cM l r n).map int)),.fz (.list (EE.map int))]) (β':=0) ?bb]
    case bb=>
     have ei:f2 (f2 (gv 5) (gv 4) dH) (cst (.int 0)) cG (vl [.fz (fW n (dX l)),.fz (.list (late.map int)),.ow (.list (r.map int)),.fz (mI (cT r) n),.fz (.list ((cM l r n).map int)),.fz (.list (EE.map int))]) 0=.ok (.int x) 0:=by
      refine aG (x:=.list ((EE ++ cM l r n).map int)) (y:=.int 0) (aG (x:=.list (EE.map int)) (y:=.list ((cM l r n).map int)) rfl rfl ?_) rfl ?_
      ·rw[kU (by rw[Na,Na];omega),NU]
      ·rw[hx];exact jO (xs:=.int x :: L.map int) (j:=0) rfl
     rw[pe (i:=2) (ds:=r.map int) (d:=.int x) (β':=0) (by rfl) ei (by rfl) (by rw[Na];omega),NU]
     rfl
    have e1:(x.toNat:Int)=x:=by omega
    have el:f2 (gv 2) (f1 (cst (.int 1)) vH) cG (vl [.fz (fW n (dX l)),.fz (.list (late.map int)),.ow (.list ((r ++ [x]).map int)),.fz (mI (cT r) n),.fz (.list ((cM l r n).map int)),.fz (.list (EE.map int))]) 0=.ok (.int (x.toNat:Int)) 0:=by
     refine aG (x:=.list ((r ++ [x]).map int)) (y:=.int (-1)) rfl rfl ?_
     show kg ((r ++ [x]).map int) (-1)=_
     rw[e1]
     unfold kg vG
     rw[Nd (by omega),M7 (by simp;omega)]
     show ((r ++ [x]).map int)[((-1:Int) + ((((r ++ [x]).map int).length:Nat):Int)).toNat]? =_
     rw[show ((-1:Int) + ((((r ++ [x]).map int).length:Nat):Int)).toNat=r.length by simp;omega,NU,NN (by simp)]
     simp
    refine⟨[.fz (fW n (dX l)),.fz (.list (late.map int)),.ow (.list ((r ++ [x]).map int)),.fz (mI (cT (r ++ [x])) n),.fz (.list ((cM l r n).map int)),.fz (.list (EE.map int))],0,n - (r ++ [x]).length,?_,by rw[NK,List.length_singleton];omega,_,_,_,rfl,rfl,R',rfl⟩
    rw[ip,aH (ds:=[mI (cT r) n,.int (x.toNat:Int)]) (β1:=0) (ac rfl (ac el an)) (IH h8 (by omega)),Je hxr];rfl
   ·refine .inl ⟨Nj (by omega),r,s4,s5,rfl,rfl,R.beg.row O (by omega),R⟩)
 rw[aF (env':=[.fz (fW n (dX l)),.fz (.list (late.map int)),.ow (.list (r.map int)),.fz (mI (cT r) n),s4,s5]) (β':=0) ew]
 exact⟨r,rfl,hr,R⟩
structure WP (r:SO)(Q:SO->Prop):Prop where
 out:Q r
section
variable {m m' m1 m2:SF}{env env1:En}{β β1 β2 z:Int}{Q:SO->Prop}{f fa fb:VF D}{t:VF Bool}{d e:D}{L La Lb:List Nat}{i j:Nat}{c:Bool}
def wp_at (env1:En)(e:env=env1)(k:WP (m env1 β) Q):WP (m env β) Q:=by rw[e];exact k
def wp_seq (h:m env β=.nx env1 β1)(k:WP (m' env1 β1) Q):WP (aI m m' env β) Q:=by rw[aF h];exact k
theorem tu (h:WP (aI m mU env β) Q):WP (m env β) Q:=by
 obtain⟨h⟩:=h
 unfold aI at h
 cases e:m env β with
 |_=>rw[e] at h;exact⟨h⟩
def jW (q:Q (.nx env β)):WP (mU env β) Q:=⟨q⟩
def uR (h:f (vl env) β=.ok d β1)(k:WP (m' ((aS L env).set i (.fz d)) β1) Q):WP (aI (bI i L f) m' env β) Q:=wp_seq (by unfold bI;rw[h];rfl) k
def zg (h:f (vl env) β=.ok d β1)(k:WP (m' ((aS L env).set i (.ow d)) β1) Q):WP (aI (jU i L f) m' env β) Q:=wp_seq (by unfold jU;rw[h];rfl) k
def Fs (h:f (vl env) β=.ok (.list [.int z]) β1)(k:WP (m' ((rm (aS L env)).set i .bx) z) Q):WP (aI (zb i L f) m' env β) Q:=wp_seq (by unfold zb;rw[h];rfl) k
def zH (h:f (vl env) β=.ok d β1)(k:WP (m' (aS L env) β1) Q):WP (aI (wo L f) m' env β) Q:=wp_seq (by unfold wo;rw[h];rfl) k
def B3 {ds:List D}(hi:env[i]? =some (.ow (.list ds)))(h:f (vl env) β=.ok d β1)(hL:(aS L env)[i]? =some (.ow (.list ds)))(hz:ds.length<=1000)(k:WP (m' ((aS L env).set i (.ow (.list (ds ++ [d])))) β1) Q):WP (aI (lP i L f) m' env β) Q:=wp_seq (pe hi h hL hz) k
def mS (h:t (vl env) β=.ok false β1)(k:WP (m' (aS L env) β1) Q):WP (aI (j6 L t m1 mU) m' env β) Q:=wp_seq (by rw[kz h];rfl) k
def l8 (h:t (vl env) β=.ok true β1)(k:WP (aI m1 m' (aS L env) β1) Q):WP (aI (j6 L t m1 m2) m' env β) Q:=by
 have:aI (j6 L t m1 m2) m' env β=aI m1 m' (aS L env) β1:=by unfold aI;rw[lr h]
 rw[this];exact k
def Mi (h:t (vl env) β=.ok true β1)(k:WP (m1 (aS L env) β1) Q):WP (j6 L t m1 m2 env β) Q:=by rw[lr h];exact k
def yo (h:t (vl env) β=.ok false β1)(k:WP (m2 (aS L env) β1) Q):WP (j6 L t m1 m2 env β) Q:=by rw[kz h];exact k
def uc (h:f (vl env) β=.ok d β1)(q:Q (.rt d false β1)):WP (bE f env β) Q:=⟨by unfold bE;rw[h];exact q⟩
def pf (h:f (vl env) β=.ok d β1)(q:Q (.rt d false β1)):WP (aI (bE f) m' env β) Q:=⟨by unfold aI bE;rw[h];exact q⟩
def Ed (h:f (vl env) β=.ok d β1)(q:Q (.rt d true β1)):WP (nX f env β) Q:=⟨by unfold nX;rw[h];exact q⟩
def p8 {R:FR}(h:WP (m env β) λr=>fin r=R):fin (m env β)=R:=h.out
def nO {t:Tg}{fi:VF (List D)}{ds:List D}(I:Nat->En->Int->Prop)(hi:fi (vl env) β=.ok ds β1)(h0:I 0 (aS L env) β1)
  (hs:∀i d env β,ds[i]? =some d->I i env β->∃env1,gf t d env=some env1/\WP (m env1 β) λr=>∃env2 β2,r=.nx env2 β2/\I (i + 1) env2 β2)
  (k:∀env β,I ds.length env β->WP (m' env β) Q):WP (aI (dr t L fi m) m' env β) Q:=by
 obtain⟨env',β',e,h⟩:=fO (t:=t) (m:=m) I (ds:=ds) (k:=0) h0 λi d env β hd h=>by
  rw[Ow] at h
  obtain⟨env1,e1,⟨env2,β2,e2,h2⟩⟩:=hs i d env β hd h
  exact⟨env1,e1,env2,β2,e2,by rw[Ow];exact h2⟩
 rw[Ow] at h
 exact wp_seq ((iY hi).trans e) (k _ _ h)
end
def Bz (c:Int)(hc:0<=c/\c<=100)(ns:List Int)(vs:List Nv)(β:Int)(h:gv 0 vs β=.ok (cJ ns) β):∃m:Nat,m<=101/\gk (f2 (cst (.int 1)) (f2 (f1 (gv 0) cZ) (cst (.int c)) (wV λi j=>.int (if j < i then j else i))) (wV λi j=>.int (if j > i then j else i))) vs β=.ok (cC 0 m) β:=by
 have e1:f2 (cst (.int 1)) (f2 (f1 (gv 0) cZ) (cst (.int c)) (wV λi j=>.int (if j < i then j else i))) (wV λi j=>.int (if j > i then j else i)) vs β=.ok (.int (if (if c < ((ns.map int).length:Int) then c else ((ns.map int).length:Int)) > 1 then (if c < ((ns.map int).length:Int) then c else ((ns.map int).length:Int)) else 1)) β:=
  aG (x:=.int 1) rfl (aG (x:=.int (ns.map int).length) (y:=.int c) (b7 h rfl) rfl rfl) rfl
 generalize ((ns.map int).length:Nat)=k at e1
 refine⟨(if (if c < (k:Int) then c else (k:Int)) > 1 then (if c < (k:Int) then c else (k:Int)) else 1).toNat,?_,l7 (e1.trans ?_) ?_⟩
 ·split <;> split <;> omega
 ·congr 2
  split <;> split <;> omega
 ·split <;> split <;> omega
def vY {n:Nat}{r:List Int}:(sortI r=fE n)↔r.Perm (fE n):=by
 constructor
 ·intro h;rw[<-h];exact (sortI_perm r).symm
 ·intro h;exact (eO h.symm ((B6 n).imp λh=>Int.le_of_lt h)).symm
noncomputable def Lm (n:Nat)(d:D):Bool:=@decide (∃r:List Int,d=tupI r/\r.Perm (fE n)) (Classical.propDecidable _)
def Ey {n:Nat}{d:D}(h:∀r:List Int,d=tupI r->¬r.Perm (fE n)):Lm n d=false:=@Nj _ (Classical.propDecidable _) λ⟨r,e,p⟩=>h r e p
def Di {n:Nat}{r:List Int}(h:r.Perm (fE n)):Lm n (tupI r)=true:=@Nc _ (Classical.propDecidable _) ⟨r,rfl,h⟩
theorem zJ:∀{es:List D},es.all wx=true->∃r:List Int,es=r.map int
 | [],_=>⟨[],rfl⟩
 |d :: es,h=>by
  rw[all_cons,Ni] at h
  obtain⟨r,rfl⟩:=zJ h.2
  cases d with
  |int a=>exact⟨a :: r,rfl⟩
  |_=>cases h.1
noncomputable def Ld:List D->FR:=bg 2 2 (fy Lf)
theorem KI {n:Nat}{d:D}(h8:n<=8)(h:Ge d):Ld [d,.int n]=.ok (.bool (Lm n d)) false:=by
 show fin (fy Lf [.fz d,.fz (.int n)] 0)=_
 unfold fy
 have g0:gv 0 (vl [.fz d,.fz (.int n)]) 0=.ok d 0:=rfl
 have t1:=J1 g0 h.1
 cases hy:Ew d with
 |false=>
  rw[hy] at t1
  rw[Ey (n:=n) (d:=d) (λr e=>by rw[e] at hy;cases hy),mP (d:=.bool false) (b:=false) (β':=0) (by rw[lr (yT (cH t1))];rfl)];rfl
 |true=>
  obtain⟨es,rfl⟩:=FL hy
  rw[hy] at t1
  have t2:cK (f2 (f1 (gv 0) cZ) (gv 1) (cF true)) (vl [.fz (.tuple es),.fz (.int n)]) 0=.ok (!decide ((es.length:Int)=(n:Int))) 0:=kX (neg:=true) (b7 (x:=.tuple es) rfl rfl) rfl
  by_cases c:(es.length:Int)=(n:Int)
  ·rw[Nc c] at t2
   have hs:=(h.2 _ rfl).2
   have ec:aX 1 [] (.nm 0) (bN (gv 0)) sk (aw Lf (aa (gv 0) af)) (vl [.fz (.tuple es),.fz (.int n)]) 0=.ok (.list (es.map λe=>PyData.bool (wx e))) 0:=
    sr (λe=>PyData.bool (wx e)) rfl (by omega) λe he=>⟨_,rfl,aH (ds:=[e]) rfl (Mk (hs e he))⟩
   have ea:=zk ec
   cases hw:es.all wx with
   |false=>
    rw[hw] at ea
    rw[Ey (n:=n) (d:=.tuple es) (λr e=>by
     have e:=PyData.tuple.inj e
     rw[e] at hw
     have:(r.map int).all wx=true:=by
      rw[NH]
      intro d hd
      obtain⟨x,_,rfl⟩:=Nh.mp hd
      rfl
     rw[this] at hw;cases hw),mP (d:=.bool false) (b:=false) (β':=0) (by rw[lr (jS (cH t1) (jS t2 (cH (fM ea))))];rfl)];rfl
   |true=>
    rw[hw] at ea
    rw[aF (env':=[.fz (.tuple es),.fz (.int n)]) (β':=0) (by rw[kz (jS (cH t1) (jS t2 (cH (fM ea))))];rfl)]
    obtain⟨r,rfl⟩:=zJ hw
    have hz:r.length < 64:=by rw[Na] at c;omega
    have es:iN (.tuple (r.map int))=some (.list ((sortI r).map int)):=by
     unfold iN
     dsimp only[ig]
     rw[cz]
     dsimp only
     rw[M7 hz]
    rw[jB,aG (x:=.list ((sortI r).map int)) (y:=.list ((fE n).map int)) (β1:=0) (β2:=0) (b7 (x:=.tuple (r.map int)) rfl es) (b7 (x:=.int n) rfl (j9 (by omega))) (gW false _ _)]
    rw[Nd Nq]
    by_cases p:r.Perm (fE n)
    ·rw[Nc (vY.mpr p),show Lm n (.tuple (r.map int))=true from Di p];rfl
    ·rw[Nj (λe=>p (vY.mp e)),Ey (n:=n) (d:=.tuple (r.map int)) (λq e=>by
      have:=B7 (r:=r) (q:=q) e
      subst this
      exact p)];rfl
  ·rw[Nj c] at t2
   rw[Ey (n:=n) (d:=.tuple es) (λr e pr=>by
    have e:=PyData.tuple.inj e
    rw[e,Na,pr.length_eq,df] at c
    exact c rfl),mP (d:=.bool false) (b:=false) (β':=0) (by rw[lr (jS (cH t1) (yT t2))];rfl)];rfl
def K0:List D->FR:=bg 2 2 ij
def Jx {n:Nat}{l:List Pr}{r:List Int}(O:OM.Ord n l)(hp:r.Perm (fE n)):K0 [aA n l,tupI r]=.ok (.bool (Fp l r)) false:=by
 have hz:l.length<=1000:=by
  have:=OM.eY (OM.gN O.ris) (m:=OM.eQ n) λx hx=>OM.cu.mpr (O.wn x hx)
  rw[g9] at this
  have h3:n * n<=8 * 8:=Ot O.hi O.hi
  omega
 show fin (ij [.fz (aA n l),.fz (tupI r)] 0)=_
 unfold ij
 have ec:aX 2 [1] (.two 0 1) (bN (f2 (gv 0) (cst (.int 1)) cG)) (cK (f2 (pz (gv 2) (gv 0)) (pz (gv 2) (gv 1)) DW)) (cst (.int 1)) (vl [.fz (aA n l),.fz (tupI r)]) 0=.ok (.list ((l.filter λp=>decide (r.idxOf p.1 > r.idxOf p.2)).map λ_=>int 1)) 0:=by
  refine gY (l:=l) (e:=aK) (λp=>decide (r.idxOf p.1 > r.idxOf p.2)) (λ_=>int 1) rfl hz λp hp'=>⟨[.da (.int p.1),.da (.int p.2),.da (tupI r)],rfl,?_,λ_=>rfl⟩
  refine cB _ _ _ _ (aG (ph rfl rfl (hp.mem_iff.mpr (bu.mpr (O.wn p hp').1))) (ph rfl rfl (hp.mem_iff.mpr (bu.mpr (O.wn p hp').2))) ?_)
  show some (PyData.bool (decide (((r.idxOf p.1:Nat):Int) > ((r.idxOf p.2:Nat):Int))))=_
  congr 2
  rw[NY,Nx,Nx]
  omega
 generalize hL:(l.filter λp=>decide (r.idxOf p.1 > r.idxOf p.2))=L at ec
 have e9:(L.map λ_=>int 1)=(L.map λ_=>(1:Int)).map int:=by rw[PH];rfl
 rw[jB,aG (x:=.list (L.map λ_=>int 1)) (y:=.list []) (d:=.bool L.isEmpty) (β1:=0) (β2:=0) ec (lp (ds:=[]) an) (by
  rw[e9,show ([]:List D)=([]:List Int).map int from rfl,gW]
  congr 2
  cases L <;> simp)]
 have:L.isEmpty=Fp l r:=by
  rw[<-hL,NY,List.isEmpty_iff,List.filter_eq_nil_iff]
  unfold Fp
  rw[NH]
  constructor
  ·intro h p hp'
   have h1:=h p hp'
   rw[Nx] at h1 ⊢
   have hne:r.idxOf p.1≠r.idxOf p.2:=λe=>by
    have l1:=Oz.mpr (hp.mem_iff.mpr (bu.mpr (O.wn p hp').1))
    have l2:=Oz.mpr (hp.mem_iff.mpr (bu.mpr (O.wn p hp').2))
    have e1:r[r.idxOf p.1]? =some p.1:=by rw[M1 l1,PZ l1]
    have e2:r[r.idxOf p.2]? =some p.2:=by rw[M1 l2,PZ l2]
    rw[e] at e1
    have:p.1=p.2:=Option.some.inj (e1.symm.trans e2)
    exact O.irr p.1 (by have h9:(p.1,p.2)∈l:=hp';rw[<-this] at h9;exact h9)
   omega
  ·intro h p hp'
   have h1:=Ou (h p hp')
   rw[Nx];omega
 rw[this];rfl
def It (d:D):Prop:=bM d=false/\Sq 400 8 d/\Bf d
def Th (d:D):Prop:=Ge d/\Sq 10000 9 d/\Bf d
def Ap (P:D->Prop)(k:Nat)(es:List D):Prop:=es.length<=k/\∀x,x∈es->P x
abbrev Al:Nat->List D->Prop:=Ap It
def DU.it {d:D}(h:DU d):It d:=⟨h.scr,h.sq.mono (by omega) (by omega),h.bf⟩
def Ha {i:Int}(h: -1<=i/\i<=9):It (.int i):=(za h).it
def EL {k:Nat}{r:List Int}(hl:r.length<=k)(h:∀x,x∈r->0<=x/\x < 9):Al k (r.map int):=⟨by rw[Na];exact hl,λx hx=>by
 obtain⟨y,hy,rfl⟩:=Nh.mp hx
 exact Ha (by have:=h y hy;omega)⟩
def Ap.tup {k:Nat}{a:List D}(h:Al k a)(hk:k<=24):Th (.tuple a):=by
 have:=h.1
 refine⟨Jb (by omega) λx hx=>(h.2 x hx).1,(BP (c:=400) (k:=8) λd hd=>(h.2 d hd).2.1).mono ?_ (by omega),BS λd hd=>(h.2 d hd).2.2⟩
 have:(400 + 2) * a.length<=402 * 24:=Ot (by omega) (by omega)
 omega
def Ap.lst {k:Nat}{a:List D}(h:Al k a)(hk:k<=24):Th (.list a):=by
 have:=h.1
 refine⟨⟨rfl,λes' e=>by cases e⟩,(Hi (c:=400) (k:=8) λd hd=>(h.2 d hd).2.1).mono ?_ (by omega),He λd hd=>(h.2 d hd).2.2⟩
 have:(400 + 2) * a.length<=402 * 24:=Ot (by omega) (by omega)
 omega
def IV {r:List Int}(hl:r.length<=9)(h:∀x,x∈r->0<=x/\x < 9):It (tupI r):=by
 have sm:∀d,d∈r.map int->DU d:=λd hd=>by
  obtain⟨y,hy,rfl⟩:=Nh.mp hd
  exact za (by have:=h y hy;omega)
 refine⟨rfl,(BP (c:=20) (k:=0) λd hd=>(sm d hd).sq).mono ?_ (by omega),BS λd hd=>(sm d hd).bf⟩
 rw[Na]
 have:(20 + 2) * r.length<=22 * 9:=Ot (by omega) hl
 omega
def JB {n:Nat}{r:List Int}(h8:n<=8)(hp:r.Perm (fE n)):r.length=n/\∀x,x∈r->0<=x/\x < 9:=⟨by rw[hp.length_eq,df],λx hx=>by have:=bu.mp (hp.mem_iff.mp hx);omega⟩
def DR {ds:List D}{k:Nat}(h:k < ds.length):∃d,ds[k]? =some d/\d∈ds/\kg ds (k:Int)=some d:=⟨ds[k],M1 h,Oh h,jO (M1 h)⟩
def vN {fa fb:VF D}{vs:List Nv}{β β1 β2:Int}{a b:List D}(h1:fa vs β=.ok (.list a) β1)(h2:fb vs β1=.ok (.list b) β2)(hz:a.length + b.length<=1000):f2 fa fb dH vs β=.ok (.list (a ++ b)) β2:=aG h1 h2 (kU (by omega))
section
variable {m m' m1 m2:SF}{env env1:En}{β β1 β2 z:Int}{Q:SO->Prop}{f fa fb:VF D}{t:VF Bool}{d e:D}{L La Lb:List Nat}{i j:Nat}{c:Bool}
theorem Ij (J:En->Int->Prop)(h:∃c β1,t (vl env) β=.ok c β1/\(c=true->WP (m1 (aS L env) β1) λs=>∃env2 β2,s=.nx env2 β2/\J env2 β2)/\(c=false->WP (m2 (aS L env) β1) λs=>∃env2 β2,s=.nx env2 β2/\J env2 β2))(k:∀env β,J env β->WP (m' env β) Q):WP (aI (j6 L t m1 m2) m' env β) Q:=by
 obtain⟨c,β1,e,h1,h2⟩:=h
 cases c with
 |true=>obtain⟨env2,β2,e2,hj⟩:=(h1 rfl).out;exact wp_seq ((lr e).trans e2) (k _ _ hj)
 |false=>obtain⟨env2,β2,e2,hj⟩:=(h2 rfl).out;exact wp_seq ((kz e).trans e2) (k _ _ hj)
end
def Ig (d:D):Prop:=Ge d/\Sq 400 8 d/\Bf d
def HN {r:List Int}(hl:r.length<=9)(h:∀x,x∈r->0<=x/\x < 9):Ig (tupI r):=⟨(EL (k:=9) hl h).tup (by omega) |>.1,(IV hl h).2⟩
def Jl (l:List Pr)(ns:List Int)(t:Int):Bool:= !(ns.any λa=>kO l (a,t))
def KY:List D->FR:=bg 3 3 (tw Lj)
def Fm {fa:VF D}{vs:List Nv}{β:Int}{l:List Int}{f:Int->Bool}(h:fa vs β=.ok (.list (l.map λq=>PyData.bool (f q))) β):f1 fa (cA λbs=>bs.any id) vs β=.ok (.bool (l.any f)) β:=b7 h (by simp only[cA];rw[gL];simp[List.any_map])
def LA {n:Nat}{l:List Pr}{ns:List Int}{t:Int}(hz:ns.length<=1000):KY [aA n l,.list (ns.map int),.int t]=.ok (.bool (Jl l ns t)) false:=by
 show fin (tw Lj [.fz (aA n l),.fz (.list (ns.map int)),.fz (.int t)] 0)=_
 unfold tw
 have ec:aX 1 [0,2] (.nm 0) (bN (gv 1)) sk (aw Lj (aa (gv 1) (aa (gv 0) (aa (gv 2) af)))) (vl [.fz (aA n l),.fz (.list (ns.map int)),.fz (.int t)]) 0=.ok (.list (ns.map λa=>PyData.bool (kO l (a,t)))) 0:=
  je (l:=ns) (e:=int) (λa=>PyData.bool (kO l (a,t))) rfl hz λa _=>⟨_,rfl,aH (ds:=[aA n l,.int a,.int t]) rfl (Kk n l a t)⟩
 rw[jB,b7 (Fm ec) (show wM (.bool _)=some (.bool (!_)) from rfl)];rfl
def DD (n:Nat)(l:List Pr)(ns:List Int):Bool:= !ns.isEmpty && (decide (ns=sI ns) && ns.all (Jl l ns))
def rW (n:Nat)(l:List Pr)(d:D):Bool:=match d with
 | .list ds=>ds.all (λe=>jJ e n) && (match hG ds with
  |some ns=>DD n l ns
  |none=>false)
 |_=>false
def Gc (d:D):Prop:=bM d=false/\∀ds,d=.list ds->ds.length<=100/\∀e,e∈ds->bM e=false
theorem l0 {n:Nat}:∀{ds:List D},ds.all (λe=>jJ e n)=true->∃ns:List Int,ds=ns.map int/\∀k,k∈ns->0<=k/\k < (n:Int)
 | [],_=>⟨[],rfl,λk h=>by cases h⟩
 |d :: ds,h=>by
  rw[all_cons,Ni] at h
  obtain⟨ns,rfl,hn⟩:=l0 h.2
  have h1:=h.1
  cases d with
  |int i=>
   refine⟨i :: ns,rfl,λk hk=>?_⟩
   rcases M6.mp hk with rfl |hk
   ·exact Ou h1
   ·exact hn k hk
  |_=>cases h1
def HB {ns:List Int}(h:∀k,k∈ns->0<=k/\k < 8):gO (.list (ns.map int))=some (.list ((sI ns).map int)):=by
 unfold gO
 simp only[ig,cz]
 rw[M7]
 rw[NH]
 intro k hk
 unfold L4
 rw[Nc (h k hk).1,Nc (h k hk).2];rfl
noncomputable def Jn:List D->FR:=bg 2 2 (jG fU KY)
theorem Kw {n:Nat}{l:List Pr}{d:D}(h8:n<=8)(h:Gc d):Jn [d,aA n l]=.ok (.bool (rW n l d)) false:=by
 show fin (jG fU KY [.fz d,.fz (aA n l)] 0)=_
 refine p8 ?_
 unfold jG
 have e1:=J5 (fa:=gv 0) (vs:=vl [.fz d,.fz (aA n l)]) (β:=0) rfl h.1
 cases q:Cw d with
 |false=>
  rw[q] at e1
  refine l8 (yT (cH (fM e1))) (pf rfl ?_)
  cases d <;> first |rfl |cases q
 |true=>
  rw[q] at e1
  obtain⟨ds,rfl⟩:=Ek q
  obtain⟨hl,hs⟩:=h.2 ds rfl
  have t2:cK (f2 (f1 (gv 0) cZ) (cst (.int 0)) (cF false)) (vl [.fz (.list ds),.fz (aA n l)]) 0=.ok (decide ((ds.length:Int)=0)) 0:=kX (neg:=false) (tJ rfl) rfl
  by_cases z:ds= []
  ·subst z
   exact l8 (jS (cH (fM e1)) t2) (pf rfl rfl)
  ·rw[Nj (by have:=List.length_pos_iff.mpr z;omega)] at t2
   refine mS (jS (cH (fM e1)) t2) (wp_at [.fz (.list ds),.fz (aA n l)] rfl ?_)
   have ec:aX 1 [1] (.nm 0) (bN (gv 0)) sk (aw fU (aa (gv 0) (aa (f2 (gv 1) (cst (.int 0)) cG) af))) (vl [.fz (.list ds),.fz (aA n l)]) 0=.ok (.list (ds.map λe=>PyData.bool (jJ e n))) 0:=
    sr (λe=>PyData.bool (jJ e n)) rfl (by omega) λe he=>⟨_,rfl,aH (ds:=[e,.int n]) (ac rfl (ac (Gs (n:=n) (l:=l) rfl) an)) (zC (hs e he))⟩
   have ea:=zk ec
   cases b:ds.all (λe=>jJ e n) with
   |false=>
    rw[b] at ea
    refine l8 (yT (cH (fM ea))) (pf rfl ?_)
    unfold rW
    dsimp only
    rw[b];rfl
   |true=>
    rw[b] at ea
    obtain⟨ns,rfl,hn⟩:=l0 b
    have t3:cK (f2 (gv 0) (f1 (gv 0) gO) (cF true)) (vl [.fz (.list (ns.map int)),.fz (aA n l)]) 0=.ok (!decide (ns=sI ns)) 0:=cB _ _ _ _ (aG rfl (b7 rfl (HB λk hk=>by have:=hn k hk;omega)) (gW true ns (sI ns)))
    have ne:ns.isEmpty=false:=by
     cases ns with
     |nil=>exact absurd rfl z
     |cons _ _=>rfl
    have eB:rW n l (.list (ns.map int))=DD n l ns:=by
     unfold rW
     dsimp only
     rw[b,cz];rfl
    rw[eB]
    unfold DD
    rw[ne]
    by_cases s:ns=sI ns
    ·rw[Nc s] at t3
     refine mS (jS (cH (fM ea)) t3) (wp_at [.fz (.list (ns.map int)),.fz (aA n l)] rfl ?_)
     rw[Na] at hl
     have ef:aX 1 [1,0] (.nm 0) (bN (gv 0)) sk (aw KY (aa (gv 1) (aa (gv 2) (aa (gv 0) af)))) (vl [.fz (.list (ns.map int)),.fz (aA n l)]) 0=.ok (.list (ns.map λt=>PyData.bool (Jl l ns t))) 0:=
      je (l:=ns) (e:=int) (λt=>PyData.bool (Jl l ns t)) rfl (by omega) λt _=>⟨_,rfl,aH (ds:=[aA n l,.list (ns.map int),.int t]) rfl (LA (by omega))⟩
     refine uc (Gk ef) ?_
     rw[Nc s];rfl
    ·rw[Nj s] at t3
     refine l8 (jS (cH (fM ea)) t3) (pf rfl ?_)
     rw[Nj s];rfl
def Kx {q t:List Int}{a:Int}(h:a∈q):(q ++ t).idxOf a=q.idxOf a:=by rw[O8,M7 h]
def BA {q t:List Int}{a:Int}(h:a∉q):(q ++ t).idxOf a=t.idxOf a + q.length:=by rw[O8,Nd h]
theorem under {n:Nat}{l:List Pr}{r q:List Int}(O:OM.Ord n l)(R:Row n l r):∀(k:Nat) (y:Int),r.idxOf y<=k->(0<=y/\y < n)->y∉q->∃z:Int,(0<=z/\z < n)/\dD l q z=true/\(z=y\/(z,y)∈l):=by
 intro k
 induction k with
 |zero=>
  intro y hk hy hq
  refine⟨y,hy,?_,.inl rfl⟩
  unfold dD
  rw[Nj hq,Nc (List.eq_nil_iff_forall_not_mem.mpr λp hp=>?_)];rfl
  have:=Ou (NH.mp R.2 _ (fI.mp hp).1)
  dsimp only at this
  omega
 |succ k ih=>
  intro y hk hy hq
  by_cases e:zK l q y= []
  ·refine⟨y,hy,?_,.inl rfl⟩
   unfold dD
   rw[Nj hq,Nc e];rfl
  ·obtain⟨p,hp⟩:=List.exists_mem_of_ne_nil _ e
   obtain⟨h1,h2⟩:=fI.mp hp
   have lt:=Ou (NH.mp R.2 _ h1)
   dsimp only at lt
   obtain⟨z,hz,hf,hzp⟩:=ih p (by omega) (O.wn _ h1).1 h2
   refine⟨z,hz,hf,.inr ?_⟩
   rcases hzp with rfl |hzp
   ·exact h1
   ·exact O.tr _ _ _ hzp h1
def Gb {n:Nat}{l:List Pr}{cs r:List Int}(O:OM.Ord n l)(R:Row n l r)(L:D1 n l cs r)(hc:∀a b,a∈cs->b∈cs->kO l (a,b)=false){x y:Int}(hx:x∈cs)(hxn:0<=x/\x < n)(hy:0<=y/\y < (n:Int))(ha:kO l (x,y)=true):r.idxOf y < r.idxOf x:=by
 have nd:r.Nodup:=R.1.nodup_iff.mpr (kS n)
 have mx:x∈r:=R.1.mem_iff.mpr (bu.mpr hxn)
 have my:y∈r:=R.1.mem_iff.mpr (bu.mpr hy)
 unfold kO at ha
 simp only[Ni,Od,OS] at ha
 obtain⟨hne,h1,h2⟩:=ha
 rcases N7 (r.idxOf y) (r.idxOf x) with c |c
 ·exact c
 exfalso
 obtain⟨q,t,e⟩:=List.append_of_mem mx
 have hxq:x∉q:=λz=>by
  rw[e] at nd
  have:=(Pz.mp nd).2.2 x z x (Nb ..)
  exact this rfl
 have hyq:y∉q:=λz=>by
  have i1:r.idxOf y < q.length:=by rw[e,Kx z];exact Oz.mpr z
  have i2:r.idxOf x=q.length:=by rw[e,BA hxq];simp
  omega
 have pre:(q ++ [x]) <+:r:=⟨t,by rw[e];simp⟩
 obtain⟨z,hz,hf,hzy⟩:=under O R (r.idxOf y) y (M9 _) hy hyq
 have zc:=L.late q x pre hx z hz hf
 have fx:∀p,(p,x)∈l->p∈q:=λp hp=>by
  have lt:=Ou (NH.mp R.2 _ hp)
  dsimp only at lt
  have mp:p∈r:=R.1.mem_iff.mpr (bu.mpr (O.wn _ hp).1)
  rw[e] at mp
  rcases Nw.mp mp with z |z
  ·exact z
  ·exfalso
   have i2:r.idxOf x=q.length:=by rw[e,BA hxq];simp
   by_cases pq:p∈q
   ·rcases M6.mp z with z |z
    ·rw[z] at pq;exact hxq pq
    ·rw[e] at nd
     exact (Pz.mp nd).2.2 p pq p (M8 _ z) rfl
   ·have:q.length<=r.idxOf p:=by rw[e,BA pq];omega
    omega
 unfold dD at hf
 rw[Ni,Od,OS,Nx] at hf
 have key:z=x:=by
  have:=hc z x zc hx
  unfold kO at this
  simp only[Bool.and_eq_false_iff,Bool.not_eq_false',Nx] at this
  rcases this with h |h |h
  ·exact h
  ·exact absurd (fx z h) hf.1
  ·exact absurd hf.2 λen=>by
    have:x∈zK l q z:=fI.mpr ⟨h,hxq⟩
    rw[en] at this;cases this
 rcases hzy with h |h
 ·exact hne (by rw[<-key,h])
 ·rw[key] at h;exact h1 h
noncomputable def ID:List D->FR:=bg 2 2 (dt oA Jn K8 Ln)
def Ci {n:Nat}{l:List Pr}{ns:List Int}(h:rW n l (.list (ns.map int))=true):(∀k,k∈ns->0<=k/\k < (n:Int))/\DD n l ns=true:=by
 unfold rW at h
 dsimp only at h
 rw[cz,Ni] at h
 obtain⟨ms,e,hm⟩:=l0 h.1
 have e:ns=ms:=List.map_inj_right (f:=int) (λa b h=>int.inj h) |>.mp e
 subst e
 exact⟨hm,h.2⟩
def Cp {n:Nat}{l:List Pr}{ns:List Int}(h:DD n l ns=true){a b:Int}(ha:a∈ns)(hb:b∈ns):kO l (a,b)=false:=by
 unfold DD at h
 rw[Ni,Ni] at h
 have:=NH.mp h.2.2 b hb
 unfold Jl at this
 rw[Od,P4] at this
 simpa using this a ha
def JJ {n:Nat}{l:List Pr}{ns:List Int}(O:OM.Ord n l)(hz:ns.length<=100)(h:rW n l (.list (ns.map int))=true):∃r,ID [aA n l,.list (ns.map int)]=.ok (tupI r) false/\Row n l r/\D1 n l ns r:=by
 obtain⟨r,e,R,L⟩:=LX (late:=ns) O hz
 refine⟨r,?_,R,L⟩
 show fin (dt oA Jn K8 Ln [.fz (aA n l),.fz (.list (ns.map int))] 0)=_
 refine p8 ?_
 unfold dt
 refine zH (aH (ds:=[aA n l]) (ac rfl an) (x6 O)) (wp_at [.fz (aA n l),.fz (.list (ns.map int))] rfl ?_)
 have gc:Gc (.list (ns.map int)):=⟨rfl,λds e=>by
  cases e
  exact⟨by rw[Na];exact hz,λe he=>by obtain⟨k,_,rfl⟩:=Nh.mp he;rfl⟩⟩
 have t:j4 (aw Jn (aa (gv 1) (aa (gv 0) af))) (vl [.fz (aA n l),.fz (.list (ns.map int))]) 0=.ok true 0:=fM (by rw[<-h];exact aH (ds:=[.list (ns.map int),aA n l]) rfl (Kw O.hi gc))
 refine mS (cH t) (wp_at [.fz (aA n l),.fz (.list (ns.map int))] rfl ?_)
 exact uc (aH (ds:=[fW n (dX l),.list (ns.map int)]) (ac (aH (ds:=[aA n l]) rfl (Mb O)) (ac rfl an)) e) rfl
def wp_raise {m':SF}{env:En}{β:Int}{Q:SO->Prop}{x c:Str}(q:Q (.exc c)):WP (aI (λenv β=>toS ((aa (cst (.str x)) af) (vl env) β) λds _=>if ds.length<=sizeLine then SO.exc c else .bad) m' env β) Q:=by
 refine⟨?_⟩
 have e:(λ(env:En) (β:Int)=>toS ((aa (cst (.str x)) af) (vl env) β) λds _=>if ds.length<=sizeLine then SO.exc c else .bad) env β=.exc c:=by
  show (if ([PyData.str x]:List D).length<=sizeLine then SO.exc c else .bad)=_
  exact M7 (by show 1<=sizeLine;rw[NA];omega)
 unfold aI
 rw[e];exact q
def JH {n:Nat}{l:List Pr}{d:D}(O:OM.Ord n l)(gc:Gc d)(h:rW n l d=false):ID [aA n l,d]=.exc "NoChain":=by
 show fin (dt oA Jn K8 Ln [.fz (aA n l),.fz d] 0)=_
 refine p8 ?_
 unfold dt
 refine zH (aH (ds:=[aA n l]) (ac rfl an) (x6 O)) (wp_at [.fz (aA n l),.fz d] rfl ?_)
 have t:j4 (aw Jn (aa (gv 1) (aa (gv 0) af))) (vl [.fz (aA n l),.fz d]) 0=.ok false 0:=fM (by rw[<-h];exact aH (ds:=[d,aA n l]) rfl (Kw O.hi gc))
 exact l8 (cH t) (wp_raise rfl)
def Dm:List (Str×Nat):=[("NoChain",8)]
noncomputable def oq:List D->FR:=bg 3 2 (ou (AO Dm) ID)
def IZ {n:Nat}{l:List Pr}{d x:D}(h:ID [aA n l,d]=.ok x false):oq [aA n l,d]=.ok x false:=by
 show fin (vn (AO Dm) (bE (aw ID (aa (gv 0) (aa (gv 1) af)))) [.fz (aA n l),.fz d,.no] 0)=_
 unfold vn
 rw[M7 (show kf [.fz (aA n l),.fz d,.no]=true from rfl),jB,aH (ds:=[aA n l,d]) rfl h];rfl
def rQ {F:List D->FR}{fr:VF (List D)}{vs:List Nv}{β β1:Int}{ds:List D}{c:Str}(h:fr vs β=.ok ds β1)(e:F ds=.exc c):aw F fr vs β=.exc c:=by unfold aw;rw[h];dsimp only[R.bnd];rw[e]
def Jg {n:Nat}{l:List Pr}{d:D}(h:ID [aA n l,d]=.exc "NoChain"):oq [aA n l,d]=.ok (.str "chain") false:=by
 show fin (vn (AO Dm) (bE (aw ID (aa (gv 0) (aa (gv 1) af)))) [.fz (aA n l),.fz d,.no] 0)=_
 unfold vn
 rw[M7 (show kf [.fz (aA n l),.fz d,.no]=true from rfl),jB,rQ (ds:=[aA n l,d]) (β1:=0) rfl h]
 rfl
def Ie (l:List Pr)(a b:Int):kO l (a,b)=kO l (b,a):=by
 unfold kO
 rw[NY]
 simp only[Ni,Od,OS]
 exact⟨λ⟨h1,h2,h3⟩=>⟨λe=>h1 e.symm,h3,h2⟩,λ⟨h1,h2,h3⟩=>⟨λe=>h1 e.symm,h3,h2⟩⟩
def Dd (l:List Pr)(a:Int):kO l (a,a)=false:=by unfold kO;simp
def KQ {xs:List Int}(h:xs.Nodup):(sortI xs).Pairwise (· < ·):=by
 have nd:(sortI xs).Pairwise (· ≠ ·):=(sortI_perm xs).nodup_iff.mpr h
 exact ((u9 xs).and nd).imp λ⟨h1,h2⟩=>by omega
def EK {cs:List Int}(hin:∀k,k∈cs->0<=k/\k < 8)(h:cs.Pairwise (· < ·)):cs=sI cs:=by
 have nd:cs.Nodup:=h.imp λh e=>by omega
 rw[<-yK (ns:=cs) hin nd λk=>Iff.rfl]
 exact eO (List.Perm.refl _) (h.imp λh=>Int.le_of_lt h)
def Js {n:Nat}{l:List Pr}{cs:List Int}(h8:n<=8)(ne:cs≠ [])(hin:∀k,k∈cs->0<=k/\k < (n:Int))(h:cs.Pairwise (· < ·))(ha:∀a b,a∈cs->b∈cs->kO l (a,b)=false):rW n l (.list (cs.map int))=true:=by
 unfold rW
 dsimp only
 rw[cz,Ni,NH]
 refine⟨λe he=>?_,?_⟩
 ·obtain⟨k,hk,rfl⟩:=Nh.mp he
  exact Nc (hin k hk)
 ·show DD n l cs=true
  unfold DD
  rw[Ni,Ni,decide_eq_true_iff,NH]
  refine⟨by cases cs with |nil=>exact absurd rfl ne |cons _ _=>rfl,EK (λk hk=>by have:=hin k hk;omega) h,λt ht=>?_⟩
  unfold Jl
  rw[Od,P4]
  intro a ha'
  rw[ha a t ha' ht];decide
def CC {ns:List Int}(h:ns.length < 64):iN (.list (ns.map int))=some (.list ((sortI ns).map int)):=by
 unfold iN
 simp only[ig,cz]
 rw[M7 h]
noncomputable def HP:List D->Int->FB:=oP 4 1 (gz lH kK bX)
abbrev xJ (n:Nat)(l:List Pr)(s2 s3:Sl):En:=[.bx,.fz (aA n l),s2,s3]
def Km {n:Nat}{l:List Pr}(O:OM.Ord n l)(β:Int):∃(cs:List Int) (β':Int),HP [aA n l] β=.ok (.list (cs.map int)) true β'/\rW n l (.list (cs.map int))=true/\cs.length<=9:=by
 show ∃(cs:List Int) (β':Int),x8 (gz lH kK bX (xJ n l .no .no) β)=.ok (.list (cs.map int)) true β'/\rW n l (.list (cs.map int))=true/\cs.length<=9
 refine WP.out (Q:=λr=>∃(cs:List Int) (β':Int),x8 r=.ok (.list (cs.map int)) true β'/\rW n l (.list (cs.map int))=true/\cs.length<=9) ?_
 unfold gz
 have h8:=O.hi
 have h1:=O.lo
 refine zg (d:=.list []) (β1:=β) (lp an) (wp_at (xJ n l (.ow (.list [])) .no) rfl ?_)
 obtain⟨ms,β1,em,pm⟩:=yX (fE n) (by rw[df];omega) β
 have ndm:ms.Nodup:=pm.nodup_iff.mpr (kS n)
 have hml:ms.length=n:=by rw[pm.length_eq,df]
 have ei:bN (jK 0 kK (aa (f1 (f2 (gv 1) (cst (.int 0)) cG) cY) af)) (vl (xJ n l (.ow (.list [])) .no)) β=.ok (ms.map int) β1:=by
  unfold bN
  rw[fT (ds:=[.list ((fE n).map int)]) (by rfl) (ac (b7 (Gs (n:=n) (l:=l) rfl) (j9 (by omega))) an) em];rfl
 refine nO (ds:=ms.map int) (β1:=β1) (λi env b=>∃fs s3,env=xJ n l (.ow (.list (fs.map int))) s3/\(∀a,a∈fs->a∈ms.take i)/\fs.Nodup/\fs.length<=i/\∀a b,a∈fs->b∈fs->kO l (a,b)=false) ei ⟨[],_,rfl,(λa h=>by cases h),PD,M9 _,λa b h=>by cases h⟩ ?_ ?_
 ·intro i d env b hd ⟨fs,s3,he,hsub,nd,hl,hap⟩
  subst he
  rw[Ng] at hd
  obtain⟨t,ht,rfl⟩:=Pw.mp hd
  have hi:=(Np.mp ht).1
  refine⟨xJ n l (.ow (.list (fs.map int))) (.fz (.int t)),rfl,?_⟩
  have ec:aX 1 [1,3] (.nm 0) (bN (gv 2)) (j4 (aw lH (aa (gv 1) (aa (gv 0) (aa (gv 2) af))))) (gv 0) (vl (xJ n l (.ow (.list (fs.map int))) (.fz (.int t)))) b=.ok (.list ((fs.filter λa=>kO l (a,t)).map int)) b:=
   gY (l:=fs) (e:=int) (λa=>kO l (a,t)) int rfl (by omega) λa _=>⟨_,rfl,fM (aH (ds:=[aA n l,.int a,.int t]) rfl (DA n l a t)),λ_=>rfl⟩
  have t1:cK (f2 (aX 1 [1,3] (.nm 0) (bN (gv 2)) (j4 (aw lH (aa (gv 1) (aa (gv 0) (aa (gv 2) af))))) (gv 0)) (aY af) (cF false)) (vl (xJ n l (.ow (.list (fs.map int))) (.fz (.int t)))) b=.ok (decide (fs.filter (λa=>kO l (a,t))= [])) b:=cB _ _ _ _ (aG ec (lp (ds:=([]:List Int).map int) an) (gW false _ []))
  have tk:∀a,a∈ms.take i->a∈ms.take (i + 1):=λa h=>by rw[Oc];exact Of _ h
  by_cases hf:fs.filter (λa=>kO l (a,t))= []
  ·rw[Nc hf] at t1
   obtain⟨a4,ha4,ea4⟩:=i6 (m:=4) (by omega) (by omega) b
   have t2:cK (f2 (jK 0 bX (aa (cst (.int 4)) af)) (cst (.int 0)) DW) (vl (xJ n l (.ow (.list (fs.map int))) (.fz (.int t)))) b=.ok (decide ((a4:Int) > 0)) (b / ((4:Nat):Int)):=cB _ _ _ _ (aG (fT (ds:=[.int 4]) (by rfl) rfl ea4) rfl rfl)
   have tt:DC (cK (f2 (aX 1 [1,3] (.nm 0) (bN (gv 2)) (j4 (aw lH (aa (gv 1) (aa (gv 0) (aa (gv 2) af))))) (gv 0)) (aY af) (cF false))) (cK (f2 (jK 0 bX (aa (cst (.int 4)) af)) (cst (.int 0)) DW)) (vl (xJ n l (.ow (.list (fs.map int))) (.fz (.int t)))) b=.ok (decide ((a4:Int) > 0)) (b / ((4:Nat):Int)):=by rw[lJ,t1];exact t2
   cases c:decide ((a4:Int) > 0) with
   |false=>
    rw[c] at tt
    exact yo tt (jW ⟨_,_,rfl,fs,_,rfl,λa h=>tk a (hsub a h),nd,by omega,hap⟩)
   |true=>
    rw[c] at tt
    have hno:∀a,a∈fs->kO l (a,t)=false:=λa ha=>by
     have:=List.filter_eq_nil_iff.mp hf a ha
     simpa using this
    have tn:t∉fs:=λz=>by
     have:=hsub t z
     obtain⟨k,hk,e⟩:=List.getElem_of_mem this
     rw[List.getElem_take] at e
     have hk':k < i:=by rw[Oq] at hk;omega
     have:=mr ndm (show ms[k]? =some t by rw[M1 (by omega),e]) ht
     omega
    refine Mi tt (tu (B3 (ds:=fs.map int) rfl (show gv 3 (vl (xJ n l (.ow (.list (fs.map int))) (.fz (.int t)))) _=.ok (.int t) _ from rfl) rfl (by rw[Na];omega) (jW ⟨_,_,rfl,fs ++ [t],.fz (.int t),?_,?_,?_,?_,?_⟩)))
    ·show xJ n l (.ow (.list (fs.map int ++ [.int t]))) (.fz (.int t))=_
     rw[NU];rfl
    ·intro a ha
     rcases Nw.mp ha with ha |ha
     ·exact tk a (hsub a ha)
     ·rw[Nz] at ha
      subst ha
      rw[Oc,ht];exact NJ _ (by simp)
    ·exact Pz.mpr ⟨nd,by simp,λa ha b hb e=>by rw[Nz] at hb;subst hb;subst e;exact tn ha⟩
    ·rw[NK];simp;omega
    ·intro a b ha hb
     rcases Nw.mp ha with ha' |ha'
     ·rcases Nw.mp hb with hb' |hb'
      ·exact hap a b ha' hb'
      ·rw[Nz] at hb';rw[hb'];exact hno a ha'
     ·rw[Nz] at ha'
      rw[ha']
      rcases Nw.mp hb with hb' |hb'
      ·rw[Ie];exact hno b hb'
      ·rw[Nz] at hb';rw[hb'];exact Dd l _
  ·rw[Nj hf] at t1
   exact yo (β1:=b) (by rw[lJ,t1];rfl) (jW ⟨_,_,rfl,fs,_,rfl,λa h=>tk a (hsub a h),nd,by omega,hap⟩)
 ·intro env b ⟨fs,s3,he,hsub,nd,hl,hap⟩
  subst he
  rw[Na,hml] at hl
  obtain⟨j,hj,ej⟩:=i6 (m:=n) h1 (by omega) b
  have hin:∀a,a∈fs->0<=a/\a < (n:Int):=λa ha=>bu.mp (pm.mem_iff.mp (OL (hsub a ha)))
  obtain⟨cs,hcs⟩:∃cs:List Int,cs=fs ++ (if fs= [] then [(j:Int)] else []):=⟨_,rfl⟩
  have e1:f2 (aY (aa (jK 0 bX (aa (f2 (gv 1) (cst (.int 0)) cG) af)) af)) (f1 (f2 (gv 2) (aY af) (cF false)) CB) v3 (vl (xJ n l (.ow (.list (fs.map int))) s3)) b=.ok (.list ((if fs= [] then [(j:Int)] else []).map int)) (b / (n:Int)):=by
   have a1:aY (aa (jK 0 bX (aa (f2 (gv 1) (cst (.int 0)) cG) af)) af) (vl (xJ n l (.ow (.list (fs.map int))) s3)) b=.ok (.list [.int j]) (b / (n:Int)):=by
    refine dJ ?_ (by simp)
    rw[cc,fT (ds:=[.int n]) (β1:=b) (by rfl) (ac (Gs (n:=n) (l:=l) rfl) an) ej];rfl
   have a2:f1 (f2 (gv 2) (aY af) (cF false)) CB (vl (xJ n l (.ow (.list (fs.map int))) s3)) (b / (n:Int))=.ok (.int (if fs= [] then 1 else 0)) (b / (n:Int)):=by
    refine b7 (aG (x:=.list (fs.map int)) rfl (lp (ds:=([]:List Int).map int) an) (gW false fs [])) ?_
    by_cases z:fs= []
    ·rw[M7 z,Nd Nq,Nc z];rfl
    ·rw[Nd z,Nd Nq,Nj z];rfl
   refine aG a1 a2 ?_
   by_cases z:fs= []
   ·rw[M7 z,M7 z];rfl
   ·rw[Nd z,Nd z];rfl
  have ll:cs.length<=9:=by rw[hcs,NK];split <;> simp <;> omega
  have e2:f2 (gv 2) (f2 (aY (aa (jK 0 bX (aa (f2 (gv 1) (cst (.int 0)) cG) af)) af)) (f1 (f2 (gv 2) (aY af) (cF false)) CB) v3) dH (vl (xJ n l (.ow (.list (fs.map int))) s3)) b=.ok (.list (cs.map int)) (b / (n:Int)):=by
   rw[hcs,NU]
   exact vN rfl e1 (by rw[Na,Na];split <;> simp <;> omega)
  refine Ed (b7 e2 (CC (by omega))) ⟨sortI cs,_,rfl,?_,by rw[(sortI_perm cs).length_eq];exact ll⟩
  have key:cs.Nodup/\cs≠ []/\(∀a,a∈cs->0<=a/\a < (n:Int))/\∀a b,a∈cs->b∈cs->kO l (a,b)=false:=by
   by_cases z:fs= []
   ·rw[hcs,M7 z,z]
    refine⟨by simp,by simp,λa ha=>?_,λa b ha hb=>?_⟩
    ·have:a=j:=by simpa using ha
     omega
    ·have e1:a=j:=by simpa using ha
     have e2:b=j:=by simpa using hb
     rw[e1,e2];exact Dd l _
   ·rw[hcs,Nd z,Pp]
    exact⟨nd,z,hin,hap⟩
  obtain⟨k1,k2,k3,k4⟩:=key
  have mm:∀a,a∈sortI cs↔a∈cs:=λa=>(sortI_perm cs).mem_iff
  exact Js h8 (λz=>k2 (by have:=(sortI_perm cs).symm;rw[z] at this;exact this.eq_nil)) (λa ha=>k3 a ((mm a).mp ha)) (KQ k1) λa b ha hb=>k4 a b ((mm a).mp ha) ((mm b).mp hb)
noncomputable def FW:List D->FR:=bg 5 3 (gC Ld K0 lH)
abbrev DV (n:Nat)(l:List Pr)(r cs:List Int)(s3 s4:Sl):En:=[.fz (tupI r),.fz (aA n l),.fz (.list (cs.map int)),s3,s4]
theorem KA {n:Nat}{l:List Pr}{r cs:List Int}(O:OM.Ord n l)(R:Row n l r)(L:D1 n l cs r)(hin:∀k,k∈cs->0<=k/\k < (n:Int))(hl:cs.length<=9)(hc:∀a b,a∈cs->b∈cs->kO l (a,b)=false):FW [tupI r,aA n l,.list (cs.map int)]=.ok (.bool true) false:=by
 show fin (gC Ld K0 lH (DV n l r cs .no .no) 0)=_
 refine p8 ?_
 unfold gC
 have h8:=O.hi
 have rb:=JB h8 R.1
 have ge:Ge (tupI r):=(HN (by omega) rb.2).1
 have t1:j4 (aw Ld (aa (gv 0) (aa (f2 (gv 1) (cst (.int 0)) cG) af))) (vl (DV n l r cs .no .no)) 0=.ok true 0:=fM (by rw[<-Di R.1];exact aH (ds:=[tupI r,.int n]) (ac rfl (ac (Gs (n:=n) (l:=l) rfl) an)) (KI h8 ge))
 have t2:j4 (aw K0 (aa (gv 1) (aa (gv 0) af))) (vl (DV n l r cs .no .no)) 0=.ok true 0:=fM (by rw[<-R.2];exact aH (ds:=[aA n l,tupI r]) rfl (Jx O R.1))
 refine mS (jS (cH t1) (cH t2)) (wp_at (DV n l r cs .no .no) rfl ?_)
 refine nO (ds:=cs.map int) (β1:=0) (λ_ env b=>b=0/\∃s3 s4,env=DV n l r cs s3 s4) rfl ⟨rfl,_,_,rfl⟩ ?_ λenv b ⟨hb,s3,s4,he⟩=>by subst hb he;exact uc rfl rfl
 intro i d env b hd ⟨hb,s3,s4,he⟩
 subst hb he
 rw[Ng] at hd
 obtain⟨x,hx,rfl⟩:=Pw.mp hd
 have mx:=Nm hx
 refine⟨DV n l r cs (.fz (.int x)) s4,rfl,tu ?_⟩
 refine nO (ds:=cC 0 n) (β1:=0) (λ_ env b=>b=0/\∃s4,env=DV n l r cs (.fz (.int x)) s4) (l7 (Gs (n:=n) (l:=l) rfl) (by omega)) ⟨rfl,_,rfl⟩ ?_ λenv b ⟨hb,s4,he⟩=>jW ⟨env,b,rfl,hb,_,_,he⟩
 intro i d env b hd ⟨hb,s4,he⟩
 subst hb he
 obtain⟨_,rfl⟩:=kx hd
 have hi:i < n:=by have:=(Np.mp hd).1;rwa [kY] at this
 rw[Pj]
 refine⟨DV n l r cs (.fz (.int x)) (.fz (.int i)),rfl,?_⟩
 have t3:j4 (aw lH (aa (gv 1) (aa (gv 3) (aa (gv 4) af)))) (vl (DV n l r cs (.fz (.int x)) (.fz (.int i)))) 0=.ok (kO l (x,(i:Int))) 0:=fM (aH (ds:=[aA n l,.int x,.int i]) rfl (DA n l x i))
 have iy:(i:Int)∈r:=R.1.mem_iff.mpr (bu.mpr ⟨by omega,by omega⟩)
 have ix:x∈r:=R.1.mem_iff.mpr (bu.mpr (hin x mx))
 have t4:cK (f2 (pz (gv 0) (gv 4)) (pz (gv 0) (gv 3)) DW) (vl (DV n l r cs (.fz (.int x)) (.fz (.int i)))) 0=.ok (decide (((r.idxOf (i:Int):Nat):Int) > (r.idxOf x:Nat))) 0:=cB _ _ _ _ (aG (ph (r:=r) (k:=i) rfl rfl iy) (ph (r:=r) (k:=x) rfl rfl ix) rfl)
 cases c:kO l (x,(i:Int)) with
 |false=>rw[c] at t3;exact yo (β1:=0) (by rw[lJ,t3];rfl) (jW ⟨_,_,rfl,rfl,_,rfl⟩)
 |true=>
  have lt:=Gb O R L hc mx (hin x mx) (y:=(i:Int)) ⟨by omega,by omega⟩ c
  rw[c] at t3
  rw[Nj (by omega)] at t4
  exact yo (β1:=0) (by rw[lJ,t3];exact t4) (jW ⟨_,_,rfl,rfl,_,rfl⟩)
def GB:D:=.tuple [.list [.int 0],.list [.int 1]]
def uE {d:D}(h:SeqAt.shaped d=true):∃b,rz d GB=some (.bool b):=by
 have e:uC true d GB=some (.bool (!([PyData.list [.int 0],.list [.int 1]].any λe=>PyData.eqv e d))):=by
  unfold uC GB
  simp only[ig]
  rw[M7 (by rw[h];decide +kernel)];rfl
 exact⟨_,by unfold rz;rw[e]⟩
def xl (n:Nat)(l:List Pr)(d:D):Prop:=Gc d/\(∃b,rz d GB=some (.bool b))/\(rW n l d=false\/rz d GB=some (.bool false))
def zr {ns:List Int}(h:ns.length<=100):Gc (.list (ns.map int)):=⟨rfl,λds e=>by
  cases e
  exact⟨by rw[Na];exact h,λe he=>by obtain⟨k,_,rfl⟩:=Nh.mp he;rfl⟩⟩
def kE {n:Nat}{l:List Pr}{ns:List Int}(h:ns.length<=100)(hc:rW n l (.list (ns.map int))=false):xl n l (.list (ns.map int)):=⟨zr h,uE (shaped_ints ns),.inl hc⟩
def xW {n:Nat}{l:List Pr}{d:D}(hs:SeqAt.shaped d=true)(hi:bM d=false)(hl:Cw d=false):xl n l d:=by
 refine⟨⟨hi,λds e=>by subst e;cases hl⟩,uE hs,.inl ?_⟩
 cases d <;> first |rfl |cases hl
def oz (ns:List Int):SeqAt.shaped (.tuple (ns.map int))=true:=by
 unfold SeqAt.shaped
 have h1:(PyData.tuple (ns.map int)).canLay0=true:=by simp only[PyData.canLay0];exact lay_ints ns
 have h2:(PyData.tuple (ns.map int)).depth<=64:=by simp only[PyData.depth];rw[pS];omega
 rw[h1,Nc h2];rfl
theorem vF {n:Nat}{l:List Pr}{ns:List Int}(h:¬((∀k,k∈ns->0<=k/\k < (n:Int))/\DD n l ns=true)):rW n l (.list (ns.map int))=false:=by
 cases e:rW n l (.list (ns.map int)) with
 |false=>rfl
 |true=>exact absurd (Ci e) h
def xH {n:Nat}{l:List Pr}{ns:List Int}(h:DD n l ns=true):ns=sI ns:=by
 unfold DD at h
 rw[Ni,Ni,decide_eq_true_iff] at h
 exact h.2.1
def Ko (o:D):Bool:=(match rz o GB with
 |some (.bool b)=>(!b || !Cw o || (match o with | .list ds=>ds.isEmpty |_=>true))
 |_=>false) && (match o with
 | .list ds=>decide (ds.length<=100) && ds.all λe=> !bM e
 |_=>true)
def II:∀o∈jZ,Ko o=true:=by decide +kernel
theorem FY {n:Nat}{l:List Pr}{o:D}(h:o∈jZ):xl n l o:=by
 have h1:=II o h
 unfold Ko at h1
 rw[Ni] at h1
 obtain⟨h1,h2⟩:=h1
 have hs:=(HG h).1.1
 have gc:Gc o:=⟨hs,λds e=>by
  subst e
  dsimp only at h2
  rw[Ni,NH] at h2
  exact⟨Ou h2.1,λe he=>by simpa using h2.2 e he⟩⟩
 cases q:rz o GB with
 |none=>rw[q] at h1;cases h1
 |some d=>
  rw[q] at h1
  cases d with
  |bool b=>
   refine⟨gc,⟨b,q⟩,?_⟩
   cases b with
   |false=>exact .inr q
   |true=>
    left
    cases o with
    |list ds=>
     cases ds with
     |nil=>rfl
     |cons _ _=>cases h1
    |_=>rfl
  |_=>cases h1
def Mm {n:Nat}{l:List Pr}{cs gs:List Int}{z:Int}(h1:1<=n)(hin:∀k,k∈cs->0<=k/\k < (n:Int))(hs:cs=sI cs)(hl:cs.length<=9)(he:cs=gs ++ [z]):∀d,d∈ [PyData.list [],.none,.tuple (cs.map int),.list (cs.map int ++ [.int n]),.list (.int (-1) :: cs.map int),.list (cs.map int ++ [.int z]),.list [.bool true],.list [.str "0"],.int (cs.getD 0 0)]->xl n l d:=by
 intro d hd
 simp only[M6,N9,Pg] at hd
 rcases hd with rfl |rfl |rfl |rfl |rfl |rfl |rfl |rfl |rfl
 ·exact kE (ns:=[]) (by simp) rfl
 ·exact xW rfl rfl rfl
 ·exact xW (oz cs) rfl rfl
 ·have:=kE (n:=n) (l:=l) (ns:=cs ++ [(n:Int)]) (by simp;omega) (vF λh=>by have:=h.1 n (by simp);omega)
  rw[NU] at this;exact this
 ·exact kE (n:=n) (l:=l) (ns:=-1 :: cs) (by simp;omega) (vF λh=>by have:=h.1 (-1) (by simp);omega)
 ·have:=kE (n:=n) (l:=l) (ns:=cs ++ [z]) (by simp;omega) (vF λh=>by
   have nd:=Gy (cs ++ [z])
   rw[<-xH h.2] at nd
   exact (Pz.mp nd).2.2 z (by rw[he];simp) z (by simp) rfl)
  rw[NU] at this;exact this
 ·exact⟨⟨rfl,λds e=>by cases e;exact⟨by simp,λe he=>by rw[Nz] at he;subst he;rfl⟩⟩,uE (by decide +kernel),.inl rfl⟩
 ·exact⟨⟨rfl,λds e=>by cases e;exact⟨by simp,λe he=>by rw[Nz] at he;subst he;rfl⟩⟩,uE (by decide +kernel),.inl rfl⟩
 ·exact xW rfl rfl rfl
def D4 {n:Nat}{l:List Pr}{cs:List Int}(hs:cs=sI cs)(hl:cs.length<=9)(h2:1 < cs.length):xl n l (.list (cs.map int).reverse):=by
 have:=kE (n:=n) (l:=l) (ns:=cs.reverse) (by simp;omega) (vF λh=>by
  have u1:=CY cs.reverse
  rw[<-xH h.2,List.pairwise_reverse] at u1
  have u2:=CY cs
  rw[<-hs] at u2
  match cs,h2,u1,u2 with
  |a :: b :: t,_,u1,u2=>
   have x1:=(Pq.mp u1).1 b (by simp)
   have x2:=(Pq.mp u2).1 b (by simp)
   omega)
 rw[List.map_reverse] at this;exact this
def D8 {fa fb:VF D}{vs:List Nv}{β:Int}{gs:List D}{z:D}(ha:fa vs β=.ok (.list (gs ++ [z])) β)(hb:fb vs β=.ok (.int (-1)) β):Fh fa (Gj fb) (λ_ β=>.ok none β) vs β=.ok (.list [z]) β:=by
 unfold Fh Gj
 rw[ha];dsimp only[R.bnd]
 rw[hb];dsimp only[R.bnd]
 congr 2
 unfold cutD
 rw[HT.uW]
 have:HT.ra (gs ++ [z]).length 0 (some (-1))=gs.length:=by
  show (if (-1:Int) < 0 then ((-1:Int) + ((gs ++ [z]).length:Int)).toNat else min (-1:Int).toNat (gs ++ [z]).length)=_
  rw[M7 (by omega),NK];simp;omega
 rw[this,List.drop_left]
 simp
def BH:cF true (.str "chain") (.str "chain")=some (.bool false):=by
 unfold cF
 rw[show (SeqAt.shaped (.str "chain") && SeqAt.shaped (.str "chain"))=true by decide +kernel];rfl
def BU (r:List Int):cF true (tupI r) (tupI r)=some (.bool false):=by
 unfold cF tupI
 rw[oz]
 simp only[PK,Ob,PyData.eqv,pE]
 simp
noncomputable def Ht:List D->FR:=bg 11 1 (yD Ih oq FW o8 tV HP B5)
abbrev qX (ns:List Int)(i n:Nat)(l:List Pr)(cs r:List Int)(s7 s8 s9 s10:Sl):En:=[.fz (cJ ns),.fz (.int i),.bx,.fz (aA n l),.fz (.list (cs.map int)),.fz (.list (cs.map int)),.fz (tupI r),s7,s8,s9,s10]
theorem Kj (ns:List Int):Ht [cJ ns]=.ok (.bool true) false:=by
 show fin (yD Ih oq FW o8 tV HP B5 [.fz (cJ ns),.no,.no,.no,.no,.no,.no,.no,.no,.no,.no] 0)=_
 refine p8 ?_
 obtain⟨m0,hm0,em⟩:=Bz 4 (by omega) ns (vl [.fz (cJ ns),.no,.no,.no,.no,.no,.no,.no,.no,.no,.no]) 0 rfl
 unfold yD
 refine nO (λ_ env _=>∃s1 s2 s3 s4 s5 s6 s7 s8 s9 s10,env= [.fz (cJ ns),s1,s2,s3,s4,s5,s6,s7,s8,s9,s10]) em ⟨_,_,_,_,_,_,_,_,_,_,rfl⟩ ?_ λenv β ⟨s1,s2,s3,s4,s5,s6,s7,s8,s9,s10,e⟩=>uc (d:=.bool true) rfl rfl
 rintro i d env β hi ⟨s1,s2,s3,s4,s5,s6,s7,s8,s9,s10,rfl⟩
 obtain⟨_,rfl⟩:=kx hi
 rw[Pj]
 refine⟨[.fz (cJ ns),.fz (.int i),s2,s3,s4,s5,s6,s7,s8,s9,s10],rfl,?_⟩
 obtain⟨z,ez⟩:=KJ ns i
 obtain⟨t3,t4,t5,t6,t7,t8,t9,t10,hcl⟩:∃t3 t4 t5 t6 t7 t8 t9 t10:Sl,(rm (aS ([0] ++ ([1] ++ [])) [.fz (cJ ns),.fz (.int i),s2,s3,s4,s5,s6,s7,s8,s9,s10])).set 2 .bx= [.fz (cJ ns),.fz (.int i),.bx,t3,t4,t5,t6,t7,t8,t9,t10]:=⟨_,_,_,_,_,_,_,_,rfl⟩
 refine Fs (CW (ds:=[cJ ns,.int i]) rfl ez) (wp_at _ hcl ?_)
 obtain⟨n,l,β1,e1,O,h8'⟩:=Dk (most:=8) (by omega) (by omega) z
 have h8:=O.hi
 have h1:=O.lo
 refine uR (d:=aA n l) (β1:=β1) (fT (ds:=[.int ((8:Nat):Int)]) rfl rfl e1) (wp_at [.fz (cJ ns),.fz (.int i),.bx,.fz (aA n l),t4,t5,t6,t7,t8,t9,t10] rfl ?_)
 obtain⟨cs,β2,e2,hch,hl⟩:=Km O β1
 obtain⟨hin,hci⟩:=Ci hch
 refine uR (d:=.list (cs.map int)) (β1:=β2) (fT (ds:=[aA n l]) rfl rfl e2) (wp_at [.fz (cJ ns),.fz (.int i),.bx,.fz (aA n l),.fz (.list (cs.map int)),t5,t6,t7,t8,t9,t10] rfl ?_)
 refine uR (d:=.list (cs.map int)) (β1:=β2) (b7 (x:=.list (cs.map int)) rfl rfl) (wp_at [.fz (cJ ns),.fz (.int i),.bx,.fz (aA n l),.fz (.list (cs.map int)),.fz (.list (cs.map int)),t6,t7,t8,t9,t10] rfl ?_)
 obtain⟨r,er,R,L⟩:=JJ O (by omega) hch
 have es:=IZ er
 refine uR (d:=tupI r) (β1:=β2) (aH (ds:=[aA n l,.list (cs.map int)]) rfl es) (wp_at (qX ns i n l cs r t7 t8 t9 t10) rfl ?_)
 have hap:∀a b,a∈cs->b∈cs->kO l (a,b)=false:=λa b ha hb=>Cp hci ha hb
 have q1:j4 (aw FW (aa (gv 6) (aa (gv 3) (aa (gv 4) af)))) (vl (qX ns i n l cs r t7 t8 t9 t10)) β2=.ok true β2:=fM (aH (ds:=[tupI r,aA n l,.list (cs.map int)]) rfl (KA O R L hin hl hap))
 have q2:cK (f2 (gv 5) (gv 4) (cF true)) (vl (qX ns i n l cs r t7 t8 t9 t10)) β2=.ok false β2:=by
  have:=cB (fa:=f2 (gv 5) (gv 4) (cF true)) (vs:=vl (qX ns i n l cs r t7 t8 t9 t10)) (β:=β2) _ (aG (x:=.list (cs.map int)) (y:=.list (cs.map int)) rfl rfl (gW true cs cs))
  rw[this];simp
 have q3:cK (f2 (aw oq (aa (gv 3) (aa (gv 5) af))) (gv 6) (cF true)) (vl (qX ns i n l cs r t7 t8 t9 t10)) β2=.ok false β2:=cB _ _ _ _ (aG (aH (ds:=[aA n l,.list (cs.map int)]) rfl es) rfl (BU r))
 refine mS (jS (cH q1) (jS q2 q3)) (wp_at (qX ns i n l cs r t7 t8 t9 t10) rfl ?_)
 have chs:∀{d:D},Gc d->rW n l d=false->oq [aA n l,d]=.ok (.str "chain") false:=λgc h=>Jg (JH O gc h)
 have et:bN (Fh (aw o8 (aa (gv 3) af)) (λ_ β=>.ok none β) (Gj (cst (.int 3)))) (vl (qX ns i n l cs r t7 t8 t9 t10)) β2=.ok (((Jo n l).map aK).take 3) β2:=by
  unfold bN
  rw[Dj (i:=3) (aH (ds:=[aA n l]) rfl (BX O)) rfl];rfl
 refine nO (ds:=((Jo n l).map aK).take 3) (β1:=β2) (λ_ env b=>b=β2/\∃s7 s8,env=qX ns i n l cs r s7 s8 t9 t10) et ⟨rfl,_,_,rfl⟩ ?_ ?_
 ·intro j d env b hd ⟨hb,s7,s8,he⟩
  subst hb he
  obtain⟨p,hp,rfl⟩:=Nh.mp (OL (Nm hd))
  obtain⟨pa,pb⟩:=p
  refine⟨qX ns i n l cs r (.fz (.int pa)) (.fz (.int pb)) t9 t10,rfl,?_⟩
  have ap:kO l (pa,pb)=true:=(NF.mp hp).2
  have hpn:=OM.cu.mp (NF.mp hp).1
  have nc:rW n l (.list ((sortI [pa,pb]).map int))=false:=vF λh=>by
   have:=Cp h.2 ((sortI_perm [pa,pb]).mem_iff.mpr (by simp:pa∈ [pa,pb])) ((sortI_perm [pa,pb]).mem_iff.mpr (by simp:pb∈ [pa,pb]))
   rw[ap] at this;cases this
  have sl:(sortI [pa,pb]).length=2:=by rw[(sortI_perm [pa,pb]).length_eq];rfl
  have t:cK (f2 (aw oq (aa (gv 3) (aa (f1 (aY (aa (gv 7) (aa (gv 8) af))) iN) af))) (cst (.str "chain")) (cF true)) (vl (qX ns i n l cs r (.fz (.int pa)) (.fz (.int pb)) t9 t10)) b=.ok false b:=
   cB _ _ _ _ (aG (aH (ds:=[aA n l,.list ((sortI [pa,pb]).map int)]) (ac rfl (ac (b7 (lp (ds:=[pa,pb].map int) (ac rfl (ac rfl an))) (CC (by simp))) an)) (chs (zr (by omega)) nc)) rfl BH)
  exact yo t (jW ⟨_,_,rfl,rfl,_,_,rfl⟩)
 intro env b ⟨hb,s7,s8,he⟩
 subst hb he
 have hsI:=xH hci
 have ne:cs≠ []:=λz=>by rw[z] at hci;cases hci
 obtain⟨gs,zl,hgs⟩:∃gs zl,cs=gs ++ [zl]:=⟨cs.dropLast,cs.getLast ne,(List.dropLast_concat_getLast ne).symm⟩
 have hbad:=Mm (l:=l) h1 hin hsI hl hgs
 have g4:∀s9 s10 b,gv 4 (vl (qX ns i n l cs r s7 s8 s9 s10)) b=.ok (.list (cs.map int)) b:=λ_ _ _=>rfl
 have c0:kg (cs.map int) ((0:Nat):Int)=some (.int (cs.getD 0 0)):=jO (by
  cases cs with
  |nil=>exact absurd rfl ne
  |cons x t=>rfl)
 have lc:(cs.map int).length<=9:=by rw[Na];exact hl
 have last:Fh (gv 4) (Gj (f1 (cst (.int 1)) vH)) (λ_ β=>.ok none β) (vl (qX ns i n l cs r s7 s8 t9 t10)) b=.ok (.list [.int zl]) b:=D8 (gs:=gs.map int) (by rw[g4,hgs,NU];rfl) (b7 (x:=.int 1) (d:=.int (-1)) rfl rfl)
 refine zg (d:=.list [PyData.list [],.none,.tuple (cs.map int),.list (cs.map int ++ [.int n]),.list (.int (-1) :: cs.map int),.list (cs.map int ++ [.int zl]),.list [.bool true],.list [.str "0"],.int (cs.getD 0 0)]) (β1:=b)
  (lp (ac (lp an) (ac rfl (ac (b7 (g4 _ _ _) rfl) (ac (vN (g4 _ _ _) (lp (ac (Gs (n:=n) (l:=l) rfl) an)) (by simp;omega)) (ac (vN (a:=[.int (-1)]) (lp (ac (b7 (x:=.int 1) (d:=.int (-1)) rfl rfl) an)) (g4 _ _ _) (by simp;omega)) (ac (vN (g4 _ _ _) last (by simp;omega)) (ac (lp (ac rfl an)) (ac (lp (ac rfl an)) (ac (aG (g4 _ _ _) rfl c0) an)))))))))) ?_
 generalize hbs: [PyData.list [],.none,.tuple (cs.map int),.list (cs.map int ++ [.int n]),.list (.int (-1) :: cs.map int),.list (cs.map int ++ [.int zl]),.list [.bool true],.list [.str "0"],.int (cs.getD 0 0)]=bs at hbad ⊢
 have hbl:bs.length=9:=by rw[<-hbs];rfl
 refine wp_at (qX ns i n l cs r s7 s8 (.ow (.list bs)) t10) rfl ?_
 refine Ij (λenv b'=>b'=b/\∃bs s10,env=qX ns i n l cs r s7 s8 (.ow (.list bs)) s10/\bs.length<=10/\∀d,d∈bs->xl n l d) ?_ ?_
 ·have t:cK (f2 (f1 (gv 4) cZ) (cst (.int 1)) DW) (vl (qX ns i n l cs r s7 s8 (.ow (.list bs)) t10)) b=.ok (decide ((cs.length:Int) > 1)) b:=cB _ _ _ _ (aG (x:=.int cs.length) (by rw[tJ (g4 _ _ _),Na]) rfl rfl)
  refine⟨_,_,t,λc=>?_,λ_=>jW ⟨_,_,rfl,rfl,bs,_,rfl,by omega,hbad⟩⟩
  have h2:=Ou c
  refine tu (B3 (ds:=bs) rfl (b7 (g4 _ _ _) rfl) rfl (by omega) (jW ⟨_,_,rfl,rfl,bs ++ [.list (cs.map int).reverse],t10,rfl,by rw[NK,hbl];simp,λd hd=>?_⟩))
  rcases Nw.mp hd with hd |hd
  ·exact hbad d hd
  ·rw[Nz] at hd
   subst hd
   exact D4 hsI hl (by omega)
 clear hbad hbl hbs
 intro env b' ⟨hb,bs,s10,he,hbl,hbad⟩
 subst hb he
 obtain⟨o,β4,e4,ho⟩:=Ka b'
 have ef:bN (f2 (gv 9) (aY (aa (jK 2 B5 af) af)) dH) (vl (qX ns i n l cs r s7 s8 (.ow (.list bs)) s10)) b'=.ok (bs ++ [o]) β4:=by
  have a1:aY (aa (jK 2 B5 af) af) (vl (qX ns i n l cs r s7 s8 (.ow (.list bs)) s10)) b'=.ok (.list [o]) β4:=by
   refine dJ ?_ (by simp)
   rw[cc,fT (ds:=[]) (β1:=b') (by rfl) rfl e4];rfl
  unfold bN
  rw[vN (a:=bs) (b:=[o]) rfl a1 (by simp;omega)];rfl
 have hall:∀d,d∈bs ++ [o]->xl n l d:=λd hd=>by
  rcases Nw.mp hd with hd |hd
  ·exact hbad d hd
  ·rw[Nz] at hd;exact hd▸FY ho
 refine tu (nO (ds:=bs ++ [o]) (β1:=β4) (λ_ env b=>∃s9 s10,env=qX ns i n l cs r s7 s8 s9 s10) ef ⟨_,_,rfl⟩ ?_ λenv β ⟨s9,s10,e⟩=>jW ⟨_,_,rfl,_,_,_,_,_,_,_,_,_,_,e⟩)
 rintro q d env b hq ⟨s9,s10,rfl⟩
 obtain⟨gc,⟨c,hc⟩,hor⟩:=hall d (Nm hq)
 refine⟨qX ns i n l cs r s7 s8 s9 (.fz d),rfl,?_⟩
 have t1:cK (f2 (gv 10) (bK (aa (aY (aa (cst (.int 0)) af)) (aa (aY (aa (cst (.int 1)) af)) af))) rz) (vl (qX ns i n l cs r s7 s8 s9 (.fz d))) b=.ok c b:=cB _ _ _ _ (aG (x:=d) (y:=GB) rfl (tp (ac (lp (ac rfl an)) (ac (lp (ac rfl an)) an))) hc)
 cases c with
 |false=>exact yo (β1:=b) (by rw[lJ,t1];rfl) (jW ⟨_,_,rfl,_,_,rfl⟩)
 |true=>
  have nc:rW n l d=false:=hor.elim id λz=>by rw[hc] at z;cases z
  have t2:cK (f2 (aw oq (aa (gv 3) (aa (gv 10) af))) (cst (.str "chain")) (cF true)) (vl (qX ns i n l cs r s7 s8 s9 (.fz d))) b=.ok false b:=cB _ _ _ _ (aG (aH (ds:=[aA n l,d]) rfl (chs gc nc)) rfl BH)
  exact yo (β1:=b) (by rw[lJ,t1];exact t2) (jW ⟨_,_,rfl,_,_,rfl⟩)
end RM
namespace RO
open PySem L2
abbrev jj:Stmt:=RQ.dS
abbrev mW:Stmt:=RQ.top 23
abbrev ku:Stmt:=RQ.top 50
abbrev Fn (K:Frag)(mg:Str->Option Value)(x:Str)(st:Stmt)(ps:List Str)(f:Addr)(fd:FuncData):Prop:=jL K mg x st ps f fd
abbrev Bt (mg:Str->Option Value):Prop:=jQ mg
end RO
section
namespace L2
open PySem PySem.Spec PyProof.Rows
section
variable {K:Frag}{H H':Hp}{a:Addr}
theorem aO.snoc {x y:Int}(q:fS K H a [.int x,.int y]):∀{vs:List V} {ps:List (Int×Int)},aO K H vs ps->aO K H (vs ++ [.ref a]) (ps ++ [(x,y)])
 |_,_,.nil=>.cons ⟨a,rfl,q⟩ .nil
 |_,_,.cons r t=>.cons r (aO.snoc q t)
def aO.len {vs:List V}{ps:List (Int×Int)}(h:aO K H vs ps):vs.length=ps.length:=Paired.length h
def aO.same {vs:List V}{ps:List (Int×Int)}(h:aO K H vs ps)(s:ak H H'):aO K H' vs ps:=h.grow s.grow
def aO.at {vs:List V}{ps:List (Int×Int)}{i:Nat}{v:V}(h:aO K H vs ps)(e:vs[i]? =some v):∃p:Int×Int,ps[i]? =some p/\∃b,v=.ref b/\fS K H b [.int p.1,.int p.2]:=Paired.getP h e
def ak.put {o:HO}(s:ak H H')(h:H a=none)(hf:∀x y,H' a≠some (.aS x y)):ak H (L2.upd H' a o):=λb u e=>ky (s b u e) (aB e h) hf
def GR (h:H a=none):∀x y,H a≠some (.aS x y):=λx y z=>by rw[h] at z;cases z
def KN {xs:List V}(h:H a=some (.lst xs)):∀x y,H a≠some (.aS x y):=λx y z=>by rw[h] at z;cases z
end
end L2
namespace RO
open PySem L2
def DT (N:List Str)(sc:Scope)(NB:List Str)(own:Nat)(ixs:List Nat)(scope:Scope):Bool:=
 decide (scope.kind=.function) && (scope.names.all λy=>decide (y.2≠.cell)) && (scope.names.all λy=>decide (scope.names.lookup y.1=some y.2)) &&
 (scope.names.all λy=>decide (y.2=.free->(sc.names.lookup y.1=some .cell\/sc.names.lookup y.1=some .free))) && decide NB.Nodup && decide (NB.length=own + ixs.length) &&
 ((List.range ixs.length).all λk=>decide (NB[own + k]? =N[ixs.getD k 0]?) && (match NB[own + k]? with |some x=>decide ((x,NameKind.free)∈scope.names) |none=>true))
def nA {X:Cx}{NB:List Str}{own:Nat}{ixs:List Nat}{scope:Scope}(h:DT X.N X.env.scope NB own ixs scope=true):cO X NB own ixs scope:=by
 unfold DT at h
 simp only[Ni,NH,Nx,Ny] at h
 obtain⟨⟨⟨⟨⟨⟨h1,h2⟩,h3⟩,h4⟩,h5⟩,h6⟩,h7⟩:=h
 refine⟨h1,h2,h3,h4,h5,h6,λk hk=>⟨(h7 k hk).1,λx hx=>?_⟩⟩
 have:=(h7 k hk).2
 rw[hx] at this
 simpa using this
section
variable {X:Cx}{tg l:Expr}{tl:TE}{K:Frag}{H H1:Hp}{a:Addr}{xs:List V}{σ:St}
def LV (K:Frag)(tl:TE):TI:=λσ H R=>tl σ H λx H1=>∃a xs,x=.ref a/\((dZ K H1 a xs/\R (A2 K a) H1)\/(fS K H1 a xs/\R (Gv K a) H1))
end
def Mw (K:Frag){X:Cx}(h:X.K=K:=by rfl):C2 X (Ja K):=by subst h;exact fB
def Hs (K:Frag)(i j:Nat){X:Cx}{x y:Str}{px py pos:Pos}{k:Nat}(hN:X.N.Nodup)(hi:X.N[i]? =some x)(hj:X.N[j]? =some y)(hx:X.env.scope.names.lookup x=some .local)(hy:X.env.scope.names.lookup y=some .local)(hc:X.calm=true)(hK:X.K=K) :
  PG X (.Tuple [.Name x px,.Name y py] k pos) (Ef K 2 (qp (lh i) (qp (lh j) FH))):=by
 subst hK
 exact pX hc (dc (cD hN hi (Or.inl hx) (Or.inr hx)) (dc (cD hN hj (Or.inl hy) (Or.inr hy)) mD))
section
open PySem.Spec PyProof.Rows
variable {X:Cx}{tg l:Expr}{tl:TE}
def HH (hl:PE X l tl):PI X tg l (LV X.K tl):=by
 intro pins s σ H R I h
 refine b6 (hl pins s σ H _ I h) λv s1 ⟨x,H1,I1,r1,q1⟩=>?_
 obtain⟨a,xs,e,q⟩:=q1
 subst e
 cases r1
 rcases q with⟨hq,q⟩ | ⟨hq,q⟩
 ·obtain⟨its,rv,p,hz⟩:=I1.list hq
  refine Px p.isList ?_
  refine⟨s1.heap.objs.size,[s1.heap.objs.size],_,_,H1,rfl,I1.kept (t':=s1.toks) λb o e=>M4 _ e,nN a _,⟨_,Nk _ rfl,rfl,rfl⟩,λb hb=>?_,q⟩
  have e:b=s1.heap.objs.size:=by simpa using hb
  subst e
  exact I1.fpOk (M9 _) (I1.hok.fresh (M9 _))
 ·obtain⟨its,rv,p,hz⟩:=I1.tuple hq
  refine wpAny_pyIter_tuple (show s1.heap.IsTuple a its.toArray from p) ?_
  refine⟨s1.heap.objs.size,[s1.heap.objs.size],_,_,H1,rfl,I1.kept (t':=s1.toks) λb o e=>M4 _ e,pW a _,⟨_,Nk _ rfl,rfl,rfl⟩,λb hb=>?_,q⟩
  have e:b=s1.heap.objs.size:=by simpa using hb
  subst e
  exact I1.fpOk (M9 _) (I1.hok.fresh (M9 _))
end
section
variable {K:Frag}{H H1 H':Hp}{a:Addr}{xs:List V}{σ:St}
abbrev Jt (J:It)(g:TG)(tb:TS)(D:Ends)(σ:St)(H:Hp):Prop:=∃W:Nat->Nat->St->Hp->Prop,(∃m,W 0 m σ H)/\∀i m σ H,W i m σ H->
   (J.stop i H/\D.nx σ H)\/(J.go i H/\∃N:St->Hp->Prop,(∀σ' H',N σ' H'->∃m',m' < m/\W (i + 1) m' σ' H')/\∀x H',J.yld i H x H'->g x σ H' λσ2 H2=>tb {D with nx:=N,ct:=N,bk:=D.nx} σ2 H2)
def Fg (s:ak H1 H')(hq:dZ K H1 a xs\/fS K H1 a xs):dZ K H' a xs\/fS K H' a xs:=hq.elim (λq=>.inl (s.seq q)) λq=>.inr (q.grow s.grow)
def Ej {g:TG}{tb:TS}{D:Ends}(hq:dZ K H1 a xs\/fS K H1 a xs)(Pv:Nat->St->Hp->Prop)(h0:Pv 0 σ H)(hl:∀i σ H',Pv i σ H'->ak H1 H')
  (hs:∀i x σ H,xs[i]? =some x->Pv i σ H->g x σ H λσ2 H2=>tb {D with nx:=Pv (i + 1),ct:=Pv (i + 1),bk:=D.nx} σ2 H2) (hd:∀σ H,Pv xs.length σ H->D.nx σ H) :
  (dZ K H a xs/\Jt (A2 K a) g tb D σ H)\/(fS K H a xs/\Jt (Gv K a) g tb D σ H):=
 hq.elim (λq=>.inl ⟨(hl _ _ _ h0).seq q,wg Pv h0 (λi σ H' _ p=>(hl i σ H' p).seq q) hs hd⟩) λq=>.inr ⟨q.grow (hl _ _ _ h0).grow,Eo Pv h0 (λi σ H' _ p=>q.grow (hl i σ H' p).grow) hs hd⟩
def zF (J:It)(own:Nat)(ixs:List Nat)(g:TG)(tt:TT)(te:TE)(Q:VK)(D:Addr)(σ:St)(H:Hp):Prop:=∃W:Nat->Nat->St->Hp->Prop,(∃m,W 0 m (cT own ixs σ) (upd H D (.lst [])))/\∀i m σ' H',W i m σ' H'->
   (J.stop i H'/\(∃acc,H' D=some (.lst acc))/\Q (.ref D) H')\/
   (J.go i H'/\∃N:St->Hp->Prop,(∀σ2 H2,N σ2 H2->∃m',m' < m/\W (i + 1) m' σ2 H2)/\∀x H2,J.yld i H' x H2->dQ g tt te D x σ' H2 N)
structure vX (own:Nat)(ixs:List Nat)(wi:TI)(g:TG)(tt:TT)(te:TE)(σ:St)(H:Hp)(Q:VK):Prop where
 out:wi σ H λJ H1=>∀D,H1 D=none->zF J own ixs g tt te Q D σ H1
def xU {own:Nat}{ixs:List Nat}{wi:TI}{g:TG}{tt:TT}{te:TE}{Q:VK}(h:wi σ H λJ H1=>∀D,H1 D=none->zF J own ixs g tt te Q D σ H1):vX own ixs wi g tt te σ H Q:=⟨h⟩
def td {X:Cx}{NB:List Str}{own:Nat}{ixs:List Nat}{scope:Scope}{tg iter elt:Expr}{ifs:List Expr}{wi:TI}{g:TG}{tt:TT}{te:TE}{pos:Pos}(hc:X.calm=true)(S:cO X NB own ixs scope)(hi:PI X tg iter wi)
  (hg:∀C ex s3 H3 pn,PG (iO X NB scope C ex s3 H3 pn) tg g) (ht:∀C ex s3 H3 pn,Dr (iO X NB scope C ex s3 H3 pn) ifs tt) (he:∀C ex s3 H3 pn,PE (iO X NB scope C ex s3 H3 pn) elt te)
  (hs:∀x,foldedSetIterable iter X.env x=pure x:=by intro _;rfl):PE X (.ListComp elt [⟨tg,iter,ifs,0⟩] scope pos) (vX own ixs wi g tt te):=
 λpins s σ H Q I h=>vC hc S hi hg ht he hs pins s σ H Q I h.out
section
variable {own:Nat}{ixs:List Nat}{g:TG}{tt:TT}{te:TE}{Q:VK}{D:Addr}
def FI (Pv:Nat->St->Hp->Prop)(h0:Pv 0 (cT own ixs σ) (upd H D (.lst [])))(hl:∀i σ H,i<=xs.length->Pv i σ H->dZ K H a xs)
  (hs:∀i x σ H,xs[i]? =some x->Pv i σ H->dQ g tt te D x σ H (Pv (i + 1))) (hd:∀σ H,Pv xs.length σ H->(∃acc,H D=some (.lst acc))/\Q (.ref D) H):zF (A2 K a) own ixs g tt te Q D σ H:=AN Pv h0 hl hs hd
def vV {lo:Int}{n:Nat}(Pv:Nat->St->Hp->Prop)(h0:Pv 0 (cT own ixs σ) (upd H D (.lst [])))
  (hs:∀i σ H,i < n->Pv i σ H->dQ g tt te D (.int (lo + i)) σ H (Pv (i + 1))) (hd:∀σ H,Pv n σ H->(∃acc,H D=some (.lst acc))/\Q (.ref D) H):zF (AM lo n) own ixs g tt te Q D σ H:=xF Pv h0 hs hd
end
def uV {i:Nat}{te:TE}{D:Addr}{x:V}{N:St->Hp->Prop}(h:te (σ.set i (some x)) H λv H5=>∃acc,H5 D=some (.lst acc)/\acc.length < sizeLine/\N (σ.set i (some x)) (upd H5 D (.lst (acc ++ [v])))):dQ (lh i) IY te D x σ H N:=by
 unfold dQ lh IY
 exact vQ h
def Cq {i j:Nat}{x y:V}{Q:St->Hp->Prop}(h:fS K H a [x,y])(q:Q ((σ.set i (some x)).set j (some y)) H):Ef K 2 (qp (lh i) (qp (lh j) FH)) (.ref a) σ H Q:=⟨a,_,rfl,h,rfl,x,_,rfl,y,_,rfl,rfl,q⟩
def L7 {c A B:Prop}[Decidable c](h:c)(a:A):if c then A else B:=by rw[M7 h];exact a
def LQ {c A B:Prop}[Decidable c](h:¬c)(b:B):if c then A else B:=by rw[Nd h];exact b
def take_snoc {α:Type}{l:List α}{i:Nat}{x:α}(h:l[i]? =some x):l.take (i + 1)=l.take i ++ [x]:=by
 rw[Oc,h];rfl
def take_all {α:Type}(l:List α):l.take l.length=l:=OE (M9 _)
end
def g9 (n:Nat):(OM.eQ n).length=n * n:=by unfold OM.eQ;simp
def Fj {n i:Nat}(h:i < n * n):(OM.eQ n)[i]? =some (((i / n:Nat):Int),((i % n:Nat):Int)):=by
 unfold OM.eQ
 rw[Ng,Pk h];rfl
def MB {n:Nat}(h:n<=8):n * n<=64:=Ot h h
section
variable {P:Program}{w:World}{K:Frag}{mg:Str->Option Value}{base:Heap}
def yH (K:Frag):Sp:=λvs H Q _=>∃n:Nat,vs= [.int n]/\1<=n/\n<=8/\∀H' l ws,ak H H'->H l=none->H' l=some (.lst ws)->aO K H' ws (OM.eQ n)->Q (.ref l) H'
def Gm:aE ["many"] ["many"] (aq jj):=⟨rfl,rfl,rfl,by decide +kernel,rfl,by decide +kernel,by decide +kernel⟩
def KP:(["number","many"]:List Str).Nodup:=by decide +kernel
def BC {f:Addr}{fd:FuncData}(F:Fn K mg "every_pair" jj ["many"] f fd)(B:Bt mg):fJ P w K mg base yh 1 f fd ["many"] (yH K):=by
 refine F.F.ok Gm (λvs H Q E h=>?_) (λcdv A outer s H vs Q E hr h=>?_)
 ·obtain⟨n,rfl,_⟩:=h;rfl
 ·obtain⟨n,rfl,h1,h8,k⟩:=h
  refine⟨_,di (iM (td (NB:=["number","many"]) (own:=1) (ixs:=[0]) rfl (nA (by kernel_rfl)) (kZ rfl B.range (ao (oy kC (pv 0) (pv 0)) aJ))
   (λC ex s3 H3 pn=>cD (i:=0) KP rfl (Or.inl rfl) (hf:=Or.inr rfl)) (λC ex s3 H3 pn=>uO)
   (λC ex s3 H3 pn=>yd (ao (oy mq (pv 0) (pv 1)) (ao (oy lU (pv 0) (pv 1)) aJ))))),?_⟩
  have hn:=MB h8
  have e0:((n:Int) * (n:Int))=((n * n:Nat):Int):=by rw[Int.natCast_mul]
  refine xU ⟨_,rfl,_,rfl,_,_,rfl,rfl,.inl ⟨by omega,by omega⟩,_,rfl,by rw[e0];omega,by rw[e0];omega,λD hD=>?_⟩
  rw[e0,NM]
  refine vV (λi σ' H'=>(∃v,σ'= [v,some (.int n)])/\ak H H'/\∃vs,H' D=some (.lst vs)/\aO K H' vs ((OM.eQ n).take i)) ⟨⟨none,rfl⟩,(ak.refl H).put hD (GR hD),[],ah,.nil⟩ ?_ ?_
  ·rintro i σ' H' hi ⟨⟨v,rfl⟩,s1,vs,hv,hp⟩
   have hn0:(0:Int) < (n:Int):=by omega
   refine uV ⟨_,rfl,_,rfl,_,_,rfl,rfl,⟨hn0,by omega⟩,_,rfl,_,rfl,_,_,rfl,rfl,hn0,by show 2<=sizeLine;rw[NA];omega,λp hp0=>?_⟩
   have hpD:D≠p:=aB hv hp0
   have hl:=hp.len
   refine⟨vs,by rw[au hpD];exact hv,?_,⟨_,rfl⟩,?_,vs ++ [.ref p],ah,?_⟩
   ·rw[hl,Oq,NA];rw[g9];omega
   ·exact (s1.put (s1.free hp0) (GR hp0)).put hD (KN (xs:=vs) (by rw[au hpD];exact hv))
   ·rw[take_snoc (Fj hi)]
    have g1:ie H' (upd H' p (.tup [.int ((0 + (i:Int)) / n),.int ((0 + (i:Int)) % n)])):=ie.new hp0
    have g2:∀o,ie (upd H' p (.tup [.int ((0 + (i:Int)) / n),.int ((0 + (i:Int)) % n)])) (upd (upd H' p (.tup [.int ((0 + (i:Int)) / n),.int ((0 + (i:Int)) % n)])) D o):=λo=>ie.list (by rw[au hpD];exact hv)
    refine aO.snoc ?_ (hp.grow (g1.trans (g2 _)))
    refine (fS.grow ?_ (g2 _))
    refine .inl (.inl ?_)
    rw[ah,Pj];rfl
  ·rintro σ' H' ⟨_,s1,vs,hv,hp⟩
   refine⟨⟨_,hv⟩,k H' D vs s1 hD hv ?_⟩
   rw[<-g9 n,take_all] at hp
   exact hp
end
end RO
end
namespace RO
open PySem L2
structure TabAt (n:Nat)(M:OM.Tb)(L:Addr)(r:Nat->Addr)(H:Hp):Prop where
 top:H L=some (.lst ((List.range n).map λi=>V.ref (r i)))
 row:∀i,i < n->H (r i)=some (.lst ((List.range n).map λj=>V.bl (M i j)))
 inj:∀i j,i < n->j < n->r i=r j->i=j
 ne:∀i,i < n->r i≠L
def zi {n x:Nat}(h:x < n):vG n (x:Int)=some x:=by
 unfold vG;rw[M7 (by omega),M7 (by omega)];simp
def DR {α:Type}{xs:List α}{x:Nat}(h:x < xs.length):kg xs (x:Int)=xs[x]?:=by
 unfold kg;rw[zi h];rfl
def fP {f:Nat->V}{n x:Nat}(h:x < n):kg ((List.range n).map f) (x:Int)=some (f x):=by
 rw[DR (by simpa using h),Ng,Pk h];rfl
def rP {f:Nat->V}{n x:Nat}(h:x < n):vG ((List.range n).map f).length (x:Int)=some x:=by
 rw[Na,O7];exact zi h
def AU {f:Nat->V}{n y:Nat}{v:V}:((List.range n).map f).set y v=(List.range n).map λj=>if j=y then v else f j:=by
 apply O6
 intro i
 by_cases hi:i < n
 ·by_cases e:y=i
  ·subst e;simp[List.getElem?_set,hi]
  ·have e':¬i=y:=λz=>e z.symm
   simp[List.getElem?_set,hi,e,e']
 ·rw[OK (by simp;omega),OK (by simp;omega)]
section
variable {n:Nat}{M:OM.Tb}{L:Addr}{r:Nat->Addr}{H H':Hp}
def TabAt.set (T:TabAt n M L r H){x y:Nat}(hx:x < n):TabAt n (M.set x y) L r (upd H (r x) (.lst (((List.range n).map λj=>V.bl (M x j)).set y (.bl true)))):=by
 refine⟨by rw[au (T.ne x hx).symm];exact T.top,λi hi=>?_,T.inj,T.ne⟩
 by_cases e:i=x
 ·subst e
  rw[ah,AU]
  refine congrArg _ (congrArg _ (OD λj _=>?_))
  unfold OM.Tb.set
  by_cases c:j=y
  ·simp[c]
  ·simp[c]
 ·rw[au (λz=>e (T.inj i x hi hx z)),T.row i hi]
  refine congrArg _ (congrArg _ (OD λj _=>?_))
  unfold OM.Tb.set;simp[e]
def TabAt.same (T:TabAt n M L r H)(s:ak H H'):TabAt n M L r H':=⟨s _ _ T.top,λi hi=>s _ _ (T.row i hi),T.inj,T.ne⟩
end
def tK {n:Nat}{ps:List (Int×Int)}(w:OM.Wn n ps){p:Int×Int}(h:p∈ps):∃u v:Nat,p=((u:Int),(v:Int))/\u < n/\v < n:=by
 obtain⟨x,y⟩:=p
 have q:=w _ h
 simp only at q
 exact⟨x.toNat,y.toNat,by rw[Pl q.1.1,Pl q.2.1],by omega,by omega⟩
def iD {M0 M:OM.Tb}{m:Nat}{D D':Nat->Nat->Prop}(P:OM.Phase M0 M m D)(h:∀a b,D a b↔D' a b):OM.Phase M0 M m D':=λa b=>by rw[P a b,h a b]
def kT {l:List (Int×Int)}{u v a b:Nat}:(((a:Int),(b:Int))∈l\/(a=u/\b=v))↔((a:Int),(b:Int))∈l ++ [((u:Int),(v:Int))]:=by
 rw[Nw,Nz,Prod.mk.injEq]
 constructor
 ·rintro (h | ⟨h1,h2⟩)
  ·exact .inl h
  ·exact .inr ⟨by omega,by omega⟩
 ·rintro (h | ⟨h1,h2⟩)
  ·exact .inl h
  ·exact .inr ⟨by omega,by omega⟩
def D9 {M:OM.Tb}{u v a b:Nat}:M.set u v a b=true↔M a b=true\/(a=u/\b=v):=by
 unfold OM.Tb.set
 by_cases c:a=u/\b=v
 ·simp[c]
 ·rw[Nd c];exact⟨.inl,λh=>h.resolve_right c⟩
def JS (n:Nat)(x:V):(List.replicate n [x]).flatten=(List.range n).map λ_=>x:=by
 rw[List.flatten_replicate_singleton,List.map_const',O7]
section
variable {P:Program}{w:World}{K:Frag}{mg:Str->Option Value}{base:Heap}
def Bh (K:Frag):Sp:=λvs H Q _=>∃(n:Nat) (a:Addr) (xs:List V) (ps:List (Int×Int)),vs= [.int n,.ref a]/\1<=n/\n<=8/\(dZ K H a xs\/fS K H a xs)/\aO K H xs ps/\OM.Wn n ps/\
 ∀H' t ws,ak H H'->H t=none->H' t=some (.tup ws)->aO K H' ws (OM.b4 n (OM.Tr (OM.Mem ps)))->Q (.ref t) H'
def fN:aE ["many","pairs","corners","leads","a","b","middle"] ["many","pairs"] (aq mW):=⟨rfl,rfl,rfl,by decide +kernel,rfl,by decide +kernel,by decide +kernel⟩
def Kh:(["start","many"]:List Str).Nodup:=by decide +kernel
def IT:(["a","b","leads"]:List Str).Nodup:=by decide +kernel
set_option maxHeartbeats 1000000 in
theorem Ab {f g:Addr}{fd gd:FuncData}(F:Fn K mg "closed" mW ["many","pairs"] f fd)(G:Fn K mg "every_pair" jj ["many"] g gd)(GE:fJ P w K mg base yh 1 g gd ["many"] (yH K))(B:Bt mg):fJ P w K mg base yh 2 f fd ["many","pairs"] (Bh K):=by
 refine F.F.ok fN (λvs H Q E h=>?_) (λcdv A outer s H vs Q E hr h=>?_)
 ·obtain⟨n,a,xs,ps,rfl,_⟩:=h;rfl
 ·obtain⟨n,a,xs,ps,rfl,h1,h8,hq,hp,wn,k⟩:=h
  refine⟨_,b9 (ji (i:=2) fN.nd rfl (Or.inl rfl) (oW GE hr rfl G.mg G.F.kp G.b .nil Gz (ao (pv 0) aJ)))
   (b9 (ji (i:=3) fN.nd rfl (Or.inr rfl) (td (NB:=["start","many"]) (own:=1) (ixs:=[0]) rfl (nA (by kernel_rfl)) (kZ rfl B.range (ao (pv 0) aJ))
    (λC ex s3 H3 pn=>cD (i:=0) Kh rfl (Or.inl rfl) (hf:=Or.inr rfl)) (λC ex s3 H3 pn=>uO) (λC ex s3 H3 pn=>oy BM (nu (ao sJ aJ)) (pv 1))))
   (b9 (uI PassesOwn.never rfl (HH (pv 1)) (pX rfl (dc (cD (i:=4) fN.nd rfl (Or.inl rfl)) (dc (cD (i:=5) fN.nd rfl (Or.inl rfl)) mD)))
    (di (qj sJ (sS (kc fB (pv 3) (pv 4) (λ_ _=>rfl)) (pv 5) set_list))))
   (b9 (uI PassesOwn.never rfl (kZ rfl B.range (ao (pv 0) aJ)) (cD (i:=6) fN.nd rfl (Or.inl rfl))
    (di (uI PassesOwn.never rfl (yY (pv 2)) (pX rfl (dc (cD (i:=4) fN.nd rfl (Or.inl rfl)) (dc (cD (i:=5) fN.nd rfl (Or.inl rfl)) mD)))
     (di (zm (PW.pt (CV (qw (kc fB (kc fB (pv 3) (pv 4) (λ_ _=>rfl)) (pv 6) (λ_ _=>rfl))) (y0 (qw (kc fB (kc fB (pv 3) (pv 6) (λ_ _=>rfl)) (pv 5) (λ_ _=>rfl))))))
      (di (qj sJ (sS (kc fB (pv 3) (pv 4) (λ_ _=>rfl)) (pv 5) set_list))) o5)))))
   (di (iM (gM fG rfl B.tuple (by decide +kernel) (ao (td (NB:=["a","b","leads"]) (own:=2) (ixs:=[3]) rfl (nA (by kernel_rfl)) (yY (pv 2))
    (λC ex s3 H3 pn=>Hs K 0 1 IT rfl rfl rfl rfl rfl rfl)
    (λC ex s3 H3 pn=>yS (qw (kc (Mw K) (kc (Mw K) (pv 2) (pv 0) (λ_ _=>rfl)) (pv 1) (λ_ _=>rfl)))) (λC ex s3 H3 pn=>yd (ao (pv 0) (ao (pv 1) aJ)))) aJ))))))),?_⟩
  have hn:=MB h8
  have hn0:(0:Int)<=(n:Int):=by omega
  refine⟨_,rfl,n,rfl,h1,h8,λH1 c ws s1 hc0 hc hw=>?_⟩
  have hwl:ws.length=n * n:=by rw[hw.len,g9]
  have gw:OM.Wn n (OM.eQ n):=λp hp=>OM.cu.mp hp
  refine xU ?_
  refine⟨_,rfl,n,rfl,by omega,by omega,λD hD=>?_⟩
  rw[NM]
  refine vV (λi σ' H'=>(∃v,σ'= [v,some (.int n)])/\ak H1 H'/\∃r:Nat->Addr,H' D=some (.lst ((List.range i).map λk=>V.ref (r k)))/\
   (∀k,k < i->H' (r k)=some (.lst ((List.range n).map λ_=>V.bl false))/\H1 (r k)=none/\r k≠D)/\∀j k,j < i->k < i->r j=r k->j=k)
   ?_ ?_ ?_
  ·exact⟨⟨none,rfl⟩,(ak.refl H1).put hD (GR hD),λ_=>0,ah,λk hk=>absurd hk (Nat.not_lt_zero _),λj k hj=>absurd hj (Nat.not_lt_zero _)⟩
  ·rintro i σ' H' hi ⟨⟨v,rfl⟩,s2,r,hr0,hr1,hr2⟩
   refine uV ⟨by show 1<=sizeLine;rw[NA];omega,λp hp0=>⟨_,rfl,p,n,[.bl false],rfl,rfl,ah,by omega,by omega,by show 1 * (n:Int).toNat<=sizeLine;rw[NA];omega,λq hq0=>?_⟩⟩
   have hqp:q≠p:=by intro e;subst e;rw[ah] at hq0;cases hq0
   have hq1:H' q=none:=by rw[au hqp] at hq0;exact hq0
   have hDp:D≠p:=aB hr0 hp0
   have hDq:D≠q:=aB hr0 hq1
   rw[NM,JS]
   refine⟨_,by rw[au hDq,au hDp];exact hr0,by rw[Na,O7,NA];omega,⟨_,rfl⟩,((s2.put (s2.free hp0) (GR hp0)).put (s2.free hq1) (GR hq0)).put hD (KN (by rw[au hDq,au hDp];exact hr0)),λk=>if k=i then q else r k,?_,λk hk=>?_,λj k hj hk e=>?_⟩
   ·have e:(List.range i).map (λk=>V.ref (r k))=(List.range i).map (λk=>V.ref (if k=i then q else r k)):=OD λk hk=>by
     have:=Ny.mp hk
     rw[Nd (by omega)]
    rw[ah,List.range_succ,NU,e]
    simp
   ·dsimp only
    by_cases e:k=i
    ·rw[M7 e]
     exact⟨by rw[au hDq.symm,ah],s2.free hq1,hDq.symm⟩
    ·rw[Nd e]
     obtain⟨a1,a2,a3⟩:=hr1 k (by omega)
     exact⟨by rw[au a3,au (aB a1 hq1),au (aB a1 hp0)];exact a1,a2,a3⟩
   ·dsimp only at e
    by_cases ej:j=i
    ·by_cases ek:k=i
     ·omega
     ·rw[M7 ej,Nd ek] at e
      exact absurd e.symm (aB (hr1 k (by omega)).1 hq1)
    ·by_cases ek:k=i
     ·rw[Nd ej,M7 ek] at e
      exact absurd e (aB (hr1 j (by omega)).1 hq1)
     ·rw[Nd ej,Nd ek] at e
      exact hr2 j k (by omega) (by omega) e
  rintro σ2 H2 ⟨_,s2,r,hr0,hr1,hr2⟩
  refine⟨⟨_,hr0⟩,?_⟩
  have sep:∀i,i < n->H1 (r i)=none:=λi hi=>(hr1 i hi).2.1
  have T0:TabAt n (λ_ _=>false) D r H2:=⟨hr0,λi hi=>(hr1 i hi).1,hr2,λi hi=>(hr1 i hi).2.2⟩
  refine⟨_,rfl,a,xs,rfl,Ej (H1:=H1) (Fg s1 hq) (λi σ' H'=>(∃x y,σ'= [some (.int n),some (.ref a),some (.ref c),some (.ref D),x,y,none])/\ak H1 H'/\∃M,TabAt n M D r H'/\∀u v:Nat,M u v=true↔((u:Int),(v:Int))∈ps.take i)
   ⟨⟨none,none,rfl⟩,s2,_,T0,λu v=>by simp⟩ (λi σ' H' q=>q.2.1) ?_ ?_⟩
  ·rintro i x σ' H' hx ⟨⟨_,_,rfl⟩,s3,M,T,hM⟩
   obtain⟨p,hpi,b,rfl,hb⟩:=(hp.same (s1.trans s3)).at hx
   obtain⟨u,v,rfl,hu,hv⟩:=tK wn (Nm hpi)
   refine Cq hb ?_
   refine⟨_,rfl,_,rfl,D,_,u,_,rfl,rfl,.inl (.inl T.top),fP hu,_,rfl,r u,_,v,v,rfl,rfl,T.row u hu,rP hv,⟨_,_,rfl⟩,s3.put (sep u hu) (KN (T.row u hu)),_,T.set hu,λx y=>?_⟩
   rw[take_snoc hpi,<-kT,D9,hM]
  rintro σ3 H3 ⟨⟨x3,y3,rfl⟩,s3,M3,T3,hM3⟩
  rw[hp.len,take_all] at hM3
  refine⟨_,rfl,n,rfl,by omega,by omega,?_⟩
  rw[NM]
  refine AK (λm σ' H'=>(∃x y z,σ'= [some (.int n),some (.ref a),some (.ref c),some (.ref D),x,y,z])/\ak H1 H'/\∃M,TabAt n M D r H'/\OM.Tab n ps M/\OM.FZ M m)
   ⟨⟨_,_,_,rfl⟩,s3,M3,T3,⟨λa b h=>by have:=wn _ ((hM3 a b).mp h);simp only at this;omega,λa b h=>(hM3 a b).mpr h,λa b h=>.one ((hM3 a b).mp h)⟩,λk a b hk=>absurd hk (Nat.not_lt_zero _)⟩ ?_ ?_
  ·rintro m σ' H' hm ⟨⟨_,_,_,rfl⟩,s4,M,T,TT,Th⟩
   rw[Pj]
   refine⟨_,rfl,c,rfl,⟨ws,.inl (.inl (s4 _ _ hc))⟩,wg (xs:=ws) (λi σ' H'=>(∃x y,σ'= [some (.int n),some (.ref a),some (.ref c),some (.ref D),x,y,some (.int m)])/\ak H1 H'/\∃M',TabAt n M' D r H'/\OM.Phase M M' m λu v=>((u:Int),(v:Int))∈(OM.eQ n).take i)
    ⟨⟨_,_,rfl⟩,s4,M,T,iD (OM.Phase.start M m) λa b=>by simp⟩ (λi σ' H' _ q=>.inl (.inl (q.2.1 _ _ hc))) ?_ ?_⟩
   ·rintro i x σ' H' hx ⟨⟨_,_,rfl⟩,s5,M',T',Ph⟩
    obtain⟨p,hpi,b,rfl,hb⟩:=(hw.same s5).at hx
    obtain⟨u,v,rfl,hu,hv⟩:=tK gw (Nm hpi)
    refine Cq hb ?_
    have st:=Ph.step u v
    refine⟨_,rfl,_,rfl,D,_,u,_,rfl,rfl,.inl (.inl T'.top),fP hu,_,rfl,r u,_,m,_,rfl,rfl,.inl (.inl (T'.row u hu)),fP hm,_,rfl,?_⟩
    by_cases c1:M' u m=true
    ·refine L7 c1 ?_
     refine⟨_,rfl,_,rfl,D,_,m,_,rfl,rfl,.inl (.inl T'.top),fP hm,_,rfl,r m,_,v,_,rfl,rfl,.inl (.inl (T'.row m hm)),fP hv,_,rfl,?_⟩
     by_cases c2:M' m v=true
     ·refine L7 c2 ?_
      rw[M7 ⟨c1,c2⟩] at st
      refine⟨_,rfl,_,rfl,D,_,u,_,rfl,rfl,.inl (.inl T'.top),fP hu,_,rfl,r u,_,v,v,rfl,rfl,T'.row u hu,rP hv,⟨_,_,rfl⟩,s5.put (sep u hu) (KN (T'.row u hu)),_,T'.set hu,iD st λa b=>?_⟩
      rw[take_snoc hpi];exact kT
     ·refine LQ c2 ?_
      rw[Nd λz=>c2 z.2] at st
      refine⟨⟨_,_,rfl⟩,s5,_,T',iD st λa b=>?_⟩
      rw[take_snoc hpi];exact kT
    ·refine LQ c1 ?_
     rw[Nd λz=>c1 z.1] at st
     refine qI ⟨⟨_,_,rfl⟩,s5,_,T',iD st λa b=>?_⟩
     rw[take_snoc hpi];exact kT
   ·rintro σ' H' ⟨⟨_,_,rfl⟩,s5,M',T',Ph⟩
    rw[hw.len,take_all] at Ph
    have dn:=Ph.done (n:=n) (λa b ha hb=>OM.cu.mpr ⟨⟨by simp,by simp;omega⟩,by simp,by simp;omega⟩) TT.inn Th
    exact⟨⟨_,_,_,rfl⟩,s5,M',T',TT.phase Ph,dn.1⟩
  rintro σ4 H4 ⟨⟨x4,y4,z4,rfl⟩,s4,M,T,TT,Th⟩
  refine xU ⟨_,rfl,c,rfl,⟨ws,.inl (.inl (s4 _ _ hc))⟩,λD' hD'=>FI (xs:=ws) (λi σ' H'=>(∃x y,σ'= [x,y,some (.ref D)])/\ak H4 H'/\∃vs,H' D'=some (.lst vs)/\aO K H' vs (((OM.eQ n).take i).filter λp=>M p.1.toNat p.2.toNat))
   ⟨⟨_,_,rfl⟩,(ak.refl H4).put hD' (GR hD'),[],ah,.nil⟩ (λi σ' H' _ q=>.inl (.inl (q.2.1 _ _ (s4 _ _ hc)))) ?_ ?_⟩
  ·rintro i x σ' H' hx ⟨⟨_,_,rfl⟩,s5,vs,hv,hpv⟩
   obtain⟨p,hpi,b,rfl,hb⟩:=(hw.same (s4.trans s5)).at hx
   obtain⟨u,v,rfl,hu,hv'⟩:=tK gw (Nm hpi)
   refine Cq hb ?_
   have T':=T.same s5
   refine⟨_,rfl,_,rfl,D,_,u,_,rfl,rfl,.inl (.inl T'.top),fP hu,_,rfl,r u,_,v,_,rfl,rfl,.inl (.inl (T'.row u hu)),fP hv',_,rfl,?_⟩
   by_cases c1:M u v=true
   ·refine L7 c1 ?_
    refine⟨_,rfl,_,rfl,by show 2<=sizeLine;rw[NA];omega,λp hp0=>?_⟩
    have hpD:D'≠p:=aB hv hp0
    refine⟨vs,by rw[au hpD];exact hv,?_,⟨_,_,rfl⟩,(s5.put (s5.free hp0) (GR hp0)).put hD' (KN (by rw[au hpD];exact hv)),_,ah,?_⟩
    ·rw[hpv.len]
     refine Nat.lt_of_le_of_lt (Ov ..) ?_
     rw[Oq,g9,NA];omega
    ·rw[take_snoc hpi,List.filter_append,List.filter_cons_of_pos (by simpa using c1),List.filter_nil]
     have g1:ie H' (upd H' p (.tup [.int u,.int v])):=ie.new hp0
     have g2:∀o,ie (upd H' p (.tup [.int u,.int v])) (upd (upd H' p (.tup [.int u,.int v])) D' o):=λo=>ie.list (by rw[au hpD];exact hv)
     refine aO.snoc ?_ (hpv.grow (g1.trans (g2 _)))
     exact fS.grow (.inl (.inl ah)) (g2 _)
   ·refine LQ c1 ?_
    refine⟨⟨_,_,rfl⟩,s5,vs,hv,?_⟩
    rw[take_snoc hpi,List.filter_append,List.filter_cons_of_neg (by simpa using c1),List.filter_nil,Pp]
    exact hpv
  ·rintro σ' H' ⟨_,s5,vs,hv,hpv⟩
   rw[hw.len,take_all] at hpv
   refine⟨⟨_,hv⟩,D',vs,rfl,.inl ⟨.inl (.inl hv),λt ht=>?_⟩⟩
   have sA:ak H H':=(s1.trans s4).trans s5
   refine k _ t vs (sA.put (sA.free ht) (GR ht)) (sA.free ht) ah ?_
   have e:((OM.eQ n).filter λp=>M p.1.toNat p.2.toNat)=OM.b4 n (OM.Tr (OM.Mem ps)):=by
    unfold OM.b4
    refine List.filter_congr λp hp=>?_
    obtain⟨u,v,rfl,hu,hv⟩:=tK gw hp
    have:=TT.all wn Th u v
    simp only[NM]
    rw[NY,this]
    simp
   rw[e] at hpv
   exact hpv.grow (ie.new ht)
end
end RO
namespace RO
open PySem L2 RM
section
variable {P:Program}{w:World}{K:Frag}{mg:Str->Option Value}{base:Heap}{ca:Str->Addr}
def MO {k:Nat}{f:Addr}{fd:FuncData}{ps:List Str}{sp:Sp}(F:fJ P w K mg base yh k f fd ps sp):fJ P w K mg base (mE P w) k f fd ps sp:=
 ⟨F.len,λA outer s H args us vs Q E hr he hb hv hs=>O0 (F.run A outer s H args us vs Q E hr he hb hv hs) λr s' h=>by
  cases r with
  |ok x=>cases x <;> exact h
  |error e=>exact h.elim⟩
def xp {G H:Hp}(s:ak G H){ws:List V}{ps:List Pr}(h:aO K H ws ps):aO K (lI G H) ws ps:=Paired.mapP h λv p ⟨a,e,q⟩=>⟨a,e,qF s q⟩
def p6 {ds:List D}(h:cN ds≠.bad):∃(n:Nat) (d:D) (ps:List Pr),ds= [.int n,d]/\ig d=some (ps.map aK)/\1<=n/\n<=8/\OM.Wn n ps/\cN ds=.ok (.tuple ((OM.b4 n (OM.Tr (OM.Mem ps))).map aK)) false:=by
 unfold cN at h
 split at h
 ·rename_i n d
  cases q:ig d with
  |none=>rw[q] at h;exact absurd rfl h
  |some es=>
   rw[q] at h
   dsimp only at h
   cases q2:fY es with
   |none=>rw[q2] at h;exact absurd rfl h
   |some ps=>
    rw[q2] at h
    dsimp only at h
    by_cases c:1<=n/\n<=8/\OM.Wn n.toNat ps
    ·have e:((n.toNat:Nat):Int)=n:=by omega
     refine⟨n.toNat,d,ps,by rw[e],by rw[q,kQ q2],by omega,by omega,c.2.2,?_⟩
     unfold cN
     dsimp only
     rw[q]
     dsimp only
     rw[q2]
     dsimp only
     rw[M7 c]
    ·rw[Nd c] at h;exact absurd rfl h
 ·exact absurd rfl h
def wY {f g:Addr}{fd gd:FuncData}(F:jL K mg "closed" mW ["many","pairs"] f fd)(E:jL K mg "every_pair" jj ["many"] g gd)(B:jQ mg):cX P w K mg base ca "closed" ["many","pairs"] 3 cN:=by
 refine⟨⟨f,fd,F.mg,F.F.kp,F.b,((MO (Ab F E (BC E B) B)).mono (by decide)).imp ?_⟩,λds h=>?_⟩
 ·rintro vs H Q X ⟨G,ds,s,hl,r,h⟩
  have hb:cN ds≠.bad:=λz=>by rw[z] at h;exact h
  obtain⟨n,d,ps,rfl,hd,h1,h8,wn,e⟩:=p6 hb
  rw[e] at h
  cases r with
  |cons r1 r=>
   cases r with
   |cons r2 r=>
    cases r
    cases r1
    obtain⟨a,xs,rfl,hq,hr⟩:=(lA.seq (B:=none) (G:=G) (H:=G) (.inl r2) hd (ak.refl _))
    refine⟨n,a,xs,ps,rfl,h1,h8,hq.elim (λq=>.inl (s.seq q)) (λq=>.inr (q.grow s.grow)),(hr.pairs).grow s.grow,wn,λH' t ws hh ht ht' hp=>?_⟩
    have s2:=s.trans hh
    refine h (.ref t) (lI G H') H' hh rM (vc s2) (λb m hb=>by rw[zx hh m];exact hb) ?_
    exact .tup (qF s2 (.inl (.inl ht'))) (aO.rps (xp s2 hp))
 ·obtain⟨n,d,ps,rfl,_⟩:=p6 h
  rfl
end
end RO
namespace RO
open PySem L2
def strsOf:List Expr->Option (List Str)
 | []=>some []
 | .Constant (.str i) _ _ :: es=>(strsOf es).map λr=>i :: r
 |_=>none
theorem zf {X:Cx}:∀{es:List Expr} {ns:List Str},strsOf es=some ns->PA X es λ_ H Q=>Q (ns.map V.str) H
 | [],ns,h=>by
  have e:ns= []:=by unfold strsOf at h;exact (Option.some.inj h).symm
  subst e
  exact aJ
 |e :: es,ns,h=>by
  unfold strsOf at h
  split at h
  ·cases ‹_ :: _= []›
  ·next i a b es' heq=>
   cases heq
   cases q:strsOf es with
   |none=>rw[q] at h;cases h
   |some r=>
    rw[q] at h
    have e2:i :: r=ns:=Option.some.inj h
    subst e2
    exact ao qx (zf q) rfl
  ·cases h
open RM (ju)
structure Er (mg:Str->Option Value)(R c0 c1 c2 c3 c4 c5 c6 c7 c8 c9 c10 c11:Addr):Prop where
 mR:mg "RankError"=some (.ref R)
 m0:mg "NoOrder"=some (.ref c0)
 m1:mg "NoMany"=some (.ref c1)
 m2:mg "NoPairs"=some (.ref c2)
 m3:mg "Ring"=some (.ref c3)
 m4:mg "NoThing"=some (.ref c4)
 m5:mg "NoRow"=some (.ref c5)
 m6:mg "NoRows"=some (.ref c6)
 m7:mg "NoNumber"=some (.ref c7)
 m8:mg "NoChain"=some (.ref c8)
 m9:mg "NoTurns"=some (.ref c9)
 m10:mg "NoPoints"=some (.ref c10)
 m11:mg "NoText"=some (.ref c11)
structure EU (K:Frag)(D R c0 c1 c2 c3 c4 c5 c6 c7 c8 c9 c10 c11:Addr)(j:Nat):Prop where
 ex:wA K D
 R:PySem.W.kitOne K (.ref D) (.ref R)=some true
 V:PySem.W.kitOne K (.ref D) (.type "ValueError")=some true
 k0:PySem.W.kitOne K (.ref D) (.ref c0)=some (decide (0=j))
 k1:PySem.W.kitOne K (.ref D) (.ref c1)=some (decide (1=j))
 k2:PySem.W.kitOne K (.ref D) (.ref c2)=some (decide (2=j))
 k3:PySem.W.kitOne K (.ref D) (.ref c3)=some (decide (3=j))
 k4:PySem.W.kitOne K (.ref D) (.ref c4)=some (decide (4=j))
 k5:PySem.W.kitOne K (.ref D) (.ref c5)=some (decide (5=j))
 k6:PySem.W.kitOne K (.ref D) (.ref c6)=some (decide (6=j))
 k7:PySem.W.kitOne K (.ref D) (.ref c7)=some (decide (7=j))
 k8:PySem.W.kitOne K (.ref D) (.ref c8)=some (decide (8=j))
 k9:PySem.W.kitOne K (.ref D) (.ref c9)=some (decide (9=j))
 k10:PySem.W.kitOne K (.ref D) (.ref c10)=some (decide (10=j))
 k11:PySem.W.kitOne K (.ref D) (.ref c11)=some (decide (11=j))
 j12:j < 12
section
variable {P:Program}{w:World}{K:Frag}{mg:Str->Option Value}{base:Heap}
def yA (K:Frag)(R c0 c1 c2 c3 c4 c5 c6 c7 c8 c9 c10 c11:Addr):Sp:=λvs H Q _=>∃(ea D:Addr) (j:Nat),vs= [.ref ea]/\H ea=some (.ext (i3 ea (.ref D)))/\EU K D R c0 c1 c2 c3 c4 c5 c6 c7 c8 c9 c10 c11 j/\∀H',ak H H'->Q (.str (ju.getD j "")) H'
def mM:aE ["e","found","words"] ["e"] (aq ku):=⟨rfl,rfl,rfl,by decide +kernel,rfl,by decide +kernel,by decide +kernel⟩
def vA:∃(es:List Expr) (p1 p2 p3:Pos),bO ku=(bO ku).take 5 ++ .Assign [.Name "words" p1] (.List es p2) p3 :: (bO ku).drop 6/\strsOf es=some ju:=⟨_,_,_,_,rfl,by kernel_rfl⟩
def BN (j:Nat):List Bool:=[decide (0=j),decide (1=j),decide (2=j),decide (3=j),decide (4=j),decide (5=j),decide (6=j),decide (7=j),decide (8=j),decide (9=j),decide (10=j),decide (11=j)]
def CN:∀j,j < 12->(BN j).count true=1:=by decide +kernel
def Hz:∀j,j < 12->(BN j).idxOf true=j:=by decide +kernel
def HA:∀j,j < 12->true∈BN j:=by decide +kernel
def Cy (j:Nat)(h:j < 12):kg (ju.map V.str) (j:Int)=some (.str (ju.getD j "")):=by
 have:j=0\/j=1\/j=2\/j=3\/j=4\/j=5\/j=6\/j=7\/j=8\/j=9\/j=10\/j=11:=by omega
 rcases this with rfl |rfl |rfl |rfl |rfl |rfl |rfl |rfl |rfl |rfl |rfl |rfl <;> rfl
def eY {n:Nat}(h:n<=100):n<=sizeLine:=by rw[NA];omega
set_option maxHeartbeats 2000000 in
theorem DL {f R c0 c1 c2 c3 c4 c5 c6 c7 c8 c9 c10 c11:Addr}{fd:FuncData}(F:Fn K mg "_law_marks" ku ["e"] f fd)(e:Er mg R c0 c1 c2 c3 c4 c5 c6 c7 c8 c9 c10 c11)(B:Bt mg)(hv:mg "ValueError"=none):sL P w K mg base yh 1 f fd ["e"] (yA K R c0 c1 c2 c3 c4 c5 c6 c7 c8 c9 c10 c11):=by
 refine F.F.okH mM (λvs H Q E h=>?_) (λcdv A outer s H vs Q E hr h=>?_)
 ·obtain⟨ea,D,j,rfl,_⟩:=h;rfl
 ·obtain⟨ea,D,j,rfl,hx,kt,k⟩:=h
  obtain⟨es,p1,p2,p3,hb,hes⟩:=vA
  rw[hb]
  refine⟨_,b9 (zm (PW.pt (GL (xB (qw (ba bC rfl B.isinstance (by decide +kernel) (ao (pv 0) (ao (cE rfl e.mR (show RelV (.ref R) _ from rfl)) aJ))) λ_=>rfl)) (DO (xB (qw (ba bC rfl B.isinstance (by decide +kernel) (ao (pv 0) (ao (zj rfl hv (by decide +kernel) (show RelV (.ty "ValueError") _ from rfl)) aJ))) λ_=>rfl))))) (di (iM qx)) o5)
   (b9 (ji (i:=1) mM.nd rfl (Or.inl rfl) (nu (ao (ba bC rfl B.isinstance (by decide +kernel) (ao (pv 0) (ao (cE rfl e.m0 (show RelV (.ref c0) _ from rfl)) aJ))) (ao (ba bC rfl B.isinstance (by decide +kernel) (ao (pv 0) (ao (cE rfl e.m1 (show RelV (.ref c1) _ from rfl)) aJ))) (ao (ba bC rfl B.isinstance (by decide +kernel) (ao (pv 0) (ao (cE rfl e.m2 (show RelV (.ref c2) _ from rfl)) aJ))) (ao (ba bC rfl B.isinstance (by decide +kernel) (ao (pv 0) (ao (cE rfl e.m3 (show RelV (.ref c3) _ from rfl)) aJ))) aJ))))))
   (b9 (ji (i:=1) mM.nd rfl (Or.inl rfl) (oy C0 (pv 1) (nu (ao (ba bC rfl B.isinstance (by decide +kernel) (ao (pv 0) (ao (cE rfl e.m4 (show RelV (.ref c4) _ from rfl)) aJ))) (ao (ba bC rfl B.isinstance (by decide +kernel) (ao (pv 0) (ao (cE rfl e.m5 (show RelV (.ref c5) _ from rfl)) aJ))) (ao (ba bC rfl B.isinstance (by decide +kernel) (ao (pv 0) (ao (cE rfl e.m6 (show RelV (.ref c6) _ from rfl)) aJ))) (ao (ba bC rfl B.isinstance (by decide +kernel) (ao (pv 0) (ao (cE rfl e.m7 (show RelV (.ref c7) _ from rfl)) aJ))) aJ)))))))
   (b9 (ji (i:=1) mM.nd rfl (Or.inl rfl) (oy C0 (pv 1) (nu (ao (ba bC rfl B.isinstance (by decide +kernel) (ao (pv 0) (ao (cE rfl e.m8 (show RelV (.ref c8) _ from rfl)) aJ))) (ao (ba bC rfl B.isinstance (by decide +kernel) (ao (pv 0) (ao (cE rfl e.m9 (show RelV (.ref c9) _ from rfl)) aJ))) (ao (ba bC rfl B.isinstance (by decide +kernel) (ao (pv 0) (ao (cE rfl e.m10 (show RelV (.ref c10) _ from rfl)) aJ))) (ao (ba bC rfl B.isinstance (by decide +kernel) (ao (pv 0) (ao (cE rfl e.m11 (show RelV (.ref c11) _ from rfl)) aJ))) aJ)))))))
   (b9 (zm (yM JP (v9 OR PySem.F.slot_list_count PySem.F.type_list_count zU (pv 1) (ao sJ aJ)) nP (a9 _)) (di (iM qx)) o5)
   (b9 (ji (i:=2) mM.nd rfl (Or.inl rfl) (nu (zf hes)))
   (di (iM (kc fB (pv 2) (v9 OR PySem.F.slot_list_index PySem.F.type_list_index z0 (pv 1) (ao sJ aJ)) (λ_ _=>rfl))))))))),?_⟩
  refine⟨_,rfl,ea,D,_,_,true,rfl,λu r=>r,hx,kt.ex,kt.R,_,rfl,qI ?_⟩
  refine⟨_,rfl,ea,D,_,_,true,rfl,λu r=>r,hx,kt.ex,kt.V,_,rfl,qI ?_⟩
  refine⟨_,rfl,ea,D,_,_,_,rfl,λu r=>r,hx,kt.ex,kt.k0,_,rfl,ea,D,_,_,_,rfl,λu r=>r,hx,kt.ex,kt.k1,_,rfl,ea,D,_,_,_,rfl,λu r=>r,hx,kt.ex,kt.k2,_,rfl,ea,D,_,_,_,rfl,λu r=>r,hx,kt.ex,kt.k3,eY (by show 4<=100;omega),λq1 h1=>?_⟩
  have s1:=ak.new (o:=.lst [.bl (decide (0=j)),.bl (decide (1=j)),.bl (decide (2=j)),.bl (decide (3=j))]) h1
  refine⟨_,rfl,_,rfl,ea,D,_,_,_,rfl,λu r=>r,s1 _ _ hx,kt.ex,kt.k4,_,rfl,ea,D,_,_,_,rfl,λu r=>r,s1 _ _ hx,kt.ex,kt.k5,_,rfl,ea,D,_,_,_,rfl,λu r=>r,s1 _ _ hx,kt.ex,kt.k6,_,rfl,ea,D,_,_,_,rfl,λu r=>r,s1 _ _ hx,kt.ex,kt.k7,eY (by show 4<=100;omega),λq2 h2=>?_⟩
  refine⟨q1,q2,_,_,rfl,rfl,ak.new h2 _ _ ah,ah,eY (by show 8<=100;omega),λq3 h3=>?_⟩
  have s2:=s1.trans (ak.new (o:=.lst [.bl (decide (4=j)),.bl (decide (5=j)),.bl (decide (6=j)),.bl (decide (7=j))]) h2)
  have s3:=s2.trans (ak.new (o:=.lst ([.bl (decide (0=j)),.bl (decide (1=j)),.bl (decide (2=j)),.bl (decide (3=j))] ++ [.bl (decide (4=j)),.bl (decide (5=j)),.bl (decide (6=j)),.bl (decide (7=j))])) h3)
  refine⟨_,rfl,_,rfl,ea,D,_,_,_,rfl,λu r=>r,s3 _ _ hx,kt.ex,kt.k8,_,rfl,ea,D,_,_,_,rfl,λu r=>r,s3 _ _ hx,kt.ex,kt.k9,_,rfl,ea,D,_,_,_,rfl,λu r=>r,s3 _ _ hx,kt.ex,kt.k10,_,rfl,ea,D,_,_,_,rfl,λu r=>r,s3 _ _ hx,kt.ex,kt.k11,eY (by show 4<=100;omega),λq4 h4=>?_⟩
  refine⟨q3,q4,_,_,rfl,rfl,ak.new h4 _ _ ah,ah,eY (by show 12<=100;omega),λq5 h5=>?_⟩
  have s5:=(s3.trans (ak.new (o:=.lst [.bl (decide (8=j)),.bl (decide (9=j)),.bl (decide (10=j)),.bl (decide (11=j))]) h4)).trans (ak.new (o:=.lst ([.bl (decide (0=j)),.bl (decide (1=j)),.bl (decide (2=j)),.bl (decide (3=j))] ++ [.bl (decide (4=j)),.bl (decide (5=j)),.bl (decide (6=j)),.bl (decide (7=j))] ++ [.bl (decide (8=j)),.bl (decide (9=j)),.bl (decide (10=j)),.bl (decide (11=j))])) h5)
  refine⟨_,rfl,.inl ⟨rfl,_,.inl (.inl ah)⟩,q5,BN j,true,rfl,rfl,.inl (.inl ah),?_⟩
  rw[CN j kt.j12]
  refine⟨rfl,_,rfl,qI ?_⟩
  refine⟨eY (by show 12<=100;decide),λq6 h6=>?_⟩
  have n56:q5≠q6:=aB ah h6
  refine⟨_,rfl,_,rfl,.inl ⟨rfl,_,.inl (.inl ((au n56).trans ah))⟩,q5,BN j,true,rfl,rfl,.inl (.inl ((au n56).trans ah)),HA j kt.j12,?_⟩
  rw[Hz j kt.j12]
  exact⟨q6,_,_,_,rfl,rfl,.inl (.inl ah),Cy j kt.j12,k _ (s5.trans (ak.new h6))⟩
end
def Ip {P:Program}{w:World}{K:Frag}{mg:Str->Option Value}{base:Heap}{ca:Str->Addr}{f R c0 c1 c2 c3 c4 c5 c6 c7 c8 c9 c10 c11:Addr}{fd:FuncData}{tbl:List (Str×Nat)}(F:jL K mg "_law_marks" ku ["e"] f fd)(e:Er mg R c0 c1 c2 c3 c4 c5 c6 c7 c8 c9 c10 c11)(B:jQ mg)(hv:mg "ValueError"=none)
  (ha:∀c j,tbl.lookup c=some j->Mt K (.ref (ca c)) R/\EU K (ca c) R c0 c1 c2 c3 c4 c5 c6 c7 c8 c9 c10 c11 j):FO P w K mg base ca "RankError" "_law_marks" (RM.AO tbl):=by
 have O:sL P w K mg base yh 1 f fd ["e"] (yA K R c0 c1 c2 c3 c4 c5 c6 c7 c8 c9 c10 c11):=DL F e B hv
 refine⟨f,R,fd,λD x=>∃j,EU K D R c0 c1 c2 c3 c4 c5 c6 c7 c8 c9 c10 c11 j/\x=ju.getD j "",?_,F.mg,F.F.kp,F.b,e.mR,λc z h=>?_⟩
 ·exact⟨λvs H Q E q=>by obtain⟨ea,D,x,rfl,_⟩:=q;rfl,λA outer s H args us vs Q E hr he hb hv' hs=>O.run A outer s H args us vs Q E hr he hb hv' (by
   obtain⟨ea,D,x,rfl,hx,⟨j,kj,rfl⟩,q⟩:=hs
   exact⟨ea,D,j,rfl,hx,kj,q⟩)⟩
 ·unfold RM.AO at h
  cases q:tbl.lookup c with
  |none=>rw[q] at h;cases h
  |some j=>
   rw[q] at h
   cases h
   exact⟨(ha c j q).1,j,(ha c j q).2,rfl⟩
end RO
namespace HD
open PySem PySem.W
noncomputable abbrev De:=@PySem.W.Fast.tw10156331382660048174
noncomputable abbrev Im:=@PySem.W.Fast.tw11892475500146522536
noncomputable abbrev LZ:=@PySem.W.Fast.tw6613529449190102663
noncomputable abbrev HV:=@PySem.W.Fast.tw14364793385576792824
noncomputable abbrev GK:=@PySem.W.Fast.tw17154629097778926822
noncomputable abbrev BV:=@PySem.W.Fast.tw12822647523644345616
noncomputable def DB (p:Program):Thread:=
 ⟨do
  let code <-GK p.main
  let frame <-BV code mainNs mainNs
  let _ <-run (.body (behindTheImports p) {scope:=p.main.scope,locals:=mainNs,globals:=mainNs,cells:=[],code,frame:=some frame})
  ret .none,
  .builtin "claim.caller" {},default,[]⟩
def CA (p:Program):topStub p=DB p:=by
 unfold topStub DB GK BV
 rw[<-PySem.W.Fast.te17154629097778926822,<-PySem.W.Fast.te12822647523644345616]
noncomputable def oU (p:Program)(w:World)(n₀:Nat)(ann:Option Value):Nat->SharedT->Thread->Option SharedT
 | 0,_,_=>none
 |n + 1,s,t=>match through t with
  |true=>some s
  |false=>match LZ n₀ ann t with
   |false=>none
   |true=>match De (Im HV) p w s t with
    |some (s',t')=>oU p w n₀ ann n s' t'
    |none=>none
theorem se {p:Program}{w:World}{n₀:Nat}{ann:Option Value}:∀{n:Nat} {s s':SharedT} {t:Thread},oU p w n₀ ann n s t=some s'->topRun treeTable p w n₀ ann n s.abs t=some s'.abs
 | 0,_,_,_,h=>by cases h
 |n + 1,s,s',t,h=>by
  unfold oU at h
  unfold topRun
  cases ht:through t with
  |true=>rw[ht] at h;cases h;rfl
  |false=>
   rw[ht] at h
   have hq:LZ n₀ ann t=stepOk n₀ ann t:=by unfold LZ;rw[<-PySem.W.Fast.te6613529449190102663]
   dsimp only at h
   rw[hq] at h
   cases hk:stepOk n₀ ann t with
   |false=>rw[hk] at h;cases h
   |true=>
    rw[hk] at h
    have hq:De (Im HV) p w s t=stepT (denote treeTable) p w s t:=by unfold De Im HV;rw[<-PySem.W.Fast.te10156331382660048174,<-PySem.W.Fast.te11892475500146522536,<-PySem.W.Fast.te14364793385576792824]
    dsimp only at h
    rw[hq] at h
    cases hs:stepT (denote treeTable) p w s t with
    |none=>rw[hs] at h;cases h
    |some r=>obtain⟨s₂,t₂⟩:=r;rw[hs] at h;rw[stepT_spec hs];exact se h
def treeOf (l:List Obj):BT:=(l.foldl (λ(x:BT×Nat) o=>(x.1.ins x.2 o,x.2 + 1)) (.nil,0)).1
noncomputable def DN (P:Params):BT:=treeOf (boot_heap P).objs.toList
abbrev u6:Nat:=11
abbrev Bx:Life:={}
def boot_abs (P:Params):absHeap (DN P) u6 Bx=boot_heap P:=by kernel_rfl
def zL (w:World):((boot_heap w.params).isNs mainGlobals && (Array.mk ([]:List GenState)).size == 0,(boot_heap w.params).objs.size,(boot_heap w.params).nsMap mainGlobals "__annotations__")=(true,u6,some (.ref 6)):=by kernel_rfl
noncomputable def Bs (w:World)(os:OsState):SharedT:=⟨DN w.params,u6,Bx,Array.mk [],boot_drawn,boot_toks,os⟩
noncomputable def Gw (p:Program)(w:World)(s:Shared):Bool:=staticsOk (importedModules p.main.body) (boot_heap w.params) s.heap && namesBound p s.heap && gensDone s && laidKept (boot_heap w.params) s.heap
def Ga {p q:Program}{loose:List Str}{Xt:Shared->Bool}{α:Type}{Yf:Shared->α}{Ya:World->α}{N:Nat}{g0:Bool}
  (e:opening p=plainProg p.main.scope.names) (hN:Nat.ble 600 N=true) (f:∀s,fenceModules? p s=some s)
  (run:∀(w:World) (os:OsState),(oU p w u6 (some (.ref 6)) N (Bs w os) (DB p)).map (λs=>(Gw p w s.abs,openSeen q loose (importedModules p.main.body) Xt g0 s.abs,Yf s.abs))=some (true,openGood q loose,Ya w)):LeftO p q loose Xt Yf Ya N g0:=λw=>by
 obtain⟨⟨h,gs,d,k,os⟩,e,e'⟩:=Pw.mp (boot_open e hN f w)
 obtain⟨rfl,rfl,rfl,rfl⟩:h=boot_heap w.params/\gs=Array.mk []/\d=boot_drawn/\k=boot_toks:=by simpa using e'
 obtain⟨z1,z2,z3⟩:_/\_/\_:=by simpa only [Prod.mk.injEq] using zL w
 obtain⟨s',r,ls⟩:=Pw.mp (run w os)
 obtain⟨l1,l2,l3⟩:_/\_/\_:=by simpa only [Prod.mk.injEq] using ls
 have r:=se r
 have ha:(Bs w os).abs=⟨boot_heap w.params,Array.mk [],boot_drawn,boot_toks,os⟩:=by
  show Shared.mk (absHeap (DN w.params) u6 Bx) _ _ _ _=_
  rw[boot_abs]
  rfl
 rw[ha,<-CA] at r
 have t:topFrom treeTable p w N ⟨boot_heap w.params,Array.mk [],boot_drawn,boot_toks,os⟩=some s'.abs:=by
  unfold topFrom
  dsimp only
  rw[z1,z2,z3,r]
  show (match Gw p w s'.abs with |true=>_ |false=>_)=_
  rw[l1]
 unfold openEnds
 rw[e]
 show (topFrom treeTable p w N _).map _=_
 rw[t]
 exact congrArg some (Prod.ext l2 l3)
end HD
section
namespace RO
open PySem L2 RM
def yz (K:Frag):Sp:=λvs H Q _=>∃(a:Addr) (ns:List Int),vs= [.ref a]/\dZ K H a (ns.map V.int)/\∀H',ak H H'->Q (.bl true) H'
def HW {K:Frag}{ca:Str->Addr}(vs:List V)(H:Hp)(Q:VK)(E:XK)(h:yz K vs H Q E):DY K ca 1 Ht vs H Q E:=by
 obtain⟨a,ns,rfl,hS,q⟩:=h
 refine⟨H,[cJ ns],ak.refl _,rfl,.cons (.scr hS) .nil,?_⟩
 rw[Kj]
 intro v G' H' s1 s2 s3 s4 fv
 have fv:Rp K G' v (.bool true):=fv
 cases fv
 exact q H' s1
def uq:aV "_law_marks" ku ["e"]:=λ_ _ _ _ _ _=>Ar λ_=>rfl
def xh:aV "is_whole" RQ.jP ["thing"]:=λ_ _ _ _ _ _=>Ar λ_=>rfl
def yu:aV "is_below" RQ.jv ["thing","bound"]:=λ_ _ _ _ _ _=>ln2 λ_ _=>rfl
def AF:aV "is_many" RQ.kN ["thing"]:=λ_ _ _ _ _ _=>Ar λ_=>rfl
def zO:aV "is_pair" RQ.kW ["thing","many"]:=λ_ _ _ _ _ _=>ln2 λ_ _=>rfl
def tL:aV "every_pair" RQ.dS ["many"]:=λ_ _ _ _ _ _=>Ar λ_=>rfl
def Cv:aV "closed" mW ["many","pairs"]:=λ_ _ _ _ _ _=>ln2 λ_ _=>rfl
def xA:aV "has_ring" RQ.jw ["pairs"]:=λ_ _ _ _ _ _=>Ar λ_=>rfl
def yi:aV "is_order" RQ.jy ["thing"]:=λ_ _ _ _ _ _=>Ar λ_=>rfl
def ur:aV "need_order" RQ.gJ ["thing"]:=λ_ _ _ _ _ _=>Ar λ_=>rfl
def wB:aV "are_apart" RQ.iq ["order","a","b"]:=λ_ _ _ _ _ _=>K2 λ_ _ _=>rfl
def tY:aV "with_thing" RQ.gx ["placed","thing"]:=λ_ _ _ _ _ _=>ln2 λ_ _=>rfl
def qL:aV "masks_ahead" RQ.fw ["order"]:=λ_ _ _ _ _ _=>Ar λ_=>rfl
def rE:aV "free_things" RQ.fC ["masks","placed"]:=λ_ _ _ _ _ _=>ln2 λ_ _=>rfl
def vh:aV "row_along" RQ.iC ["masks","late"]:=λ_ _ _ _ _ _=>ln2 λ_ _=>rfl
def Iu:aV "fits" RQ.uv ["order","chain","thing"]:=λ_ _ _ _ _ _=>K2 λ_ _ _=>rfl
def xo:aV "is_chain" RQ.jm ["thing","order"]:=λ_ _ _ _ _ _=>ln2 λ_ _=>rfl
def vL:aV "chain_row" RQ.iI ["order","chain"]:=λ_ _ _ _ _ _=>ln2 λ_ _=>rfl
def wL:aV "_law_cell" RQ.iG ["script","k"]:=λ_ _ _ _ _ _=>ln2 λ_ _=>rfl
def wW:aV "_law_mix" RQ.eT ["cell","k"]:=λ_ _ _ _ _ _=>ln2 λ_ _=>rfl
def yp:aV "_law_box" RQ.jl ["script","k"]:=λ_ _ _ _ _ _=>ln2 λ_ _=>rfl
def wb:aV "_law_take" RQ.iu ["box","many"]:=λ_ _ _ _ _ _=>ln2 λ_ _=>rfl
def uN:aV "_law_whole" RQ.gp ["thing"]:=λ_ _ _ _ _ _=>Ar λ_=>rfl
def xt:aV "_law_odd" RQ.jD ["box"]:=λ_ _ _ _ _ _=>Ar λ_=>rfl
def oN:aV "_law_mixed_up" RQ.dh ["box","some"]:=λ_ _ _ _ _ _=>ln2 λ_ _=>rfl
def rq:aV "_law_closed" RQ.fH ["pairs"]:=λ_ _ _ _ _ _=>Ar λ_=>rfl
def uw:aV "_law_order" RQ.gq ["box","most"]:=λ_ _ _ _ _ _=>ln2 λ_ _=>rfl
def uh:aV "_law_apart" RQ.gu ["order","a","b"]:=λ_ _ _ _ _ _=>K2 λ_ _ _=>rfl
def uG:aV "_law_turns" RQ.gA ["order"]:=λ_ _ _ _ _ _=>Ar λ_=>rfl
def wd:aV "_law_fits" RQ.iE ["order","row"]:=λ_ _ _ _ _ _=>ln2 λ_ _=>rfl
def qS:aV "_law_is_row" RQ.fo ["thing","many"]:=λ_ _ _ _ _ _=>ln2 λ_ _=>rfl
def v7:aV "_law_said" RQ.iw ["order","thing"]:=λ_ _ _ _ _ _=>ln2 λ_ _=>rfl
def tS:aV "_law_chain" RQ.gr ["box","order"]:=λ_ _ _ _ _ _=>ln2 λ_ _=>rfl
def sV:aV "_law_right" RQ.gy ["row","order","chain"]:=λ_ _ _ _ _ _=>K2 λ_ _ _=>rfl
def all_mk {l:PySem.W.OpenLaw}{w:World}{K:Frag}{h:Heap}{mg:Str->Option Value}{fa f35 R q0 q1 q2 q3 q4 q5 q6 q7 q8 q9 q10 q11:Addr}(X:K.In h)(G:h.Ns mainGlobals mg)(hfa:mg "law"=some (.ref fa))
  {od35 an35:Option Addr} {sl35:Array (Option Value)} {oc35 kV35 dc35 pm35 cd35 ct35:Value} {tMOST_THINGS:Tok}
  (F1:Fo K mg "_law_marks" ku ["e"])
  (F2:Fo K mg "is_whole" RQ.jP ["thing"])
  (F3:Fo K mg "is_below" RQ.jv ["thing","bound"])
  (F4:Fo K mg "is_many" RQ.kN ["thing"])
  (F5:Fo K mg "is_pair" RQ.kW ["thing","many"])
  (F6:Fo K mg "every_pair" RQ.dS ["many"])
  (F7:Fo K mg "closed" mW ["many","pairs"])
  (F8:Fo K mg "has_ring" RQ.jw ["pairs"])
  (F9:Fo K mg "is_order" RQ.jy ["thing"])
  (F10:Fo K mg "need_order" RQ.gJ ["thing"])
  (F11:Fo K mg "are_apart" RQ.iq ["order","a","b"])
  (F12:Fo K mg "with_thing" RQ.gx ["placed","thing"])
  (F13:Fo K mg "masks_ahead" RQ.fw ["order"])
  (F14:Fo K mg "free_things" RQ.fC ["masks","placed"])
  (F15:Fo K mg "row_along" RQ.iC ["masks","late"])
  (F16:Fo K mg "fits" RQ.uv ["order","chain","thing"])
  (F17:Fo K mg "is_chain" RQ.jm ["thing","order"])
  (F18:Fo K mg "chain_row" RQ.iI ["order","chain"])
  (F19:Fo K mg "_law_cell" RQ.iG ["script","k"])
  (F20:Fo K mg "_law_mix" RQ.eT ["cell","k"])
  (F21:Fo K mg "_law_box" RQ.jl ["script","k"])
  (F22:Fo K mg "_law_take" RQ.iu ["box","many"])
  (F23:Fo K mg "_law_whole" RQ.gp ["thing"])
  (F24:Fo K mg "_law_odd" RQ.jD ["box"])
  (F25:Fo K mg "_law_mixed_up" RQ.dh ["box","some"])
  (F26:Fo K mg "_law_closed" RQ.fH ["pairs"])
  (F27:Fo K mg "_law_order" RQ.gq ["box","most"])
  (F28:Fo K mg "_law_apart" RQ.gu ["order","a","b"])
  (F29:Fo K mg "_law_turns" RQ.gA ["order"])
  (F30:Fo K mg "_law_fits" RQ.iE ["order","row"])
  (F31:Fo K mg "_law_is_row" RQ.fo ["thing","many"])
  (F32:Fo K mg "_law_said" RQ.iw ["order","thing"])
  (F33:Fo K mg "_law_chain" RQ.gr ["box","order"])
  (F34:Fo K mg "_law_right" RQ.gy ["row","order","chain"])
  (a35:PySem.W.nsIn K mainGlobals "law"=some (some (.ref f35))) (l35:K.lookup f35=some ⟨oc35,od35,.func (PySem.W.fnOf "law" "law" (iF RQ.lj) (bO RQ.lj) (aq RQ.lj) .none kV35 dc35 pm35 an35 cd35 ct35),sl35⟩) (c35:PySem.W.codeIn K cd35 "law"=true) (k35:PySem.W.keepIn K (.ref f35)=true)
  (zB:L6 K=true)
  (yMOST_THINGS:PySem.W.nsIn K mainGlobals "MOST_THINGS"=some (some (.int 8 tMOST_THINGS)))
  (mR:PySem.W.nsIn K mainGlobals "RankError"=some (some (.ref R)))
  (n0:PySem.W.nsIn K mainGlobals "NoOrder"=some (some (.ref q0)))
  (n1:PySem.W.nsIn K mainGlobals "NoMany"=some (some (.ref q1)))
  (n2:PySem.W.nsIn K mainGlobals "NoPairs"=some (some (.ref q2)))
  (n3:PySem.W.nsIn K mainGlobals "Ring"=some (some (.ref q3)))
  (n4:PySem.W.nsIn K mainGlobals "NoThing"=some (some (.ref q4)))
  (n5:PySem.W.nsIn K mainGlobals "NoRow"=some (some (.ref q5)))
  (n6:PySem.W.nsIn K mainGlobals "NoRows"=some (some (.ref q6)))
  (n7:PySem.W.nsIn K mainGlobals "NoNumber"=some (some (.ref q7)))
  (n8:PySem.W.nsIn K mainGlobals "NoChain"=some (some (.ref q8)))
  (n9:PySem.W.nsIn K mainGlobals "NoTurns"=some (some (.ref q9)))
  (n10:PySem.W.nsIn K mainGlobals "NoPoints"=some (some (.ref q10)))
  (n11:PySem.W.nsIn K mainGlobals "NoText"=some (some (.ref q11)))
  (zV:PySem.W.nsIn K mainGlobals "ValueError"=some none)
  (eR:PySem.W.excIn K R [.type "ValueError",.type "Exception",.type "BaseException",.type "object"] "ValueError.__new__"=true)
  (e0:PySem.W.excIn K q8 [.type "ValueError",.type "Exception",.type "BaseException",.type "object"] "ValueError.__new__"=true)
  (e1:PySem.W.excIn K q0 [.type "ValueError",.type "Exception",.type "BaseException",.type "object"] "ValueError.__new__"=true)
  (GV:(L2.mroIn K q8).contains (.ref R)=true)
  (g1_8:(PySem.W.clsIn K q8).isSome=true)
  (g2_8:PySem.W.findIn K (.ref q8) "__getattribute__"=some (some (.builtin "BaseException.__getattribute__")))
  (g3_8:PySem.W.findIn K (.ref q8) "__getattr__"=some none)
  (g4_8:PySem.W.findIn K (.ref q8) "__class__"=some (some (.builtin "object.__class__")))
  (g7_8:PySem.W.mroIn K q8 (.type "object")=some true)
  (g8_8:PySem.W.mroIn K q8 (.type "BaseException")=some true)
  (kR8:PySem.W.kitOne K (.ref q8) (.ref R)=some true)
  (kV8:PySem.W.kitOne K (.ref q8) (.type "ValueError")=some true)
  (kt8_0:PySem.W.kitOne K (.ref q8) (.ref q0)=some false)
  (kt8_1:PySem.W.kitOne K (.ref q8) (.ref q1)=some false)
  (kt8_2:PySem.W.kitOne K (.ref q8) (.ref q2)=some false)
  (kt8_3:PySem.W.kitOne K (.ref q8) (.ref q3)=some false)
  (kt8_4:PySem.W.kitOne K (.ref q8) (.ref q4)=some false)
  (kt8_5:PySem.W.kitOne K (.ref q8) (.ref q5)=some false)
  (kt8_6:PySem.W.kitOne K (.ref q8) (.ref q6)=some false)
  (kt8_7:PySem.W.kitOne K (.ref q8) (.ref q7)=some false)
  (kt8_8:PySem.W.kitOne K (.ref q8) (.ref q8)=some true)
  (kt8_9:PySem.W.kitOne K (.ref q8) (.ref q9)=some false)
  (kt8_10:PySem.W.kitOne K (.ref q8) (.ref q10)=some false)
  (kt8_11:PySem.W.kitOne K (.ref q8) (.ref q11)=some false)
  (g5:PySem.W.specialIn K (.builtin "object.__class__") "__get__"=some (some (.builtin "getset_descriptor.__get__")))
  (g6:PySem.W.takesIn K (.builtin "object.__class__")=some true)
  :∃fd:FuncData,(∀(s:Shared) (v:Value),BindsTo s fd ⟨[v],[]⟩ [("script",v)])/\∀base:Heap,K.In base->base.Ns mainGlobals mg->fJ l.prog w K mg base (mE l.prog w) 8 fa fd ["script"] (yz K):=by
 have e:=hfa.symm.trans (NW X G a35)
 cases e
 have B:jQ mg:=Ky X G zB
 have iV:=NW X G yMOST_THINGS
 obtain⟨f1,d1,um⟩:=F1.ex
 obtain⟨f2,d2,bL⟩:=F2.ex
 obtain⟨f3,d3,bD⟩:=F3.ex
 obtain⟨f4,d4,gP⟩:=F4.ex
 obtain⟨f5,d5,gQ⟩:=F5.ex
 obtain⟨f6,d6,mZ⟩:=F6.ex
 obtain⟨f7,d7,i4⟩:=F7.ex
 obtain⟨f8,d8,fm⟩:=F8.ex
 obtain⟨f9,d9,eS⟩:=F9.ex
 obtain⟨f10,d10,cQ⟩:=F10.ex
 obtain⟨f11,d11,dA⟩:=F11.ex
 obtain⟨f12,d12,aM⟩:=F12.ex
 obtain⟨f13,d13,cv⟩:=F13.ex
 obtain⟨f14,d14,cw⟩:=F14.ex
 obtain⟨f15,d15,dB⟩:=F15.ex
 obtain⟨f16,d16,nM⟩:=F16.ex
 obtain⟨f17,d17,eV⟩:=F17.ex
 obtain⟨f18,d18,dw⟩:=F18.ex
 obtain⟨f19,d19,dE⟩:=F19.ex
 obtain⟨f20,d20,eN⟩:=F20.ex
 obtain⟨f21,d21,fg⟩:=F21.ex
 obtain⟨f22,d22,aC⟩:=F22.ex
 obtain⟨f23,d23,cV⟩:=F23.ex
 obtain⟨f24,d24,e8⟩:=F24.ex
 obtain⟨f25,d25,aQ⟩:=F25.ex
 obtain⟨f26,d26,cy⟩:=F26.ex
 obtain⟨f27,d27,cW⟩:=F27.ex
 obtain⟨f28,d28,aN⟩:=F28.ex
 obtain⟨f29,d29,cL⟩:=F29.ex
 obtain⟨f30,d30,dv⟩:=F30.ex
 obtain⟨f31,d31,cx⟩:=F31.ex
 obtain⟨f32,d32,bW⟩:=F32.ex
 obtain⟨f33,d33,cR⟩:=F33.ex
 obtain⟨f34,d34,cP⟩:=F34.ex
 have U35:=xV (st:=RQ.lj) l35 c35 k35
 have Jq:jL K mg "law" RQ.lj ["script"] fa _:=⟨NW X G a35,U35,U35.binds (ps:=["script"]) λ_ _ _ _ _ _=>Ar λ_=>rfl⟩
 obtain⟨ca,hca⟩:∃ca:Str->Addr,ca "NoChain"=q8/\ca "NoOrder"=q0:=⟨λs=>if s="NoChain" then q8 else if s="NoOrder" then q0 else 0,by first |rfl |decide |simp,by first |rfl |decide |simp⟩
 have i5:Exc K mg ca "NoChain":=⟨by rw[hca.1];exact NW X G n8,by rw[hca.1];exact e0⟩
 have ja:Exc K mg ca "NoOrder":=⟨by rw[hca.2];exact NW X G n0,by rw[hca.2];exact e1⟩
 refine⟨PySem.W.fnOf "law" "law" (iF RQ.lj) (bO RQ.lj) (aq RQ.lj) .none kV35 dc35 pm35 an35 cd35 ct35,λs v=>.of_eq rfl,λbase _ _=>?_⟩
 have er:Er mg R q0 q1 q2 q3 q4 q5 q6 q7 q8 q9 q10 q11:=⟨NW X G mR,NW X G n0,NW X G n1,NW X G n2,NW X G n3,NW X G n4,NW X G n5,NW X G n6,NW X G n7,NW X G n8,NW X G n9,NW X G n10,NW X G n11⟩
 have kt8:EU K q8 R q0 q1 q2 q3 q4 q5 q6 q7 q8 q9 q10 q11 8:=⟨⟨g1_8,g2_8,g3_8,g4_8,g5,g6,g7_8,g8_8⟩,kR8,kV8,kt8_0,kt8_1,kt8_2,kt8_3,kt8_4,kt8_5,kt8_6,kt8_7,kt8_8,kt8_9,kt8_10,kt8_11,by decide⟩
 have mt8:Mt K (.ref q8) R:=KW e0 eR (by decide) GV
 have MK:FO l.prog w K mg base ca "RankError" "_law_marks" (RM.AO Dm):=by
  refine Ip um er B (PySem.W.mg_none_of X G zV) λc j h=>?_
  unfold Dm at h
  by_cases z8:c="NoChain"
  ·subst z8
   cases h
   rw[hca.1];exact⟨mt8,kt8⟩
  simp only[Pf,List.lookup_nil,beq_false_of_ne z8] at h
  cases h
 have eZ:=(RQ.tM (P:=l.prog) (w:=w) (base:=base) (ca:=ca) bL B).imp yN
 have dq:=(RQ.uy (P:=l.prog) (w:=w) (base:=base) (ca:=ca) bD B eZ).imp EC
 have nJ:=(RQ.wz (P:=l.prog) (w:=w) (base:=base) (ca:=ca) gP B eZ iV).imp G6
 have nv:=(RQ.vD (P:=l.prog) (w:=w) (base:=base) (ca:=ca) gQ B dq).imp HF
 have FK:=RQ.pj (P:=l.prog) (w:=w) (base:=base) (ca:=ca) mZ B
 have pO:=wY (P:=l.prog) (w:=w) (base:=base) (ca:=ca) i4 mZ B
 have ly:=(RQ.uL (P:=l.prog) (w:=w) (base:=base) (ca:=ca) fm B).imp Hd
 have lC:=(RQ.sX (P:=l.prog) (w:=w) (base:=base) (ca:=ca) eS B nJ nv pO ly).imp xO
 have jN:=(RQ.pI (P:=l.prog) (w:=w) (base:=base) (ca:=ca) cQ B lC ja).imp Fb
 have ki:=RQ.qQ (P:=l.prog) (w:=w) (base:=base) (ca:=ca) dA B
 have bG:=RQ.pR (P:=l.prog) (w:=w) (base:=base) (ca:=ca) aM B
 have iW:=RQ.oG (P:=l.prog) (w:=w) (base:=base) (ca:=ca) cv B bG
 have iX:=RQ.oH (P:=l.prog) (w:=w) (base:=base) (ca:=ca) cw B bG
 have j7:=RQ.rn (P:=l.prog) (w:=w) (base:=base) (ca:=ca) dB B iX bG
 have xZ:=RQ.C6 (P:=l.prog) (w:=w) (base:=base) (ca:=ca) nM B ki
 have lG:=RQ.ua (P:=l.prog) (w:=w) (base:=base) (ca:=ca) eV B dq xZ
 have kB:=RQ.rA (P:=l.prog) (w:=w) (base:=base) (ca:=ca) dw B jN lG j7 iW i5
 have kn:=RQ.qK (P:=l.prog) (w:=w) (base:=base) (ca:=ca) dE B
 have lZ:=RQ.tE (P:=l.prog) (w:=w) (base:=base) (ca:=ca) eN B
 have lF:=RQ.uJ (P:=l.prog) (w:=w) (base:=base) (ca:=ca) fg B kn lZ
 have aW:=RQ.qV (P:=l.prog) (w:=w) (base:=base) aC B
 have jk:=RQ.pD (P:=l.prog) (w:=w) (base:=base) (ca:=ca) cV B
 have lE:=RQ.uz (P:=l.prog) (w:=w) (base:=base) e8 B aW
 have bQ:=RQ.mh (P:=l.prog) (w:=w) (base:=base) aQ B aW
 have iP:=RQ.oM (P:=l.prog) (w:=w) (base:=base) (ca:=ca) cy B
 have jE:=RQ.pQ (P:=l.prog) (w:=w) (base:=base) (ca:=ca) cW B iP aW bQ
 have bH:=RQ.qB (P:=l.prog) (w:=w) (base:=base) (ca:=ca) aN B
 have js:=RQ.pJ (P:=l.prog) (w:=w) (base:=base) (ca:=ca) cL B bH
 have kh:=RQ.qM (P:=l.prog) (w:=w) (base:=base) (ca:=ca) dv B
 have iR:=RQ.oR (P:=l.prog) (w:=w) (base:=base) (ca:=ca) cx B jk
 have dz:=RQ.qN (P:=l.prog) (w:=w) (base:=base) (ca:=ca) bW B kB MK
 have jx:=RQ.qr (P:=l.prog) (w:=w) (base:=base) (ca:=ca) cR B bH bQ aW
 have jq:=RQ.qi (P:=l.prog) (w:=w) (base:=base) (ca:=ca) cP B iR kh bH
 have Kz:=RQ.D5 (P:=l.prog) (w:=w) (base:=base) (ca:=ca) Jq B lF dz jq js jE jx lE
 exact fJ.imp (sp:=DY K ca 1 Ht) Kz HW
def walk {l:PySem.W.OpenLaw}{q:Program}{loose:List Str}{XP:(Str->Option Value)->Heap->Prop}{YP:World->Heap->Prop}{d:DefRec}{K:Params->Frag}(hn:l.most=some 63)(hdf:d.params.defaults= [])(hi:PyProof.Rows.importsNone q=true)
  (hY:∀(w:World) (h:Heap),YP w h->(K w.params).In h)
  (F:∀(w:World) (mg:Str->Option Value) (fa:Addr) (h:Heap),(K w.params).In h->h.Ns mainGlobals mg->mg d.name=some (.ref fa)->
   ∃fd:FuncData,(∀(s:Shared) (u:Value),BindsTo s fd ⟨[u],[]⟩ [("script",u)])/\∀base:Heap,(K w.params).In base->base.Ns mainGlobals mg->fJ l.prog w (K w.params) mg base (mE l.prog w) 8 fa fd ["script"] (yz (K w.params))) :
  PySem.W.WalkO q loose XP YP l.row.toRowW d [] (λf vs=>PySem.call f vs):=
 L2.Gg (n:=63) (k:=8) (x:="script") (CX:=λw=>mE l.prog w) (sp:=λw=>yz (K w.params)) hn (by decide) hdf hi ⟨rfl,by decide,by decide,rfl⟩ hY F (λ_ _ a ns hl _ hS=>⟨a,ns,rfl,hS,λ_ _=>rfl⟩) λ_ _ _ _ _ z=>by
  obtain⟨_,_,_,_,_,_,_,_,_,z⟩:=z
  exact z
end RO
namespace HD
noncomputable def vw:PySem.Program:=PySem.W.view PySem.Challenge.pw_rowsorder_k19_rows_for_chains [1,2,3,4,5,6,8,9,10,11,12,13,14,15,16,17,18,19,20,22,23,24,25,26,28,29,30,31,33,34,35,37,38,39,40,41,42,43,44,45,46,47,48,49,50,51,52,53,54]
def JQ:PySem.Challenge.rw_rowsorder_k19_rows_for_chains.wellSaid=true:=by kernel_rfl
end HD
local macro_rules | `(tactic|o_head $H)=>`(tactic| (
 refine PySem.W.holds_open (q:=HD.vw) (loose:=[]) (Xt:=λs=>PySem.W.xlAt HD.vw [] s && PySem.W.recOk (PySem.W.RowW.records _) s) (XP:=PySem.W.XL HD.vw []) (Yf:=PySem.W.Hook.obs $H) (Ya:=PySem.W.Hook.val $H) (YP:=PySem.W.Hook.says $H) (N:=7868) ?hl (PySem.W.Hook.of $H) (PySem.W.Hook.keeps $H) (λs e=>PySem.W.xl_of s (Bool.and_eq_true_iff.mp e).1) PySem.W.XL.keeps (by rfl) (by rfl) (by rfl) (λs e=>PySem.W.recFacts_of (Bool.and_eq_true_iff.mp e).2) (by rfl) (by first |assumption |decide +kernel) (by decide +kernel) ⟨rfl,rfl,rfl,rfl,rfl,by decide +kernel⟩ ?hw ?hc
 case hl=>exact HD.Ga (by kernel_rfl) (by kernel_rfl) (λs=>by kernel_rfl) (λw os=>by kernel_rfl)))
open PySem PySem.W PyProof.Rows L2
set_option maxRecDepth 100000 in
set_option maxHeartbeats 0 in
theorem PySem.Challenge.cw_rowsorder_k19_rows_for_chains_holds : PySem.Challenge.rw_rowsorder_k19_rows_for_chains.Holds := by
 w_on;(refine holds_law HD.JQ λJQ=>?_);k_head;(case hw=>w_witness2)
 k_fill
 refine RO.walk (l:=PySem.Challenge.rw_rowsorder_k19_rows_for_chains) rfl rfl ?hi (λw h Y=>PySem.W.kIn_of Y) ?F
 case hi=>kernel_rfl
 case F=>
  intro w mg fa h KX G hmg
  refine' RO.all_mk KX G hmg ?F1 ?F2 ?F3 ?F4 ?F5 ?F6 ?F7 ?F8 ?F9 ?F10 ?F11 ?F12 ?F13 ?F14 ?F15 ?F16 ?F17 ?F18 ?F19 ?F20 ?F21 ?F22 ?F23 ?F24 ?F25 ?F26 ?F27 ?F28 ?F29 ?F30 ?F31 ?F32 ?F33 ?F34 ?a35 ?l35 ?c35 ?k35 ?zB ?yMOST_THINGS ?mR ?n0 ?n1 ?n2 ?n3 ?n4 ?n5 ?n6 ?n7 ?n8 ?n9 ?n10 ?n11 ?zV ?eR ?e0 ?e1 ?GV ?g1_8 ?g2_8 ?g3_8 ?g4_8 ?g7_8 ?g8_8 ?kR8 ?kV8 ?kt8_0 ?kt8_1 ?kt8_2 ?kt8_3 ?kt8_4 ?kt8_5 ?kt8_6 ?kt8_7 ?kt8_8 ?kt8_9 ?kt8_10 ?kt8_11 ?g5 ?g6
  case F1=>refine' bB KX G RO.uq ?a ?l ?c ?k;(case a=>k_is);(case l=>k_is);(case c=>k_is);(case k=>k_is)
  case F2=>refine' bB KX G RO.xh ?a ?l ?c ?k;(case a=>k_is);(case l=>k_is);(case c=>k_is);(case k=>k_is)
  case F3=>refine' bB KX G RO.yu ?a ?l ?c ?k;(case a=>k_is);(case l=>k_is);(case c=>k_is);(case k=>k_is)
  case F4=>refine' bB KX G RO.AF ?a ?l ?c ?k;(case a=>k_is);(case l=>k_is);(case c=>k_is);(case k=>k_is)
  case F5=>refine' bB KX G RO.zO ?a ?l ?c ?k;(case a=>k_is);(case l=>k_is);(case c=>k_is);(case k=>k_is)
  case F6=>refine' bB KX G RO.tL ?a ?l ?c ?k;(case a=>k_is);(case l=>k_is);(case c=>k_is);(case k=>k_is)
  case F7=>refine' bB KX G RO.Cv ?a ?l ?c ?k;(case a=>k_is);(case l=>k_is);(case c=>k_is);(case k=>k_is)
  case F8=>refine' bB KX G RO.xA ?a ?l ?c ?k;(case a=>k_is);(case l=>k_is);(case c=>k_is);(case k=>k_is)
  case F9=>refine' bB KX G RO.yi ?a ?l ?c ?k;(case a=>k_is);(case l=>k_is);(case c=>k_is);(case k=>k_is)
  case F10=>refine' bB KX G RO.ur ?a ?l ?c ?k;(case a=>k_is);(case l=>k_is);(case c=>k_is);(case k=>k_is)
  case F11=>refine' bB KX G RO.wB ?a ?l ?c ?k;(case a=>k_is);(case l=>k_is);(case c=>k_is);(case k=>k_is)
  case F12=>refine' bB KX G RO.tY ?a ?l ?c ?k;(case a=>k_is);(case l=>k_is);(case c=>k_is);(case k=>k_is)
  case F13=>refine' bB KX G RO.qL ?a ?l ?c ?k;(case a=>k_is);(case l=>k_is);(case c=>k_is);(case k=>k_is)
  case F14=>refine' bB KX G RO.rE ?a ?l ?c ?k;(case a=>k_is);(case l=>k_is);(case c=>k_is);(case k=>k_is)
  case F15=>refine' bB KX G RO.vh ?a ?l ?c ?k;(case a=>k_is);(case l=>k_is);(case c=>k_is);(case k=>k_is)
  case F16=>refine' bB KX G RO.Iu ?a ?l ?c ?k;(case a=>k_is);(case l=>k_is);(case c=>k_is);(case k=>k_is)
  case F17=>refine' bB KX G RO.xo ?a ?l ?c ?k;(case a=>k_is);(case l=>k_is);(case c=>k_is);(case k=>k_is)
  case F18=>refine' bB KX G RO.vL ?a ?l ?c ?k;(case a=>k_is);(case l=>k_is);(case c=>k_is);(case k=>k_is)
  case F19=>refine' bB KX G RO.wL ?a ?l ?c ?k;(case a=>k_is);(case l=>k_is);(case c=>k_is);(case k=>k_is)
  case F20=>refine' bB KX G RO.wW ?a ?l ?c ?k;(case a=>k_is);(case l=>k_is);(case c=>k_is);(case k=>k_is)
  case F21=>refine' bB KX G RO.yp ?a ?l ?c ?k;(case a=>k_is);(case l=>k_is);(case c=>k_is);(case k=>k_is)
  case F22=>refine' bB KX G RO.wb ?a ?l ?c ?k;(case a=>k_is);(case l=>k_is);(case c=>k_is);(case k=>k_is)
  case F23=>refine' bB KX G RO.uN ?a ?l ?c ?k;(case a=>k_is);(case l=>k_is);(case c=>k_is);(case k=>k_is)
  case F24=>refine' bB KX G RO.xt ?a ?l ?c ?k;(case a=>k_is);(case l=>k_is);(case c=>k_is);(case k=>k_is)
  case F25=>refine' bB KX G RO.oN ?a ?l ?c ?k;(case a=>k_is);(case l=>k_is);(case c=>k_is);(case k=>k_is)
  case F26=>refine' bB KX G RO.rq ?a ?l ?c ?k;(case a=>k_is);(case l=>k_is);(case c=>k_is);(case k=>k_is)
  case F27=>refine' bB KX G RO.uw ?a ?l ?c ?k;(case a=>k_is);(case l=>k_is);(case c=>k_is);(case k=>k_is)
  case F28=>refine' bB KX G RO.uh ?a ?l ?c ?k;(case a=>k_is);(case l=>k_is);(case c=>k_is);(case k=>k_is)
  case F29=>refine' bB KX G RO.uG ?a ?l ?c ?k;(case a=>k_is);(case l=>k_is);(case c=>k_is);(case k=>k_is)
  case F30=>refine' bB KX G RO.wd ?a ?l ?c ?k;(case a=>k_is);(case l=>k_is);(case c=>k_is);(case k=>k_is)
  case F31=>refine' bB KX G RO.qS ?a ?l ?c ?k;(case a=>k_is);(case l=>k_is);(case c=>k_is);(case k=>k_is)
  case F32=>refine' bB KX G RO.v7 ?a ?l ?c ?k;(case a=>k_is);(case l=>k_is);(case c=>k_is);(case k=>k_is)
  case F33=>refine' bB KX G RO.tS ?a ?l ?c ?k;(case a=>k_is);(case l=>k_is);(case c=>k_is);(case k=>k_is)
  case F34=>refine' bB KX G RO.sV ?a ?l ?c ?k;(case a=>k_is);(case l=>k_is);(case c=>k_is);(case k=>k_is)
  case a35=>k_is
  case l35=>k_is
  case c35=>k_is
  case k35=>k_is
  case zB=>kernel_rfl
  case yMOST_THINGS=>k_is
  case mR=>k_is
  case n0=>k_is
  case n1=>k_is
  case n2=>k_is
  case n3=>k_is
  case n4=>k_is
  case n5=>k_is
  case n6=>k_is
  case n7=>k_is
  case n8=>k_is
  case n9=>k_is
  case n10=>k_is
  case n11=>k_is
  case zV=>k_is
  case eR=>kernel_rfl
  case e0=>kernel_rfl
  case e1=>kernel_rfl
  case GV=>kernel_rfl
  case g1_8=>kernel_rfl
  case g2_8=>kernel_rfl
  case g3_8=>kernel_rfl
  case g4_8=>kernel_rfl
  case g7_8=>kernel_rfl
  case g8_8=>kernel_rfl
  case kR8=>kit_is
  case kV8=>kit_is
  case kt8_0=>kit_is
  case kt8_1=>kit_is
  case kt8_2=>kit_is
  case kt8_3=>kit_is
  case kt8_4=>kit_is
  case kt8_5=>kit_is
  case kt8_6=>kit_is
  case kt8_7=>kit_is
  case kt8_8=>kit_is
  case kt8_9=>kit_is
  case kt8_10=>kit_is
  case kt8_11=>kit_is
  case g5=>kernel_rfl
  case g6=>kernel_rfl
end
