import PyProof.Rows.All
import Wide.All
import OpenK.AllK
import Wide.FinOn
import Lean
import PyProof.EqAt
import PyProof.EqKinds
import PyProof.TupleCall
import PySem.SetOps
import PyProof.SetKind
import PyProof.TupleKey
import PyProof.DictKinds
import PyProof.Rows.SetFrom
import PyProof.WalksMore
import KE.KSortTup
import PyProof.CollectWalk
import PyProof.ExcArgsOwn
import PyProof.Rows.CountFlat
import PyProof.Rows.SeqMore2
import PyProof.Rows.FStr
import PyProof.Rows.StrWeight2
import PyProof.Rows.StrNews
import PyProof.StrLawsTight
import PyProof.ExcBaseAll.ValueError
import PyProof.ZipIter
import PyProof.CallFns
import PyProof.Draws
import PyProof.EnumMake
import PyProof.SetRoads
import PyProof.Rows.SortWalk
import PyProof.SeqI3
import PyProof.Rows.SortShell
import PyProof.Rows.Range3
import KE.KStateDown
import PyProof.Rows.SumAny
import PyProof.ListRange
import PyProof.MaxThree
import PyProof.IsiH_list
import PyProof.RaisesAny
import KE.KDictOf
import PySem.Challenge.RW_rowsorder_k34_knots_looked_at
set_option Elab.async false
set_option linter.all false
set_option maxRecDepth 100000
set_option maxHeartbeats 1000000
def MF:=@PySem.wpAny_bind
def MG:=@List.getElem?_eq_getElem
def MH:=@PySem.Heap.get?_push_of_some
def MI:=@PySem.wpAny_pure
def MJ:=@if_pos
def MK:=@Nat.le_refl
def ML:=@List.length_map
def MM:=@List.mem_cons_of_mem
def MN:=@List.mem_cons
def MO:=@if_neg
def MP:=@List.mem_cons_self
def MQ:=@List.mem_map
def MR:=@decide_eq_true
def MS:=@Bool.and_eq_true
def MT:=@PySem.Heap.lt_size
def MU:=@List.mem_of_getElem?
def MV:=@List.getElem?_map
def MW:=@decide_eq_false
def MX:=@PySem.Heap.get?_push_size
def MY:=@List.size_toArray
def MZ:=@Bool.false_eq_true
def M1:=@List.getElem?_set_ne
def M4:=@decide_eq_true_eq
def M5:=@List.mem_range
def M6:=@List.mem_append
def M7:=@List.getElem?_set_self
def M8:=@List.mem_filter
def M9:=@List.getElem?_eq_some_iff
def Na:=@List.length_cons
def Nb:=@Bool.false_ne_true
def Nc:=@List.mem_singleton
def Nd:=@List.getD_eq_getElem?_getD
def Nf:=@List.length_append
def Ng:=@List.map_cons
def Nh:=@List.getElem?_append_left
def Ni:=@PySem.sizeLine_eq
def Nj:=@Array.getElem?_eq_getElem
def Nk:=@Nat.lt_of_lt_of_le
def Nl:=@Nat.ne_of_lt
def Nm:=@Nat.zero_le
def Np:=@List.getElem?_append_right
def Nq:=@List.nodup_cons
def Nr:=@List.mem_iff_getElem
def Nt:=@List.mem_append_right
def Nu:=@List.length_take
def Nw:=@Array.getD_eq_getD_getElem?
def Nx:=@if_false
def Ny:=@Nat.lt_irrefl
def Nz:=@List.map_append
def NA:=@Nat.le_trans
def NC:=@List.pairwise_map
def ND:=@Bool.eq_iff_iff
def NF:=@PySem.W.kia_one
def NG:=@PySem.Heap.get?_update_self
def NH:=@Array.getElem?_eq_some_iff
def NI:=@List.getElem_mem
def NJ:=@Int.toNat_natCast
def NK:=@Nat.zero_add
def NL:=@PySem.wpAny_setState_of
def NM:=@PySem.Heap.get?_update_other
def NN:=@if_true
def NO:=@PySem.boot_len
def NP:=@PySem.wpAny_holding
def NQ:=@List.map_map
def NR:=@List.length_filter_le
def NS:=@PySem.wpAny_newObj_type
def NT:=@Bool.not_eq_true'
def NU:=@Nat.lt_or_ge
def NV:=@List.take_of_length_le
def NW:=@List.all_eq_true
def NX:=@List.Pairwise.imp_of_mem
def NY:=@List.length_set
def NZ:=@decide_eq_false_iff_not
def N0:=@PySem.wpAny_mono
def N1:=@List.mem_of_mem_take
def N2:=@Int.zero_add
def N3:=@List.nodup_iff_pairwise_ne
def N4:=@Nat.mul_le_mul
def N5:=@List.length_range
def N6:=@PySem.Around.under_plainId
def N7:=@List.getElem?_replicate
def N8:=@PySem.wpAny_truthy_bool
def N9:=@List.append_assoc
def Oa:=@List.toList_toArray
def Ob:=@PySem.SeqAt.canLay_of_shaped
def Oc:=@List.any_cons
def Od:=@List.not_mem_nil
def Oe:=@List.mem_filterMap
def Of:=@Array.getElem?_toList
def Og:=@List.mem_append_left
def Oh:=@List.append_nil
def Oi:=@PySem.codeAny_builtin
def Oj:=@List.set_eq_of_length_le
def Ol:=@List.find?_cons
def Om:=@PySem.Value.isInt_shape
def Oo:=@List.filterMap_cons
def Oq:=@PySem.mem_of_lookup
def Ot:=@List.map_congr_left
def Ou:=@List.nodup_range
def Ov:=@PySem.isSubtype_type
def Ow:=@PyProof.Rows.F.plain_set_update_loop
def Ox:=@PySem.tupleKind_room_in1
def Oy:=@PySem.wpAny_passesOwn
def Oz:=@List.length_replicate
def OA:=@List.foldl_cons
def OB:=@List.getElem?_eq_none
def OC:=@Bool.and_self
def OD:=@PySem.wpAny_pyIter_list
def OE:=@List.take_add_one
def OF:=@Array.mem_toList_iff
def OG:=@List.pairwise_iff_getElem
def OH:=@List.nodup_nil
def OI:=@PySem.Heap.size_push
def OJ:=@List.length_drop
def OK:=@List.length_erase_of_mem
def OL:=@PySem.F.called_set
def ON:=@PySem.wpAny_call_entry
def OO:=@List.lookup_cons
def OP:=@List.idxOf_lt_length_iff
def OQ:=@PySem.F.slot_list_getattribute
def OR:=@beq_eq_false_iff_ne
def OS:=@Array.length_toList
def OT:=@List.replicate_succ
def OU:=@PyProof.Rows.slot_tuple_getitem
def OV:=@PySem.F.plainAttrs_list
def OW:=@Bool.not_true
def OX:=@PySem.strLen_append
def OY:=@Array.getElem?_eq_none
def OZ:=@List.ext_getElem?
def O0:=@List.nodup_append
def O1:=@PySem.builtinLookup_eq_fast
def O2:=@PySem.wpAny_setField
def O3:=@PyProof.Rows.callWith_type1
def O4:=@PySem.wpAny_askSetting
def O5:=@PySem.plainId_quiet
def O6:=@PySem.wpAny_field
def O7:=@List.length_reverse
def O8:=@List.length_pos_iff
def O9:=@List.extract_eq_take_drop
def Pa:=@Nat.min_eq_left
def Pb:=@Bool.or_eq_true
def Pc:=@PySem.codeAny_mono
def Pd:=@PySem.wpAny_typeOf
def Pe:=@List.eq_of_mem_replicate
def Pf:=@List.reverse_cons
def Pg:=@List.flatten_cons
def Pj:=@Nat.lt_trichotomy
def Pk:=@Array.getElem_mem
def Pl:=@List.filter_congr
def Pn:=@of_decide_eq_true
def Po:=@List.idxOf_append
open List (length_nil nil_append all_cons set_set)
open PySem.W (Frag)
open PySem.PyData (int)
section
set_option Elab.async false
namespace L2
open PySem PySem.Spec PyProof.Rows
abbrev Key:=Sum Int Str
def pZ:Key->Value->Bool
 | .inl k,v=>Value.isInt k v
 | .inr x,v=>Value.isStrOf x v
def LD (w:World):Key->Int
 | .inl k=>hashInt k
 | .inr x=>hashStr w x
theorem bV:∀{k:Key} {v:Value},pZ k v=true->(∃i t,k=Sum.inl i/\v=Value.int i t)\/(∃x t,k=Sum.inr x/\v=Value.str x t)
 | .inl i,v,h=>by
  obtain⟨t,e⟩:=Om (k:=i) (v:=v) h
  exact .inl ⟨i,t,rfl,e⟩
 | .inr x,v,h=>by
  obtain⟨t,e⟩:=Value.isStrOf_shape (x:=x) (v:=v) h
  exact .inr ⟨x,t,rfl,e⟩
def Bl (i:Int)(t:Tok):pZ (.inl i) (.int i t)=true:=by simp[pZ,Value.isInt]
def AO (x:Str)(t:Tok):pZ (.inr x) (.str x t)=true:=by simp[pZ,Value.isStrOf]
def Hz (a b:Int):decide ((Sum.inl a:Key)=Sum.inl b)=(a == b):=by
 by_cases e:a=b
 ·subst e;simp
 ·have h:¬(Sum.inl a:Key)=Sum.inl b:=λq=>e (Sum.inl.inj q)
  rw[MW h]
  exact (OR.mpr e).symm
def Iv (a b:Str):decide ((Sum.inr a:Key)=Sum.inr b)=decide (a=b):=by
 by_cases e:a=b
 ·subst e;simp
 ·have h:¬(Sum.inr a:Key)=Sum.inr b:=λq=>e (Sum.inr.inj q)
  rw[MW h,MW e]
def HU (a:Int)(b:Str):decide ((Sum.inl a:Key)=Sum.inr b)=false:=MW (λq=>nomatch q)
def Ih (a:Str)(b:Int):decide ((Sum.inr a:Key)=Sum.inl b)=false:=MW (λq=>nomatch q)
def bF (prog:Program)(w:World):PySem.KeyKind prog w Key where
 is:=pZ
 hash:=LD w
 inj:=λv a b ha hb=>by
  rcases bV ha with⟨i,t,rfl,rfl⟩ | ⟨x,t,rfl,rfl⟩
  ·rcases bV hb with⟨j,u,rfl,e⟩ | ⟨y,u,rfl,e⟩
   ·injection e with e1 _;rw[e1]
   ·exact nomatch e
  ·rcases bV hb with⟨j,u,rfl,e⟩ | ⟨y,u,rfl,e⟩
   ·exact nomatch e
   ·injection e with e1 _;rw[e1]
 byValue:=λk v h=>by
  rcases bV h with⟨i,t,rfl,rfl⟩ | ⟨x,t,rfl,rfl⟩ <;> rfl
 pyHash:=λhv h=>by
  rcases bV hv with⟨i,t,rfl,rfl⟩ | ⟨x,t,rfl,rfl⟩
  ·exact wpAny_pyHash_int h
  ·exact wpAny_pyHash_str h
 eqBool:=λhu hv h=>by
  rcases bV hu with⟨i,t,rfl,rfl⟩ | ⟨x,t,rfl,rfl⟩
  ·rcases bV hv with⟨j,u,rfl,rfl⟩ | ⟨y,u,rfl,rfl⟩
   ·rw[Hz] at h;exact wpAny_eqBool_int h
   ·rw[HU] at h;exact SeqAt.EqAt.int_str i t y u _ _ _ _ h
  ·rcases bV hv with⟨j,u,rfl,rfl⟩ | ⟨y,u,rfl,rfl⟩
   ·rw[Ih] at h;exact SeqAt.EqAt.str_int x t j u _ _ _ _ h
   ·rw[Iv] at h;exact wpAny_eqBool_str h
 «strs»:=λk x t v h=>by
  rcases bV h with⟨i,u,rfl,e⟩ | ⟨y,u,rfl,e⟩
  ·exact nomatch e
  ·injection e with e1 _
   subst e1
   cases v <;> rfl
def vv (prog:Program)(w:World)(i:Int)(t:Tok):(bF prog w).is (.inl i) (.int i t)=true:=Bl i t
def xc (prog:Program)(w:World)(x:Str)(t:Tok):(bF prog w).is (.inr x) (.str x t)=true:=AO x t
inductive V where
 |non |bl (b:Bool) |int (i:Int) |str (x:Str) |byt (b:Array UInt8) |flt (b:UInt64) |ref (a:Addr) |ty (n:String)
 deriving DecidableEq
def RelV:V->Value->Prop
 | .non,u=>u=Value.none
 | .bl b,u=>u=Value.bool b
 | .int i,u=>∃t,u=Value.int i t
 | .str x,u=>∃t,u=Value.str x t
 | .byt b,u=>∃t,u=Value.bytes b t
 | .flt b,u=>∃t,u=Value.float b t
 | .ref a,u=>u=Value.ref a
 | .ty n,u=>u=Value.type n
abbrev Vals:List V->List Value->Prop:=Paired RelV
def Vals.length {xs:List V}{us:List Value}(r:Vals xs us):xs.length=us.length:=Paired.length r
theorem Vals.get:∀{xs:List V} {us:List Value} {i:Nat} {x:V},Vals xs us->xs[i]? =some x->∃u,us[i]? =some u/\RelV x u
 |_,_,_,_,.nil,e=>by simp at e
 |_,_,0,_,.cons r _,e=>by simp at e;subst e;exact⟨_,rfl,r⟩
 |_,_,i + 1,x,.cons _ t,e=>by
  obtain⟨u,h1,h2⟩:=Vals.get (i:=i) (x:=x) t (by simpa using e)
  exact⟨u,by simpa using h1,h2⟩
theorem Vals.set {x:V}{u:Value}(r:RelV x u):∀{xs:List V} {us:List Value} (i:Nat),Vals xs us->Vals (xs.set i x) (us.set i u)
 |_,_,_,.nil=>.nil
 |_,_,0,.cons _ t=>.cons r t
 |_,_,i + 1,.cons q t=>.cons q (Vals.set r i t)
theorem Vals.append:∀{xs ys:List V} {us ws:List Value},Vals xs us->Vals ys ws->Vals (xs ++ ys) (us ++ ws)
 |_,_,_,_,.nil,s=>s
 |_,_,_,_,.cons r t,s=>.cons r (Vals.append t s)
theorem Vals.take:∀{xs:List V} {us:List Value} (n:Nat),Vals xs us->Vals (xs.take n) (us.take n)
 |_,_,0,_=>.nil
 |_,_,_ + 1,.nil=>.nil
 |_,_,n + 1,.cons r t=>.cons r (Vals.take n t)
theorem Vals.drop:∀{xs:List V} {us:List Value} (n:Nat),Vals xs us->Vals (xs.drop n) (us.drop n)
 |_,_,0,r=>r
 |_,_,_ + 1,.nil=>.nil
 |_,_,n + 1,.cons _ t=>Vals.drop n t
def pI:Option V->Option Value->Prop
 |some v,some u=>RelV v u
 |none,none=>True
 |_,_=>False
def KV {κ:Type}:List (κ×V)->List (κ×Value)->Prop:=Paired λ(p:κ×V) (q:κ×Value)=>p.1=q.1/\RelV p.2 q.2
def kV:Key->V
 | .inl i=>.int i
 | .inr x=>.str x
inductive HO where
 |lst (xs:List V)
 |tup (xs:List V)
 |dK (kvs:List (Key×V)) |dT (kvs:List (List Key×V))
 |set (S:Int->Bool) (n:Nat)
 |ins (C dx:Addr) (fs:List (Str×V))
 |own (x:Addr)
 |xd (fs:List (Str×V))
 |met (f x:Addr)
 |iY (lo hi:Int)
 |bg (o:Obj) (u:HO)
 |tbl (ps:Array Value)
 |ext (φ:Heap->Prop)
abbrev Hp:=Addr->Option HO
def upd (H:Hp)(a:Addr)(o:HO):Hp:=λb=>if b=a then some o else H b
def ay {H:Hp}{a:Addr}{o:HO}:upd H a o a=some o:=by unfold upd;rw[MJ rfl]
def az {H:Hp}{a b:Addr}{o:HO}(h:b≠a):upd H a o b=H b:=by unfold upd;rw[MO h]
def zq {H:Hp}{a:Addr}{o u:HO}:upd (upd H a o) a u=upd H a u:=by
 funext b;unfold upd;split <;> rfl
def oD {H:Hp}{a b:Addr}{o u:HO}(h:H a=some o)(h':H b=some u)(d:o≠u):a≠b:=by
 intro e;subst e;rw[h] at h';exact d (Option.some.inj h')
def aL {H:Hp}{a b:Addr}{o:HO}(h:H a=some o)(h':H b=none):a≠b:=by
 intro e;subst e;rw[h] at h';cases h'
section
variable (P:Program)(w:World)
def vK (h:Heap)(a:Addr)(items:Array Value):Prop:=∃o,h.get? a=some o/\o.cls=.type "tuple"/\∃n,o.data=.seq items n/\o.dict=none
def vK.isTup {h:Heap}{a:Addr}{items:Array Value}(x:vK h a items):IsTup h a items:=let ⟨o,e,c,n,d,_⟩:=x;⟨o,e,c,n,d⟩
def vK.new (h:Heap)(items:Array Value):vK (h.push {cls:=.type "tuple",data:=.seq items}) h.objs.size items:=⟨_,MX _ rfl,rfl,_,rfl,rfl⟩
def bP (H:Hp)(h:Heap)(a:Addr):HO->Prop
 | .lst xs=>xs.length<=sizeLine/\∃(its:List Value) (n:Nat),Vals xs its/\h.get? a=some {cls:=.type "list",data:=.seq its.toArray n}
 | .tup xs=>xs.length<=sizeLine/\∃its:List Value,Vals xs its/\vK h a its.toArray
 | .dK kvs=>kvs.length<=sizeLine/\(a == sysModules)=false/\∃vs,KV kvs vs/\h.DictOf (bF P w) a vs
 | .dT kvs=>kvs.length<=sizeLine/\(a == sysModules)=false/\∃xs:List (List Key×Addr×Value),
   Paired (λ(p:List Key×V) (q:List Key×Addr×Value)=>p.1=q.1/\(H q.2.1=some (.tup (p.1.map kV))\/∃o,H q.2.1=some (.bg o (.tup (p.1.map kV))))/\RelV p.2 q.2.2) kvs xs/\
   ∃o es ep,h.get? a=some o/\o.ExactDict/\o.data=.dict es ep/\es.toList=xs.map (entryOfKey (tupleKind (bF P w)))/\(xs.map (·.1)).Nodup
 | .set S n=>h.SetOf (intKind P w) a S n
 | .ins C dx fs=>H dx=some (.own a)/\fs.length<=1000/\dx≠a/\h.get? a=some (PySem.W.instObj C dx)/\
   ∃mA,h.Ns1 dx mA/\(∀f,pI (fs.lookup f) (mA f))/\PySem.Within mA (fs.map (·.1))
 | .own _=>∃o,h.get? a=some o
 | .xd fs=>∃mA,h.Ns1 a mA/\∀f,pI (fs.lookup f) (mA f)
 | .iY lo hi=>∃t u v,h.get? a=some {cls:=.type "range",data:=.fields #[.int lo t,.int hi u,.int 1 v]}
 | .bg o u=>h.get? a=some o/\bP H h a u
 | .tbl ps=>h.get? a=some {cls:=.none,data:=.fields ps}
 | .met f x=>h.get? a=some (PySem.W.methodObj (.ref f) (.ref x))
 | .ext φ=>φ h/\(∃o,h.get? a=some o)/\∀h1 h2:Heap,φ h1->(∀o,h1.get? a=some o->h2.get? a=some o)->φ h2
def kE (H:Hp)(h:Heap):Prop:=∀a o,H a=some o->bP P w H h a o
end
section
variable {P:Program}{w:World}{H H':Hp}{h h':Heap}{a:Addr}{o:HO}
theorem bP.lt (x:bP P w H h a o):a < h.objs.size:=by
 cases o with
 |lst xs=>obtain⟨_,_,_,_,e⟩:=x;exact MT e
 |tup xs=>obtain⟨_,_,_,p⟩:=x;exact p.isTup.lt
 |dK kvs=>obtain⟨_,_,_,_,o,_,_,e,_⟩:=x;exact MT e
 |dT kvs=>obtain⟨_,_,_,_,o,_,_,e,_⟩:=x;exact MT e
 |set S n=>obtain⟨o,_,_,_,e,_⟩:=x;exact MT e
 |ins C dx fs=>obtain⟨_,_,_,e,_⟩:=x;exact MT e
 |own y=>obtain⟨_,e⟩:=x;exact MT e
 |xd fs=>obtain⟨_,⟨_,_,_,e,_⟩,_⟩:=x;exact MT e
 |iY lo hi=>obtain⟨_,_,_,e⟩:=x;exact MT e
 |bg ob u=>obtain⟨e,_⟩:=x;exact MT e
 |tbl ps=>exact MT (show h.get? a=some _ from x)
 |met f y=>exact MT (show h.get? a=some _ from x)
 |ext φ=>obtain⟨_,⟨_,e⟩,_⟩:=x;exact MT e
theorem Paired.mapP {α β:Type}{F G:α->β->Prop}:∀{l₁:List α} {l₂:List β},Paired F l₁ l₂->(∀a b,F a b->G a b)->Paired G l₁ l₂
 |_,_,.nil,_=>.nil
 |_,_,.cons r t,f=>.cons (f _ _ r) (Paired.mapP t f)
theorem bP.stay (x:bP P w H h a o)(k:∀b u,(b=a\/H b=some (.own a))->h.get? b=some u->h'.get? b=some u)
  (ho:∀b,H b=some (.own a)->H' b=some (.own a)) (ht:∀b xs,(H b=some (.tup xs)\/∃o,H b=some (.bg o (.tup xs)))->(H' b=some (.tup xs)\/∃o,H' b=some (.bg o (.tup xs)))):bP P w H' h' a o:=by
 induction o with
 |lst xs=>obtain⟨z,its,n,r,e⟩:=x;exact⟨z,its,n,r,k _ _ (.inl rfl) e⟩
 |tup xs=>obtain⟨z,its,r,ob,e,c⟩:=x;exact⟨z,its,r,ob,k _ _ (.inl rfl) e,c⟩
 |dK kvs=>obtain⟨z,y,vs,r,ob,es,ep,e,c⟩:=x;exact⟨z,y,vs,r,ob,es,ep,k _ _ (.inl rfl) e,c⟩
 |dT kvs=>
  obtain⟨z,y,xs,r,ob,es,ep,e,c⟩:=x
  exact⟨z,y,xs,Paired.mapP r λp q z=>⟨z.1,ht _ _ z.2.1,z.2.2⟩,ob,es,ep,k _ _ (.inl rfl) e,c⟩
 |set S n=>obtain⟨ob,es,ep,t,e,c⟩:=x;exact⟨ob,es,ep,t,k _ _ (.inl rfl) e,c⟩
 |ins C dx fs=>
  obtain⟨d,z,ne,e,mA,⟨od,es,ep,e2,c⟩,r⟩:=x
  exact⟨ho _ d,z,ne,k _ _ (.inl rfl) e,mA,⟨od,es,ep,k _ _ (.inr d) e2,c⟩,r⟩
 |own y=>obtain⟨ob,e⟩:=x;exact⟨ob,k _ _ (.inl rfl) e⟩
 |xd fs=>obtain⟨mA,⟨od,es,ep,e,c⟩,r⟩:=x;exact⟨mA,⟨od,es,ep,k _ _ (.inl rfl) e,c⟩,r⟩
 |iY lo hi=>obtain⟨t,u,v,e⟩:=x;exact⟨t,u,v,k _ _ (.inl rfl) e⟩
 |bg ob u ih=>obtain⟨e,q⟩:=x;exact⟨k _ _ (.inl rfl) e,ih q⟩
 |tbl ps=>
  have e:h.get? a=some {cls:=.none,data:=.fields ps}:=x
  show h'.get? a=some {cls:=.none,data:=.fields ps}
  exact k a _ (.inl rfl) e
 |met f y=>
  have e:h.get? a=some (PySem.W.methodObj (.ref f) (.ref y)):=x
  show h'.get? a=some (PySem.W.methodObj (.ref f) (.ref y))
  exact k a _ (.inl rfl) e
 |ext φ=>obtain⟨p,⟨o,e⟩,st⟩:=x;exact⟨st _ _ p λo q=>k _ _ (.inl rfl) q,⟨o,k _ _ (.inl rfl) e⟩,st⟩
def kE.lt (x:kE P w H h)(e:H a=some o):a < h.objs.size:=(x a o e).lt
theorem kE.fresh (x:kE P w H h)(e:h.objs.size<=a):H a=none:=by
 cases q:H a with
 |none=>rfl
 |some u=>exact absurd (Nk (x.lt q) e) (Ny _)
def kE.kept (x:kE P w H h)(k:∀b u,h.get? b=some u->h'.get? b=some u):kE P w H h':=λa o e=>
 (x a o e).stay (λb u _ q=>k b u q) (λ_ q=>q) λ_ _ q=>q
def kE.laid (x:kE P w H h)(k:∀b u,h.get? b=some u->h'.get? b=some u)(hp:h.objs.size<=a)(new:bP P w (upd H a o) h' a o):kE P w (upd H a o) h':=λb u e=>by
 have hn:=x.fresh hp
 by_cases hb:b=a
 ·subst hb;rw[ay] at e;cases e;exact new
 ·rw[az hb] at e
  exact (x b u e).stay (λc v _ q=>k c v q) (λc q=>by rw[az (aL q hn)];exact q) λc xs q=>q.imp (λq=>by rw[az (aL q hn)];exact q) λ⟨o,q⟩=>⟨o,by rw[az (aL q hn)];exact q⟩
end
def Rd (H:Hp)(a:Addr)(u:HO):Prop:=H a=some u\/∃o,H a=some (.bg o u)
def Rd.ok {P:Program}{w:World}{H:Hp}{h:Heap}{a:Addr}{u:HO}(r:Rd H a u)(x:kE P w H h):bP P w H h a u:=by
 rcases r with r | ⟨o,r⟩
 ·exact x a u r
 ·obtain⟨_,q⟩:=x a _ r
  exact q
def Kw:Option HO->Prop
 |some (.lst _)=>True
 |some (.dK _)=>True
 |some (.dT _)=>True
 |some (.set _ _)=>True
 |some (.ins _ _ _)=>True
 |some (.ext _)=>True
 |_=>False
section
variable {P:Program}{w:World}{H:Hp}{h h':Heap}{x e:Addr}{o':HO}
def kE.write (ok:kE P w H h)(mu:Kw (H x))(he:e=x\/H e=some (.own x))(k:∀b u,b≠e->h.get? b=some u->h'.get? b=some u)(heo:∃u,h'.get? e=some u)
  (new:bP P w (upd H x o') h' x o'):kE P w (upd H x o') h':=λb u q=>by
 have nown:∀c y,H c=some (.own y)->c≠x:=λc y r z=>by subst z;rw[r] at mu;exact mu
 have ntup:∀c xs,H c=some (.tup xs)->c≠x:=λc xs r z=>by subst z;rw[r] at mu;exact mu
 by_cases hb:b=x
 ·subst hb;rw[ay] at q;cases q;exact new
 ·rw[az hb] at q
  by_cases hbe:b=e
  ·have q':H b=some (.own x):=by
    rcases he with z |z
    ·exact absurd (hbe.trans z) hb
    ·rw[hbe];exact z
   rw[q] at q';cases q'
   obtain⟨v,hv⟩:=heo
   exact⟨v,by rw[hbe];exact hv⟩
  ·refine (ok b u q).stay (λc v hc r=>k c v ?_ r) (λc r=>by rw[az (nown c b r)];exact r) λc xs r=>r.imp (λr=>by rw[az (ntup c xs r)];exact r) λ⟨o,r⟩=>⟨o,by rw[az (λz=>by subst z;rw[r] at mu;exact mu)];exact r⟩
   rcases hc with rfl |hc
   ·exact hbe
   ·rintro rfl
    rcases he with z |z
    ·exact nown c b hc z
    ·rw[hc] at z;cases z;exact hb rfl
end
structure Un (fs ex:List Addr)(H H':Hp)(h h':Heap):Prop where
 keep:∀b o,h.get? b=some o->H b=none->b∉fs->b∉ex->h'.get? b=some o
 slot:∀b o,h.get? b=some o->H b=none->b∈fs->b∉ex->∃sl,h'.get? b=some {o with slots:=sl}
 free:∀b o,h.get? b=some o->H b=none->b∉ex->H' b=none
 there:∀b o,h.get? b=some o->b∉ex->∃o',h'.get? b=some o'
 tups:∀b xs,H b=some (.tup xs)->H' b=some (.tup xs)
 frzs:∀b o u,H b=some (.bg o u)->H' b=some (.bg o u)
 tbls:∀b ps,H b=some (.tbl ps)->∃more,H' b=some (.tbl (ps ++ more))
section
variable {fs fs' ex ex':List Addr}{H H1 H2:Hp}{h h1 h2 h':Heap}{a x e:Addr}{o:HO}
def Un.any (u:Un fs ex H H1 h h1){b:Addr}{ob:Obj}(q:h.get? b=some ob)(n:H b=none)(hx:b∉ex):∃sl,h1.get? b=some {ob with slots:=sl}:=by
 by_cases hb:b∈fs
 ·exact u.slot b ob q n hb hx
 ·exact⟨ob.slots,u.keep b ob q n hb hx⟩
def Un.kept (k:∀b u,h.get? b=some u->h'.get? b=some u):Un fs ex H H h h':=
 ⟨λb ob q _ _ _=>k b ob q,λb ob q _ _ _=>⟨ob.slots,k b ob q⟩,λ_ _ _ n _=>n,λb ob q _=>⟨ob,k b ob q⟩,λ_ _ q=>q,λ_ _ _ q=>q,λ_ ps q=>⟨#[],by rw[q];simp⟩⟩
def Un.refl:Un fs ex H H h h:=Un.kept λ_ _ q=>q
def Un.laid (k:∀b u,h.get? b=some u->h'.get? b=some u)(hp:h.objs.size<=a)(hn:H a=none):Un fs ex H (upd H a o) h h' where
 keep:=λb u q _ _ _=>k b u q
 slot:=λb u q _ _ _=>⟨u.slots,k b u q⟩
 free:=λb u q n _=>by rw[az (Nl (Nk (MT q) hp))];exact n
 there:=λb u q _=>⟨u,k b u q⟩
 tups:=λb xs q=>by rw[az (aL q hn)];exact q
 frzs:=λb u xs q=>by rw[az (aL q hn)];exact q
 tbls:=λb ps q=>⟨#[],by rw[az (aL q hn),q];simp⟩
def Un.write (mu:Kw (H x))(he:e=x\/H e=some (.own x))(k:∀b u,b≠e->h.get? b=some u->h'.get? b=some u)(heo:∃u,h'.get? e=some u):Un fs ex H (upd H x o) h h':=by
 have hx:∀b,H b=none->b≠x:=λb n z=>by subst z;rw[n] at mu;exact mu
 have hb:∀b,H b=none->b≠e:=λb n z=>by
  subst z
  rcases he with r |r
  ·exact hx b n r
  ·rw[n] at r;cases r
 have hm:∀b u,H b=some u->¬Kw (some u)->b≠x:=λb u q nm z=>by subst z;rw[q] at mu;exact nm mu
 refine⟨λb u q n _ _=>k b u (hb b n) q,λb u q n _ _=>⟨u.slots,k b u (hb b n) q⟩,λb u q n _=>by rw[az (hx b n)];exact n,λb u q _=>?_,
  λb xs q=>by rw[az (hm b _ q λz=>z)];exact q,λb u xs q=>by rw[az (hm b _ q λz=>z)];exact q,λb ps q=>⟨#[],by rw[az (hm b _ q λz=>z),q];simp⟩⟩
 by_cases hbe:b=e
 ·subst hbe;exact heo
 ·exact⟨u,k b u hbe q⟩
end
def K1 (h:Heap)(H:Hp):List Addr:=(List.range h.objs.size).filter λa=>(H a).isSome
def ui (h:Heap)(H:Hp):Heap:=PySem.W.hideAll h (K1 h H)
def Bh (h:Heap)(H:Hp):(ui h H).objs.size=h.objs.size:=PySem.W.hideAll_size _ _
def Cc {h:Heap}{H:Hp}{b:Addr}{o:Obj}(e:h.get? b=some o)(n:H b=none):(ui h H).get? b=some o:=
 PySem.W.hideAll_get _ e λhm=>by
  have q:(H b).isSome=true:=(M8.mp hm).2
  rw[n] at q;simp at q
theorem FL {h:Heap}{H:Hp}{b:Addr}{o:Obj}(e:(ui h H).get? b=some o):h.get? b=some o/\H b=none:=by
 have e':h.get? b=some o:=PySem.W.of_hideAll (K1 h H) e
 refine⟨e',?_⟩
 cases q:H b with
 |none=>rfl
 |some x=>
  have hm:b∈K1 h H:=M8.mpr ⟨M5.mpr (MT e'),by simp[q]⟩
  have z:(ui h H).get? b=none:=PySem.W.hideAll_none (K1 h H) hm
  rw[z] at e;cases e
def E1 (g h:Heap)(L:Addr):List (Addr×Obj):=(List.range h.objs.size).filterMap λa=>if a=L\/(g.get? a).isSome=true then none else (h.get? a).map λo=>(a,o)
def rest (g h:Heap)(L d:Addr):List (Addr×Obj):=(E1 g h L).filter λp=>decide (p.1≠d)
structure Mod (K:Frag)(mg:Str->Option Value)(base:Heap):Prop where
 kin:K.In base
 glob:base.Ns mainGlobals mg
 blt:∃mb,base.Ns builtinsNs mb/\∀x:Str,x≠"__name__"->mb x=bootBuiltins x
 nolimit:base.NoLimit
 sys:∃mm,base.Ns sysModules mm
structure Cx where
 prog:Program
 w:World
 K:Frag
 mg:Str->Option Value
 base:Heap
 A:Around
 N:List Str
 s₀:Shared
 H₀:Hp
 env:Env
 outer:List Env
 stack:List Env
 ex:List Addr
 fn:Str->Bool
 calm:Bool
 pn:List (Addr×Obj)
 xe:Value->Shared->Prop
def jx (l:List Env):List Addr:=l.filterMap (·.frame)
abbrev Cx.fs (X:Cx):List Addr:=jx X.outer
def wO (sc:Scope)(x:Str):Prop:=sc.names.lookup x=some .local\/sc.names.lookup x=some .cell\/sc.names.lookup x=some .free
def Loc (sc:Scope)(x:Str):Prop:=sc.names.lookup x=some .local\/sc.names.lookup x=some .cell
def Look (env:Env)(h:Heap)(m:Str->Option Value)(x:Str)(u:Value):Prop:=
 (env.kindOf x=some .local/\m x=some u)\/((env.kindOf x=some .cell\/env.kindOf x=some .free)/\∃c,env.cells.lookup x=some c/\h.IsCell c (some u))
structure Cx.Ok (X:Cx):Prop where
 mod:Mod X.K X.mg X.base
 kind:X.env.scope.kind=.function
 glob:X.env.globals=mainGlobals
 blt:X.env.builtins=builtinsNs
 above:X.s₀.heap.objs.size<=X.env.locals
 inj:∀x y c,X.env.cells.lookup x=some c->X.env.cells.lookup y=some c->x=y
 has:∀x,(X.env.kindOf x=some .cell\/X.env.kindOf x=some .free)->∃c,X.env.cells.lookup x=some c
 cab:∀x c,X.fn x=true->X.env.cells.lookup x=some c->X.s₀.heap.objs.size<=c
 hd:X.calm=true->X.A.handled=none
 frames:X.A.frames=some X.stack
 stk:X.stack=X.outer\/(X.stack=X.env :: X.outer/\X.env.frame=some X.env.locals)
 exf:∀b∈X.ex,b≠X.env.locals/\∀x c,X.env.cells.lookup x=some c->c≠b
 bs:∀b o,X.base.get? b=some o->X.s₀.heap.get? b=some o/\X.H₀ b=none
 bsz:X.base.objs.size<=X.s₀.heap.objs.size
 noex:∀b o,X.base.get? b=some o->b∉X.ex
 exfs:∀b∈X.ex,b∉X.fs
 funs:X.s₀.heap.FunFrames X.base X.outer
 frf:∀b∈X.fs,X.H₀ b=none
structure Inv (X:Cx)(pins:List (Addr×Obj))(σ:List (Option V))(H:Hp)(s:Shared):Prop where
 ok:X.Ok
 os:s.os=X.s₀.os
 bare:AllBare s.gens
 base:Un X.fs X.ex X.H₀ H X.s₀.heap s.heap
 loc:∃m,s.heap.Ns X.env.locals m/\∀(i:Nat) (x:Str) (v:V),X.N[i]? =some x->σ[i]? =some (some v)->wO X.env.scope x->∃u,RelV v u/\Look X.env s.heap m x u
 cell:∀x c,X.env.cells.lookup x=some c->∃v,s.heap.IsCell c v
 free:H X.env.locals=none
 freeC:∀x c,X.env.cells.lookup x=some c->H c=none
 pin:∀p∈X.pn ++ pins,s.heap.get? p.1=some p.2/\H p.1=none/\p.1≠X.env.locals/\p.1∉X.fs/\∀v,p.2.data≠.cell v
 hok:kE X.prog X.w H s.heap
 len:σ.length=X.N.length
section
variable {X:Cx}{pins:List (Addr×Obj)}{σ:List (Option V)}{H H':Hp}{s:Shared}{h':Heap}
def Cx.Ok.nofr (ok:X.Ok){b:Addr}{o:Obj}(e:X.base.get? b=some o):b∉X.fs:=λhb=>by
 have:=(ok.funs.mem hb).1
 rw[e] at this;cases this
def Inv.bs (I:Inv X pins σ H s):∀b o,X.base.get? b=some o->s.heap.get? b=some o/\H b=none:=λb o e=>
 ⟨I.base.keep b o (I.ok.bs b o e).1 (I.ok.bs b o e).2 (I.ok.nofr e) (I.ok.noex b o e),I.base.free b o (I.ok.bs b o e).1 (I.ok.bs b o e).2 (I.ok.noex b o e)⟩
def Inv.bk (I:Inv X pins σ H s):∀b o,X.base.get? b=some o->s.heap.get? b=some o:=λb o e=>(I.bs b o e).1
def Inv.mod (I:Inv X pins σ H s):Mod X.K X.mg X.base:=I.ok.mod
def Inv.kIn (I:Inv X pins σ H s):X.K.In s.heap:=I.ok.mod.kin.keeps I.bk
def Inv.lt (I:Inv X pins σ H s):X.env.locals < s.heap.objs.size:=let ⟨_,hn,_⟩:=I.loc;hn.lt
def Inv.sz (I:Inv X pins σ H s):X.s₀.heap.objs.size<=s.heap.objs.size:=NA I.ok.above (Nat.le_of_lt I.lt)
def Inv.nofs (I:Inv X pins σ H s){a:Addr}(h:s.heap.objs.size<=a):a∉X.fs:=λhb=>by
 obtain⟨_,o,ho,_⟩:=I.ok.funs.mem hb
 exact absurd (Nk (MT ho) (NA I.sz h)) (Ny _)
def Inv.cne (I:Inv X pins σ H s):∀x c,X.env.cells.lookup x=some c->c≠X.env.locals:=λx c e z=>by
 obtain⟨v,o,ho,hd⟩:=I.cell x c e
 obtain⟨m,⟨o',es,ep,ho',hd',_⟩,_⟩:=I.loc
 rw[z,ho'] at ho;cases ho;rw[hd'] at hd;cases hd
def Inv.funs (I:Inv X pins σ H s):s.heap.FunFrames X.base X.outer:=by
 have all:∀(l:List Env),(∀b∈jx l,b∈X.fs)->X.s₀.heap.FunFrames X.base l->s.heap.FunFrames X.base l:=by
  intro l
  induction l with
  |nil=>intro _ _;trivial
  |cons env r ih=>
   intro hs hl
   obtain⟨hk,⟨L,o,hf,hn,ho,hd⟩,hr⟩:=hl
   have hL:L∈X.fs:=hs L (by unfold jx;rw[Oo,hf];exact MP)
   obtain⟨sl,e⟩:=I.base.slot L o ho (I.ok.frf L hL) hL λz=>I.ok.exfs L z hL
   exact⟨hk,⟨L,_,hf,hn,e,hd⟩,ih (λb hb=>hs b (by unfold jx;rw[Oo,hf];exact MM _ hb)) hr⟩
 exact all X.outer (λ_ hb=>hb) I.ok.funs
def Inv.stack (I:Inv X pins σ H s):s.heap.FunFrames X.base X.stack:=by
 rcases I.ok.stk with e | ⟨e,hf⟩
 ·rw[e];exact I.funs
 ·rw[e]
  obtain⟨m,hn,_⟩:=I.loc
  refine .cons (by rw[I.ok.kind];decide) hf hn ?_ I.funs
  exact Heap.get?_none_of_le (NA I.ok.bsz I.ok.above)
def Inv.stkSub (I:Inv X pins σ H s):∀b∈jx X.stack,b∈X.env.locals :: X.fs:=λb hb=>by
 rcases I.ok.stk with e | ⟨e,hf⟩
 ·rw[e] at hb;exact MM _ hb
 ·rw[e] at hb
  unfold jx at hb
  rw[Oo,hf] at hb
  exact hb
def Inv.stkFree (I:Inv X pins σ H s):∀b∈jx X.stack,H b=none:=λb hb=>by
 rcases MN.mp (I.stkSub b hb) with e |hb
 ·rw[e];exact I.free
 ·obtain⟨_,o,ho,_⟩:=I.ok.funs.mem hb
  exact I.base.free b o ho (I.ok.frf b hb) λz=>I.ok.exfs b z hb
def Inv.step {g':Array GenState}{t':Nat}{d':Drawn}{ch:List Addr}(I:Inv X pins σ H s)
  (hch:∀b∈ch,(b∈X.ex\/X.s₀.heap.objs.size<=b)/\b≠X.env.locals/\(∀x c,X.env.cells.lookup x=some c->c≠b)/\∀p∈X.pn ++ pins,p.1≠b)
  (keep:∀b o,b≠X.env.locals->b∉X.fs->b∉ch->s.heap.get? b=some o->H b=none->h'.get? b=some o)
  (slot:∀b o,b≠X.env.locals->b∈X.fs->b∉ch->s.heap.get? b=some o->H b=none->∃sl,h'.get? b=some {o with slots:=sl}) (free:∀b o,b∉ch->s.heap.get? b=some o->H b=none->H' b=none)
  (there:∀b o,b∉ch->s.heap.get? b=some o->∃o',h'.get? b=some o')
  (tups:∀b xs,H b=some (.tup xs)->H' b=some (.tup xs)) (frzs:∀b o u,H b=some (.bg o u)->H' b=some (.bg o u)) (tbls:∀b ps,H b=some (.tbl ps)->∃more,H' b=some (.tbl (ps ++ more)))
  (ns:∀m,s.heap.Ns X.env.locals m->h'.Ns X.env.locals m) (hok:kE X.prog X.w H' h') (hg:AllBare g') :
  Inv X pins σ H' {s with heap:=h',gens:=g',drawn:=d',toks:=t'}:=by
 have neL:∀b o,X.s₀.heap.get? b=some o->b≠X.env.locals:=λb o e=>Nl (Nk (MT e) I.ok.above)
 have neC:∀b o,X.s₀.heap.get? b=some o->b∉X.ex->b∉ch:=λb o e hx hb=>by
  rcases (hch b hb).1 with z |z
  ·exact hx z
  ·exact absurd (Nk (MT e) z) (Ny _)
 have cellK:∀x c,X.env.cells.lookup x=some c->∀v,s.heap.IsCell c v->h'.IsCell c v:=λx c e v ⟨o,ho,hd⟩=>by
  have nch:c∉ch:=λz=>(hch c z).2.2.1 x c e rfl
  by_cases hc:c∈X.fs
  ·obtain⟨sl,q⟩:=slot c o (I.cne x c e) hc nch ho (I.freeC x c e)
   exact⟨_,q,hd⟩
  ·exact⟨o,keep c o (I.cne x c e) hc nch ho (I.freeC x c e),hd⟩
 refine⟨I.ok,I.os,hg,⟨λb o e n hb hx=>?_,λb o e n hb hx=>?_,λb o e n hx=>?_,λb o e hx=>?_,λb xs e=>tups b xs (I.base.tups b xs e),λb o xs e=>frzs b o xs (I.base.frzs b o xs e),λb ps e=>?_⟩,?_,λx c e=>?_,?_,λx c e=>?_,λp hp=>?_,hok,I.len⟩
 ·exact keep b o (neL b o e) hb (neC b o e hx) (I.base.keep b o e n hb hx) (I.base.free b o e n hx)
 ·obtain⟨sl,e1⟩:=I.base.slot b o e n hb hx
  obtain⟨sl',e2⟩:=slot b _ (neL b o e) hb (neC b o e hx) e1 (I.base.free b o e n hx)
  exact⟨sl',e2⟩
 ·obtain⟨o',e1⟩:=I.base.there b o e hx
  exact free b o' (neC b o e hx) e1 (I.base.free b o e n hx)
 ·obtain⟨o',e1⟩:=I.base.there b o e hx
  exact there b o' (neC b o e hx) e1
 ·obtain⟨m1,e1⟩:=I.base.tbls b ps e
  obtain⟨m2,e2⟩:=tbls b _ e1
  exact⟨m1 ++ m2,by rw[e2,Array.append_assoc]⟩
 ·obtain⟨m,hn,hl⟩:=I.loc
  refine⟨m,ns m hn,λi x v e1 e2 e3=>?_⟩
  obtain⟨u,r,l⟩:=hl i x v e1 e2 e3
  refine⟨u,r,?_⟩
  rcases l with l | ⟨k,c,e,z⟩
  ·exact .inl l
  ·exact .inr ⟨k,c,e,cellK x c e _ z⟩
 ·obtain⟨v,z⟩:=I.cell x c e
  exact⟨v,cellK x c e v z⟩
 ·obtain⟨m,⟨o,_,_,ho,_⟩,_⟩:=I.loc
  exact free _ o (λz=>(hch _ z).2.1 rfl) ho I.free
 ·obtain⟨v,o,ho,hd⟩:=I.cell x c e
  exact free c o (λz=>(hch c z).2.2.1 x c e rfl) ho (I.freeC x c e)
 ·obtain⟨e,n,ne,nf,d⟩:=I.pin p hp
  have nch:p.1∉ch:=λz=>(hch p.1 z).2.2.2 p hp rfl
  exact⟨keep p.1 p.2 ne nf nch e n,free p.1 p.2 nch e n,ne,nf,d⟩
def Inv.un {t':Nat}(I:Inv X pins σ H s)(u:Un X.fs [] H H' s.heap h')(hok:kE X.prog X.w H' h'):Inv X pins σ H' {s with heap:=h',toks:=t'}:=by
 obtain⟨m,⟨o,es,ep,ho,r⟩,_⟩:=id I.loc
 obtain⟨sl,hL⟩:=u.any ho I.free (by simp)
 exact I.step (g':=s.gens) (d':=s.drawn) (ch:=[]) (λ_ z=>nomatch z) (λb o _ hb _ e n=>u.keep b o e n hb (by simp)) (λb o _ hb _ e n=>u.slot b o e n hb (by simp)) (λb o _ e n=>u.free b o e n (by simp)) (λb o _ e=>u.there b o e (by simp)) u.tups u.frzs u.tbls (λm' hm=>by
  obtain⟨o',es',ep',ho',r'⟩:=hm
  rw[ho] at ho';cases ho'
  exact⟨_,es',ep',hL,r'⟩) hok I.bare
def Inv.call {g':Array GenState}{t':Nat}{d':Drawn}{ch:List Addr}(I:Inv X pins σ H s)(u:Un (jx X.stack) ch H H' s.heap h')(hok:kE X.prog X.w H' h')(hg:AllBare g')
  (hch:∀b∈ch,(b∈X.ex\/X.s₀.heap.objs.size<=b)/\b≠X.env.locals/\(∀x c,X.env.cells.lookup x=some c->c≠b)/\∀p∈X.pn ++ pins,p.1≠b) :
  Inv X pins σ H' {s with heap:=h',gens:=g',drawn:=d',toks:=t'}:=by
 obtain⟨m,⟨o,es,ep,ho,r⟩,_⟩:=id I.loc
 obtain⟨sl,hL⟩:=u.any ho I.free λz=>(hch _ z).2.1 rfl
 exact I.step (ch:=ch) hch (λb o hL hb hc e n=>u.keep b o e n (λz=>(MN.mp (I.stkSub b z)).elim hL hb) hc) (λb o _ _ hc e n=>u.any e n hc) (λb o hc e n=>u.free b o e n hc) (λb o hc e=>u.there b o e hc) u.tups u.frzs u.tbls (λm' hm=>by
  obtain⟨o',es',ep',ho',r'⟩:=hm
  rw[ho] at ho';cases ho'
  exact⟨_,es',ep',hL,r'⟩) hok hg
def Inv.turned {t':Nat}{it:Addr}(I:Inv X pins σ H s)(k:∀b o,b≠it->s.heap.get? b=some o->h'.get? b=some o)(hn:H it=none)(hL:it≠X.env.locals)
  (h1:it∈X.ex\/X.s₀.heap.objs.size<=it) (h2:∀x c,X.env.cells.lookup x=some c->c≠it) (h3:∀p∈X.pn ++ pins,p.1≠it):Inv X pins σ H {s with heap:=h',toks:=t'}:=by
 have nit:∀b u,H b=some u->b≠it:=λb u e z=>by rw[z,hn] at e;cases e
 refine I.step (g':=s.gens) (d':=s.drawn) (ch:=[it]) (λb hb=>?_) (λb o _ _ hc e _=>k b o (λz=>hc (by simp[z])) e) (λb o _ _ hc e _=>⟨o.slots,k b o (λz=>hc (by simp[z])) e⟩) (λ_ _ _ _ n=>n)
  (λb o hc e=>⟨o,k b o (λz=>hc (by simp[z])) e⟩) (λ_ _ e=>e) (λ_ _ _ e=>e) (λb ps e=>⟨#[],by rw[e];simp⟩) (λm hm=>?_) (λb u e=>?_) I.bare
 ·have e:b=it:=by simpa using hb
  subst e
  exact⟨h1,hL,h2,h3⟩
 ·obtain⟨o,es,ep,ho,r⟩:=hm
  exact⟨o,es,ep,k _ o (Ne.symm hL) ho,r⟩
 ·refine (I.hok b u e).stay (λc v hc q=>k c v ?_ q) (λ_ q=>q) λ_ _ q=>q
  rcases hc with z |z
  ·rw[z];exact nit b u e
  ·exact nit c _ z
def Inv.tok (I:Inv X pins σ H s)(t:Nat):Inv X pins σ H {s with toks:=t}:=I.un (h':=s.heap) (t':=t) Un.refl I.hok
def Inv.kept {t':Nat}(I:Inv X pins σ H s)(k:∀b u,s.heap.get? b=some u->h'.get? b=some u):Inv X pins σ H {s with heap:=h',toks:=t'}:=I.un (Un.kept k) (I.hok.kept k)
def Inv.laid {a:Addr}{o:HO}{t':Nat}(I:Inv X pins σ H s)(k:∀b u,s.heap.get? b=some u->h'.get? b=some u)(hp:s.heap.objs.size<=a)(new:bP X.prog X.w (upd H a o) h' a o) :
  Inv X pins σ (upd H a o) {s with heap:=h',toks:=t'}:=I.un (Un.laid k hp (I.hok.fresh hp)) (I.hok.laid k hp new)
def Inv.write {x e:Addr}{o:HO}{t':Nat}(I:Inv X pins σ H s)(mu:Kw (H x))(he:e=x\/H e=some (.own x))(k:∀b u,b≠e->s.heap.get? b=some u->h'.get? b=some u)(heo:∃u,h'.get? e=some u)
  (new:bP X.prog X.w (upd H x o) h' x o):Inv X pins σ (upd H x o) {s with heap:=h',toks:=t'}:=I.un (Un.write mu he k heo) (I.hok.write mu he k heo new)
def Inv.pins_of {pins':List (Addr×Obj)}(I:Inv X pins σ H s)(h:∀p∈pins',s.heap.get? p.1=some p.2/\H p.1=none/\p.1≠X.env.locals/\p.1∉X.fs/\∀v,p.2.data≠.cell v):Inv X pins' σ H s:=
 ⟨I.ok,I.os,I.bare,I.base,I.loc,I.cell,I.free,I.freeC,λp hp=>(M6.mp hp).elim (λz=>I.pin p (Og _ z)) (h p),I.hok,I.len⟩
def vQ {N:List Str}(hN:N.Nodup){i j:Nat}{x:Str}(a:N[i]? =some x)(b:N[j]? =some x):i=j:=by
 obtain⟨h1,e1⟩:=M9.mp a
 obtain⟨h2,e2⟩:=M9.mp b
 exact (List.getElem_inj hN).mp (e1.trans e2.symm)
def sL {M:Model}{A:Around}{E:Value->Shared->Prop}{i:Nat}{x:Str}{v:V}{u:Value}{Q:Unit->Shared->Prop}(I:Inv X pins σ H s)(hN:X.N.Nodup)(hi:X.N[i]? =some x)(hx:Loc X.env.scope x)(r:RelV v u)
  (h:∀s',Inv X pins (σ.set i (some v)) H s'->(∃a,Heap.SameBut a s.heap s'.heap/\(a=X.env.locals\/X.env.cells.lookup x=some a))->Q () s') (hf:X.fn x=true\/X.env.scope.names.lookup x=some .local:=by first |exact .inl rfl |exact .inr rfl |assumption):wpAny M A (storeName X.env x u) Q E s:=by
 obtain⟨m,hn,hl⟩:=id I.loc
 have hcls:(X.env.scope.kind == .class || (X.env.scope.kind == .module && X.env.locals != X.env.globals))=false:=by rw[I.ok.kind];rfl
 have hiσ:i < σ.length:=by rw[I.len];exact (M9.mp hi).1
 have cne:=I.cne
 have tracked:∀{a:Addr} {h':Heap},(∃o,s.heap.get? a=some o/\H a=none)->Heap.SameBut a s.heap h'->kE X.prog X.w H h':=λ{a h'} ha hs b ob e=>by
  obtain⟨_,_,hfree⟩:=ha
  refine (I.hok b ob e).stay (λc w' hc q=>(hs.2 c ?_).trans q) (λ_ q=>q) λ_ _ q=>q
  rintro rfl
  rcases hc with rfl |hc
  ·rw[hfree] at e;cases e
  ·rw[hfree] at hc;cases hc
 rcases hx with hk |hk
 ·refine wpAny_storeName_local hk hn (λh' hn' hs=>?_) hcls
  obtain⟨oL,_,_,hoL,_⟩:=id hn
  refine h _ ⟨I.ok,I.os,I.bare,⟨λb o e n hb hx=>?_,λb o e n hb hx=>?_,I.base.free,λb o e hx=>?_,I.base.tups,I.base.frzs,I.base.tbls⟩,⟨_,hn',λj y v' e1 e2 e3=>?_⟩,λy c e=>?_,I.free,I.freeC,λp hp=>?_,tracked ⟨oL,hoL,I.free⟩ hs,by simpa using I.len⟩ ⟨_,hs,.inl rfl⟩
  ·exact (hs.2 b (Nl (Nk (MT e) I.ok.above))).trans (I.base.keep b o e n hb hx)
  ·obtain⟨sl,e1⟩:=I.base.slot b o e n hb hx
   exact⟨sl,(hs.2 b (Nl (Nk (MT e) I.ok.above))).trans e1⟩
  ·obtain⟨o',e1⟩:=I.base.there b o e hx
   exact⟨o',(hs.2 b (Nl (Nk (MT e) I.ok.above))).trans e1⟩
  ·by_cases hj:j=i
   ·subst hj
    rw[hi] at e1;cases e1
    rw[M7 hiσ] at e2
    cases e2
    exact⟨u,r,.inl ⟨hk,by simp⟩⟩
   ·rw[M1 (Ne.symm hj)] at e2
    obtain⟨u',r',q⟩:=hl j y v' e1 e2 e3
    refine⟨u',r',?_⟩
    rcases q with⟨k,e⟩ | ⟨k,c,e,z⟩
    ·refine .inl ⟨k,?_⟩
     have:y≠x:=λe=>hj (vQ hN e1 (e▸hi))
     simp[this,e]
    ·exact .inr ⟨k,c,e,z.sameBut hs (cne y c e)⟩
  ·obtain⟨w',z⟩:=I.cell y c e
   exact⟨w',z.sameBut hs (cne y c e)⟩
  ·obtain⟨e,n,ne,nf,d⟩:=I.pin p hp
   exact⟨(hs.2 p.1 ne).trans e,n,ne,nf,d⟩
 ·have hfn:X.fn x=true:=by
   rcases hf with z |z
   ·exact z
   ·rw[z] at hk;cases hk
  obtain⟨c,hc⟩:=I.ok.has x (.inl hk)
  obtain⟨w',z⟩:=I.cell x c hc
  refine wpAny_storeName_cell I.ok.kind hk hc z (λh' hc' hs=>?_)
  obtain⟨oc,hoc,hocd⟩:=id z
  refine h {s with heap:=h'} ⟨I.ok,I.os,I.bare,⟨λb o e n hb hx=>?_,λb o e n hb hx=>?_,I.base.free,λb o e hx=>?_,I.base.tups,I.base.frzs,I.base.tbls⟩,⟨m,hn.sameBut hs (Ne.symm (cne x c hc)),λj y v' e1 e2 e3=>?_⟩,λy c' e=>?_,I.free,I.freeC,λp hp=>?_,tracked ⟨oc,hoc,I.freeC x c hc⟩ hs,by simpa using I.len⟩ ⟨c,hs,.inr hc⟩
  ·exact (hs.2 b (Nl (Nk (MT e) (I.ok.cab x c hfn hc)))).trans (I.base.keep b o e n hb hx)
  ·obtain⟨sl,e1⟩:=I.base.slot b o e n hb hx
   exact⟨sl,(hs.2 b (Nl (Nk (MT e) (I.ok.cab x c hfn hc)))).trans e1⟩
  ·obtain⟨o',e1⟩:=I.base.there b o e hx
   exact⟨o',(hs.2 b (Nl (Nk (MT e) (I.ok.cab x c hfn hc)))).trans e1⟩
  ·by_cases hj:j=i
   ·subst hj
    rw[hi] at e1;cases e1
    rw[M7 hiσ] at e2
    cases e2
    exact⟨u,r,.inr ⟨.inl hk,c,hc,hc'⟩⟩
   ·rw[M1 (Ne.symm hj)] at e2
    obtain⟨u',r',q⟩:=hl j y v' e1 e2 e3
    refine⟨u',r',?_⟩
    rcases q with q | ⟨k,c',e,z'⟩
    ·exact .inl q
    ·refine .inr ⟨k,c',e,z'.sameBut hs ?_⟩
     rintro rfl
     exact hj (vQ hN e1 (I.ok.inj _ _ _ e hc▸hi))
  ·by_cases hcc:c'=c
   ·subst hcc;exact⟨_,hc'⟩
   ·obtain⟨w2,z2⟩:=I.cell y c' e
    exact⟨w2,z2.sameBut hs hcc⟩
  ·obtain⟨e,n,ne,nf,d⟩:=I.pin p hp
   refine⟨(hs.2 p.1 ?_).trans e,n,ne,nf,d⟩
   intro q
   rw[q,hoc] at e
   have q':oc=p.2:=Option.some.inj e
   exact d w' (by rw[<-q'];exact hocd)
def wy {M:Model}{A:Around}{E:Value->Shared->Prop}{i:Nat}{x:Str}{v:V}{u:Value}{Q:Unit->Shared->Prop}(I:Inv X pins σ H s)(hN:X.N.Nodup)(hi:X.N[i]? =some x)(hx:Loc X.env.scope x)(r:RelV v u)
  (h:∀s',Inv X pins (σ.set i (some v)) H s'->Q () s') (hf:X.fn x=true\/X.env.scope.names.lookup x=some .local:=by first |exact .inl rfl |exact .inr rfl |assumption):wpAny M A (storeName X.env x u) Q E s:=
 sL I hN hi hx r (λs' I' _=>h s' I') hf
def Inv.call' {s':Shared}{ch:List Addr}(I:Inv X pins σ H s)(ho:s'.os=s.os)(u:Un (jx X.stack) ch H H' s.heap s'.heap)(hok:kE X.prog X.w H' s'.heap)(hg:AllBare s'.gens)
  (hch:∀b∈ch,(b∈X.ex\/X.s₀.heap.objs.size<=b)/\b≠X.env.locals/\(∀x c,X.env.cells.lookup x=some c->c≠b)/\∀p∈X.pn ++ pins,p.1≠b):Inv X pins σ H' s':=by
 obtain⟨h',g',d',t',o'⟩:=s'
 have e:o'=s.os:=ho
 subst e
 exact I.call (g':=g') (t':=t') (d':=d') u hok hg hch
end
abbrev XK:=Value->Option Addr->Hp->Prop
abbrev St:=List (Option V)
abbrev VK:=V->Hp->Prop
abbrev TE:=St->Hp->VK->Prop
abbrev TT:=St->Hp->(Bool->Hp->Prop)->Prop
abbrev TA:=St->Hp->(List V->Hp->Prop)->Prop
structure Ends where
 nx:St->Hp->Prop
 rt:VK
 bk:St->Hp->Prop:=λ_ _=>False
 ct:St->Hp->Prop:=λ_ _=>False
abbrev TS:=Ends->St->Hp->Prop
def EP (X:Cx)(pins:List (Addr×Obj))(σ:St)(Q:VK)(u:Value)(s':Shared):Prop:=∃v H',Inv X pins σ H' s'/\RelV v u/\Q v H'
def TP (X:Cx)(pins:List (Addr×Obj))(σ:St)(Q:Bool->Hp->Prop)(b:Bool)(s':Shared):Prop:=∃H',Inv X pins σ H' s'/\Q b H'
def AP (X:Cx)(pins:List (Addr×Obj))(σ:St)(Q:List V->Hp->Prop)(us:List Value)(s':Shared):Prop:=∃vs H',Inv X pins σ H' s'/\Vals vs us/\Q vs H'
def SP (X:Cx)(pins:List (Addr×Obj))(D:Ends)(f:Flow)(s':Shared):Prop:=
 match f with
 | .next=>∃σ' H',Inv X pins σ' H' s'/\D.nx σ' H'
 | .brk=>∃σ' H',Inv X pins σ' H' s'/\D.bk σ' H'
 | .cont=>∃σ' H',Inv X pins σ' H' s'/\D.ct σ' H'
 | .ret u=>∃v σ' H',Inv X pins σ' H' s'/\RelV v u/\D.rt v H'
def PE (X:Cx)(e:Expr)(t:TE):Prop:=
 ∀(pins:List (Addr×Obj)) (s:Shared) (σ:St) (H:Hp) (Q:VK),Inv X pins σ H s->t σ H Q->wpAny (model X.prog X.w) X.A (eval e X.env) (EP X pins σ Q) X.xe s
def PT (X:Cx)(e:Expr)(t:TT):Prop:=
 ∀(pins:List (Addr×Obj)) (s:Shared) (σ:St) (H:Hp) (Q:Bool->Hp->Prop),Inv X pins σ H s->t σ H Q->wpAny (model X.prog X.w) X.A (isTrue e X.env (eval e X.env)) (TP X pins σ Q) X.xe s
def PW (X:Cx)(e:Expr)(t:TT):Prop:=
 ∀(whole:Sem Value) (pins:List (Addr×Obj)) (s:Shared) (σ:St) (H:Hp) (Q:Bool->Hp->Prop),Inv X pins σ H s->t σ H Q->wpAny (model X.prog X.w) X.A (isTrue e X.env whole) (TP X pins σ Q) X.xe s
def PW.pt {X:Cx}{e:Expr}{t:TT}(h:PW X e t):PT X e t:=h _
def PA (X:Cx)(es:List Expr)(t:TA):Prop:=
 ∀(pos:Pos) (pins:List (Addr×Obj)) (s:Shared) (σ:St) (H:Hp) (Q:List V->Hp->Prop),Inv X pins σ H s->t σ H Q->wpAny (model X.prog X.w) X.A (spliced (backTo pos (starEach es X.env))) (AP X pins σ Q) X.xe s
def PS (X:Cx)(st:Stmt)(t:TS):Prop:=
 ∀(pins:List (Addr×Obj)) (s:Shared) (σ:St) (H:Hp) (D:Ends),Inv X pins σ H s->t D σ H->wpAny (model X.prog X.w) X.A (exec st X.env) (SP X pins D) X.xe s
def sg (X:Cx)(st:List Stmt)(t:TS):Prop:=
 ∀(pins:List (Addr×Obj)) (s:Shared) (σ:St) (H:Hp) (D:Ends),Inv X pins σ H s->t D σ H->wpAny (model X.prog X.w) X.A (execs st X.env) (SP X pins D) X.xe s
def b5 {α:Type}{t:Sem α}{Q Q':α->Shared->Prop}{M:Model}{A:Around}{E:Value->Shared->Prop}{s:Shared}(h:wpAny M A t Q E s)(hQ:∀a s,Q a s->Q' a s):wpAny M A t Q' E s:=N0 h hQ λ_ _ x=>x
section
variable {X:Cx}
def bin {a b:Expr}{ta tb:TE}(ha:PE X a ta)(hb:PE X b tb){pins:List (Addr×Obj)}{s:Shared}{σ:St}{H:Hp}{R:V->V->Hp->Prop}(I:Inv X pins σ H s)(h:ta σ H λx H1=>tb σ H1 λy H2=>R x y H2)
  {α:Type} {Q:α->Shared->Prop} {f:Value->Value->Sem α}
  (hf:∀v u s2 x y H2,Inv X pins σ H2 s2->RelV x v->RelV y u->R x y H2->wpAny (model X.prog X.w) X.A (f v u) Q X.xe s2) :
  wpAny (model X.prog X.w) X.A (eval a X.env) (λv s₁=>wpAny (model X.prog X.w) X.A (eval b X.env) (λu s₂=>wpAny (model X.prog X.w) X.A (f v u) Q X.xe s₂) X.xe s₁) X.xe s:=by
 refine b5 (ha pins s σ H _ I h) λv s1 ⟨x,H1,I1,r1,q1⟩=>?_
 refine b5 (hb pins s1 σ H1 _ I1 q1) λu s2 ⟨y,H2,I2,r2,q2⟩=>?_
 exact hf v u s2 x y H2 I2 r1 r2 q2
def EJ (i:Nat):TE:=λσ H Q=>∃v,σ[i]? =some (some v)/\Q v H
def tC (v:V):TE:=λ_ H Q=>Q v H
def iS {i:Nat}{x:Str}{pos:Pos}(hN:X.N[i]? =some x)(hv:wO X.env.scope x)(hd:(x == ("__debug__":Str))=false:=by decide)(hcd:(x == ("__classdict__":Str))=false:=by decide):PE X (.Name x pos) (EJ i):=by
 intro pins s σ H Q I h
 obtain⟨v,e,h⟩:=h
 obtain⟨m,hn,hl⟩:=I.loc
 obtain⟨u,r,l⟩:=hl i x v hN e hv
 have fin:EP X pins σ Q u s:=⟨v,H,I,r,h⟩
 rcases l with⟨hk,hm⟩ | ⟨hk,c,hc,hcell⟩
 ·exact wpAny_Name (wpAny_loadName_local I.ok.kind hk hn hm fin) hd
 ·rcases hk with hk |hk
  ·exact wpAny_Name (wpAny_loadName_cell I.ok.kind hk hc hcell fin) hd
  ·exact wpAny_Name (wpAny_loadName_free I.ok.kind hk hc hcell fin hcd) hd
def me {i j pos}:PE X (.Constant (.int i) j pos) (tC (.int i)):=λ_ _ _ H _ I h=>wpAny_Constant_int ⟨.int i,H,I.tok _,⟨_,rfl⟩,h⟩
def zg {b j pos}:PE X (.Constant (.bool b) j pos) (tC (.bl b)):=λ_ _ _ H _ I h=>Constant_bool ⟨.bl b,H,I,rfl,h⟩
def DM {j pos}:PE X (.Constant .none j pos) (tC .non):=λ_ _ _ H _ I h=>Constant_none ⟨.non,H,I,rfl,h⟩
def CW {x j pos}:PE X (.Constant (.str x) j pos) (tC (.str x)):=λ_ _ _ H _ I h=>Calls.Constant_str ⟨.str x,H,I.tok _,⟨_,rfl⟩,h⟩
def Gl (X:Cx)(x:Str):Prop:=X.env.kindOf x=some .globalImplicit
def tf {E:Value->Shared->Prop}{pins:List (Addr×Obj)}{s:Shared}{σ:St}{H:Hp}{x:Str}{u:Value}{pos:Pos}{Q:Value->Shared->Prop}(I:Inv X pins σ H s)(hg:Gl X x)(hm:X.mg x=some u)(h:Q u s)
  (hd:(x == ("__debug__":Str))=false:=by decide):wpAny (model X.prog X.w) X.A (eval (.Name x pos) X.env) Q E s:=
 Calls.Name_function_global I.ok.kind hg (Calls.loadGlobal_global (by rw[I.ok.glob];exact I.mod.glob.keeps I.bk) hm h) hd
def qN {E:Value->Shared->Prop}{pins:List (Addr×Obj)}{s:Shared}{σ:St}{H:Hp}{x:Str}{u:Value}{pos:Pos}{Q:Value->Shared->Prop}(I:Inv X pins σ H s)(hg:Gl X x)(hm:X.mg x=none)(hv:bootBuiltins x=some u)(h:Q u s)
  (hn:x≠"__name__":=by decide) (hd:(x == ("__debug__":Str))=false:=by decide):wpAny (model X.prog X.w) X.A (eval (.Name x pos) X.env) Q E s:=by
 obtain⟨mb,h1,h2⟩:=I.mod.blt
 exact Calls.Name_function_global I.ok.kind hg (Calls.loadGlobal_builtin (by rw[I.ok.glob];exact I.mod.glob.keeps I.bk) hm (by rw[I.ok.blt];exact h1.keeps I.bk) ((h2 x hn).trans hv) h) hd
def FX {x:Str}{v:V}{u:Value}{pos:Pos}(hg:Gl X x)(hm:X.mg x=some u)(r:RelV v u)(hd:(x == ("__debug__":Str))=false:=by decide):PE X (.Name x pos) (tC v):=
 λ_ _ _ H _ I h=>tf I hg hm ⟨v,H,I,r,h⟩ hd
def Gi {x:Str}{v:V}{u:Value}{pos:Pos}(hg:Gl X x)(hm:X.mg x=none)(hv:bootBuiltins x=some u)(r:RelV v u)(hn:x≠"__name__":=by decide)(hd:(x == ("__debug__":Str))=false:=by decide):PE X (.Name x pos) (tC v):=
 λ_ _ _ H _ I h=>qN I hg hm hv ⟨v,H,I,r,h⟩ hn hd
variable {a b:Expr}{ta tb:TE}{pos:Pos}
def PC (X:Cx)(op:CmpOp)(a b:Expr)(t:TE):Prop:=
 ∀(pins:List (Addr×Obj)) (s:Shared) (σ:St) (H:Hp) (Q:VK),Inv X pins σ H s->t σ H Q->
  wpAny (model X.prog X.w) X.A (eval a X.env) (λv s₁=>wpAny (model X.prog X.w) X.A (eval b X.env) (λu s₂=>wpAny (model X.prog X.w) X.A (compareOp op v u) (EP X pins σ Q) X.xe s₂) X.xe s₁) X.xe s
def BS (b:Expr){op:CmpOp}(h:op≠.In)(h2:op≠.NotIn):behindInMarks op b=false:=by
 have e1:(op == CmpOp.In)=false:=by cases op <;> first |rfl |exact absurd rfl h
 have e2:(op == CmpOp.NotIn)=false:=by cases op <;> first |rfl |exact absurd rfl h2
 cases b <;> simp[behindInMarks,e1,e2]
def JJ (ta:TE):TE:=λσ H Q=>ta σ H λx H1=>Q (.bl (!decide (x=.non))) H1
theorem RelV.none_iff {x:V}{v:Value}(r:RelV x v):(v == Value.none)=decide (x=.non):=by
 cases x with
 |non=>cases r;rfl
 |bl _=>cases r;rfl
 |int _=>obtain⟨t,rfl⟩:=r;rfl
 |str _=>obtain⟨t,rfl⟩:=r;rfl
 |byt _=>obtain⟨t,rfl⟩:=r;rfl
 |flt _=>obtain⟨t,rfl⟩:=r;rfl
 |ref _=>cases r;rfl
 |ty _=>cases r;rfl
def FY {j pos'}(ha:PE X a ta):PC X .IsNot a (.Constant .none j pos') (JJ ta):=by
 intro pins s σ H Q I h
 refine b5 (ha pins s σ H _ I h) λv s1 ⟨x,H1,I1,r1,q1⟩=>?_
 exact Constant_none (isnot_none_gen ⟨.bl _,H1,I1,by rw[r1.none_iff];rfl,q1⟩)
def tB (t:TE):TT:=λσ H Q=>t σ H λx H1=>∃c,x=.bl c/\Q c H1
def IK {op:CmpOp}{t:TE}(h:PC X op a b t)(h1:behindInMarks op b=false:=by first |exact BS _ (by decide) (by decide) |rfl):PT X (.Compare a [op] [b] pos) (tB t):=by
 intro pins s σ H Q I hw
 refine wpAny_isTrue_Compare1 (b5 (h pins s σ H _ I hw) λv s1 h1=>b5 h1 λu s2 h2=>b5 h2 λc s3 ⟨x,H1,I1,r1,q1⟩=>?_) h1
 obtain⟨d,rfl,q⟩:=q1
 cases r1
 exact N8 ⟨H1,I1,q⟩
def xu {e:Expr}{t:TE}(h:PE X e t)(he:∀whole,isTrue e X.env whole=(do let v <-whole;standAt e.pos;holding [v] (truthy v)):=by intro _;rfl):PT X e (tB t):=by
 intro pins s σ H Q I hw
 refine isTrue_plain (b5 (h pins s σ H _ I hw) λv s1 ⟨x,H1,I1,r1,q1⟩=>?_) (he _)
 obtain⟨d,rfl,q⟩:=q1
 cases r1
 exact N8 ⟨H1,I1,q⟩
variable {tA tB':TT}{rest:List Expr}
def LS (t u:TT):TT:=λσ H Q=>t σ H λc H1=>if c=true then u σ H1 Q else Q false H1
def Mw (t u:TT):TT:=λσ H Q=>t σ H λc H1=>if c=true then Q true H1 else u σ H1 Q
def L6 (t:TT):TT:=λσ H Q=>t σ H λc H1=>Q (!c) H1
theorem yL (ha:PT X a tA):PW X (.BoolOp .And [a] pos) tA:=by
 intro wh pins s σ H Q I h
 refine isTrue_and (b5 (ha pins s σ H Q I h) λc s1 e=>?_)
 cases c with
 |true=>exact isTrue_and_nil e
 |false=>exact e
theorem HX (ha:PT X a tA):PW X (.BoolOp .Or [a] pos) tA:=by
 intro wh pins s σ H Q I h
 refine isTrue_or (b5 (ha pins s σ H Q I h) λc s1 e=>?_)
 cases c with
 |false=>exact isTrue_or_nil e
 |true=>exact e
theorem C2 (ha:PT X a tA)(hb:PW X (.BoolOp .And (b :: rest) pos) tB'):PW X (.BoolOp .And (a :: b :: rest) pos) (LS tA tB'):=by
 intro wh pins s σ H Q I h
 refine isTrue_and (b5 (ha pins s σ H _ I h) λc s1 ⟨H1,I1,q1⟩=>?_)
 cases c with
 |true=>exact hb wh pins s1 σ H1 Q I1 q1
 |false=>exact⟨H1,I1,q1⟩
theorem J5 (ha:PT X a tA)(hb:PW X (.BoolOp .Or (b :: rest) pos) tB'):PW X (.BoolOp .Or (a :: b :: rest) pos) (Mw tA tB'):=by
 intro wh pins s σ H Q I h
 refine isTrue_or (b5 (ha pins s σ H _ I h) λc s1 ⟨H1,I1,q1⟩=>?_)
 cases c with
 |true=>exact⟨H1,I1,q1⟩
 |false=>exact hb wh pins s1 σ H1 Q I1 q1
def IQ (ha:PT X a tA):PT X (.UnaryOp .Not a pos) (L6 tA):=by
 intro pins s σ H Q I h
 exact isTrue_not (ha pins s σ H (λc H1=>Q (!c) H1) I h)
def Kr (ta tb:TE):TE:=λσ H Q=>ta σ H λx H1=>∃c,x=.bl c/\if c=true then tb σ H1 Q else Q (.bl false) H1
def JM (ta:TE):TE:=λσ H Q=>ta σ H λx H1=>∃c,x=.bl c/\Q (.bl (!c)) H1
def IP {op}{t:TE}(h:PE X a t):PE X (.BoolOp op [a] pos) t:=λpins s σ H Q I hw=>BoolOp_one (h pins s σ H Q I hw)
theorem HH (ha:PE X a ta)(hb:PE X (.BoolOp .And (b :: rest) pos) tb):PE X (.BoolOp .And (a :: b :: rest) pos) (Kr ta tb):=by
 intro pins s σ H Q I h
 refine BoolOp_and (b5 (ha pins s σ H _ I h) λv s1 ⟨x,H1,I1,r1,q1⟩=>?_)
 obtain⟨c,rfl,q1⟩:=q1
 cases r1
 refine N8 ?_
 cases c with
 |true=>exact hb pins s1 σ H1 Q I1 q1
 |false=>exact⟨.bl false,H1,I1,rfl,q1⟩
def IS (ha:PE X a ta):PE X (.UnaryOp .Not a pos) (JM ta):=by
 intro pins s σ H Q I h
 refine UnaryOp_ (b5 (ha pins s σ H _ I h) λv s1 ⟨x,H1,I1,r1,q1⟩=>?_)
 obtain⟨c,rfl,q1⟩:=q1
 cases r1
 exact not_of (N8 ⟨.bl (!c),H1,I1,rfl,q1⟩)
end
def gG (K:Frag)(H:Hp)(a:Addr)(xs:List V):Prop:=
 Rd H a (.lst xs)\/
  ∃(o:Obj) (its:Array Value) (n:Nat),K.lookup a=some o/\o.cls=.type "list"/\o.dict=none/\o.data=.seq its n/\its.size<=sizeLine/\Vals xs its.toList
def fL (K:Frag)(H:Hp)(a:Addr)(xs:List V):Prop:=
 Rd H a (.tup xs)\/
  ∃(o:Obj) (its:Array Value) (n:Nat),K.lookup a=some o/\o.cls=.type "tuple"/\o.data=.seq its n/\its.size<=sizeLine/\Vals xs its.toList/\o.dict=none
def Ls:Value->Option V
 | .none=>some .non
 | .bool b=>some (.bl b)
 | .int i _=>some (.int i)
 | .str x _=>some (.str x)
 | .bytes b _=>some (.byt b)
 | .float b _=>some (.flt b)
 | .ref a=>some (.ref a)
 | .type n=>some (.ty n)
 |_=>none
theorem RelV.abs {x:V}{u:Value}(r:RelV x u):Ls u=some x:=by
 cases x with
 |non=>cases r;rfl
 |bl _=>cases r;rfl
 |int _=>obtain⟨t,rfl⟩:=r;rfl
 |str _=>obtain⟨t,rfl⟩:=r;rfl
 |byt _=>obtain⟨t,rfl⟩:=r;rfl
 |flt _=>obtain⟨t,rfl⟩:=r;rfl
 |ref _=>cases r;rfl
 |ty _=>cases r;rfl
def RelV.inj {x y:V}{u:Value}(r:RelV x u)(q:RelV y u):x=y:=Option.some.inj (r.abs.symm.trans q.abs)
theorem Vals.inj:∀{xs ys:List V} {us:List Value},Vals xs us->Vals ys us->xs=ys
 |_,_,_,.nil,.nil=>rfl
 |_,_,_,.cons r t,.cons r' t'=>by rw[r.inj r',Vals.inj t t']
section
variable {X:Cx}{pins:List (Addr×Obj)}{σ:St}{H:Hp}{s:Shared}{a:Addr}{xs ys:List V}
def Inv.list (I:Inv X pins σ H s)(h:gG X.K H a xs):∃its:List Value,Vals xs its/\PlainL s.heap a its.toArray/\xs.length<=sizeLine:=by
 rcases h with h | ⟨o,its,n,hk,hc,hd,hs,hz,r⟩
 ·obtain⟨z,its,n,r,e⟩:=h.ok I.hok
  exact⟨its,r,⟨_,n,e,rfl,rfl,rfl⟩,z⟩
 ·refine⟨its.toList,r,⟨o,n,I.kIn a o hk,hc,hd,by simpa using hs⟩,?_⟩
  have e:=r.length
  simp only[OS] at e
  omega
def Inv.tuple (I:Inv X pins σ H s)(h:fL X.K H a xs):∃its:List Value,Vals xs its/\IsTup s.heap a its.toArray/\xs.length<=sizeLine:=by
 rcases h with h | ⟨o,its,n,hk,hc,hs,hz,r,_⟩
 ·obtain⟨z,its,r,p⟩:=h.ok I.hok
  exact⟨its,r,p.isTup,z⟩
 ·refine⟨its.toList,r,⟨o,I.kIn a o hk,hc,n,by simpa using hs⟩,?_⟩
  have e:=r.length
  simp only[OS] at e
  omega
def Inv.list_inj (I:Inv X pins σ H s)(h:gG X.K H a xs)(h':gG X.K H a ys):xs=ys:=by
 obtain⟨its,r,⟨o,n,e,_,_,d⟩,_⟩:=I.list h
 obtain⟨its',r',⟨o',n',e',_,_,d'⟩,_⟩:=I.list h'
 rw[e] at e';cases e'
 rw[d] at d'
 injection d' with d1 _
 have:its=its':=by simpa using congrArg Array.toList d1
 subst this
 exact r.inj r'
def Inv.tuple_inj (I:Inv X pins σ H s)(h:fL X.K H a xs)(h':fL X.K H a ys):xs=ys:=by
 obtain⟨its,r,⟨o,e,_,n,d⟩,_⟩:=I.tuple h
 obtain⟨its',r',⟨o',e',_,n',d'⟩,_⟩:=I.tuple h'
 rw[e] at e';cases e'
 rw[d] at d'
 injection d' with d1 _
 have:its=its':=by simpa using congrArg Array.toList d1
 subst this
 exact r.inj r'
end
abbrev Cx.wish (X:Cx)(E:Value->Shared->Prop):Cx:={X with xe:=E}
abbrev Cx.nox (X:Cx):Cx:=X.wish λ_ _=>False
def Cx.Ok.wish {X:Cx}(ok:X.Ok)(E:Value->Shared->Prop):(X.wish E).Ok:=
 ⟨ok.mod,ok.kind,ok.glob,ok.blt,ok.above,ok.inj,ok.has,ok.cab,ok.hd,ok.frames,ok.stk,ok.exf,ok.bs,ok.bsz,ok.noex,ok.exfs,ok.funs,ok.frf⟩
def Cx.Ok.unwish {X:Cx}{E:Value->Shared->Prop}(ok:(X.wish E).Ok):X.Ok:=
 ⟨ok.mod,ok.kind,ok.glob,ok.blt,ok.above,ok.inj,ok.has,ok.cab,ok.hd,ok.frames,ok.stk,ok.exf,ok.bs,ok.bsz,ok.noex,ok.exfs,ok.funs,ok.frf⟩
section
variable {X:Cx}{pins:List (Addr×Obj)}{σ:St}{H:Hp}{s:Shared}{E:Value->Shared->Prop}
def Inv.wish (I:Inv X pins σ H s)(E:Value->Shared->Prop):Inv (X.wish E) pins σ H s:=⟨I.ok.wish E,I.os,I.bare,I.base,I.loc,I.cell,I.free,I.freeC,I.pin,I.hok,I.len⟩
def Inv.unwish (I:Inv (X.wish E) pins σ H s):Inv X pins σ H s:=⟨I.ok.unwish,I.os,I.bare,I.base,I.loc,I.cell,I.free,I.freeC,I.pin,I.hok,I.len⟩
theorem SP.unwish {D:Ends}{f:Flow}{s':Shared}(h:SP (X.wish E) pins D f s'):SP X pins D f s':=by
 cases f with
 |next=>obtain⟨σ',H',I,q⟩:=h;exact⟨σ',H',I.unwish,q⟩
 |brk=>obtain⟨σ',H',I,q⟩:=h;exact⟨σ',H',I.unwish,q⟩
 |cont=>obtain⟨σ',H',I,q⟩:=h;exact⟨σ',H',I.unwish,q⟩
 |ret u=>obtain⟨v,σ',H',I,r,q⟩:=h;exact⟨v,σ',H',I.unwish,r,q⟩
def sg.nox {st:List Stmt}{t:TS}(h:sg X.nox st t):sg X st t:=λpins s σ H D I hw=>
 N0 (h pins s σ H D (I.wish _) hw) (λ_ _ q=>q.unwish) λ_ _ z=>False.elim z
end
section
variable {X:Cx}{st:Stmt}{rest:List Stmt}{t u:TS}{e:Expr}{te:TE}{pos:Pos}
def JX:TS:=λD σ H=>D.nx σ H
def K6 (t u:TS):TS:=λD σ H=>t {D with nx:=u D} σ H
def zx:sg X [] JX:=λ_ _ σ H _ I h=>wpAny_execs_nil ⟨σ,H,I,h⟩
theorem iQ (h1:PS X st t)(h2:sg X rest u):sg X (st :: rest) (K6 t u):=by
 intro pins s σ H D I h
 refine wpAny_execs_cons (b5 (h1 pins s σ H {D with nx:=u D} I h) λf s1 q=>?_)
 cases f with
 |next=>
  obtain⟨σ',H',I',q⟩:=q
  exact h2 pins s1 σ' H' D I' q
 |ret v=>exact q
 |brk=>exact q
 |cont=>exact q
theorem jf (h1:PS X st t):sg X [st] t:=by
 intro pins s σ H D I h
 refine wpAny_execs_cons (b5 (h1 pins s σ H D I h) λf s1 q=>?_)
 cases f with
 |next=>exact wpAny_execs_nil q
 |ret v=>exact q
 |brk=>exact q
 |cont=>exact q
def Inv.quiet {pins:List (Addr×Obj)}{σ:St}{H:Hp}{s:Shared}(I:Inv X pins σ H s):interactive X.env=false:=by simp[interactive,I.ok.kind]
def JI (te:TE):TS:=λD σ H=>te σ H λ_ H1=>D.nx σ H1
def pk (he:PE X e te)(hs:swapsWith e none pos.line X.env=pure false:=by rfl):PS X (.Expr e pos) (JI te):=by
 intro pins s σ H D I h
 exact wpAny_Expr_any (b5 (he pins s σ H _ I h) λv s1 ⟨x,H1,I1,r1,q1⟩=>⟨σ,H1,I1,q1⟩) I.quiet hs
def L3 (te:TE):TS:=λD σ H=>te σ H D.rt
def nV (he:PE X e te):PS X (.Return (some e) pos) (L3 te):=by
 intro pins s σ H D I h
 exact wpAny_Return_some (b5 (he pins s σ H _ I h) λv s1 ⟨x,H1,I1,r1,q1⟩=>⟨x,σ,H1,I1,r1,q1⟩)
def LI (c:TT)(t u:TS):TS:=λD σ H=>c σ H λb H1=>if b=true then t D σ H1 else u D σ H1
theorem GY {c:Expr}{a b:List Stmt}{tc:TT}(hc:PT X c tc)(ha:sg X a t)(hb:sg X b u):PS X (.If c a b pos) (LI tc t u):=by
 intro pins s σ H D I h
 refine wpAny_If (b5 (hc pins s σ H _ I h) λd s1 ⟨H1,I1,q1⟩=>?_)
 cases d with
 |true=>exact ha pins s1 σ H1 D I1 q1
 |false=>exact hb pins s1 σ H1 D I1 q1
end
abbrev TG:=V->St->Hp->(St->Hp->Prop)->Prop
abbrev Iq:=List V->St->Hp->(St->Hp->Prop)->Prop
def PG (X:Cx)(target:Expr)(t:TG):Prop:=
 ∀(pins:List (Addr×Obj)) (s:Shared) (σ:St) (H:Hp) (v:V) (u:Value) (Q:St->Hp->Prop),Inv X pins σ H s->RelV v u->t v σ H Q->
  wpAny (model X.prog X.w) X.A (assign target X.env u) (λ_ s'=>∃σ' H',Inv X pins σ' H' s'/\Q σ' H') X.xe s
def K3 (X:Cx)(ts:List Expr)(t:Iq):Prop:=
 ∀(pins:List (Addr×Obj)) (s:Shared) (σ:St) (H:Hp) (vs:List V) (us:List Value) (Q:St->Hp->Prop),Inv X pins σ H s->Vals vs us->t vs σ H Q->
  wpAny (model X.prog X.w) X.A (assignInOrder ((assignEach ts X.env).map (·.2)) us) (λ_ s'=>∃σ' H',Inv X pins σ' H' s'/\Q σ' H') X.xe s
abbrev Ic:=V->V->V->Hp->(Hp->Prop)->Prop
def uO (X:Cx)(t:Ic):Prop:=
 ∀(pins:List (Addr×Obj)) (s:Shared) (σ:St) (H:Hp) (o i v:V) (ov iv u:Value) (Q:Hp->Prop),Inv X pins σ H s->RelV o ov->RelV i iv->RelV v u->t o i v H Q->
  wpAny (model X.prog X.w) X.A (setItem ov iv u) (λ_ s'=>∃H',Inv X pins σ H' s'/\Q H') X.xe s
section
variable {X:Cx}{pos:Pos}
def lQ (i:Nat):TG:=λv σ H Q=>Q (σ.set i (some v)) H
def cW {i:Nat}{x:Str}(hN:X.N.Nodup)(hi:X.N[i]? =some x)(hx:Loc X.env.scope x)(hf:X.fn x=true\/X.env.scope.names.lookup x=some .local:=by first |exact .inl rfl |exact .inr rfl |assumption):PG X (.Name x pos) (lQ i):=by
 intro pins s σ H v u Q I r h
 exact wpAny_assign_Name (wy I hN hi hx r (λs' I'=>⟨_,H,I',h⟩) hf)
def FT:Iq:=λvs σ H Q=>vs= []/\Q σ H
def pU (t:TG)(u:Iq):Iq:=λvs σ H Q=>∃v r,vs=v :: r/\t v σ H λσ' H'=>u r σ' H' Q
def nF:K3 X [] FT:=by
 intro pins s σ H vs us Q I r h
 obtain⟨e,h⟩:=h
 subst e
 cases r
 exact assignInOrder_nil ⟨σ,H,I,h⟩
theorem dM {e:Expr}{es:List Expr}{t:TG}{u:Iq}(h1:PG X e t)(h2:K3 X es u)
  (hs:(assignEach (e :: es) X.env).map (·.2)=assign e X.env :: (assignEach es X.env).map (·.2):=by rfl):K3 X (e :: es) (pU t u):=by
 intro pins s σ H vs us Q I r h
 obtain⟨v,vr,e1,h⟩:=h
 subst e1
 cases r with
 |cons r rr=>
  rw[hs]
  refine assignInOrder_cons (b5 (h1 pins s σ H _ _ _ I r h) λ_ s1 ⟨σ1,H1,I1,q1⟩=>?_)
  exact h2 pins s1 σ1 H1 _ _ Q I1 rr q1
def FC (K:Frag)(n:Nat)(t:Iq):TG:=λv σ H Q=>∃a xs,v=.ref a/\fL K H a xs/\xs.length=n/\t xs σ H Q
def ql {es:List Expr}{k:Nat}{t:Iq}{n:Nat}(hc:X.calm=true)(h:K3 X es t)
  (hn:(assignEach es X.env).length=n:=by rfl) (hst:(assignEach es X.env).findIdx? (·.1)=none:=by rfl):PG X (.Tuple es k pos) (FC X.K n t):=by
 intro pins s σ H v u Q I r hw
 obtain⟨a,xs,e1,hq,hl,hw⟩:=hw
 subst e1
 cases r
 obtain⟨its,rv,ht,hz⟩:=I.tuple hq
 refine assign_Tuple_tuple (I.ok.hd hc) ht (by simp[hn,<-hl,rv.length]) hst λh' hx=>?_
 have I1:Inv X pins σ H {s with heap:=h'}:=I.kept (t':=s.toks) λb o e=>hx b o (Nl (MT e)) e
 exact h pins _ σ H xs _ Q I1 (by simpa using rv) hw
def LG (to ti:TE)(t:Ic):TG:=λv σ H Q=>to σ H λo H1=>ti σ H1 λi H2=>t o i v H2 λH3=>Q σ H3
def yn {o i:Expr}{to ti:TE}{t:Ic}(ho:PE X o to)(hi:PE X i ti)(hs:uO X t)
  (ha:∀v,assign (.Subscript o i pos) X.env v=(do
   let ov <-holding [v] (eval o X.env)
   let iv <-holding [v,ov] (eval i X.env)
   standAt pos
   holding [v,ov,iv] (setItem ov iv v)
   release [v,ov,iv] []):=by intro _;rfl):PG X (.Subscript o i pos) (LG to ti t):=by
 intro pins s σ H v u Q I r h
 rw[ha]
 refine MF (NP (b5 (ho pins s σ H _ I h) λov s1 ⟨x,H1,I1,r1,q1⟩=>?_))
 refine MF (NP (b5 (hi pins s1 σ H1 _ I1 q1) λiv s2 ⟨y,H2,I2,r2,q2⟩=>?_))
 refine MF (wpAny_standAt (MF (NP (b5 (hs pins s2 σ H2 x y v ov iv u _ I2 r1 r2 r q2) λ_ s3 ⟨H3,I3,q3⟩=>?_))))
 exact wpAny_release ⟨σ,H3,I3,q3⟩
def Kj (te:TE)(g:TG):TS:=λD σ H=>te σ H λx H1=>g x σ H1 D.nx
def qE {tg e:Expr}{te:TE}{g:TG}(he:PE X e te)(hg:PG X tg g)(hs:swapsWithSole [tg] e pos.line X.env=pure false:=by rfl)(hw:swappedStores [tg] e X.env=pure none:=by rfl)
  (h1:(assignEach [tg] X.env).map (·.2)= [assign tg X.env]:=by rfl):PS X (.Assign [tg] e pos) (Kj te g):=by
 intro pins s σ H D I h
 refine wpAny_Assign_stores (b5 (he pins s σ H _ I h) λv s1 ⟨x,H1,I1,r1,q1⟩=>?_) hs hw
 rw[h1]
 exact b5 (hg pins s1 σ H1 x v _ I1 r1 q1) λ_ s2 q=>q
def pO {i:Nat}{x:Str}{e:Expr}{te:TE}{pos':Pos}(hN:X.N.Nodup)(hi:X.N[i]? =some x)(hx:Loc X.env.scope x)(he:PE X e te)(hs:swapsWith e (some (.Name x pos')) pos.line X.env=pure false:=by rfl)(hf:X.fn x=true\/X.env.scope.names.lookup x=some .local:=by first |exact .inl rfl |exact .inr rfl |assumption) :
  PS X (.Assign [.Name x pos'] e pos) (Kj te (lQ i)):=by
 intro pins s σ H D I h
 refine wpAny_Assign_Name (b5 (he pins s σ H _ I h) λv s1 ⟨y,H1,I1,r1,q1⟩=>?_) hs
 exact wy I1 hN hi hx r1 (λs2 I2=>⟨_,H1,I2,q1⟩) hf
end
section
variable {X:Cx}{pos:Pos}
def IV (c:TT)(tb:TS):TS:=λD σ H=>∃W:Nat->St->Hp->Prop,(∃m,W m σ H)/\∀m σ H,W m σ H->
 c σ H λb H1=>if b=true then ∃N:St->Hp->Prop,(∀σ' H',N σ' H'->∃m',m' < m/\W m' σ' H')/\tb {D with nx:=N,ct:=N,bk:=D.nx} σ H1 else D.nx σ H1
theorem Ci {c:Expr}{body:List Stmt}{tc:TT}{tb:TS}(hp:PassesOwn (model X.prog X.w) X.A X.env X.xe)(hc:PT X c tc)(hb:sg X body tb):PS X (.While c body [] pos) (IV tc tb):=by
 intro pins s σ H D I h
 obtain⟨W,⟨m0,w0⟩,turn⟩:=h
 refine wpAny_While (codeAny_whileLoop (λn s'=>∃σ' H',Inv X pins σ' H' s'/\W n σ' H') ?_ m0 ⟨σ,H,I,w0⟩)
 rintro n s1 ⟨σ1,H1,I1,w1⟩
 refine Oy hp (b5 (hc pins s1 σ1 H1 _ I1 (turn n σ1 H1 w1)) λb s2 ⟨H2,I2,q2⟩=>?_)
 cases b with
 |true=>
  obtain⟨N,hN,q2⟩:=q2
  rw[MJ rfl]
  refine Oy hp (b5 (hb pins s2 σ1 H2 _ I2 q2) λf s3 q3=>?_)
  cases f with
  |next=>
   obtain⟨σ3,H3,I3,n3⟩:=q3
   obtain⟨m',hm,w3⟩:=hN σ3 H3 n3
   exact⟨m',hm,σ3,H3,I3,w3⟩
  |cont=>
   obtain⟨σ3,H3,I3,n3⟩:=q3
   obtain⟨m',hm,w3⟩:=hN σ3 H3 n3
   exact⟨m',hm,σ3,H3,I3,w3⟩
  |brk=>exact q3
  |ret v=>exact q3
 |false=>
  rw[MO Nb]
  exact wpAny_execs_nil ⟨σ1,H2,I2,q2⟩
end
structure It where
 go:Nat->Hp->Prop
 yld:Nat->Hp->V->Hp->Prop
 stop:Nat->Hp->Prop
def oO (X:Cx)(pins:List (Addr×Obj))(H:Hp)(b:Addr):Prop:=
 H b=none/\b≠X.env.locals/\b∉X.fs/\(b∈X.ex\/X.s₀.heap.objs.size<=b)/\(∀x c,X.env.cells.lookup x=some c->c≠b)/\∀p∈X.pn ++ pins,p.1≠b
def Inv.fpOk {X:Cx}{pins:List (Addr×Obj)}{σ:St}{H H':Hp}{s:Shared}{b:Addr}(I:Inv X pins σ H s)(hb:s.heap.objs.size<=b)(hn:H' b=none):oO X pins H' b:=by
 refine⟨hn,Nat.ne_of_gt (Nk I.lt hb),I.nofs hb,.inr (NA I.sz hb),λx c e z=>?_,λp hp z=>?_⟩
 ·obtain⟨v,q⟩:=I.cell x c e
  exact absurd (Nk q.lt (by rw[z];exact hb)) (Ny _)
 ·exact absurd (Nk (MT (I.pin p hp).1) (by rw[z];exact hb)) (Ny _)
structure Turn (P:Program)(w:World)(K:Frag)(tg:Expr)(J:It)(fp:List Addr)(it:Addr)(tn:Nat->Heap->Prop):Prop where
 mem:it∈fp
 obj:∀i h,tn i h->∀b∈fp,∃o,h.get? b=some o/\∀v,o.data≠.cell v
 keep:∀i h h',tn i h->(∀b∈fp,∀o,h.get? b=some o->h'.get? b=some o)->tn i h'
 item:∀(X:Cx),X.prog=P->X.w=w->X.K=K->X.calm=true->∀(i:Nat) (pins:List (Addr×Obj)) (s:Shared) (σ:St) (H:Hp) (E:Value->Shared->Prop),Inv X pins σ H s->(∀b∈fp,oO X pins H b)->tn i s.heap->J.go i H->
  wpAny (model P w) X.A (pyNext (.ref it)) (λr s1=>∃u,r=some u/\
   wpAny (model P w) X.A (letOwnedTupleGo tg (.ref it) u) (λ_ s2=>∃x H',Inv X pins σ H' s2/\RelV x u/\J.yld i H x H'/\tn (i + 1) s2.heap/\∀b∈fp,H' b=none) E s1) E s
 done:∀(X:Cx),X.prog=P->X.w=w->X.K=K->X.calm=true->∀(i:Nat) (pins:List (Addr×Obj)) (s:Shared) (σ:St) (H:Hp) (E:Value->Shared->Prop),Inv X pins σ H s->(∀b∈fp,oO X pins H b)->tn i s.heap->J.stop i H->
  wpAny (model P w) X.A (pyNext (.ref it)) (λr s1=>r=none/\Inv X pins σ H s1) E s
 self:∀(A:Around) (i:Nat) (s:Shared) (Q:Value->Shared->Prop) (E:Value->Shared->Prop),tn i s.heap->Q (.ref it) s->wpAny (model P w) A (pyIter (.ref it)) Q E s
abbrev TI:=St->Hp->(It->Hp->Prop)->Prop
def Ml (X:Cx)(pins:List (Addr×Obj))(σ:St)(tg:Expr)(R:It->Hp->Prop)(itv:Value)(s2:Shared):Prop:=
 ∃(it:Addr) (fp:List Addr) (tn:Nat->Heap->Prop) (J:It) (H':Hp),itv=.ref it/\Inv X pins σ H' s2/\Turn X.prog X.w X.K tg J fp it tn/\tn 0 s2.heap/\(∀b∈fp,oO X pins H' b)/\R J H'
def PI (X:Cx)(tg iter:Expr)(wi:TI):Prop:=
 ∀(pins:List (Addr×Obj)) (s:Shared) (σ:St) (H:Hp) (R:It->Hp->Prop),Inv X pins σ H s->wi σ H R->
  wpAny (model X.prog X.w) X.A (eval iter X.env) (λv s1=>wpAny (model X.prog X.w) X.A (pyIter v) (Ml X pins σ tg R) X.xe s1) X.xe s
def B4 {M:Model}{A:Around}{E:Value->Shared->Prop}{s:Shared}{tg:Expr}{it:Addr}{u:Value}{o:Obj}{n:String}{vs:Array Value}{Q:Unit->Shared->Prop}(ho:s.heap.get? it=some o)(hc:o.cls=.type n)(hd:o.data=.fields vs)
  (hn: ["enumerate","zip","dict_itemiterator","dict_reverseitemiterator","odict_iterator","itertools.zip_longest","itertools.pairwise"].contains n=false) (hQ:Q () s):wpAny M A (letOwnedTupleGo tg (.ref it) u) Q E s:=by
 unfold letOwnedTupleGo
 cases tg <;> first
  |exact MI hQ
  | (cases u <;> first
    |exact MI hQ
    | (refine MF (wpAny_load ho ?_)
       rw[hc,hd]
       show wpAny M A (if (["enumerate","zip","dict_itemiterator","dict_reverseitemiterator","odict_iterator","itertools.zip_longest","itertools.pairwise"].contains n && vs[0]? == some (rawInt _))=true then _ else _) Q E s
       rw[MO (by intro h;rw[hn,Bool.false_and] at h;cases h)]
       exact MI hQ))
def Bb (K:Frag)(a:Addr):It:=
 ⟨λi H=>∃xs x,gG K H a xs/\xs[i]? =some x,λi H x H'=>H'=H/\∀xs,gG K H a xs->xs[i]? =some x,λi H=>∃xs,gG K H a xs/\xs.length<=i⟩
def GS (K:Frag)(a:Addr):It:=
 ⟨λi H=>∃xs x,fL K H a xs/\xs[i]? =some x,λi H x H'=>H'=H/\∀xs,fL K H a xs->xs[i]? =some x,λi H=>∃xs,fL K H a xs/\xs.length<=i⟩
def Bc (lo:Int)(n:Nat):It:=⟨λi _=>i < n,λi H x H'=>H'=H/\x=.int (lo + i),λi _=>n<=i⟩
def nZ {P:Program}{w:World}{K:Frag}{tg:Expr}(a it:Addr):Turn P w K tg (Bb K a) [it] it (λi h=>h.IsListIter it a i) where
 mem:=by simp
 obj:=λi h st b hb=>by
  have e:b=it:=by simpa using hb
  subst e
  obtain⟨o,e,c,d⟩:=st
  exact⟨o,e,λv z=>by rw[d] at z;cases z⟩
 keep:=λi h h' st k=>st.at λo e=>k it (by simp) o e
 item:=by
  intro X hP hw hK hc i pins s σ H E I hf st hg
  subst hP hw hK
  obtain⟨xs,x,hq,hx⟩:=hg
  obtain⟨its,rv,p,hz⟩:=I.list hq
  obtain⟨u,hu,ru⟩:=rv.get hx
  obtain⟨f0,f1,f2,f3,f4,f5⟩:=hf it (by simp)
  refine wpAny_pyNext_list_item st p.isList (x:=u) (by simpa using hu) λh' st' sb=>?_
  have I1:Inv X pins σ H {s with heap:=h'}:=I.turned (t':=s.toks) (λb o hb e=>(sb.2 b hb).trans e) f0 f1 f3 f4 f5
  obtain⟨o,e,c,d⟩:=id st'
  exact⟨u,rfl,B4 (s:={s with heap:=h'}) e c d (by decide) ⟨x,H,I1,ru,⟨rfl,λys hy=>by rw[I.list_inj hy hq];exact hx⟩,st',λb hb=>(hf b hb).1⟩⟩
 done:=by
  intro X hP hw hK hc i pins s σ H E I hf st hg
  subst hP hw hK
  obtain⟨xs,hq,hx⟩:=hg
  obtain⟨its,rv,p,hz⟩:=I.list hq
  obtain⟨f0,f1,f2,f3,f4,f5⟩:=hf it (by simp)
  have hl:=rv.length
  exact wpAny_pyNext_list_end (I.ok.hd hc) st p.isList (by simp;omega) λh' eb=>⟨rfl,I.turned (t':=s.toks) (λb o hb e=>eb b o hb e) f0 f1 f3 f4 f5⟩
 self:=λ_ _ _ _ _ st h=>wpAny_pyIter_listiter st h
def pW {P:Program}{w:World}{K:Frag}{tg:Expr}(a it:Addr):Turn P w K tg (GS K a) [it] it (λi h=>h.IsTupleIter it a i) where
 mem:=by simp
 obj:=λi h st b hb=>by
  have e:b=it:=by simpa using hb
  subst e
  obtain⟨o,e,c,d⟩:=st
  exact⟨o,e,λv z=>by rw[d] at z;cases z⟩
 keep:=λi h h' st k=>st.at λo e=>k it (by simp) o e
 item:=by
  intro X hP hw hK hc i pins s σ H E I hf st hg
  subst hP hw hK
  obtain⟨xs,x,hq,hx⟩:=hg
  obtain⟨its,rv,p,hz⟩:=I.tuple hq
  obtain⟨u,hu,ru⟩:=rv.get hx
  obtain⟨f0,f1,f2,f3,f4,f5⟩:=hf it (by simp)
  refine wpAny_pyNext_tuple_item st (show s.heap.IsTuple a its.toArray from p) (x:=u) (by simpa using hu) λh' st' sb=>?_
  have I1:Inv X pins σ H {s with heap:=h'}:=I.turned (t':=s.toks) (λb o hb e=>(sb.2 b hb).trans e) f0 f1 f3 f4 f5
  obtain⟨o,e,c,d⟩:=id st'
  exact⟨u,rfl,B4 (s:={s with heap:=h'}) e c d (by decide) ⟨x,H,I1,ru,⟨rfl,λys hy=>by rw[I.tuple_inj hy hq];exact hx⟩,st',λb hb=>(hf b hb).1⟩⟩
 done:=by
  intro X hP hw hK hc i pins s σ H E I hf st hg
  subst hP hw hK
  obtain⟨xs,hq,hx⟩:=hg
  obtain⟨its,rv,p,hz⟩:=I.tuple hq
  obtain⟨f0,f1,f2,f3,f4,f5⟩:=hf it (by simp)
  have hl:=rv.length
  exact wpAny_pyNext_tuple_end (I.ok.hd hc) st (show s.heap.IsTuple a its.toArray from p) (by simp;omega) λh' eb=>⟨rfl,I.turned (t':=s.toks) (λb o hb e=>eb b o hb e) f0 f1 f3 f4 f5⟩
 self:=λ_ _ _ _ _ st h=>wpAny_pyIter_tupleiter st h
def xr {P:Program}{w:World}{K:Frag}{tg:Expr}(it:Addr)(lo:Int)(n:Nat):Turn P w K tg (Bc lo n) [it] it (λi h=>IsRangeIter h it (lo + (i:Nat) * 1) ((n:Int) - (i:Nat)) 1) where
 mem:=by simp
 obj:=λi h st b hb=>by
  have e:b=it:=by simpa using hb
  subst e
  exact⟨_,st,λv z=>by
   have z':Data.fields _=Data.cell v:=z
   cases z'⟩
 keep:=λi h h' st k=>k it (by simp) _ st
 item:=by
  intro X hP hw hK hc i pins s σ H E I hf st hg
  subst hP hw hK
  obtain⟨f0,f1,f2,f3,f4,f5⟩:=hf it (by simp)
  have W:=Walks.range (prog:=X.prog) (w:=X.w) (I.ok.hd hc) it lo 1 n
  refine W.item i s _ _ hg st λv h' tk hv st' kk=>?_
  obtain⟨t,rfl⟩:=hv
  have I1:Inv X pins σ H {s with heap:=h',toks:=tk}:=I.turned (λb o hb e=>kk b o (by simpa using hb) e) f0 f1 f3 f4 f5
  refine⟨_,rfl,B4 (s:={s with heap:=h',toks:=tk}) (n:="range_iterator") st' rfl rfl (by decide) ⟨.int (lo + i),H,I1,⟨t,?_⟩,⟨rfl,rfl⟩,st',λb hb=>(hf b hb).1⟩⟩
  rw[Int.mul_one]
 done:=by
  intro X hP hw hK hc i pins s σ H E I hf st hg
  subst hP hw hK
  obtain⟨f0,f1,f2,f3,f4,f5⟩:=hf it (by simp)
  exact wpAny_pyNext_range_end (I.ok.hd hc) st (by have:n<=i:=hg;omega) λh' eb=>⟨rfl,I.turned (t':=s.toks) (λb o hb e=>eb b o hb e) f0 f1 f3 f4 f5⟩
 self:=λ_ _ _ _ _ st h=>wpAny_pyIter_rangeiter st h
section
variable {X:Cx}{tg:Expr}
def Ji (K:Frag)(tl:TE):TI:=λσ H R=>tl σ H λx H1=>∃a,x=.ref a/\(∃xs,gG K H1 a xs)/\R (Bb K a) H1
def zW {l:Expr}{tl:TE}(hl:PE X l tl):PI X tg l (Ji X.K tl):=by
 intro pins s σ H R I h
 refine b5 (hl pins s σ H _ I h) λv s1 ⟨x,H1,I1,r1,q1⟩=>?_
 obtain⟨a,e,⟨xs,hq⟩,q⟩:=q1
 subst e
 cases r1
 obtain⟨its,rv,p,hz⟩:=I1.list hq
 refine OD p.isList ?_
 refine⟨s1.heap.objs.size,[s1.heap.objs.size],_,_,H1,rfl,I1.kept (t':=s1.toks) λb o e=>MH _ e,nZ a _,⟨_,MX _ rfl,rfl,rfl⟩,λb hb=>?_,q⟩
 have e:b=s1.heap.objs.size:=by simpa using hb
 subst e
 exact I1.fpOk (MK _) (I1.hok.fresh (MK _))
def vV {pins:List (Addr×Obj)}{σ:St}{H:Hp}{s:Shared}{R:It->Hp->Prop}{E:Value->Shared->Prop}{lo hi:Int}{t u v:Tok}{tk:Nat}(I:Inv X pins σ H s)(h1: -(2 ^ 62)<=lo)(h2:lo < 2 ^ 62)(h3: -(2 ^ 62)<=hi)(h4:hi < 2 ^ 62)
  (q:R (Bc lo (hi - lo).toNat) H):wpAny (model X.prog X.w) X.A (pyIter (.ref s.heap.objs.size)) (Ml X pins σ tg R) E {s with heap:=s.heap.push {cls:=.type "range",data:=.fields #[.int lo t,.int hi u,.int 1 v]},toks:=tk}:=by
 refine wpAny_pyIter_range (IsRange.new ..) (small_one h1 h2 h3 h4) ?_
 have I1:Inv X pins σ H {s with heap:=s.heap.push {cls:=.type "range",data:=.fields #[.int lo t,.int hi u,.int 1 v]},toks:=tk}:=I.kept λb o e=>MH _ e
 refine⟨(s.heap.push {cls:=.type "range",data:=.fields #[.int lo t,.int hi u,.int 1 v]}).objs.size,[(s.heap.push {cls:=.type "range",data:=.fields #[.int lo t,.int hi u,.int 1 v]}).objs.size],_,_,H,rfl,
  I1.kept (t':=tk) λb o e=>MH _ e,xr _ lo (hi - lo).toNat,?_,λb hb=>?_,q⟩
 ·have e1:lo + ((0:Nat):Int) * 1=lo:=by simp
  have e2:(((hi - lo).toNat:Nat):Int) - ((0:Nat):Int)=Builtin.Range.rangeSize lo hi 1:=by rw[rangeSize_one];split <;> omega
  show IsRangeIter _ _ (lo + ((0:Nat):Int) * 1) ((((hi - lo).toNat:Nat):Int) - ((0:Nat):Int)) 1
  rw[e1,e2]
  exact MX _ rfl
 ·have e:b=(s.heap.push {cls:=.type "range",data:=.fields #[.int lo t,.int hi u,.int 1 v]}).objs.size:=by simpa using hb
  subst e
  exact I1.fpOk (MK _) (I1.hok.fresh (MK _))
def Jk (ta:TA):TI:=λσ H R=>ta σ H λvs H1=>∃j:Int,vs= [.int j]/\ -(2 ^ 62)<=j/\j < 2 ^ 62/\R (Bc 0 j.toNat) H1
def JR (ta:TA):TI:=λσ H R=>ta σ H λvs H1=>∃i j:Int,vs= [.int i,.int j]/\(-(2 ^ 62)<=i/\i < 2 ^ 62/\ -(2 ^ 62)<=j/\j < 2 ^ 62)/\R (Bc i (j - i).toNat) H1
theorem lz {a:Expr}{ta:TA}{p pos:Pos}(hg:Gl X "range")(hm:X.mg "range"=none)(ha:PA X [a] ta)(hs:starEach [a] X.env= [(false,eval a X.env)]:=by rfl):PI X tg (.Call (.Name "range" p) [a] [] pos) (Jk ta):=by
 intro pins s σ H R I h
 refine Call_ (qN I hg hm boot_range (O3 (b5 (ha pos pins s σ H _ I h) λus s1 ⟨vs,H1,I1,r1,q1⟩=>?_) hs rfl))
 obtain⟨j,e,q1,q2,q⟩:=q1
 subst e
 cases r1 with
 |cons r rr=>
  cases rr
  obtain⟨t,rfl⟩:=r
  exact call_range_1 (vV I1 (by omega) (by omega) q1 q2 (by simpa using q))
theorem Ay {a b:Expr}{ta:TA}{p pos:Pos}(hg:Gl X "range")(hm:X.mg "range"=none)(ha:PA X [a,b] ta)(hs:starEach [a,b] X.env= [(false,eval a X.env),(false,eval b X.env)]:=by rfl)(hs2:starEach [b] X.env= [(false,eval b X.env)]:=by rfl) :
  PI X tg (.Call (.Name "range" p) [a,b] [] pos) (JR ta):=by
 intro pins s σ H R I h
 refine Call_ (qN I hg hm boot_range (O3 (b5 (ha pos pins s σ H _ I h) λus s1 ⟨vs,H1,I1,r1,q1⟩=>?_) (by rw[hs,hs2]) (by rw[hs2];rfl)))
 obtain⟨i,j,e,⟨q1,q2,q3,q4⟩,q⟩:=q1
 subst e
 cases r1 with
 |cons r rr=>
  cases rr with
  |cons r' rr=>
   cases rr
   obtain⟨t,rfl⟩:=r
   obtain⟨t',rfl⟩:=r'
   exact call_range_2 (vV I1 q1 q2 q3 q4 q)
def K7 (wi:TI)(g:TG)(tb:TS):TS:=λD σ H=>wi σ H λJ H1=>∃W:Nat->Nat->St->Hp->Prop,(∃m,W 0 m σ H1)/\∀i m σ H,W i m σ H->
 (J.stop i H/\D.nx σ H)\/(J.go i H/\∃N:St->Hp->Prop,(∀σ' H',N σ' H'->∃m',m' < m/\W (i + 1) m' σ' H')/\∀x H',J.yld i H x H'->g x σ H' λσ2 H2=>tb {D with nx:=N,ct:=N,bk:=D.nx} σ2 H2)
def qW (fp:List Addr)(h:Heap):List (Addr×Obj):=fp.filterMap λb=>(h.get? b).map λo=>(b,o)
def kh {fp:List Addr}{h:Heap}{b:Addr}{o:Obj}(hb:b∈fp)(e:h.get? b=some o):(b,o)∈qW fp h:=Oe.mpr ⟨b,hb,by rw[e];rfl⟩
theorem AJ {fp:List Addr}{h:Heap}{p:Addr×Obj}(hp:p∈qW fp h):p.1∈fp/\h.get? p.1=some p.2:=by
 obtain⟨b,hb,e⟩:=Oe.mp hp
 cases q:h.get? b with
 |none=>rw[q] at e;cases e
 |some o=>
  rw[q] at e
  have e':(b,o)=p:=Option.some.inj e
  subst e'
  exact⟨hb,q⟩
def Inv.pinned {pins:List (Addr×Obj)}{σ:St}{H:Hp}{s:Shared}{fp:List Addr}(I:Inv X pins σ H s)(hf:∀b∈fp,oO X pins H b)(ho:∀b∈fp,∃o,s.heap.get? b=some o/\∀v,o.data≠.cell v):Inv X (pins ++ qW fp s.heap) σ H s:=
 I.pins_of λp hp=>(M6.mp hp).elim (λz=>I.pin p (Nt _ z)) λz=>by
  obtain⟨hb,e⟩:=AJ z
  obtain⟨f0,f1,f2,_⟩:=hf p.1 hb
  obtain⟨o,e',d⟩:=ho p.1 hb
  rw[e] at e';cases e'
  exact⟨e,f0,f1,f2,d⟩
def Inv.unpinned {pins pl:List (Addr×Obj)}{σ:St}{H:Hp}{s:Shared}(I:Inv X (pins ++ pl) σ H s):Inv X pins σ H s:=I.pins_of λp hp=>I.pin p (Nt _ (Og _ hp))
def uM {iter:Expr}{body:List Stmt}{wi:TI}{g:TG}{tb:TS}{pos:Pos}(hp:PassesOwn (model X.prog X.w) X.A X.env X.xe)(hc:X.calm=true)(hi:PI X tg iter wi)(hg:PG X tg g)(hb:sg X body tb)
  (hs:∀x,foldedSetIterable iter X.env x=pure x:=by intro _;rfl):PS X (.For tg iter body [] pos) (K7 wi g tb):=by
 intro pins s σ H D I h
 refine wpAny_For (b5 (hi pins s σ H _ I h) λv s1 h1=>b5 h1 λitv s2 h2=>?_) hs
 obtain⟨it,fp,tn,J,H2,e,I2,T,st2,f2,W,⟨m0,w0⟩,turn⟩:=h2
 subst e
 have stat:∀{H':Hp},(∀b∈fp,H' b=none)->∀b∈fp,oO X pins H' b:=λhn b hb=>⟨hn b hb,(f2 b hb).2⟩
 refine codeAny_forLoop_any (λn s'=>∃i σ' H',Inv X pins σ' H' s'/\tn i s'.heap/\(∀b∈fp,H' b=none)/\W i n σ' H') ?_ m0 ⟨0,σ,H2,I2,st2,λb hb=>(f2 b hb).1,w0⟩
 rintro n s3 ⟨i,σ3,H3,I3,st3,fr3,w3⟩
 rcases turn i n σ3 H3 w3 with⟨stop,qn⟩ | ⟨go,N,hN,step⟩
 ·refine Oy hp (b5 (T.done X rfl rfl rfl hc i pins s3 σ3 H3 X.xe I3 (stat fr3) st3 stop) λr s4 ⟨hr,I4⟩=>?_)
  subst hr
  exact wpAny_execs_nil ⟨σ3,H3,I4,qn⟩
 ·refine Oy hp (b5 (T.item X rfl rfl rfl hc i pins s3 σ3 H3 X.xe I3 (stat fr3) st3 go) λr s4 ⟨u,hr,h4⟩=>?_)
  subst hr
  refine Oy hp (b5 h4 λ_ s5 ⟨x,H5,I5,r5,y5,st5,fr5⟩=>?_)
  have I5':=I5.pinned (stat fr5) (T.obj _ _ st5)
  refine Oy hp (b5 (hg _ s5 σ3 H5 x u _ I5' r5 (step x H5 y5)) λ_ s6 ⟨σ6,H6,I6,q6⟩=>?_)
  refine Oy hp (b5 (hb _ s6 σ6 H6 _ I6 q6) λf s7 q7=>?_)
  have again:∀{σ7:St} {H7:Hp},Inv X (pins ++ qW fp s5.heap) σ7 H7 s7->N σ7 H7->∃m,m < n/\∃i σ' H',Inv X pins σ' H' s7/\tn i s7.heap/\(∀b∈fp,H' b=none)/\W i m σ' H':=λ{σ7 H7} I7 n7=>by
   obtain⟨m',hm,w7⟩:=hN σ7 H7 n7
   refine⟨m',hm,i + 1,σ7,H7,I7.unpinned,T.keep _ _ _ st5 λb hb o e=>(I7.pin (b,o) (Nt _ (Nt _ (kh hb e)))).1,λb hb=>?_,w7⟩
   obtain⟨o,e,d⟩:=T.obj _ _ st5 b hb
   exact (I7.pin (b,o) (Nt _ (Nt _ (kh hb e)))).2.1
  cases f with
  |next=>obtain⟨σ7,H7,I7,n7⟩:=q7;exact again I7 n7
  |cont=>obtain⟨σ7,H7,I7,n7⟩:=q7;exact again I7 n7
  |brk=>obtain⟨σ7,H7,I7,q7⟩:=q7;exact⟨σ7,H7,I7.unpinned,q7⟩
  |ret v=>obtain⟨x7,σ7,H7,I7,r7,q7⟩:=q7;exact⟨x7,σ7,H7,I7.unpinned,r7,q7⟩
end
def wa {K:Frag}{a:Addr}{xs:List V}{g:TG}{tb:TS}{D:Ends}{σ:St}{H:Hp}(Pv:Nat->St->Hp->Prop)(h0:Pv 0 σ H)(hl:∀i σ H,i<=xs.length->Pv i σ H->gG K H a xs)
  (hs:∀i x σ H,xs[i]? =some x->Pv i σ H->g x σ H λσ2 H2=>tb {D with nx:=Pv (i + 1),ct:=Pv (i + 1),bk:=D.nx} σ2 H2) (hd:∀σ H,Pv xs.length σ H->D.nx σ H) :
  ∃W:Nat->Nat->St->Hp->Prop,(∃m,W 0 m σ H)/\∀i m σ H,W i m σ H->
   ((Bb K a).stop i H/\D.nx σ H)\/((Bb K a).go i H/\∃N:St->Hp->Prop,(∀σ' H',N σ' H'->∃m',m' < m/\W (i + 1) m' σ' H')/\∀x H',(Bb K a).yld i H x H'->g x σ H' λσ2 H2=>tb {D with nx:=N,ct:=N,bk:=D.nx} σ2 H2):=by
 refine⟨λi m σ H=>m=xs.length - i/\i<=xs.length/\Pv i σ H,⟨xs.length,by simp,Nm _,h0⟩,?_⟩
 rintro i m σ H ⟨rfl,hi,p⟩
 have q:=hl i σ H hi p
 by_cases hlt:i < xs.length
 ·refine .inr ⟨⟨xs,xs[i],q,by simp[hlt]⟩,Pv (i + 1),λσ' H' p'=>⟨xs.length - (i + 1),by omega,rfl,hlt,p'⟩,λx H' y=>?_⟩
  obtain⟨e,y⟩:=y
  subst e
  exact hs i x σ _ (y xs q) p
 ·have e:i=xs.length:=by omega
  subst e
  exact .inl ⟨⟨xs,q,MK _⟩,hd σ H p⟩
def Fq {K:Frag}{a:Addr}{xs:List V}{g:TG}{tb:TS}{D:Ends}{σ:St}{H:Hp}(Pv:Nat->St->Hp->Prop)(h0:Pv 0 σ H)(hl:∀i σ H,i<=xs.length->Pv i σ H->fL K H a xs)
  (hs:∀i x σ H,xs[i]? =some x->Pv i σ H->g x σ H λσ2 H2=>tb {D with nx:=Pv (i + 1),ct:=Pv (i + 1),bk:=D.nx} σ2 H2) (hd:∀σ H,Pv xs.length σ H->D.nx σ H) :
  ∃W:Nat->Nat->St->Hp->Prop,(∃m,W 0 m σ H)/\∀i m σ H,W i m σ H->
   ((GS K a).stop i H/\D.nx σ H)\/((GS K a).go i H/\∃N:St->Hp->Prop,(∀σ' H',N σ' H'->∃m',m' < m/\W (i + 1) m' σ' H')/\∀x H',(GS K a).yld i H x H'->g x σ H' λσ2 H2=>tb {D with nx:=N,ct:=N,bk:=D.nx} σ2 H2):=by
 refine⟨λi m σ H=>m=xs.length - i/\i<=xs.length/\Pv i σ H,⟨xs.length,by simp,Nm _,h0⟩,?_⟩
 rintro i m σ H ⟨rfl,hi,p⟩
 have q:=hl i σ H hi p
 by_cases hlt:i < xs.length
 ·refine .inr ⟨⟨xs,xs[i],q,by simp[hlt]⟩,Pv (i + 1),λσ' H' p'=>⟨xs.length - (i + 1),by omega,rfl,hlt,p'⟩,λx H' y=>?_⟩
  obtain⟨e,y⟩:=y
  subst e
  exact hs i x σ _ (y xs q) p
 ·have e:i=xs.length:=by omega
  subst e
  exact .inl ⟨⟨xs,q,MK _⟩,hd σ H p⟩
def A8 {lo:Int}{n:Nat}{g:TG}{tb:TS}{D:Ends}{σ:St}{H:Hp}(Pv:Nat->St->Hp->Prop)(h0:Pv 0 σ H)
  (hs:∀i σ H,i < n->Pv i σ H->g (.int (lo + i)) σ H λσ2 H2=>tb {D with nx:=Pv (i + 1),ct:=Pv (i + 1),bk:=D.nx} σ2 H2) (hd:∀σ H,Pv n σ H->D.nx σ H) :
  ∃W:Nat->Nat->St->Hp->Prop,(∃m,W 0 m σ H)/\∀i m σ H,W i m σ H->
   ((Bc lo n).stop i H/\D.nx σ H)\/((Bc lo n).go i H/\∃N:St->Hp->Prop,(∀σ' H',N σ' H'->∃m',m' < m/\W (i + 1) m' σ' H')/\∀x H',(Bc lo n).yld i H x H'->g x σ H' λσ2 H2=>tb {D with nx:=N,ct:=N,bk:=D.nx} σ2 H2):=by
 refine⟨λi m σ H=>m=n - i/\i<=n/\Pv i σ H,⟨n,by simp,Nm _,h0⟩,?_⟩
 rintro i m σ H ⟨rfl,hi,p⟩
 by_cases hlt:i < n
 ·refine .inr ⟨hlt,Pv (i + 1),λσ' H' p'=>⟨n - (i + 1),by omega,rfl,hlt,p'⟩,λx H' y=>?_⟩
  obtain⟨e,y⟩:=y
  subst e y
  exact hs i σ _ hlt p
 ·have e:i=n:=by omega
  subst e
  exact .inl ⟨MK _,hd σ H p⟩
abbrev R2:=V->V->Hp->VK->Prop
def lX (X:Cx)(f:Value->Value->Sem Value)(r:R2):Prop:=
 ∀(pins:List (Addr×Obj)) (s:Shared) (σ:St) (H:Hp) (x y:V) (v u:Value) (Q:VK),Inv X pins σ H s->RelV x v->RelV y u->r x y H Q->
  wpAny (model X.prog X.w) X.A (f v u) (EP X pins σ Q) X.xe s
def K2 (X:Cx)(f:Value->Sem Value)(r:V->Hp->VK->Prop):Prop:=
 ∀(pins:List (Addr×Obj)) (s:Shared) (σ:St) (H:Hp) (x:V) (v:Value) (Q:VK),Inv X pins σ H s->RelV x v->r x H Q->
  wpAny (model X.prog X.w) X.A (f v) (EP X pins σ Q) X.xe s
def c8 (X:Cx)(f:Value)(r:List V->Hp->VK->Prop):Prop:=
 ∀(pins:List (Addr×Obj)) (s:Shared) (σ:St) (H:Hp) (xs:List V) (us:List Value) (Q:VK),Inv X pins σ H s->Vals xs us->r xs H Q->
  wpAny (model X.prog X.w) X.A (call f us) (EP X pins σ Q) X.xe s
def L7 (X:Cx)(r:V->Hp->(Bool->Hp->Prop)->Prop):Prop:=
 ∀(pins:List (Addr×Obj)) (s:Shared) (σ:St) (H:Hp) (x:V) (v:Value) (Q:Bool->Hp->Prop),Inv X pins σ H s->RelV x v->r x H Q->
  wpAny (model X.prog X.w) X.A (truthy v) (TP X pins σ Q) X.xe s
def KD (r:R2)(ta tb:TE):TE:=λσ H Q=>ta σ H λx H1=>tb σ H1 λy H2=>r x y H2 Q
def Mr (r:V->Hp->VK->Prop)(ta:TE):TE:=λσ H Q=>ta σ H λx H1=>r x H1 Q
def rI (C:Int->Int->Prop)(g:Int->Int->V):R2:=λx y H Q=>∃i j,x=.int i/\y=.int j/\C i j/\Q (g i j) H
def Bk (g:Int->Int->V):R2:=λx y H Q=>∃i j,x=.int i/\y=.int j/\Q (g i j) H
def rU (g:Int->V):V->Hp->VK->Prop:=λx H Q=>∃i,x=.int i/\Q (g i) H
section
variable {X:Cx}{a b c:Expr}{ta tb tc:TE}{pos:Pos}
def Ir (ha:PE X a ta)(hb:PE X b tb){pins:List (Addr×Obj)}{s:Shared}{σ:St}{H:Hp}{R:V->V->Hp->Prop}(I:Inv X pins σ H s)
  (h:ta σ H λx H1=>tb σ H1 λy H2=>R x y H2) {Q:Value->Shared->Prop} {f:Value->Value->Sem Value}
  (hf:∀v u s2 x y H2,Inv X pins σ H2 s2->RelV x v->RelV y u->R x y H2->wpAny (model X.prog X.w) X.A (f v u) Q X.xe s2) :
  wpAny (model X.prog X.w) X.A (eval a X.env) (λv s₁=>wpAny (model X.prog X.w) X.A (eval b X.env) (λu s₂=>wpAny (model X.prog X.w) X.A (f v u) Q X.xe s₂) X.xe s₁) X.xe s:=by
 refine b5 (ha pins s σ H _ I h) λv s1 ⟨x,H1,I1,r1,q1⟩=>?_
 refine b5 (hb pins s1 σ H1 _ I1 q1) λu s2 ⟨y,H2,I2,r2,q2⟩=>?_
 exact hf v u s2 x y H2 I2 r1 r2 q2
def wN {op:Operator}{r:R2}(ho:lX X (binaryOp op) r)(ha:PE X a ta)(hb:PE X b tb):PE X (.BinOp a op b pos) (KD r ta tb):=by
 intro pins s σ H Q I h
 exact wpAny_BinOp (Ir ha hb I h λv u s2 x y H2 I2 rx ry q=>ho pins s2 σ H2 x y v u Q I2 rx ry q)
def CG {op:UnaryOp}{r:V->Hp->VK->Prop}(ho:K2 X (unaryOp op) r)(ha:PE X a ta):PE X (.UnaryOp op a pos) (Mr r ta):=by
 intro pins s σ H Q I h
 exact UnaryOp_ (b5 (ha pins s σ H _ I h) λv s1 ⟨x,H1,I1,r1,q1⟩=>ho pins s1 σ H1 x v Q I1 r1 q1)
def KS {f:Value->Value->Sem Value}{C:Int->Int->Prop}{g:Int->Int->Int}
  (rule:∀(i j:Int) (t u:Tok) (s:Shared) (Q:Value->Shared->Prop) (E:Value->Shared->Prop),C i j->Q (.int (g i j) s.toks) {s with toks:=s.toks + 1}->wpAny (model X.prog X.w) X.A (f (.int i t) (.int j u)) Q E s) :
  lX X f (rI C λi j=>.int (g i j)):=by
 intro pins s σ H x y v u Q I rx ry h
 obtain⟨i,j,rfl,rfl,hc,q⟩:=h
 obtain⟨t,rfl⟩:=rx
 obtain⟨t',rfl⟩:=ry
 exact rule i j t t' s _ _ hc ⟨.int (g i j),H,I.tok _,⟨_,rfl⟩,q⟩
def JE {f:Value->Value->Sem Value}{g:Int->Int->Int}
  (rule:∀(i j:Int) (t u:Tok) (s:Shared) (Q:Value->Shared->Prop) (E:Value->Shared->Prop),Q (.int (g i j) s.toks) {s with toks:=s.toks + 1}->wpAny (model X.prog X.w) X.A (f (.int i t) (.int j u)) Q E s) :
  lX X f (Bk λi j=>.int (g i j)):=by
 intro pins s σ H x y v u Q I rx ry h
 obtain⟨i,j,rfl,rfl,q⟩:=h
 obtain⟨t,rfl⟩:=rx
 obtain⟨t',rfl⟩:=ry
 exact rule i j t t' s _ _ ⟨.int (g i j),H,I.tok _,⟨_,rfl⟩,q⟩
def HZ {f:Value->Value->Sem Value}{g:Int->Int->Bool}
  (rule:∀(i j:Int) (t u:Tok) (s:Shared) (Q:Value->Shared->Prop) (E:Value->Shared->Prop),Q (.bool (g i j)) s->wpAny (model X.prog X.w) X.A (f (.int i t) (.int j u)) Q E s) :
  lX X f (Bk λi j=>.bl (g i j)):=by
 intro pins s σ H x y v u Q I rx ry h
 obtain⟨i,j,rfl,rfl,q⟩:=h
 obtain⟨t,rfl⟩:=rx
 obtain⟨t',rfl⟩:=ry
 exact rule i j t t' s _ _ ⟨.bl (g i j),H,I,rfl,q⟩
def Gu (i j:Int):Prop:=0 < j/\j < 1073741824
def ID (i j:Int):Prop:=0<=j/\j<=1000000/\i.natAbs < 2 ^ 64
def DF (i j:Int):Prop:=(-(2 ^ 64) < i/\i < 2 ^ 64)\/(-(2 ^ 64) < j/\j < 2 ^ 64)
def DF.ok {i j:Int}(h:DF i j):IntMulOk i j:=by
 rcases h with⟨h1,h2⟩ | ⟨h1,h2⟩
 ·exact .of_left (intBits_le_64 h1 h2)
 ·exact .of_right (intBits_le_64 h1 h2)
def fS:lX X (binaryOp .Add) (Bk λi j=>.int (i + j)):=JE λ_ _ _ _ _ _ _ q=>add_int q
def tX:lX X (binaryOp .Sub) (Bk λi j=>.int (i - j)):=JE λ_ _ _ _ _ _ _ q=>sub_int q
def ju:lX X (binaryOp .Mult) (rI DF λi j=>.int (i * j)):=KS λ_ _ _ _ _ _ _ hc q=>mul_int q hc.ok
def nt:lX X (binaryOp .FloorDiv) (rI Gu λi j=>.int (i / j)):=KS λi j _ _ _ _ _ hc q=>by
 have h1:(0:Int) < j:=hc.1
 have h2:j < 1073741824:=hc.2
 exact floordiv_int (by omega) (by rw[Int.fdiv_eq_ediv_of_nonneg i (by omega)];exact q) (.inl (PyProof.noPylong_small (by omega)))
def mn:lX X (binaryOp .Mod) (rI (λ_ j=>0 < j) λi j=>.int (i % j)):=KS λi j _ _ _ _ _ hc q=>by
 have h1:(0:Int) < j:=hc
 exact mod_int' (by omega) (by rw[Int.fmod_eq_emod_of_nonneg i (by omega)];exact q)
def HV:lX X (binaryOp .Pow) (rI ID λi j=>.int (i ^ j.toNat)):=KS λ_ _ _ _ _ _ _ hc q=>pow_int_small hc.1 hc.2.1 hc.2.2 q
def MD {f:Value->Sem Value}{g:Int->Int}
  (rule:∀(i:Int) (t:Tok) (s:Shared) (Q:Value->Shared->Prop) (E:Value->Shared->Prop),Q (.int (g i) s.toks) {s with toks:=s.toks + 1}->wpAny (model X.prog X.w) X.A (f (.int i t)) Q E s) :
  K2 X f (rU λi=>.int (g i)):=by
 intro pins s σ H x v Q I rx h
 obtain⟨i,rfl,q⟩:=h
 obtain⟨t,rfl⟩:=rx
 exact rule i t s _ _ ⟨.int (g i),H,I.tok _,⟨_,rfl⟩,q⟩
def l7:K2 X (unaryOp .USub) (rU λi=>.int (-i)):=MD λ_ _ _ _ _ q=>neg_int q
end
def LR:V->V->Bool
 | .non,.non=>true | .non,.int _=>true | .int _,.non=>true | .non,.bl _=>true | .bl _,.non=>true | .non,.str _=>true | .str _,.non=>true
 | .int _,.int _=>true | .bl _,.bl _=>true | .str _,.str _=>true | .byt _,.byt _=>true
 | .int _,.str _=>true | .str _,.int _=>true | .bl _,.str _=>true | .str _,.bl _=>true
 |_,_=>false
def Mf:R2:=λx y H Q=>LR x y=true/\Q (.bl (!decide (x=y))) H
def Fw {i j:Int}:decide (V.int i=V.int j)=(i == j):=by
 rw[ND]
 simp
def Ha {i j:Bool}:decide (V.bl i=V.bl j)=(i == j):=by
 rw[ND]
 simp
def Eu {i j:Str}:decide (V.str i=V.str j)=(i == j):=by
 rw[ND]
 simp
def EW {i j:Array UInt8}:decide (V.byt i=V.byt j)=(i.toList == j.toList):=by
 rw[ND]
 cases i
 cases j
 simp
section
variable {X:Cx}{a b c:Expr}{ta tb tc:TE}{pos:Pos}
def dZ {pins:List (Addr×Obj)}{σ:St}{H:Hp}{s:Shared}{Q:VK}{k k':Bool}(I:Inv X pins σ H s)(q:Q (.bl k) H)(e:k=k'):EP X pins σ Q (.bool k') s:=by
 subst e
 exact⟨.bl k,H,I,rfl,q⟩
theorem JP:lX X (compareOp .NotEq) Mf:=by
 intro pins s σ H x y v u Q I rx ry h
 obtain⟨hs,q⟩:=h
 cases x with
 |non=>
  cases rx
  cases y with
  |non=>cases ry;exact PySem.EqNone.ne_none_none (dZ I q (by simp))
  |bl j=>cases ry;exact PySem.EqNone.ne_none_bool (dZ I q (by simp))
  |int j=>obtain⟨t',rfl⟩:=ry;exact PySem.EqNone.ne_none_int (dZ I q (by simp))
  |str j=>obtain⟨t',rfl⟩:=ry;exact PySem.EqNone.ne_none_str (dZ I q (by simp))
  |_=>exact absurd (show false=true from hs) Nb
 |bl i=>
  cases rx
  cases y with
  |non=>cases ry;exact PySem.EqNone.ne_bool_none (dZ I q (by simp))
  |bl j=>cases ry;exact ne_bool (dZ I q (congrArg not Ha))
  |str j=>obtain⟨t',rfl⟩:=ry;exact PySem.EqMixed.ne_bool_str (dZ I q (by simp))
  |_=>exact absurd (show false=true from hs) Nb
 |int i=>
  obtain⟨t,rfl⟩:=rx
  cases y with
  |non=>cases ry;exact PySem.EqNone.ne_int_none (dZ I q (by simp))
  |int j=>obtain⟨t',rfl⟩:=ry;exact ne_int (dZ I q (congrArg not Fw))
  |str j=>obtain⟨t',rfl⟩:=ry;exact PySem.EqMixed.ne_int_str (dZ I q (by simp))
  |_=>exact absurd (show false=true from hs) Nb
 |str i=>
  obtain⟨t,rfl⟩:=rx
  cases y with
  |non=>cases ry;exact PySem.EqNone.ne_str_none (dZ I q (by simp))
  |bl j=>cases ry;exact PySem.EqMixed.ne_str_bool (dZ I q (by simp))
  |int j=>obtain⟨t',rfl⟩:=ry;exact PySem.EqMixed.ne_str_int (dZ I q (by simp))
  |str j=>obtain⟨t',rfl⟩:=ry;exact ne_str (dZ I q (congrArg not Eu))
  |_=>exact absurd (show false=true from hs) Nb
 |byt i=>
  obtain⟨t,rfl⟩:=rx
  cases y with
  |byt j=>obtain⟨t',rfl⟩:=ry;exact PySem.W.ne_bytes (dZ I q (congrArg not EW))
  |_=>exact absurd (show false=true from hs) Nb
 |_=>cases y <;> exact absurd (show false=true from hs) Nb
def yO:lX X (compareOp .Lt) (Bk λi j=>.bl (decide (i < j))):=HZ λ_ _ _ _ _ _ _ q=>lt_int q
def DY:lX X (compareOp .LtE) (Bk λi j=>.bl (decide (i<=j))):=HZ λ_ _ _ _ _ _ _ q=>le_int q
def Ka:lX X (compareOp .Gt) (Bk λi j=>.bl (decide (j < i))):=HZ λ_ _ _ _ _ _ _ q=>gt_int q
def a9 (b:Expr){op:CmpOp}(h:op≠.In:=by decide)(h2:op≠.NotIn:=by decide):behindInMarks op b=false:=by
 have e1:(op == CmpOp.In)=false:=by cases op <;> first |rfl |exact absurd rfl h
 have e2:(op == CmpOp.NotIn)=false:=by cases op <;> first |rfl |exact absurd rfl h2
 cases b <;> simp[behindInMarks,e1,e2]
def E6 {op:CmpOp}{r:R2}(ho:lX X (compareOp op) r)(ha:PE X a ta)(hb:PE X b tb)(hm:behindInMarks op b=false):PE X (.Compare a [op] [b] pos) (KD r ta tb):=by
 intro pins s σ H Q I h
 exact wpAny_Compare1 (Ir ha hb I h λv u s2 x y H2 I2 rx ry q=>ho pins s2 σ H2 x y v u Q I2 rx ry q) hm
def Kt (t:TE):TT:=λσ H Q=>t σ H λx H'=>∃k,x=.bl k/\Q k H'
def EN {op:CmpOp}{r:R2}(ho:lX X (compareOp op) r)(ha:PE X a ta)(hb:PE X b tb)(hm:behindInMarks op b=false):PT X (.Compare a [op] [b] pos) (Kt (KD r ta tb)):=by
 intro pins s σ H Q I h
 refine wpAny_isTrue_Compare1 (b5 (ha pins s σ H _ I h) λv s1 ⟨x,H1,I1,r1,q1⟩=>b5 (hb pins s1 σ H1 _ I1 q1) λu s2 ⟨y,H2,I2,r2,q2⟩=>
  b5 (ho pins s2 σ H2 x y v u _ I2 r1 r2 q2) λc s3 ⟨z,H3,I3,r3,k,e,q3⟩=>?_) hm
 subst e
 cases r3
 exact N8 ⟨H3,I3,q3⟩
def Ip (r r':R2)(ta tb tc:TE):TE:=λσ H Q=>ta σ H λx H1=>tb σ H1 λy H2=>r x y H2 λz H3=>∃k,z=.bl k/\
 (if k=true then tc σ H3 λw' H4=>r' y w' H4 Q else Q (.bl false) H3)
theorem DK {op op':CmpOp}{r r':R2}(ho:lX X (compareOp op) r)(ho':lX X (compareOp op') r')(ha:PE X a ta)(hb:PE X b tb)(hc:PE X c tc)
  (hm:lastMarks [op,op'] [b,c]=false:=by with_unfolding_all rfl):PE X (.Compare a [op,op'] [b,c] pos) (Ip r r' ta tb tc):=by
 intro pins s σ H Q I h
 refine Compare_chain (b5 (ha pins s σ H _ I h) λv s1 ⟨x,H1,I1,r1,q1⟩=>chain_link (b5 (hb pins s1 σ H1 _ I1 q1) λu s2 ⟨y,H2,I2,r2,q2⟩=>
  b5 (ho pins s2 σ H2 x y v u _ I2 r1 r2 q2) λd s3 ⟨z,H3,I3,r3,k,e,q3⟩=>?_)) hm
 subst e
 cases r3
 refine N8 ?_
 cases k with
 |false=>exact ite_ff ⟨.bl false,H3,I3,rfl,q3⟩
 |true=>exact ite_tt (chain_last (b5 (hc pins s3 σ H3 _ I3 q3) λw' s4 ⟨z',H4,I4,r4,q4⟩=>ho' pins s4 σ H4 y z' u w' Q I4 r2 r4 q4))
def Kv (K:Frag)(x:V)(H:Hp)(k:Bool):Prop:=
 match x with
 | .non=>k=false
 | .bl b=>k=b
 | .int i=>k=(i != 0)
 | .str y=>y.length<=sizeLine/\k=((y.length:Int) != 0)
 | .byt y=>y.size<=sizeLine/\k=((y.size:Int) != 0)
 | .ref p=>(∃xs,gG K H p xs/\k= !xs.isEmpty)\/(∃xs,fL K H p xs/\k= !xs.isEmpty)\/∃kvs,H p=some (.dK kvs)/\k= !kvs.isEmpty
 |_=>False
def yE {κ:Type}{kvs:List (κ×V)}{vs:List (κ×Value)}(r:KV kvs vs):(!vs.isEmpty)= !kvs.isEmpty:=by
 cases r <;> rfl
def pL {xs:List V}{its:List Value}(r:Vals xs its):(!its.toArray.isEmpty)= !xs.isEmpty:=by
 cases r <;> simp
def nS:(sizeLine:Nat) < 2 ^ 63:=by rw[Ni];decide
theorem Hk:L7 X (λx H Q=>∃k,Kv X.K x H k/\Q k H):=by
 intro pins s σ H x v Q I rx h
 obtain⟨k,e,q⟩:=h
 have hl:=nS
 have hs:sizeLine=16777216:=Ni
 cases x with
 |non=>
  cases rx
  have e':k=false:=e
  subst e'
  exact truthy_none ⟨H,I,q⟩
 |bl b=>
  cases rx
  have e':k=b:=e
  subst e'
  exact N8 ⟨H,I,q⟩
 |int i=>
  obtain⟨t,rfl⟩:=rx
  have e':k=(i != 0):=e
  subst e'
  exact PySem.P.truthy_int ⟨H,I,q⟩
 |str y=>
  obtain⟨t,rfl⟩:=rx
  obtain⟨hy,e'⟩:y.length<=sizeLine/\k=((y.length:Int) != 0):=e
  subst e'
  exact PySem.P.truthy_str (by omega) ⟨H,I.tok _,q⟩
 |byt y=>
  obtain⟨t,rfl⟩:=rx
  obtain⟨hy,e'⟩:y.size<=sizeLine/\k=((y.size:Int) != 0):=e
  subst e'
  exact PySem.W.truthy_bytes (by omega) ⟨H,I.tok _,q⟩
 |ref p=>
  cases rx
  have e':(∃xs,gG X.K H p xs/\k= !xs.isEmpty)\/(∃xs,fL X.K H p xs/\k= !xs.isEmpty)\/∃kvs,H p=some (.dK kvs)/\k= !kvs.isEmpty:=e
  rcases e' with⟨xs,hx,e'⟩ | ⟨xs,hx,e'⟩ | ⟨kvs,hx,e'⟩
  ·subst e'
   obtain⟨its,r,pl,hz⟩:=I.list hx
   have hlen:=r.length
   exact wpAny_truthy_list pl.isList (by simp only[MY];omega) ⟨H,I.tok _,by rw[pL r];exact q⟩
  ·subst e'
   obtain⟨its,r,pl,hz⟩:=I.tuple hx
   have hlen:=r.length
   exact truthy_tuple pl (by simp only[MY];omega) ⟨H,I.tok _,by rw[pL r];exact q⟩
  ·subst e'
   obtain⟨hz,hS,vs,r,m⟩:kvs.length<=sizeLine/\(p == sysModules)=false/\∃vs,KV kvs vs/\s.heap.DictOf (bF X.prog X.w) p vs:=I.hok p _ hx
   have hlen:kvs.length=vs.length:=Paired.length r
   exact wpAny_truthy_dict hS m (by omega) ⟨H,I.tok _,by rw[yE r];exact q⟩
 |_=>exact (show False from e).elim
def CT (ha:PE X a ta)(he:∀whole,isTrue a X.env whole=(do let v <-whole;standAt a.pos;holding [v] (truthy v))) :
  PT X a (λσ H Q=>ta σ H λx H'=>∃k,Kv X.K x H' k/\Q k H'):=by
 intro pins s σ H Q I h
 exact isTrue_plain (b5 (ha pins s σ H _ I h) λv s1 ⟨x,H1,I1,r1,q1⟩=>Hk pins s1 σ H1 x v Q I1 r1 q1) (he _)
theorem vals1 {x:V}{us:List Value}(r:Vals [x] us):∃u,us= [u]/\RelV x u:=by
 cases r with
 |cons r1 r2=>cases r2;exact⟨_,rfl,r1⟩
theorem vals2 {x y:V}{us:List Value}(r:Vals [x,y] us):∃u w',us= [u,w']/\RelV x u/\RelV y w':=by
 cases r with
 |cons r1 r2=>
  cases r2 with
  |cons r3 r4=>cases r4;exact⟨_,_,rfl,r1,r3⟩
def CQ:c8 X (.builtin "abs") (λxs H Q=>∃i,xs= [.int i]/\Q (.int (if i < 0 then -i else i)) H):=by
 intro pins s σ H xs us Q I r h
 obtain⟨i,rfl,q⟩:=h
 obtain⟨u,rfl,t,rfl⟩:=vals1 r
 exact call_abs_int λu tk=>⟨.int (if i < 0 then -i else i),H,I.tok _,⟨_,rfl⟩,q⟩
def AQ (hc:X.calm=true):c8 X (.builtin "max") (λxs H Q=>∃i j,xs= [.int i,.int j]/\Q (.int (if j > i then j else i)) H):=by
 intro pins s σ H xs us Q I r h
 obtain⟨i,j,rfl,q⟩:=h
 obtain⟨u,w',rfl,⟨t,rfl⟩,⟨t',rfl⟩⟩:=vals2 r
 refine max_two_ints (I.ok.hd hc) λh' tk k=>⟨_,H,I.kept k,?_,q⟩
 by_cases hj:j > i
 ·rw[MJ hj,MJ hj];exact⟨_,rfl⟩
 ·rw[MO hj,MO hj];exact⟨_,rfl⟩
def AS (hc:X.calm=true):c8 X (.builtin "min") (λxs H Q=>∃i j,xs= [.int i,.int j]/\Q (.int (if j < i then j else i)) H):=by
 intro pins s σ H xs us Q I r h
 obtain⟨i,j,rfl,q⟩:=h
 obtain⟨u,w',rfl,⟨t,rfl⟩,⟨t',rfl⟩⟩:=vals2 r
 refine min_two_ints (I.ok.hd hc) λh' tk k=>⟨_,H,I.kept k,?_,q⟩
 by_cases hj:j < i
 ·rw[MJ hj,MJ hj];exact⟨_,rfl⟩
 ·rw[MO hj,MO hj];exact⟨_,rfl⟩
def JC (K:Frag)(x:V)(H:Hp)(n:Nat):Prop:=
 match x with
 | .str y=>y.length<=sizeLine/\n=y.length
 | .byt y=>y.size<=sizeLine/\n=y.size
 | .ref p=>(∃xs,gG K H p xs/\n=xs.length)\/∃xs,fL K H p xs/\n=xs.length
 |_=>False
theorem cv:c8 X (.builtin "len") (λxs H Q=>∃x n,xs= [x]/\JC X.K x H n/\Q (.int n) H):=by
 intro pins s σ H xs us Q I r h
 obtain⟨x,n,rfl,e,q⟩:=h
 obtain⟨u,rfl,rx⟩:=vals1 r
 have hl:=nS
 have hs:sizeLine=16777216:=Ni
 cases x with
 |str y=>
  obtain⟨t,rfl⟩:=rx
  obtain⟨hy,e'⟩:y.length<=sizeLine/\n=y.length:=e
  subst e'
  exact len_str (by omega) ⟨.int _,H,I.tok _,⟨_,rfl⟩,q⟩
 |byt y=>
  obtain⟨t,rfl⟩:=rx
  obtain⟨hy,e'⟩:y.size<=sizeLine/\n=y.size:=e
  subst e'
  exact PySem.W.len_bytes (by omega) ⟨.int _,H,I.tok _,⟨_,rfl⟩,q⟩
 |ref p=>
  cases rx
  have e':(∃xs,gG X.K H p xs/\n=xs.length)\/∃xs,fL X.K H p xs/\n=xs.length:=e
  rcases e' with⟨xs,hx,e'⟩ | ⟨xs,hx,e'⟩
  ·subst e'
   obtain⟨its,r',pl,hz⟩:=I.list hx
   have hlen:=r'.length
   exact Calls.call_len_list pl.isList (by simp only[MY];omega) ⟨.int xs.length,H,I.tok _,⟨_,by simp only[MY];rw[hlen]⟩,q⟩
  ·subst e'
   obtain⟨its,r',pl,hz⟩:=I.tuple hx
   have hlen:=r'.length
   exact len_tuple pl (by simp only[MY];omega) ⟨.int xs.length,H,I.tok _,⟨_,by simp only[MY];rw[hlen]⟩,q⟩
 |_=>exact (show False from e).elim
def vP:c8 X (.builtin "divmod") (λxs H Q=>∃i j,xs= [.int i,.int j]/\Gu i j/\∀p,H p=none->Q (.ref p) (upd H p (.tup [.int (i / j),.int (i % j)]))):=by
 intro pins s σ H xs us Q I r h
 obtain⟨i,j,rfl,⟨h1,h2⟩,q⟩:=h
 obtain⟨u,w',rfl,⟨t,rfl⟩,⟨t',rfl⟩⟩:=vals2 r
 refine divmod_int (by omega) ?_ (.inl (PyProof.noPylong_small (by omega)))
 rw[Int.fdiv_eq_ediv_of_nonneg i (by omega),Int.fmod_eq_emod_of_nonneg i (by omega)]
 have hn:H s.heap.objs.size=none:=I.hok.fresh (MK _)
 refine⟨.ref s.heap.objs.size,_,?_,rfl,q _ hn⟩
 refine I.laid (λb o e=>MH _ e) (MK _) ⟨by simp only[Na,length_nil];rw[Ni];decide,[.int (i / j) s.toks,.int (i % j) (s.toks + 1)],.cons ⟨_,rfl⟩ (.cons ⟨_,rfl⟩ .nil),?_⟩
 exact⟨_,MX s.heap rfl,rfl,0,rfl,rfl⟩
end
structure Jb (h:Heap)(x dx C:Addr)(mA:Str->Option Value):Prop where
 obj:h.get? x=some (PySem.W.instObj C dx)
 ns:h.Ns1 dx mA
 ne:dx≠x
def Av {h:Heap}{dx:Addr}{mA:Str->Option Value}(n:h.Ns1 dx mA):∃od,h.get? dx=some od/\∀name,PySem.W.lookIn name od=some (mA name):=by
 obtain⟨o,es,ep,ho,hd,hk,_,hm⟩:=n
 refine⟨o,ho,λname=>?_⟩
 have e:=hm name
 unfold nsFind findBy at e
 rw[<-Array.find?_toList] at e
 unfold PySem.W.lookIn
 rw[hd]
 dsimp only
 split
 ·rename_i y q
  rw[q] at e
  exact congrArg some e
 ·rename_i q
  rw[q] at e
  have a:es.toList.any (·.refKey)=false:=by
   rw[List.any_eq_false]
   intro y hy
   obtain⟨z,t,hkey⟩:=hk y (OF.mp hy)
   simp[DictEntry.refKey,hkey]
  have a':¬es.toList.any (·.refKey)=true:=by rw[a];exact Nb
  rw[MO a']
  exact congrArg some e
def Jb.look {h:Heap}{x dx C:Addr}{mA:Str->Option Value}(I:Jb h x dx C mA):∃od,PySem.W.InstAt h x (PySem.W.instObj C dx) C (some od)/\∀name,PySem.W.lookIn name od=some (mA name):=
 let ⟨od,ho,hl⟩:=Av I.ns
 ⟨od,⟨I.obj,rfl,rfl,ho⟩,hl⟩
theorem pI.some_of {v:V}{o:Option Value}(r:pI (some v) o):∃u,o=some u/\RelV v u:=by
 cases o with
 |none=>exact (show False from r).elim
 |some u=>exact⟨u,rfl,r⟩
section
variable {P:Program}{w:World}{H H':Hp}{h h':Heap}{a C dx:Addr}{fs fs':List (Str×V)}
def F0 (hok:kE P w H h)(e:H a=some (.ins C dx fs)):∃mA,Jb h a dx C mA/\(∀f,pI (fs.lookup f) (mA f))/\PySem.Within mA (fs.map (·.1))/\fs.length<=1000/\H dx=some (.own a):=by
 obtain⟨d,z,ne,ob,mA,n,r,q⟩:=(show bP P w H h a (.ins C dx fs) from hok a _ e)
 exact⟨mA,⟨ob,n,ne⟩,r,q,z,d⟩
end
structure LF (K:Frag)(C:Addr):Prop where
 pg:PySem.W.plainGet K C Str.empty=true
 hd:PySem.W.hasDictIn K C=true
 po:PySem.W.plainOver K C=true
 sa:PySem.W.findIn K (.ref C) "__setattr__"=some (some (.builtin "object.__setattr__"))
def LF.get {K:Frag}{C:Addr}(c:LF K C)(f:Str):PySem.W.plainGet K C f=true:=c.pg
section
variable {X:Cx}{pins:List (Addr×Obj)}{σ:St}{H:Hp}{s:Shared}{A:Around}{E:Value->Shared->Prop}{Q:Value->Shared->Prop}{c:Value}{b:Bool}
inductive oX (K:Frag)(H:Hp):V->Value->Prop where
 |non:oX K H .non (.type "NoneType")
 |bl (x:Bool):oX K H (.bl x) (.type "bool")
 |int (i:Int):oX K H (.int i) (.type "int")
 |str (x:Str):oX K H (.str x) (.type "str")
 |flt (x:UInt64):oX K H (.flt x) (.type "float")
 |lst {a:Addr} {xs:List V} (e:H a=some (.lst xs)):oX K H (.ref a) (.type "list")
 |bg {a:Addr} {o:Obj} {xs:List V} (e:H a=some (.bg o (.lst xs))):oX K H (.ref a) (.type "list")
 |tup {a:Addr} {xs:List V} (e:H a=some (.tup xs)):oX K H (.ref a) (.type "tuple")
 |dK {a:Addr} {kvs:List (Key×V)} (e:H a=some (.dK kvs)):oX K H (.ref a) (.type "dict")
 |dT {a:Addr} {kvs:List (List Key×V)} (e:H a=some (.dT kvs)):oX K H (.ref a) (.type "dict")
 |ins {a C dx:Addr} {fs:List (Str×V)} (e:H a=some (.ins C dx fs)) (cl:LF K C) (ha:PySem.W.findIn K (.ref C) "__class__"=some (some (.builtin "object.__class__")))
   (hn:PySem.W.specialIn K (.builtin "object.__class__") "__get__"=some (some (.builtin "getset_descriptor.__get__"))) (htk:PySem.W.takesIn K (.builtin "object.__class__")=some true)
   (hm:PySem.W.mroIn K C (.type "object")=some true):oX K H (.ref a) (.ref C)
theorem jF {x:V}{u t:Value}(I:Inv X pins σ H s)(rx:RelV x u)(ty:oX X.K H x t)(e:PySem.W.kitOne X.K t c=some b)(h:∀tk,Q (.bool b) {s with toks:=tk}) :
  wpAny (model X.prog X.w) A (call (.builtin "isinstance") [u,c]) Q E s:=by
 cases ty with
 |non=>cases (show u=Value.none from rx);exact NF PySem.W.kitx_none I.kIn True.intro e (λz=>nomatch z) h
 |bl y=>cases (show u=Value.bool y from rx);exact NF PySem.W.kitx_bool I.kIn True.intro e (λz=>nomatch z) h
 |int i=>obtain⟨t,q⟩:=(show ∃t,u=Value.int i t from rx);cases q;exact NF PySem.W.kitx_int I.kIn True.intro e (λz=>nomatch z) h
 |str y=>obtain⟨t,q⟩:=(show ∃t,u=Value.str y t from rx);cases q;exact NF PySem.W.kitx_str I.kIn True.intro e (λz=>nomatch z) h
 |flt y=>obtain⟨t,q⟩:=(show ∃t,u=Value.float y t from rx);cases q;exact NF PySem.W.kitx_float I.kIn True.intro e (λz=>nomatch z) h
 | @lst a xs ea=>
  cases (show u=Value.ref a from rx)
  obtain⟨_,_,n,_,h1⟩:=(show bP X.prog X.w H s.heap a (.lst xs) from I.hok a _ ea)
  exact NF PySem.W.kitx_list I.kIn ⟨_,h1,rfl⟩ e (λz=>nomatch z) h
 | @bg a ob xs ea=>
  cases (show u=Value.ref a from rx)
  obtain⟨_,_,_,n,_,h1⟩:=(show bP X.prog X.w H s.heap a (.bg ob (.lst xs)) from I.hok a _ ea)
  exact NF PySem.W.kitx_list I.kIn ⟨_,h1,rfl⟩ e (λz=>nomatch z) h
 | @tup a xs ea=>
  cases (show u=Value.ref a from rx)
  obtain⟨_,_,_,p⟩:=(show bP X.prog X.w H s.heap a (.tup xs) from I.hok a _ ea)
  obtain⟨o,h1,h2,_⟩:=p
  exact NF PySem.W.kitx_tuple I.kIn ⟨o,h1,h2⟩ e (λz=>nomatch z) h
 | @dK a kvs ea=>
  cases (show u=Value.ref a from rx)
  obtain⟨_,_,vs,_,p⟩:=(show bP X.prog X.w H s.heap a (.dK kvs) from I.hok a _ ea)
  obtain⟨o,es,ep,h1,h2,_⟩:=p
  exact NF PySem.W.kitx_dict I.kIn ⟨o,h1,h2.1⟩ e (λz=>nomatch z) h
 | @dT a kvs ea=>
  cases (show u=Value.ref a from rx)
  obtain⟨_,_,xs,_,o,es,ep,h1,h2,_⟩:=(show bP X.prog X.w H s.heap a (.dT kvs) from I.hok a _ ea)
  exact NF PySem.W.kitx_dict I.kIn ⟨o,h1,h2.1⟩ e (λz=>nomatch z) h
 | @ins a C dx fs ea cl ha hn htk hm=>
  cases (show u=Value.ref a from rx)
  obtain⟨mA,O,_⟩:=F0 I.hok ea
  obtain⟨od,J,_⟩:=O.look
  exact NF (PySem.W.kitx_own (cl.get _) cl.hd ha hn htk hm) I.kIn J e (λz=>nomatch z) h
end
structure fJ (k:Nat)(A:Around):Prop where
 hd:A.handled=none
 dp:A.depth + 3 * k + 5 < recursionLimit
 un:A.units + 16 * k + 200 < cLine
 gd:A.guards=some []
def fJ.mono {j k:Nat}{A:Around}(r:fJ k A)(h:j<=k):fJ j A:=⟨r.hd,by have:=r.dp;omega,by have:=r.un;omega,r.gd⟩
def fJ.deeper {k:Nat}{A:Around}(r:fJ (k + 1) A)(env:Env):fJ k (A.deeper env):=
 ⟨r.hd,by have:=r.dp;show A.depth + 1 + 3 * k + 5 < _;omega,by have:=r.un;show A.units + 3 + 16 * k + 200 < _;omega,r.gd⟩
def fJ.depth {k:Nat}{A:Around}(r:fJ k A):A.depth < recursionLimit:=by have:=r.dp;omega
def fJ.units {k:Nat}{A:Around}(r:fJ k A):A.units + 64 < cLine:=by have:=r.un;omega
def K9:TA:=λ_ H Q=>Q [] H
def Ke (ta:TE)(tr:TA):TA:=λσ H Q=>ta σ H λx H1=>tr σ H1 λxs H2=>Q (x :: xs) H2
section
variable {X:Cx}{e:Expr}{es:List Expr}{te:TE}{t:TA}{pos:Pos}
def bO:PA X [] K9:=λ_ _ _ _ H Q I h=>Calls.spliced_nil ⟨[],H,I,.nil,h⟩
def aU (ha:PE X e te)(hr:PA X es t)(hs:starEach (e :: es) X.env=(false,eval e X.env) :: starEach es X.env:=by rfl):PA X (e :: es) (Ke te t):=by
 intro pos pins s σ H Q I h
 rw[hs]
 show wpAny _ _ (spliced ((false,eval e X.env) :: backTo pos (starEach es X.env))) _ _ s
 refine Calls.spliced_cons (b5 (ha pins s σ H _ I h) λu s1 ⟨x,H1,I1,r1,q1⟩=>?_)
 exact b5 (hr pos pins s1 σ H1 _ I1 q1) λus s2 ⟨xs,H2,I2,r2,q2⟩=>⟨x :: xs,H2,I2,.cons r1 r2,q2⟩
def Lz (t:TA):TE:=λσ H Q=>t σ H λxs H1=>xs.length<=sizeLine/\∀p,H1 p=none->Q (.ref p) (upd H1 p (.tup xs))
def Ln (t:TA):TE:=λσ H Q=>t σ H λxs H1=>xs.length<=sizeLine/\∀p,H1 p=none->Q (.ref p) (upd H1 p (.lst xs))
def xw {x1}(h:PA X es t):PE X (.Tuple es x1 pos) (Lz t):=by
 intro pins s σ H Q I hq
 refine wpAny_Tuple_spliced (b5 (h pos pins s σ H _ I hq) λus s1 ⟨xs,H1,I1,r,z,q⟩=>⟨by rw[<-r.length];exact z,?_⟩)
 have hf:H1 s1.heap.objs.size=none:=I1.hok.fresh (MK _)
 refine⟨.ref s1.heap.objs.size,upd H1 s1.heap.objs.size (.tup xs),I1.laid (t':=s1.toks) (λb u e=>MH _ e) (MK _) ?_,rfl,q _ hf⟩
 exact⟨z,us,r,vK.new _ _⟩
def Cy (h:PA X es t):PE X (.List es pos) (Ln t):=by
 intro pins s σ H Q I hq
 refine wpAny_List_spliced (b5 (h pos pins s σ H _ I hq) λus s1 ⟨xs,H1,I1,r,z,q⟩=>⟨by rw[<-r.length];exact z,?_⟩)
 have hf:H1 s1.heap.objs.size=none:=I1.hok.fresh (MK _)
 refine⟨.ref s1.heap.objs.size,upd H1 s1.heap.objs.size (.lst xs),I1.laid (t':=s1.toks) (λb u e=>MH _ e) (MK _) ?_,rfl,q _ hf⟩
 exact⟨z,us,0,r,MX _ rfl⟩
end
abbrev Sp:=List V->Hp->VK->XK->Prop
abbrev Az:=List Env->Hp->Shared->XK->Value->Shared->Prop
structure EZ (P:Program)(w:World)(K:Frag)(mg:Str->Option Value)(base:Heap)(A:Around)(outer:List Env)(s:Shared)(H:Hp):Prop where
 frames:A.frames=some outer
 mod:Mod K mg base
 bs:∀b o,base.get? b=some o->s.heap.get? b=some o/\H b=none
 bsz:base.objs.size<=s.heap.objs.size
 funs:s.heap.FunFrames base outer
 frf:∀b∈jx outer,H b=none
 hok:kE P w H s.heap
 bare:AllBare s.gens
def CE (outer:List Env)(P:Program)(w:World)(H:Hp)(s:Shared)(Q:VK)(u:Value)(s':Shared):Prop:=
 ∃v H',s'.os=s.os/\AllBare s'.gens/\Un (jx outer) [] H H' s.heap s'.heap/\kE P w H' s'.heap/\RelV v u/\Q v H'
def CR (CX:Az)(outer:List Env)(P:Program)(w:World)(H:Hp)(s:Shared)(Q:VK)(E:XK)(r:Result)(s':Shared):Prop:=
 match r with
 | .ok (.ret u)=>CE outer P w H s Q u s'
 | .ok _=>False
 | .error e=>CX outer H s E e s'
structure gB (P:Program)(w:World)(K:Frag)(mg:Str->Option Value)(base:Heap)(CX:Az)(k:Nat)(f:Addr)(fd:FuncData)(ps:List Str)(sp:Sp):Prop where
 len:∀vs H Q E,sp vs H Q E->vs.length=ps.length
 run:∀(A:Around) (outer:List Env) (s:Shared) (H:Hp) (args:Args) (us:List Value) (vs:List V) (Q:VK) (E:XK),fJ k A->EZ P w K mg base A outer s H->BindsTo s fd args (ps.zip us)->Vals vs us->sp vs H Q E->
  codeAny (model P w) A (.call (.ref f) args) (CR CX outer P w H s Q E) s
def gB.mono {P:Program}{w:World}{K:Frag}{mg:Str->Option Value}{base:Heap}{CX:Az}{j k:Nat}{f:Addr}{fd:FuncData}{ps:List Str}{sp:Sp}(F:gB P w K mg base CX j f fd ps sp)(h:j<=k) :
  gB P w K mg base CX k f fd ps sp:=⟨F.len,λA outer s H args us vs Q E hr=>F.run A outer s H args us vs Q E (hr.mono h)⟩
def gB.imp {P:Program}{w:World}{K:Frag}{mg:Str->Option Value}{base:Heap}{CX:Az}{k:Nat}{f:Addr}{fd:FuncData}{ps:List Str}{sp sp':Sp}(F:gB P w K mg base CX k f fd ps sp)
  (h:∀vs H Q E,sp' vs H Q E->sp vs H Q E):gB P w K mg base CX k f fd ps sp':=
 ⟨λvs H Q E q=>F.len vs H Q E (h _ _ _ _ q),λA outer s H args us vs Q E hr he hb hv hs=>F.run A outer s H args us vs Q E hr he hb hv (h _ _ _ _ hs)⟩
section
variable {X:Cx}{pins:List (Addr×Obj)}{σ:St}{H:Hp}{s s':Shared}
def Inv.env0 (I:Inv X pins σ H s):EZ X.prog X.w X.K X.mg X.base X.A X.stack s H:=
 ⟨I.ok.frames,I.ok.mod,I.bs,NA I.ok.bsz I.sz,I.stack,I.stkFree,I.hok,I.bare⟩
def Inv.after {Q:VK}{u:Value}(I:Inv X pins σ H s)(h:CE X.stack X.prog X.w H s Q u s'):EP X pins σ Q u s':=by
 obtain⟨v,H',os,bare,un,hok,r,q⟩:=h
 obtain⟨hh,g,d,t,os'⟩:=s'
 obtain rfl:os'=s.os:=os
 exact⟨v,H',I.call (h':=hh) (g':=g) (d':=d) (t':=t) (ch:=[]) un hok bare (λb z=>absurd z (by simp)),r,q⟩
end
def KA (sp:Sp)(dvs:List V)(E:XK)(t:TA):TE:=λσ H Q=>t σ H λvs H1=>sp (vs ++ dvs) H1 Q E
def Binds (K:Frag)(fd:FuncData)(ps:List Str)(ds:List Value):Prop:=
 ∀(s:Shared) (us:List Value),K.In s.heap->(us ++ ds).length=ps.length->BindsTo s fd ⟨us,[]⟩ (ps.zip (us ++ ds))
def Binds.all {K:Frag}{fd:FuncData}{ps:List Str}(h:∀us:List Value,us.length=ps.length->bindArgs fd ⟨us,[]⟩=pure (ps.zip us)):Binds K fd ps []:=λs us _ hl=>by
 rw[Oh] at hl ⊢
 exact .of_eq (h us hl)
def Passes (CX:Az)(X:Cx)(E:XK):Prop:=∀(pins:List (Addr×Obj)) (σ:St) (H:Hp) (s:Shared) (e:Value) (s':Shared),Inv X pins σ H s->CX X.stack H s E e s'->X.xe e s'
section
variable {X:Cx}{CX:Az}{k:Nat}{f C:Addr}{fd:FuncData}{ps:List Str}{sp:Sp}{dvs:List V}{ds:List Value}{E:XK}{x m:Str}{p pos apos:Pos}{e o:Expr}{es:List Expr}{ta:TE}{t:TA}
theorem Ie {pins:List (Addr×Obj)}{σ:St}{H:Hp}{s:Shared}{Q:VK}{us:List Value}{vs:List V}(F:gB X.prog X.w X.K X.mg X.base CX k f fd ps sp)(hr:fJ k X.A)(hb:Binds X.K fd ps ds)(hd:Vals dvs ds)(hx:Passes CX X E)
  (I:Inv X pins σ H s) (r:Vals vs us) (h:sp (vs ++ dvs) H Q E):wpAny (model X.prog X.w) X.A (call (.ref f) us) (EP X pins σ Q) X.xe s:=by
 have r2:Vals (vs ++ dvs) (us ++ ds):=r.append hd
 have hl:(us ++ ds).length=ps.length:=by rw[<-r2.length];exact F.len _ _ _ _ h
 refine wpAny_call (Pc (F.run X.A X.stack s H ⟨us,[]⟩ (us ++ ds) (vs ++ dvs) Q E hr I.env0 (hb s us I.kIn hl) r2 h) λr s' hq=>?_)
 cases r with
 |error e=>exact hx pins σ H s e s' I hq
 |ok fl=>
  cases fl with
  |ret u=>exact I.after hq
  |next=>exact False.elim hq
  |brk=>exact False.elim hq
  |cont=>exact False.elim hq
def pB (F:gB X.prog X.w X.K X.mg X.base CX k f fd ps sp)(hr:fJ k X.A)(hg:Gl X x)(hm:X.mg x=some (.ref f))(hk:PySem.W.keepIn X.K (.ref f)=true)(hb:Binds X.K fd ps ds)(hd:Vals dvs ds)(hx:Passes CX X E)
  (ha:PA X (e :: es) t) (hdb:(x == ("__debug__":Str))=false:=by decide) (he:starEach (e :: es) X.env=(false,eval e X.env) :: starEach es X.env:=by rfl) (hpl:(backTo pos (starEach es X.env)).any (·.1)=false:=by rfl) :
  PE X (.Call (.Name x p) (e :: es) [] pos) (KA sp dvs E t):=by
 intro pins s σ H Q I h
 refine wpAny_Call_Name_kw (tf I hg hm ?_ hdb)
 refine PySem.W.callWith_K (h₀:=X.base) I.ok.mod.kin hk (b5 (ha pos pins s σ H _ I h) λus s1 ⟨vs,H1,I1,r,q⟩=>⟨I1.kIn,?_⟩) he hpl
 exact Ie F hr hb hd hx I1 r q
end
structure aJ (N P:List Str)(sc:Scope):Prop where
 kind:sc.kind=.function
 co:sc.isCoroutine=false
 gen:sc.isGenerator=false
 nd:N.Nodup
 pre:N.take P.length=P
 par:∀x∈P,sc.names.lookup x=some .local\/sc.names.lookup x=some .cell
 nofree:∀y∈sc.names,y.2≠.free
theorem rP {kindOf:Str->Option NameKind}{x:Str}:∀{binds:List (Str×Value)} {m:Str->Option Value},(∀v,(x,v)∉binds)->bindL kindOf binds m x=m x
 | [],_,_=>rfl
 | (n,v) :: r,m,h=>by
  unfold bindL
  rw[rP λw hw=>h w (MM _ hw)]
  split
  ·have:x≠n:=by rintro rfl;exact h v MP
   simp[this]
  ·rfl
theorem se {kindOf:Str->Option NameKind}{x:Str}:∀{binds:List (Str×Value)} {m:Str->Option Value},(∀v,(x,v)∉binds)->bindC kindOf binds m x=m x
 | [],_,_=>rfl
 | (n,v) :: r,m,h=>by
  unfold bindC
  rw[se λw hw=>h w (MM _ hw)]
  split
  ·rfl
  ·have:x≠n:=by rintro rfl;exact h v MP
   simp[this]
theorem sr {kindOf:Str->Option NameKind}{x:Str}{v:Value}:∀{P:List Str} {vs:List Value} {i:Nat} {m:Str->Option Value},P.Nodup->P[i]? =some x->vs[i]? =some v->kindOf x=some .local->
  bindL kindOf (P.zip vs) m x=some v
 | [],_,_,_,_,h,_,_=>by simp at h
 |_ :: _,[],_,_,_,_,h,_=>by simp at h
 |p :: P,w :: vs,0,m,nd,h1,h2,hk=>by
  simp at h1 h2;subst h1;subst h2
  show bindL kindOf ((p,w) :: P.zip vs) m p=_
  unfold bindL
  rw[rP λv hv=>(Nq.mp nd).1 (List.of_mem_zip hv).1,MJ hk]
  simp
 |p :: P,w :: vs,i + 1,m,nd,h1,h2,hk=>by
  show bindL kindOf ((p,w) :: P.zip vs) m x=_
  unfold bindL
  exact sr (i:=i) (Nq.mp nd).2 (by simpa using h1) (by simpa using h2) hk
theorem sk {kindOf:Str->Option NameKind}{x:Str}{v:Value}:∀{P:List Str} {vs:List Value} {i:Nat} {m:Str->Option Value},P.Nodup->P[i]? =some x->vs[i]? =some v->kindOf x≠some .local->
  bindC kindOf (P.zip vs) m x=some v
 | [],_,_,_,_,h,_,_=>by simp at h
 |_ :: _,[],_,_,_,_,h,_=>by simp at h
 |p :: P,w :: vs,0,m,nd,h1,h2,hk=>by
  simp at h1 h2;subst h1;subst h2
  show bindC kindOf ((p,w) :: P.zip vs) m p=_
  unfold bindC
  rw[se λv hv=>(Nq.mp nd).1 (List.of_mem_zip hv).1,MO hk]
  simp
 |p :: P,w :: vs,i + 1,m,nd,h1,h2,hk=>by
  show bindC kindOf ((p,w) :: P.zip vs) m x=_
  unfold bindC
  exact sk (i:=i) (Nq.mp nd).2 (by simpa using h1) (by simpa using h2) hk
def start (N:List Str)(vs:List V):St:=vs.map some ++ List.replicate (N.length - vs.length) none
def lM (CX:Az)(P:Program)(w:World)(K:Frag)(mg:Str->Option Value)(base:Heap)(N:List Str)(qual:Str)(scope:Scope)(f:Addr)(cd:Value)(A:Around)(outer:List Env)(s:Shared)(H:Hp)(E:XK):Cx where
 prog:=P
 w:=w
 K:=K
 mg:=mg
 base:=base
 A:=A.deeper (envOfC qual scope s.heap.objs.size f cd)
 N:=N
 s₀:=s
 H₀:=H
 env:=envOfC qual scope s.heap.objs.size f cd
 outer:=outer
 stack:=envOfC qual scope s.heap.objs.size f cd :: outer
 ex:=[]
 calm:=true
 fn:=λ_=>true
 pn:=[]
 xe:=λe s'=>wpAny (model P w) (A.deeper (envOfC qual scope s.heap.objs.size f cd)) (leaving (envOfC qual scope s.heap.objs.size f cd) e) (λ_ s''=>CX outer H s E e s'') (λe' s''=>CX outer H s E e' s'') s'
def vn {sc:Scope}{n:Nat}{x:Str}(h:sc.names.lookup x=some .cell):∃c,(cellsFrom n sc.names []).lookup x=some c:=by
 have q:=PySem.W.cellsFrom_some sc.names n [] (.inl h)
 exact Option.isSome_iff_exists.mp q
def A7 {CX:Az}{P:Program}{w:World}{K:Frag}{mg:Str->Option Value}{base:Heap}{N ps:List Str}{qual:Str}{scope:Scope}{f:Addr}{cd:Value}{A:Around}{outer:List Env}{s s1:Shared}{H:Hp}{E:XK}{us:List Value}{vs:List V}
  (S:aJ N ps scope) (hd:A.handled=none) (e0:EZ P w K mg base A outer s H) (hl:vs.length=ps.length) (r:Vals vs us)
  (x:InCallC s s.heap.objs.size (bindL (envOfC qual scope s.heap.objs.size f cd).kindOf (ps.zip us) λ_=>none) (cellsFrom (s.heap.objs.size + 1) scope.names []) (bindC (envOfC qual scope s.heap.objs.size f cd).kindOf (ps.zip us) λ_=>none) s1) :
  Inv (lM CX P w K mg base N qual scope f cd A outer s H E) [] (start N vs) H s1:=by
 have hpl:ps.length<=N.length:=by have:=congrArg List.length S.pre;rw[Nu] at this;omega
 obtain⟨h1,tk,rfl,hk⟩:=x.done
 have noA:∀b:Addr,b∉(lM CX P w K mg base N qual scope f cd A outer s H E).ex:=λb z=>absurd (show b∈([]:List Addr) from z) (by simp)
 refine⟨⟨e0.mod,S.kind,rfl,rfl,MK _,λy z c h1 h2=>?_,λy hy=>?_,λy c _ h=>?_,λ_=>hd,Around.frames_deeper e0.frames,.inr ⟨rfl,rfl⟩,λb z=>absurd z (noA b),e0.bs,e0.bsz,λb _ _=>noA b,λb z=>absurd z (noA b),e0.funs,e0.frf⟩,
  rfl,e0.bare,Un.kept hk,⟨_,x.toInCall.ns,λi y v h1 h2 h3=>?_⟩,λy c h=>⟨_,x.cell y c h⟩,e0.hok.fresh (MK _),λy c h=>?_,λp hp=>absurd (show p∈([]:List (Addr×Obj)) from hp) (by simp),e0.hok.kept hk,?_⟩
 ·exact name_of_addr x.apart (Oq h1) (Oq h2)
 ·have hy:scope.names.lookup y=some .cell\/scope.names.lookup y=some .free:=hy
  rcases hy with hy |hy
  ·exact vn hy
  ·exact absurd rfl (S.nofree _ (Oq hy))
 ·exact Nat.le_of_lt (x.above y c (Oq h))
 ·have hi:i < vs.length:=by
   unfold start at h2
   by_cases hi:i < vs.length
   ·exact hi
   ·rw[Np (by simpa using hi)] at h2
    rw[N7] at h2
    split at h2 <;> cases h2
  have ha:vs[i]? =some v:=by
   unfold start at h2
   rw[Nh (by simpa using hi),MV] at h2
   cases e:vs[i]? with
   |none=>rw[e] at h2;cases h2
   |some a=>rw[e] at h2;cases h2;rfl
  obtain⟨u,hu,rv⟩:=r.get ha
  have hp:ps[i]? =some y:=by
   rw[<-S.pre,List.getElem?_take_of_lt (by omega)];exact h1
  have ndP:ps.Nodup:=by rw[<-S.pre];exact S.nd.sublist (List.take_sublist _ _)
  refine⟨u,rv,?_⟩
  rcases S.par y (MU hp) with k |k
  ·exact .inl ⟨k,sr ndP hp hu k⟩
  ·obtain⟨c,e⟩:=vn (n:=s.heap.objs.size + 1) k
   refine .inr ⟨.inl k,c,e,?_⟩
   have q:=x.cell y c e
   rw[sk ndP hp hu (by show scope.names.lookup y≠_;rw[k];decide)] at q
   exact q
 ·exact e0.hok.fresh (Nat.le_of_lt (x.above y c (Oq h)))
 ·unfold start
  show _=N.length
  rw[Nf,ML,Oz]
  omega
theorem Gz {CX:Az}{P:Program}{w:World}{K:Frag}{mg:Str->Option Value}{base:Heap}{k:Nat}{f:Addr}{name qual:Str}{params:Arguments}{body:List Stmt}{scope:Scope}{dV kV doc pm cdv ct oc:Value}{an od:Option Addr}
  {osl:Array (Option Value)} {N ps:List Str} {sp:Sp} (lk:K.lookup f=some ⟨oc,od,.func (PySem.W.fnOf name qual params body scope dV kV doc pm an cdv ct),osl⟩) (hcd:PySem.W.codeIn K cdv qual=true) (S:aJ N ps scope)
  (len:∀vs H Q E,sp vs H Q E->vs.length=ps.length)
  (hbody:∀(A:Around) (outer:List Env) (s:Shared) (H:Hp) (vs:List V) (Q:VK) (E:XK),fJ k (A.deeper (envOfC qual scope s.heap.objs.size f cdv))->sp vs H Q E->
   ∃t,sg (lM CX P w K mg base N qual scope f cdv A outer s H E) body t/\t {nx:=λ_ H'=>Q .non H',rt:=Q} (start N vs) H) :
  gB P w K mg base CX (k + 1) f (PySem.W.fnOf name qual params body scope dV kV doc pm an cdv ct) ps sp:=by
 refine⟨len,λA outer s H args us vs Q E hr e0 hb r hsp=>?_⟩
 have hl:=len _ _ _ _ hsp
 have KX:K.In s.heap:=e0.mod.kin.keeps λb o e=>(e0.bs b o e).1
 have lim:s.heap.NoLimit:=e0.mod.nolimit.keeps λb o e=>(e0.bs b o e).1
 have hkind:∀y∈ps.zip us,scope.names.lookup y.1=some .local\/(scope.names.lookup y.1=some .cell/\((cellsFrom (s.heap.objs.size + 1) scope.names []).lookup y.1).isSome=true):=λ⟨n,v⟩ hy=>by
  rcases S.par n (List.of_mem_zip hy).1 with q |q
  ·exact .inl q
  ·exact .inr ⟨q,PySem.W.cellsFrom_some _ _ _ (.inl q)⟩
 refine codeAny_call_function hr.depth (KX _ _ lk) rfl S.co S.gen rfl (PySem.W.codeRec_of KX hcd) (hb _ _ _ _ ?_)
 refine wpAny_newFunctionEnv_cells S.kind hkind λenv he s1 x=>?_
 subst he
 refine⟨lim.keeps x.toInCall.keep,codeAny_func ?_⟩
 obtain⟨t,ht,hq⟩:=hbody A outer s H vs Q E (hr.deeper _) hsp
 have I:Inv (lM CX P w K mg base N qual scope f cdv A outer s H E) [] (start N vs) H s1:=A7 S hr.hd e0 hl r x
 refine N0 (ht [] s1 (start N vs) H _ I hq) (λfl s' hs=>?_) λe s' hs=>hs
 have fin:∀{σ':St} {H':Hp} {v:V} {u:Value},Inv (lM CX P w K mg base N qual scope f cdv A outer s H E) [] σ' H' s'->RelV v u->Q v H'->CE outer P w H s Q u s':=
  λ{σ' H' v u} J rv q=>⟨v,H',J.os,J.bare,J.base,J.hok,rv,q⟩
 cases fl with
 |ret u=>
  obtain⟨v,σ',H',J,rv,q⟩:=hs
  exact fin J rv q
 |next=>
  obtain⟨σ',H',J,q⟩:=hs
  exact fin (v:=V.non) (u:=Value.none) J rfl q
 |brk=>
  obtain⟨_,_,_,q⟩:=hs
  exact False.elim q
 |cont=>
  obtain⟨_,_,_,q⟩:=hs
  exact False.elim q
section
variable {X:Cx}{x:Str}{p pos:Pos}{e:Expr}{es:List Expr}{t:TA}{id T:String}{r:List V->Hp->VK->Prop}
def Mg (r:List V->Hp->VK->Prop)(t:TA):TE:=λσ H Q=>t σ H λvs H1=>r vs H1 Q
def kI (hc:c8 X (.builtin id) r)(hg:Gl X x)(hm:X.mg x=none)(hv:bootBuiltins x=some (.builtin id))(ha:PA X (e :: es) t)(hn:x≠"__name__":=by decide)(hdb:(x == ("__debug__":Str))=false:=by decide)
  (he:starEach (e :: es) X.env=(false,eval e X.env) :: starEach es X.env:=by rfl) (hpl:(backTo pos (starEach es X.env)).any (·.1)=false:=by rfl):PE X (.Call (.Name x p) (e :: es) [] pos) (Mg r t):=by
 intro pins s σ H Q I h
 refine wpAny_Call_Name_kw (qN I hg hm hv ?_ hn hdb)
 exact PyProof.Rows.callWith_builtin1 (b5 (ha pos pins s σ H _ I h) λus s1 ⟨vs,H1,I1,r1,q1⟩=>hc pins s1 σ H1 vs us Q I1 r1 q1) he hpl
def jA (hc:c8 X (.type T) r)(hg:Gl X x)(hm:X.mg x=none)(hv:bootBuiltins x=some (.type T))(ha:PA X (e :: es) t)(hn:x≠"__name__":=by decide)(hdb:(x == ("__debug__":Str))=false:=by decide)
  (he:starEach (e :: es) X.env=(false,eval e X.env) :: starEach es X.env:=by rfl) (hpl:(backTo pos (starEach es X.env)).any (·.1)=false:=by rfl):PE X (.Call (.Name x p) (e :: es) [] pos) (Mg r t):=by
 intro pins s σ H Q I h
 refine wpAny_Call_Name_kw (qN I hg hm hv ?_ hn hdb)
 exact O3 (b5 (ha pos pins s σ H _ I h) λus s1 ⟨vs,H1,I1,r1,q1⟩=>hc pins s1 σ H1 vs us Q I1 r1 q1) he hpl
end
end L2
namespace HT
open PySem PyProof.Rows
section
open PySem.SeqAt
open PySem.AutoSeq1 (wpAny_loadPart')
open PySem.MeetsSeq PySem.MeetsSeq2 PySem.MeetsSeq3
end
section
variable {prog:Program}{w:World}{A:Around}{E:Value->Shared->Prop}{s:Shared}
def sN (n d:Nat):Option Int->Nat
 |none=>d
 |some v=>if v < 0 then (v + (n:Int)).toNat else min v.toNat n
def v8 (n d:Nat):sN n d none=d:=rfl
def zL (n d k:Nat):sN n d (some (k:Int))=min k n:=by
 show (if (k:Int) < 0 then ((k:Int) + (n:Int)).toNat else min (k:Int).toNat n)=min k n
 rw[MO (by omega),NJ]
theorem yF {v:Value}{o:Option Int}{Q:Option Int->Shared->Prop}(p:IsPart v o)(h:Q o s):wpAny (model prog w) A (Builtin.Slice.slicePartIndex v) Q E s:=by
 cases p with
 |none=>exact slicePart_none h
 |int i t=>exact slicePart_int h
end
end HT
namespace L2
open PySem PySem.Spec PyProof.Rows
abbrev TO:=St->Hp->(Option Int->Hp->Prop)->Prop
def PO (X:Cx)(e:Option Expr)(t:TO):Prop:=
 ∀(pins:List (Addr×Obj)) (s:Shared) (σ:St) (H:Hp) (Q:Option Int->Hp->Prop),Inv X pins σ H s->t σ H Q->
  wpAny (model X.prog X.w) X.A (evalPart e X.env) (λu s'=>∃o H',Inv X pins σ H' s'/\IsPart u o/\Q o H') X.xe s
def Fd:TO:=λ_ H Q=>Q none H
def Ks (t:TE):TO:=λσ H Q=>t σ H λx H1=>∃i,x=.int i/\Q (some i) H1
section
variable {X:Cx}{e:Expr}{te:TE}{lo hi:Option Expr}{tl th:TO}{pos p2:Pos}
def FW:PO X none Fd:=by
 intro pins s σ H Q I h
 rw[evalPart_none]
 exact MI ⟨none,H,I,.none,h⟩
def uF (h:PE X e te):PO X (some e) (Ks te):=by
 intro pins s σ H Q I hw
 rw[evalPart_some]
 refine b5 (h pins s σ H _ I hw) λu s1 ⟨x,H1,I1,r1,q1⟩=>?_
 obtain⟨i,rfl,q⟩:=q1
 obtain⟨t,rfl⟩:=r1
 exact⟨some i,H1,I1,.int i t,q⟩
def L9 (X:Cx)(r:V->Option Int->Option Int->Hp->VK->Prop):Prop:=
 ∀(pins:List (Addr×Obj)) (s:Shared) (σ:St) (H:Hp) (x:V) (v vl vu:Value) (lo hi:Option Int) (sl:Addr) (Q:VK),Inv X pins σ H s->RelV x v->s.heap.IsSliceOf sl vl vu .none->IsPart vl lo->IsPart vu hi->r x lo hi H Q->
  ∃T id,typeLookup (.type T) "__getitem__"=pure (some (.builtin id))/\s.TypeIs v T/\wpAny (model X.prog X.w) X.A (getItem v (.ref sl)) (EP X pins σ Q) X.xe s
def My (r:V->Option Int->Option Int->Hp->VK->Prop)(te:TE)(tl th:TO):TE:=λσ H Q=>te σ H λx H1=>tl σ H1 λl H2=>th σ H2 λu H3=>r x l u H3 Q
def CN {r:V->Option Int->Option Int->Hp->VK->Prop}(hr:L9 X r)(he:PE X e te)(hl:PO X lo tl)(hu:PO X hi th):PE X (.Subscript e (.Slice lo hi none p2) pos) (My r te tl th):=by
 intro pins s σ H Q I h
 refine Subscript_ (b5 (he pins s σ H _ I h) λv s1 ⟨x,H1,I1,r1,q1⟩=>?_)
 refine wpAny_Slice (b5 (hl pins s1 σ H1 _ I1 q1) λvl s2 ⟨l,H2,I2,pl,q2⟩=>b5 (hu pins s2 σ H2 _ I2 q2) λvu s3 ⟨u,H3,I3,pu,q3⟩=>?_)
 rw[evalPart_none]
 refine MI ?_
 have I4:Inv X pins σ H3 {s3 with heap:=s3.heap.push {cls:=.type "slice",data:=.fields #[vl,vu,.none]}}:=I3.kept (t':=s3.toks) λb ob q=>MH _ q
 obtain⟨T,id,hT,ht,hg⟩:=hr pins {s3 with heap:=s3.heap.push {cls:=.type "slice",data:=.fields #[vl,vu,.none]}} σ H3 x v vl vu l u s3.heap.objs.size Q I4 r1 (Heap.IsSliceOf.new ..) pl pu q3
 show wpAny (model X.prog X.w) X.A (subscriptTail e (.Slice lo hi none p2) v (.ref s3.heap.objs.size)) (EP X pins σ Q) X.xe {s3 with heap:=s3.heap.push {cls:=.type "slice",data:=.fields #[vl,vu,.none]}}
 exact tail_any (ops:=[.ref s3.heap.objs.size,v]) ht hT hg (by with_unfolding_all rfl)
def yu (xs:List V)(lo hi:Option Int):List V:=(xs.drop (HT.sN xs.length 0 lo)).take (HT.sN xs.length xs.length hi - HT.sN xs.length 0 lo)
def wX (xs:List V)(lo hi:Option Int):(yu xs lo hi).length<=xs.length:=by
 unfold yu
 rw[Nu,OJ]
 omega
end
def AL (n:Nat)(i:Int):Option Nat:=if 0<=i then (if i < n then some i.toNat else none) else if -(n:Int)<=i then some (i + n).toNat else none
def jv {α:Type}(xs:List α)(i:Int):Option α:=(AL xs.length i).bind λj=>xs[j]?
def y9 {n:Nat}{i:Int}{j:Nat}(h:AL n i=some j):seqIndex? i n=some j/\j < n/\ -(n:Int)<=i/\i < n:=by
 unfold AL at h
 by_cases h0:0<=i
 ·rw[MJ h0] at h
  by_cases h1:i < n
  ·rw[MJ h1] at h
   have e:i.toNat=j:=Option.some.inj h
   exact⟨by rw[seqIndex_of h0 h1,e],by omega,by omega,h1⟩
  ·rw[MO h1] at h;cases h
 ·rw[MO h0] at h
  by_cases h1: -(n:Int)<=i
  ·rw[MJ h1] at h
   have e:(i + n).toNat=j:=Option.some.inj h
   exact⟨by rw[seqIndex_neg (by omega) h1,e],by omega,h1,by omega⟩
  ·rw[MO h1] at h;cases h
theorem tx {α:Type}{xs:List α}{i:Int}{v:α}(h:jv xs i=some v):∃j,seqIndex? i xs.length=some j/\xs[j]? =some v/\j < xs.length/\ -(xs.length:Int)<=i/\i < xs.length:=by
 unfold jv at h
 cases e:AL xs.length i with
 |none=>rw[e] at h;cases h
 |some j=>
  rw[e] at h
  obtain⟨h1,h2,h3,h4⟩:=y9 e
  exact⟨j,h1,h,h2,h3,h4⟩
def fH {α:Type}{xs:List α}{j:Nat}{v:α}(h:xs[j]? =some v):jv xs (j:Int)=some v:=by
 have hj:j < xs.length:=(M9.mp h).1
 have e:AL xs.length (j:Int)=some j:=by
  unfold AL
  rw[MJ (by omega),MJ (by omega)];simp
 unfold jv;rw[e];exact h
def yW (b:Expr):Prop:=∀o i,subscripted b false o i=operate [o,i] (getItem o i)
def B6 (X:Cx)(r:R2):Prop:=
 ∀(value slice:Expr) (pins:List (Addr×Obj)) (s:Shared) (σ:St) (H:Hp) (x y:V) (v u:Value) (Q:VK),Inv X pins σ H s->RelV x v->RelV y u->r x y H Q->
  subscripted slice false v u=operate [v,u] (getItem v u)->wpAny (model X.prog X.w) X.A (subscriptTail value slice v u) (EP X pins σ Q) X.xe s
def MA (X:Cx)(id:String)(r:V->List V->Hp->VK->Prop):Prop:=
 ∀(pins:List (Addr×Obj)) (s:Shared) (σ:St) (H:Hp) (x:V) (xs:List V) (v:Value) (us:List Value) (Q:VK),Inv X pins σ H s->RelV x v->Vals xs us->r x xs H Q->
  wpAny (model X.prog X.w) X.A (call (.builtin id) (v :: us)) (EP X pins σ Q) X.xe s
section
variable {X:Cx}{a b:Expr}{ta tb:TE}{pos:Pos}
def B6.or {r r':R2}(h:B6 X r)(h':B6 X r'):B6 X (λx y H Q=>r x y H Q\/r' x y H Q):=by
 intro value slice pins s σ H x y v u Q I rx ry q hs
 rcases q with q |q
 ·exact h value slice pins s σ H x y v u Q I rx ry q hs
 ·exact h' value slice pins s σ H x y v u Q I rx ry q hs
def lZ {r:R2}(hr:B6 X r)(ha:PE X a ta)(hb:PE X b tb)(hs:yW b):PE X (.Subscript a b pos) (KD r ta tb):=by
 intro pins s σ H Q I h
 exact Subscript_ (Ir ha hb I h λv u s2 x y H2 I2 rx ry q=>hr a b pins s2 σ H2 x y v u Q I2 rx ry q (hs _ _))
def Ht (K:Frag):R2:=λx y H Q=>∃p xs i v,x=.ref p/\y=.int i/\gG K H p xs/\jv xs i=some v/\Q v H
def Jx (K:Frag):R2:=λx y H Q=>∃p xs i v,x=.ref p/\y=.int i/\fL K H p xs/\jv xs i=some v/\Q v H
def Ki:R2:=λx y H Q=>∃z i c,x=.str z/\y=.int i/\z.length<=sizeLine/\jv z.cps.toList i=some c/\Q (.str ⟨#[c]⟩) H
def ie:B6 X (Ht X.K):=by
 intro value slice pins s σ H x y v u Q I rx ry h hs
 obtain⟨p,xs,i,z,rfl,rfl,hq,he,q⟩:=h
 cases rx
 obtain⟨t,rfl⟩:=ry
 obtain⟨its,r,pl,hz⟩:=I.list hq
 obtain⟨j,h1,h2,h3,h4,h5⟩:=tx he
 obtain⟨w,ew,rw'⟩:=r.get h2
 have hl:=r.length
 have hn:=nS
 have fin:EP X pins σ Q w s:=⟨z,H,I,rw',q⟩
 by_cases h0:0<=i
 ·have hj:i.toNat=j:=by
   rw[seqIndex_of h0 h5] at h1
   exact Option.some.inj h1
  exact item_listR pl.isList h0 (by omega) (by rw[hj];simpa using ew) fin hs
 ·have hj:(i + (its.toArray.size:Int)).toNat=j:=by
   rw[seqIndex_neg (by omega) h4] at h1
   rw[MY,<-hl]
   exact Option.some.inj h1
  exact subscriptTail_builtinR (x:=w) pl.isList.typeIs slot_list_getitem.lookup
   (wpAny_getItem_list_neg (Q:=λr s'=>r=w/\EP X pins σ Q r s') pl.isList (by omega) (by rw[MY] <;> omega) (by omega) (by rw[hj];simpa using ew) ⟨rfl,fin⟩) hs
def HE:B6 X (Jx X.K):=by
 intro value slice pins s σ H x y v u Q I rx ry h hs
 obtain⟨p,xs,i,z,rfl,rfl,hq,he,q⟩:=h
 cases rx
 obtain⟨t,rfl⟩:=ry
 obtain⟨its,r,pl,hz⟩:=I.tuple hq
 obtain⟨j,h1,h2,h3,h4,h5⟩:=tx he
 obtain⟨w,ew,rw'⟩:=r.get h2
 have hl:=r.length
 have hn:=nS
 have fin:EP X pins σ Q w s:=⟨z,H,I,rw',q⟩
 exact subscriptTail_builtinR (x:=w) pl.typeIs slot_tuple_getitem.lookup
  (getItem_tuple (j:=j) (Q:=λr s'=>r=w/\EP X pins σ Q r s') pl (by omega) (by omega) (by rw[MY,<-hl];exact h1) (by simpa using ew) ⟨rfl,fin⟩) hs
def IT:B6 X Ki:=by
 intro value slice pins s σ H x y v u Q I rx ry h hs
 obtain⟨z,i,c,rfl,rfl,hz,he,q⟩:=h
 obtain⟨t,rfl⟩:=rx
 obtain⟨t',rfl⟩:=ry
 obtain⟨j,h1,h2,h3,h4,h5⟩:=tx he
 have hl:z.cps.toList.length=z.length:=by simp[Str.length]
 rw[hl] at h1 h4 h5
 have hn:=nS
 exact tail_any (typeIs_str s z t) slot_str_getitem.lookup (getItem_str (c:=c) (by
  have e1:decide (i < -(2 ^ 63:Int))=false:=MW (by omega)
  have e2:decide (i>=2 ^ 63)=false:=MW (by omega)
  rw[e1,e2,Bool.or_false]) (by rw[h1];simpa using h2) ⟨.str ⟨#[c]⟩,H,I.tok _,⟨_,rfl⟩,q⟩) hs
def Mm (K:Frag):R2:=λx y H Q=>Ht K x y H Q\/Jx K x y H Q\/Ki x y H Q
def aO:B6 X (Mm X.K):=ie.or (HE.or IT)
def xo (its:List Value)(n j:Nat)(u:Value):Obj.mapSeq (·.setIfInBounds j u) {cls:=.type "list",data:=.seq its.toArray n}={cls:=.type "list",data:=.seq (its.set j u).toArray n}:=by
 simp[Obj.mapSeq]
def Inv.lst {pins:List (Addr×Obj)}{σ:St}{H:Hp}{s:Shared}{p:Addr}{xs:List V}(I:Inv X pins σ H s)(h:H p=some (.lst xs)) :
  ∃(its:List Value) (n:Nat),Vals xs its/\s.heap.get? p=some {cls:=.type "list",data:=.seq its.toArray n}/\xs.length<=sizeLine:=by
 obtain⟨z,its,n,r,e⟩:=I.hok p _ h
 exact⟨its,n,r,e,z⟩
def Inv.lstUpd {pins:List (Addr×Obj)}{σ:St}{H:Hp}{s:Shared}{p:Addr}{xs ys:List V}{its its':List Value}{n n':Nat}{f:Obj->Obj}(I:Inv X pins σ H s)(h:H p=some (.lst xs))
  (ho:s.heap.get? p=some {cls:=.type "list",data:=.seq its.toArray n}) (hf:f {cls:=.type "list",data:=.seq its.toArray n}={cls:=.type "list",data:=.seq its'.toArray n'}) (r:Vals ys its') (hz:ys.length<=sizeLine) (t:Nat) :
  Inv X pins σ (upd H p (.lst ys)) {s with heap:=s.heap.update p f,toks:=t}:=by
 have e:(s.heap.update p f).get? p=some {cls:=.type "list",data:=.seq its'.toArray n'}:=by
  rw[NG f ho (by rw[hf] <;> rfl),hf]
 refine I.write (x:=p) (e:=p) (by rw[h];trivial) (.inl rfl) (λb u hb q=>(NM _ _ (Ne.symm hb)).trans q) ⟨_,e⟩ ?_
 exact⟨hz,its',n',r,e⟩
def Kb:V->V->V->Hp->(Hp->Prop)->Prop:=λo i v H Q=>∃p xs k j,o=.ref p/\i=.int k/\H p=some (.lst xs)/\AL xs.length k=some j/\Q (upd H p (.lst (xs.set j v)))
def set_list:uO X Kb:=by
 intro pins s σ H o i v ov iv u Q I ro ri rv h
 obtain⟨p,xs,k,j,rfl,rfl,hp,hj,q⟩:=h
 cases ro
 obtain⟨t,rfl⟩:=ri
 obtain⟨its,n,r,ho,hz⟩:=I.lst hp
 obtain⟨h1,h2,h3,h4⟩:=y9 hj
 have hl:=r.length
 have hn:=nS
 have I':Inv X pins σ (upd H p (.lst (xs.set j v))) {s with heap:=s.heap.update p (Obj.mapSeq (·.setIfInBounds j u))}:=
  I.lstUpd hp ho (xo its n j u) (r.set rv j) (by rw[NY];exact hz) s.toks
 by_cases h0:0<=k
 ·have hk:k.toNat=j:=by
   rw[seqIndex_of h0 h4] at h1
   exact Option.some.inj h1
  exact PySem.W.ki_setAt ho h0 (by omega) (by rw[MY,<-hl];exact h4) (by rw[hk];exact⟨_,I',q⟩)
 ·have hk:(k + (its.toArray.size:Int)).toNat=j:=by
   rw[seqIndex_neg (by omega) h3] at h1
   rw[MY,<-hl]
   exact Option.some.inj h1
  exact PySem.W.ki_setBack ho (by omega) (by rw[MY,<-hl];exact h3) (by omega) (by rw[hk];exact⟨_,I',q⟩)
def tO (lo hi:Option Int)(n:Nat):(sliceBounds lo hi none n).1=((HT.sN n 0 lo:Nat):Int)/\(sliceBounds lo hi none n).2.1=((HT.sN n n hi:Nat):Int)/\(sliceBounds lo hi none n).2.2=1:=by
 refine⟨?_,?_,rfl⟩
 ·cases lo with
  |none=>simp[sliceBounds,HT.sN]
  |some i=>
   simp only[sliceBounds,HT.sN,Option.getD_none,show (1:Int) > 0 by decide,NN]
   by_cases h:i < 0
   ·simp only[h,NN] <;> omega
   ·simp only[h,Nx] <;> omega
 ·cases hi with
  |none=>simp[sliceBounds,HT.sN]
  |some i=>
   simp only[sliceBounds,HT.sN,Option.getD_none,show (1:Int) > 0 by decide,NN]
   by_cases h:i < 0
   ·simp only[h,NN] <;> omega
   ·simp only[h,Nx] <;> omega
def rL (its:List Value)(lo hi:Option Int):slicePick its.toArray lo hi none=((its.drop (HT.sN its.length 0 lo)).take (HT.sN its.length its.length hi - HT.sN its.length 0 lo)).toArray:=by
 obtain⟨h1,h2,h3⟩:=tO lo hi its.toArray.size
 unfold slicePick
 rw[h1,h2,h3]
 simp only[sliceRange_one,pick_run,MY] <;> rfl
def LH (K:Frag):V->Option Int->Option Int->Hp->VK->Prop:=λx lo hi H Q=>∃a xs,x=.ref a/\gG K H a xs/\∀p,H p=none->Q (.ref p) (upd H p (.lst (yu xs lo hi)))
def Gk:L9 X (LH X.K):=by
 intro pins s σ H x v vl vu lo hi sl Q I rx hs pl pu h
 obtain⟨a,xs,rfl,hx,q⟩:=h
 cases rx
 obtain⟨its,r,ht,hz⟩:=I.list hx
 have hlen:=r.length
 refine⟨"list",_,slot_list_getitem.lookup,ht.isList.typeIs,?_⟩
 refine wpAny_getItem_list_slice ht.isList hs pl pu .none (by simp) ?_ (by rw[MY] <;> omega)
 rw[rL,<-hlen]
 refine⟨.ref s.heap.objs.size,_,I.laid (t':=s.toks) (o:=.lst (yu xs lo hi)) (λb ob q=>MH _ q) (MK _) ?_,rfl,q _ (I.hok.fresh (MK _))⟩
 exact⟨NA (wX xs lo hi) hz,_,0,(r.drop (HT.sN xs.length 0 lo)).take (HT.sN xs.length xs.length hi - HT.sN xs.length 0 lo),MX _ rfl⟩
def tq:c8 X (.type "list") (λxs H Q=>∃p ys,xs= [.ref p]/\(gG X.K H p ys\/fL X.K H p ys)/\∀l,H l=none->Q (.ref l) (upd H l (.lst ys))):=by
 intro pins s σ H xs us Q I r h
 obtain⟨p,ys,rfl,hq,q⟩:=h
 obtain⟨u,rfl,rx⟩:=vals1 r
 cases rx
 have fin:∀(its:List Value),Vals ys its->ys.length<=sizeLine->∀(h':Heap) (c':Nat),(∀b o',s.heap.get? b=some o'->h'.get? b=some o')->
   h'.get? s.heap.objs.size=some {cls:=.type "list",dict:=none,data:=.seq its.toArray c',slots:=#[]}->EP X pins σ Q (.ref s.heap.objs.size) {s with heap:=h'}:=λits r' hz h' c' kp e=>
  ⟨.ref s.heap.objs.size,_,I.laid (t':=s.toks) kp (MK _) (show bP X.prog X.w _ h' _ (.lst ys) from⟨hz,its,c',r',e⟩),rfl,q _ (I.hok.fresh (MK _))⟩
 rcases hq with hq |hq
 ·obtain⟨its,r',pl,hz⟩:=I.list hq
  have hlen:=r'.length
  obtain⟨o,ho,hc,n,hd⟩:=pl.isList
  exact call_list_seq p (.inl rfl) ho hc hd (λh' c' kp e=>fin its r' hz h' c' kp e) (by simp only[MY] <;> omega)
 ·obtain⟨its,r',pl,hz⟩:=I.tuple hq
  have hlen:=r'.length
  obtain⟨o,ho,hc,n,hd⟩:=pl
  exact call_list_seq p (.inr rfl) ho hc hd (λh' c' kp e=>fin its r' hz h' c' kp e) (by simp only[MY] <;> omega)
def cU:c8 X (.type "tuple") (λxs H Q=>∃p ys,xs= [.ref p]/\((gG X.K H p ys/\∀l,H l=none->Q (.ref l) (upd H l (.tup ys)))\/(fL X.K H p ys/\Q (.ref p) H))):=by
 intro pins s σ H xs us Q I r h
 obtain⟨p,ys,rfl,h⟩:=h
 obtain⟨u,rfl,rx⟩:=vals1 r
 cases rx
 rcases h with⟨hq,q⟩ | ⟨hq,q⟩
 ·obtain⟨its,r',pl,hz⟩:=I.list hq
  have hlen:=r'.length
  refine call_tuple_list pl.isList (λh' kp=>?_) (by simp only[MY] <;> omega)
  have I1:Inv X pins σ H {s with heap:=h'}:=I.kept (t':=s.toks) kp
  have I2:Inv X pins σ (upd H h'.objs.size (.tup ys)) {s with heap:=h'.push {cls:=.type "tuple",data:=.seq its.toArray}}:=
   I1.laid (t':=s.toks) (λb o e=>MH _ e) (MK _) (show bP X.prog X.w _ _ _ (.tup ys) from⟨hz,its,r',vK.new _ _⟩)
  exact⟨.ref h'.objs.size,_,I2,rfl,q _ (I1.hok.fresh (MK _))⟩
 ·obtain⟨its,r',pl,hz⟩:=I.tuple hq
  exact call_tuple_same pl ⟨.ref p,H,I,rfl,q⟩
def Ma (K:Frag)(T:String)(x:V)(H:Hp):Prop:=match x with
 | .str _=>T="str"
 | .int _=>T="int"
 | .ref p=>(T="list"/\∃xs,gG K H p xs)\/(T="tuple"/\∃o,K.lookup p=some o/\o.cls=.type "tuple"/\o.dict=none)\/
   (T="dict"/\((∃kvs,H p=some (.dK kvs))\/∃kvs,H p=some (.dT kvs)))\/(T="set"/\∃S n,H p=some (.set S n))
 |_=>False
theorem HW {pins:List (Addr×Obj)}{σ:St}{H:Hp}{s:Shared}{T:String}{x:V}{v:Value}(I:Inv X pins σ H s)(r:RelV x v)(ty:Ma X.K T x H) :
  s.TypeIs v T/\∀a,v=.ref a->∃ob,s.heap.get? a=some ob/\ob.dict=none:=by
 cases x with
 |str z=>
  obtain⟨t,rfl⟩:=r
  cases (show T="str" from ty)
  exact⟨typeIs_str s z t,λ_ e=>nomatch e⟩
 |int i=>
  obtain⟨t,rfl⟩:=r
  cases (show T="int" from ty)
  exact⟨typeIs_int s i t,λ_ e=>nomatch e⟩
 |ref p=>
  cases r
  rcases ty with⟨rfl,xs,hq⟩ | ⟨rfl,o,hk,hc,hd⟩ | ⟨rfl,hk⟩ | ⟨rfl,S,n,hk⟩
  ·obtain⟨its,_,pl,_⟩:=I.list hq
   refine⟨pl.isList.typeIs,λa e=>?_⟩
   cases e
   obtain⟨o,n,e,c,hd,_⟩:=pl
   exact⟨o,e,hd⟩
  ·refine⟨⟨o,I.kIn p o hk,hc⟩,λa e=>?_⟩
   cases e
   exact⟨o,I.kIn _ o hk,hd⟩
  ·have z:∃o,s.heap.get? p=some o/\o.ExactDict:=by
    rcases hk with⟨kvs,hk⟩ | ⟨kvs,hk⟩
    ·obtain⟨_,_,_,_,o,_,_,e,ex,_⟩:=I.hok p _ hk
     exact⟨o,e,ex⟩
    ·obtain⟨_,_,_,_,o,_,_,e,ex,_⟩:=I.hok p _ hk
     exact⟨o,e,ex⟩
   obtain⟨o,e,ex⟩:=z
   refine⟨⟨o,e,ex.1⟩,λa e2=>?_⟩
   cases e2
   exact⟨o,e,ex.2.1⟩
  ·obtain⟨o,_,_,_,e,ex,_⟩:=I.hok p _ hk
   refine⟨⟨o,e,ex.1⟩,λa e2=>?_⟩
   cases e2
   exact⟨o,e,ex.2.1⟩
 |_=>exact False.elim ty
def Mz (K:Frag)(T:String)(r:V->List V->Hp->VK->Prop)(to:TE)(t:TA):TE:=λσ H Q=>to σ H λx H1=>Ma K T x H1/\t σ H1 λxs H2=>r x xs H2 Q
variable {o e:Expr}{es:List Expr}{to:TE}{t:TA}{name:Str}{apos cpos:Pos}{T id:String}{r:V->List V->Hp->VK->Prop}
def zY (pa:PlainAttrs T)(slot:Slot T name id)(hty:typeOf (.builtin id)=pure (.type "method_descriptor"))(hm:MA X id r)(ho:PE X o to)(ha:PA X (e :: es) t)
  (hbase:attributeBase o name X.env (eval o X.env)=eval o X.env:=by rfl)
  (hfew:((backTo cpos (starEach (e :: es) X.env)).all (λx=> !x.1) && (backToKw cpos (keywordEach [] X.env)).all (λx=>x.1.isSome)
   && decide ((e :: es).length + ([]:List Keyword).length + (if ([]:List Keyword).isEmpty then 0 else 1) < 30))=true:=by rfl)
  (hline:(apos.endLine == cpos.line)=true:=by rfl) (hs:starEach (e :: es) X.env=(false,eval e X.env) :: starEach es X.env:=by rfl) (hplain:(backTo cpos (starEach es X.env)).any (·.1)=false:=by rfl) :
  PE X (.Call (.Attribute o name apos) (e :: es) [] cpos) (Mz X.K T r to t):=by
 intro pins s σ H Q I h
 refine wpAny_Call_method_late hbase hfew hline rfl (b5 (ho pins s σ H _ I h) λv s1 ⟨x,H1,I1,r1,ty,q1⟩=>?_)
 obtain⟨h1,h2⟩:=HW I1 r1 ty
 refine⟨T,id,pa,slot,hty,h1,h2,?_⟩
 have hA:=ha cpos pins s1 σ H1 _ I1 q1
 rw[hs] at hA ⊢
 refine Calls.callWith_builtin (by show (false || (backTo cpos (starEach es X.env)).any (·.1))=false;rw[hplain] <;> rfl) (Calls.evalArgs_plain ?_)
 exact b5 hA λus s2 ⟨vs,H2,I2,r2,q2⟩=>hm pins s2 σ H2 x vs v us Q I2 r1 r2 q2
end
def JW (X:Cx)(id:String)(r:V->List V->Hp->VK->Prop):Prop:=
 ∀(pins:List (Addr×Obj)) (s:Shared) (σ:St) (H:Hp) (x:V) (xs:List V) (v:Value) (us:List Value) (Q:VK),Inv X pins σ H s->RelV x v->Vals xs us->r x xs H Q->
  wpAny (model X.prog X.w) X.A (call (.builtin id) (v :: us)) (EP X pins σ Q) X.xe s
theorem Vals.one:∀{x:V} {us:List Value},Vals [x] us->∃u,us= [u]/\RelV x u
 |_,_,.cons r .nil=>⟨_,rfl,r⟩
theorem Vals.eraseIdx:∀{xs:List V} {us:List Value} (i:Nat),Vals xs us->Vals (xs.eraseIdx i) (us.eraseIdx i)
 |_,_,_,.nil=>.nil
 |_,_,0,.cons _ t=>t
 |_,_,i + 1,.cons r t=>.cons r (Vals.eraseIdx i t)
theorem Vals.reverse {xs:List V}{us:List Value}(h:Vals xs us):Vals xs.reverse us.reverse:=by
 induction h with
 |nil=>exact .nil
 |cons r t ih=>rw[Pf,Pf];exact Vals.append ih (.cons r .nil)
theorem Vals.rep {xs:List V}{us:List Value}(h:Vals xs us):∀k:Nat,Vals (List.replicate k xs).flatten (List.replicate k us).flatten
 | 0=>.nil
 |k + 1=>by
  rw[OT,OT,Pg,Pg]
  exact Vals.append h (Vals.rep h k)
theorem sQ {α:Type}:∀(l:List α) (i:Nat),(l.eraseIdx i).length<=l.length
 | [],_=>MK _
 |_ :: _,0=>Nat.le_succ _
 |_ :: r,i + 1=>Nat.succ_le_succ (sQ r i)
theorem foldl_rep (its:List Value):∀(k:Nat) (acc:List Value),
  List.foldl (λx1 x2=>x1 ++ x2) acc.toArray (List.replicate k its.toArray)=(acc ++ (List.replicate k its).flatten).toArray
 | 0,acc=>by simp
 |k + 1,acc=>by
  have e:acc.toArray ++ its.toArray=(acc ++ its).toArray:=by simp
  have e2:(acc ++ its) ++ (List.replicate k its).flatten=acc ++ (List.replicate (k + 1) its).flatten:=by
   rw[OT,Pg,N9]
  rw[<-e2,<-foldl_rep its k (acc ++ its),<-e,OT,OA]
section
variable {X:Cx}{pins:List (Addr×Obj)}{σ:St}{H:Hp}{s:Shared}{l b:Addr}{xs ys zs:List V}
def Inv.lset {its its':List Value}{n:Nat}{f:Array Value->Array Value}{t':Nat}(I:Inv X pins σ H s)(hH:H l=some (.lst xs))
  (e:s.heap.get? l=some {cls:=.type "list",data:=.seq its.toArray n}) (hf:f its.toArray=its'.toArray) (hv:Vals ys its') (hz:ys.length<=sizeLine) :
  Inv X pins σ (upd H l (.lst ys)) {s with heap:=s.heap.update l (Obj.mapSeq f),toks:=t'}:=by
 have q:=PySem.IsL.update e f
 rw[hf] at q
 refine I.write (x:=l) (e:=l) (by rw[hH];exact trivial) (.inl rfl) (λb' u hb hu=>(NM s.heap (Obj.mapSeq f) (Ne.symm hb)).trans hu) ⟨_,q⟩ ?_
 exact⟨hz,its',_,hv,q⟩
def Inv.lnew {its:List Value}{t':Nat}(I:Inv X pins σ H s)(hv:Vals ys its)(hz:ys.length<=sizeLine) :
  Inv X pins σ (upd H s.heap.objs.size (.lst ys)) {s with heap:=s.heap.push {cls:=.type "list",data:=.seq its.toArray},toks:=t'}:=
 I.laid (λ_ _ q=>MH _ q) (MK _) ⟨hz,its,0,hv,MX _ rfl⟩
def Inv.fresh (I:Inv X pins σ H s):H s.heap.objs.size=none:=I.hok.fresh (MK _)
def Inv.lstM (I:Inv X pins σ H s)(hH:H l=some (.lst xs)):xs.length<=sizeLine/\∃(its:List Value) (n:Nat),Vals xs its/\xs.length=its.length/\s.heap.get? l=some {cls:=.type "list",data:=.seq its.toArray n}:=by
 obtain⟨z,its,n,r,e⟩:=I.hok l _ hH
 exact⟨z,its,n,r,r.length,e⟩
def BE {n:Nat}(h:n<=sizeLine):Builtin.List.listTooLong n=false:=by
 unfold Builtin.List.listTooLong
 exact MW (by omega)
end
section
variable {X:Cx}
def Fm:V->List V->Hp->VK->Prop:=λx vs H Q=>∃l xs y,x=.ref l/\vs= [y]/\H l=some (.lst xs)/\xs.length < sizeLine/\Q .non (upd H l (.lst (xs ++ [y])))
def ou:JW X "list.append" Fm:=by
 intro pins s σ H x vs v us Q I rx rv h
 obtain⟨l,xs,y,rfl,rfl,hH,hz,q⟩:=h
 cases rx
 obtain⟨u,rfl,ru⟩:=rv.one
 obtain⟨z,its,n,r,hl,e⟩:=I.lstM hH
 refine call_meets F.slot_list_append ⟨_,e,rfl⟩ F.entry_list_append (F.args_list_append_2 _ _) (PySem.list_append l its.toArray n u (by rw[MY];omega)) ⟨e,?_⟩
 refine⟨.non,_,I.lset (its':=its ++ [u]) hH e (by simp) (r.append (.cons ru .nil)) ?_,rfl,q⟩
 rw[Nf,List.length_singleton]
 omega
def Hf:V->List V->Hp->VK->Prop:=λx vs H Q=>∃l xs i k y,x=.ref l/\vs= [.int i]/\H l=some (.lst xs)/\ -(2 ^ 63)<=i/\i < 2 ^ 63/\seqIndex? i xs.length=some k/\xs[k]? =some y/\Q y (upd H l (.lst (xs.eraseIdx k)))
def C5:JW X "list.pop" Hf:=by
 intro pins s σ H x vs v us Q I rx rv h
 obtain⟨l,xs,i,k,y,rfl,rfl,hH,h1,h2,hk,hy,q⟩:=h
 cases rx
 obtain⟨u,rfl,ru⟩:=rv.one
 obtain⟨t,rfl⟩:=ru
 obtain⟨z,its,n,r,hl,e⟩:=I.lstM hH
 obtain⟨w,hw,rw'⟩:=r.get hy
 refine call_meets F.slot_list_pop ⟨_,e,rfl⟩ F.entry_list_pop (F.args_list_pop_2 _ _)
  (MeetsSeq.list_pop_at l its.toArray n i t k w (fitsIndex_both h1 h2) (by rw[MY,<-hl];exact hk) (by rw[<-Of];exact hw) (by rw[MY];omega)) ⟨e,?_⟩
 refine⟨y,_,I.lset (its':=its.eraseIdx k) hH e ?_ (r.eraseIdx k) ?_,rw',q⟩
 ·show its.toArray.eraseIdxIfInBounds k=(its.eraseIdx k).toArray
  rw[List.eraseIdxIfInBounds_toArray]
 ·have:=sQ xs k
  omega
def Lx:R2:=λx y H Q=>∃l k xs,x=.ref l/\y=.int k/\H l=some (.lst xs)/\ -(2 ^ 63)<=k/\k < 2 ^ 63/\xs.length * k.toNat<=sizeLine/\
 ∀p,H p=none->Q (.ref p) (upd H p (.lst (List.replicate k.toNat xs).flatten))
theorem len_rep {α:Type}(xs:List α)(k:Nat):(List.replicate k xs).flatten.length=k * xs.length:=by
 induction k with
 |zero=>simp
 |succ k ih=>rw[OT,Pg,Nf,ih,Nat.succ_mul,Nat.add_comm]
def Hs:lX X (binaryOp .Mult) Lx:=by
 intro pins s σ H x y v u Q I rx ry h
 obtain⟨l,k,xs,rfl,rfl,hH,h1,h2,hz,q⟩:=h
 cases rx
 obtain⟨t,rfl⟩:=ry
 obtain⟨z,its,n,r,hl,e⟩:=I.lstM hH
 have hlen:its.toArray.size * k.toNat<=sizeLine:=by rw[MY,<-hl];exact hz
 have hcap:¬its.toArray.size * k.toNat > (2 ^ 63 - 1) / 8:=by
  have:(sizeLine:Nat)<=(2 ^ 63 - 1) / 8:=by decide
  omega
 have hfit:¬(!Builtin.List.listFitsIndex k)=true:=by
  rw[fitsIndex_both h1 h2]
  exact Nb
 have hlong:¬Builtin.List.listTooLong (its.toArray.size * k.toNat)=true:=by
  rw[BE hlen]
  exact Nb
 have hnew:List.foldl (λx1 x2=>x1 ++ x2) #[] (List.replicate (if its.toArray.isEmpty=true then 0 else k.toNat) its.toArray)=(List.replicate k.toNat its).flatten.toArray:=by
  have f0:∀m:Nat,List.foldl (λx1 x2=>x1 ++ x2) #[] (List.replicate m its.toArray)=(List.replicate m its).flatten.toArray:=λm=>by
   have:=foldl_rep its m []
   rw[nil_append] at this
   exact this
  rw[f0]
  cases its with
  |nil=>simp
  |cons a r'=>rw[MO (by simp)]
 refine wpAny_binaryOp_repeat_ref (T:="list") (U:="int") (by decide) ⟨_,e,rfl⟩ (λs'=>typeIs_int s' k t) noFill_list_mul F.fills_int_mul F.slot_int_rmul repeat_list F.slot_int_index.lookup
  (call_meets F.slot_int_rmul (typeIs_int s k t) F.entry_int_rmul (F.args_int_rmul_2 _ _) (int___rmul___int_list k t l its.toArray n)
   ⟨e,rfl,⟨_,e,rfl⟩,call_meets F.slot_list_mul ⟨_,e,rfl⟩ F.entry_list_mul (F.args_list_mul_2 _ _) (AutoListH.list___mul___list_int_3 l its.toArray n k t hfit hcap hlong) ⟨e,?_⟩⟩)
 rw[hnew]
 exact⟨.ref _,_,I.lnew (t':=s.toks) (r.rep k.toNat) (by rw[len_rep,Nat.mul_comm];exact hz),rfl,q _ I.fresh⟩
end
end L2
namespace Att
open PySem PySem.W PySem.Calls PyProof.Rows
theorem oM {P:Params}{h:Heap}:∀(ns:List Int) (vs:List Value),WellAll P h vs (ns.map WData.int)->IntsAre vs ns:=by
 intro ns
 induction ns with
 |nil=>
  intro vs w
  rw[List.map_nil] at w
  cases w
  exact .nil
 |cons n ns ih=>
  intro vs w
  rw[Ng] at w
  cases w with
  |cons a b=>
   cases a
   exact .cons _ _ (ih _ b)
theorem Aw {l:OpenLaw}{n:Nat}(hn:l.most=some n){P:Params}{h:Heap}{args:List WData}{vals:List Value}
  (hpre:l.row.toRowW.claim.pre args=true) (hwl:WellAll P h vals args) :
  ∃a vs ns,vals= [Value.ref a]/\args= [WData.list (ns.map WData.int)]/\h.get? a=some {cls:=.type "list",data:=.seq vs.toArray}/\IntsAre vs ns/\ns.length<=n:=by
 have hsh:WShape.hasAll [] args [.list .int]=true:=(pre_splitW hpre).1
 have hc:l.pre.holds [] {args:=args}=true:=(pre_splitW hpre).2
 obtain⟨d,r,rfl,h1,h2⟩:=hasAllW_cons hsh
 obtain rfl:=hasAllW_nil h2
 obtain⟨xs,rfl,h3⟩:=hasW_list h1
 obtain⟨ns,rfl⟩:=items_int h3
 have hlen:ns.length<=n:=by
  unfold OpenLaw.pre at hc
  have h4:(WTm.not (.lt (.lit (.int (n:Int))) (.len (.arg 0)))).holds [] {args:=[.list (ns.map .int)]}=true:=by
   have h4:=(holds_andW hc).1
   rw[hn] at h4
   exact h4
  have h5:=condW_of h4 (w_not (w_lt w_lit (w_len_list (w_arg rfl))))
  rw[ML] at h5
  refine Nat.le_of_not_lt λq=>?_
  have q':(n:Int) < ((ns.length:Nat):Int):=by omega
  first
   | (rw[MR q'] at h5;exact absurd h5 (by decide))
   | (simp at h5;omega)
 cases hwl with
 |cons w1 w2=>
  cases w2
  cases w1 with
  |list ho hall=>exact⟨_,_,ns,rfl,rfl,ho,oM ns _ hall,hlen⟩
def Bd (l:OpenLaw)(args:List WData):l.row.toRowW.claim.post args (.bool true) args=true:=
 postW_of (r:=l.row.toRowW) (X:=(true == true))
  (show WShape.has [] (.bool true) .bool=true by first |rfl |decide |simp[WShape.has,WShape.arms,WShape.armsAll])
  (show (WTm.eq .res (.lit (.bool true))).value [] {args:=args,res:=some (.bool true),after:=args}=some (.bool (true == true)) from w_eq_bool (w_res rfl) w_lit) rfl
def vc {l:OpenLaw}{n:Nat}{q:Program}{loose:List Str}{XP:(Str->Option Value)->Heap->Prop}{YP:World->Heap->Prop}{d:DefRec}
  (hn:l.most=some n) (hdf:d.params.defaults= [])
  (call:∀(w:World) (s₀ s₁:Shared) (mg mb:Str->Option Value) (fa:Addr) (o:Obj) (pm cd doc:Value) (a:Addr) (vs:List Value) (ns:List Int),
   Ground q loose [] XP w s₀ mg mb s₁.heap->YP w s₁.heap->
   s₁.heap.get? fa=some o->o.data=.func (docDef d.name d.params d.body d.scope pm cd doc)->s₁.heap.CodeRec cd d.name->mg d.name=some (.ref fa)->
   s₁.heap.get? a=some {cls:=.type "list",data:=.seq vs.toArray}->IntsAre vs ns->ns.length<=n->s₁.gens=#[]->
   codeAny (model l.prog w) callerA (.call (.ref fa) ⟨[.ref a],[]⟩) (λr s'=>r=.ok (.ret (.bool true))/\OldK s₁.heap s'.heap/\s'.os=s₁.os/\AllBare s'.gens) s₁) :
  WalkO q loose XP YP l.row.toRowW d [] (λf vs=>PySem.call f vs):=by
 intro w s₀ s₁ mg mb G Y fa o pm cd doc dV kV ho hd hcd hD hmg hg args vals as hpre hlay hrd hwl hlo
 obtain rfl:dV=.none:=Dflts.none hD hdf
 obtain rfl:kV=.none:=Dflts.noKw hD
 obtain⟨a,vs,ns,rfl,rfl,hobj,hints,hlen⟩:=Aw hn hpre hwl
 refine enter_call (Pc (call w s₀ s₁ mg mb fa o pm cd doc a vs ns G Y ho (fd_plain hd) hcd hmg hobj hints hlen hg) λr s' hq=>?_)
 obtain⟨rfl,h2,h3,h4⟩:=hq
 exact⟨.inl ⟨.bool true,.bool true,[],rfl,λ_=>rfl,.bool true,Bd l _,λ_=>⟨List.Pairwise.nil,λ_ hm=>(nomatch hm)⟩⟩,h2,h3,h4⟩
end Att
namespace L2
open PySem PySem.Spec PyProof.Rows
theorem sI:∀{vs:List Value} {ns:List Int},IntsAre vs ns->Vals (ns.map V.int) vs
 |_,_,.nil=>.nil
 |_,_,.cons n t h=>.cons ⟨t,rfl⟩ (sI h)
def Hj (H:Hp):Prop:=∀b,H b=none\/∃o xs,H b=some (.bg o (.lst xs))
theorem D1 {P:Program}{w:World}{K:Frag}{mg mb:Str->Option Value}{CX:Az}{k:Nat}{fa a:Addr}{fd:FuncData}{x:Str}{sp:Sp}{s₁:Shared}{vs:List Value}{ns:List Int}
  (KX:K.In s₁.heap) (hns:s₁.heap.Ns mainGlobals mg) (hb:s₁.heap.Ns builtinsNs mb) (hbb:∀x:Str,x≠"__name__"->mb x=bootBuiltins x) (hlim:s₁.heap.NoLimit) (hsys:∃mm,s₁.heap.Ns sysModules mm) (hg:s₁.gens=#[])
  (ha:s₁.heap.get? a=some {cls:=.type "list",data:=.seq vs.toArray}) (hi:IntsAre vs ns) (hl:ns.length<=sizeLine) (hr:fJ k callerA)
  (F:∀base:Heap,K.In base->base.Ns mainGlobals mg->gB P w K mg base CX k fa fd [x] sp) (hbind:∀(s:Shared) (u:Value),BindsTo s fd ⟨[u],[]⟩ [(x,u)])
  (hsp:∀H:Hp,Hj H->gG K H a (ns.map V.int)->sp [.ref a] H (λv _=>v=.bl true) λ_ _ _=>False)
  (hCX:∀H e s',CX [] H s₁ (λ_ _ _=>False) e s'->False) :
  codeAny (model P w) callerA (.call (.ref fa) ⟨[.ref a],[]⟩) (λr s'=>r=.ok (.ret (.bool true))/\OldK s₁.heap s'.heap/\s'.os=s₁.os/\AllBare s'.gens) s₁:=by
 have rv:=sI hi
 have lenV:=hi.length
 have core:∀H:Hp,Hj H->gG K H a (ns.map V.int)->kE P w H s₁.heap->(∀b,H b≠none->b=a)->(H a≠none->K.lookup a=none)->
   codeAny (model P w) callerA (.call (.ref fa) ⟨[.ref a],[]⟩) (λr s'=>r=.ok (.ret (.bool true))/\OldK s₁.heap s'.heap/\s'.os=s₁.os/\AllBare s'.gens) s₁:=by
  intro H hO hS hok hA hK
  have base_of:∀{b:Addr} {o:Obj},s₁.heap.get? b=some o->H b=none->(ui s₁.heap H).get? b=some o:=λe n=>Cc e n
  have noA:∀{b:Addr} {o:Obj} {es:Array DictEntry} {ep:Nat},s₁.heap.get? b=some o->o.data=.dict es ep->H b=none:=λ{b o es ep} e d=>by
   cases q:H b with
   |none=>rfl
   |some u=>
    have e':b=a:=hA b (by rw[q];simp)
    subst e'
    rw[ha] at e;cases e
    have d':Data.seq vs.toArray _=Data.dict es ep:=d
    cases d'
  have nsK:∀{b:Addr} {m:Str->Option Value},s₁.heap.Ns b m->(ui s₁.heap H).Ns b m:=λ{b m} ⟨o,es,ep,e,d,r⟩=>⟨o,es,ep,base_of e (noA e d),d,r⟩
  have hKb:K.In (ui s₁.heap H):=λb o e=>base_of (KX b o e) (by
   cases q:H b with
   |none=>rfl
   |some u=>
    have e':b=a:=hA b (by rw[q];simp)
    subst e'
    rw[hK (by rw[q];simp)] at e;cases e)
  have hM:Mod K mg (ui s₁.heap H):=⟨hKb,nsK hns,⟨mb,nsK hb,hbb⟩,let ⟨mc,h1,h2⟩:=hlim;⟨mc,nsK h1,h2⟩,let ⟨mm,h1⟩:=hsys;⟨mm,nsK h1⟩⟩
  have e0:EZ P w K mg (ui s₁.heap H) callerA [] s₁ H:=⟨rfl,hM,λb o e=>FL e,Nat.le_of_eq (Bh _ _),trivial,λb hb=>absurd (show b∈([]:List Addr) from hb) (by simp),hok,.of_eq hg⟩
  refine Pc ((F _ hKb (nsK hns)).run callerA [] s₁ H ⟨[.ref a],[]⟩ [.ref a] [.ref a] _ _ hr e0 (hbind s₁ (.ref a)) (.cons rfl .nil) (hsp H hO hS)) λr s' h=>?_
  cases r with
  |error e=>exact (hCX H e s' h).elim
  |ok fl=>
   cases fl with
   |next=>exact False.elim h
   |brk=>exact False.elim h
   |cont=>exact False.elim h
   |ret u=>
    obtain⟨v,H',os,bare,un,hok',r',q⟩:=h
    have q':v=.bl true:=q
    subst q'
    obtain rfl:u=Value.bool true:=r'
    refine⟨rfl,OldK.of_keep λb o e=>?_,os,bare⟩
    cases q:H b with
    |none=>exact un.keep b o e q (by intro z;exact absurd (show b∈([]:List Addr) from z) (by simp)) (by simp)
    |some u=>
     rcases hO b with z | ⟨ob,xs,z⟩
     ·rw[q] at z;cases z
     ·have z2:=un.frzs b ob _ z
      obtain⟨e1,_⟩:=hok b _ z
      obtain⟨e2,_⟩:=hok' b _ z2
      rw[e] at e1;cases e1
      exact e2
 cases hk:K.lookup a with
 |some o=>
  have e:=KX a o hk
  rw[ha] at e
  cases e
  refine core (λ_=>none) (λ_=>.inl rfl) (.inr ⟨_,vs.toArray,_,hk,rfl,rfl,rfl,by rw[MY,lenV];exact hl,by simpa using rv⟩) (λb u z=>by have z':(none:Option HO)=some u:=z;cases z') (λb z=>absurd rfl z) λz=>absurd rfl z
 |none=>
  refine core (λb=>if b=a then some (.bg {cls:=.type "list",data:=.seq vs.toArray} (.lst (ns.map V.int))) else none) (λb=>?_) (.inl (.inr ⟨{cls:=.type "list",data:=.seq vs.toArray},MJ rfl⟩)) (λb u z=>?_) (λb z=>?_) λ_=>hk
  ·by_cases hb:b=a
   ·exact .inr ⟨_,_,MJ hb⟩
   ·exact .inl (MO hb)
  ·by_cases hb:b=a
   ·have z':=(MJ hb).symm.trans z
    cases z'
    subst hb
    exact⟨ha,by rw[ML];exact hl,vs,_,rv,ha⟩
   ·have z':=(MO hb).symm.trans z
    cases z'
  ·by_cases hb:b=a
   ·exact hb
   ·exact absurd (MO hb) z
def EX {l:PySem.W.OpenLaw}{n k:Nat}{q:Program}{loose:List Str}{XP:(Str->Option Value)->Heap->Prop}{YP:World->Heap->Prop}{d:DefRec}{K:Params->Frag}{CX:World->Az}{sp:World->Sp}{x:Str}
  (hn:l.most=some n) (hn2:n<=sizeLine) (hdf:d.params.defaults= []) (hi:PyProof.Rows.importsNone q=true) (hr:fJ k callerA)
  (hY:∀(w:World) (h:Heap),YP w h->(K w.params).In h)
  (F:∀(w:World) (mg:Str->Option Value) (fa:Addr) (h:Heap),(K w.params).In h->h.Ns mainGlobals mg->mg d.name=some (.ref fa)->
   ∃fd:FuncData,(∀(s:Shared) (u:Value),BindsTo s fd ⟨[u],[]⟩ [(x,u)])/\
    ∀base:Heap,(K w.params).In base->base.Ns mainGlobals mg->gB l.prog w (K w.params) mg base (CX w) k fa fd [x] (sp w))
  (hsp:∀(w:World) (H:Hp) (a:Addr) (ns:List Int),ns.length<=n->Hj H->gG (K w.params) H a (ns.map V.int)->sp w [.ref a] H (λv _=>v=.bl true) λ_ _ _=>False)
  (hCX:∀(w:World) (H:Hp) (s:Shared) (e:Value) (s':Shared),CX w [] H s (λ_ _ _=>False) e s'->False) :
  PySem.W.WalkO q loose XP YP l.row.toRowW d [] (λf vs=>PySem.call f vs):=by
 refine Att.vc hn hdf λw s₀ s₁ mg mb fa o pm cd doc a vs ns G Y ho hd hcd hmg hobj hints hlen hg=>?_
 have KX:=hY w _ Y
 obtain⟨fd,hb,hF⟩:=F w mg fa _ KX G.T.g hmg
 exact D1 KX G.T.g G.T.b G.T.builtins G.T.nolimit (let ⟨mm,h1,_⟩:=(G.T.seer hi).mods;⟨mm,h1⟩) hg hobj hints (NA hlen hn2) hr hF hb (λH hO hS=>hsp w H a ns hlen hO hS) λH e s'=>hCX w H s₁ e s'
def je (s:Stmt):Arguments:=match s with
 | .FunctionDef _ a _ _ _ _ _ _ _ _=>a
 |_=>{posonlyargs:=[],args:=[],vararg:=none,kwonlyargs:=[],kw_defaults:=[],kwarg:=none,defaults:=[]}
def cZ (s:Stmt):List Stmt:=match s with
 | .FunctionDef _ _ b _ _ _ _ _ _ _=>b
 |_=>[]
def aw (s:Stmt):Scope:=match s with
 | .FunctionDef _ _ _ _ _ _ sc _ _ _=>sc
 |_=>{kind:=.function,names:=[],isGenerator:=false,isCoroutine:=false}
abbrev II:Az:=λ_ _ _ _ _ _=>False
abbrev E0:XK:=λ_ _ _=>False
def JS {X:Cx}:Passes II X E0:=λ_ _ _ _ _ _ _ h=>h.elim
structure Ef (K:Frag)(x qual:Str)(st:Stmt)(f:Addr)(fd:FuncData):Prop where
 ex:∃(oc:Value) (od:Option Addr) (kV doc pm:Value) (an:Option Addr) (cdv ct:Value) (osl:Array (Option Value)),
  fd=PySem.W.fnOf x qual (je st) (cZ st) (aw st) .none kV doc pm an cdv ct/\K.lookup f=some ⟨oc,od,.func fd,osl⟩/\PySem.W.codeIn K cdv qual=true
 kp:PySem.W.keepIn K (.ref f)=true
section
variable {P:Program}{w:World}{K:Frag}{mg:Str->Option Value}{base:Heap}
def Ef.ok {x qual:Str}{st:Stmt}{f:Addr}{fd:FuncData}{N ps:List Str}{k:Nat}{sp:Sp}(F:Ef K x qual st f fd)(S:aJ N ps (aw st))(len:∀vs H Q E,sp vs H Q E->vs.length=ps.length)
  (hbody:∀(cdv:Value) (A:Around) (outer:List Env) (s:Shared) (H:Hp) (vs:List V) (Q:VK) (E:XK),fJ k (A.deeper (envOfC qual (aw st) s.heap.objs.size f cdv))->sp vs H Q E->
   ∃t,sg (lM II P w K mg base N qual (aw st) f cdv A outer s H E).nox (cZ st) t/\t {nx:=λ_ H'=>Q .non H',rt:=Q} (start N vs) H):gB P w K mg base II (k + 1) f fd ps sp:=by
 obtain⟨oc,od,kV,doc,pm,an,cdv,ct,osl,rfl,lk,hcd⟩:=F.ex
 refine Gz lk hcd S len λA outer s H vs Q E hr hsp=>?_
 obtain⟨t,h,q⟩:=hbody cdv A outer s H vs Q E hr hsp
 exact⟨t,h.nox,q⟩
def Ef.binds {x qual:Str}{st:Stmt}{f:Addr}{fd:FuncData}{ps:List Str}(F:Ef K x qual st f fd)
  (h:∀(kV doc pm:Value) (an:Option Addr) (cdv ct:Value) (us:List Value),us.length=ps.length->bindArgs (PySem.W.fnOf x qual (je st) (cZ st) (aw st) .none kV doc pm an cdv ct) ⟨us,[]⟩=pure (ps.zip us)):Binds K fd ps []:=by
 obtain⟨oc,od,kV,doc,pm,an,cdv,ct,osl,rfl,lk,hcd⟩:=F.ex
 exact .all (h kV doc pm an cdv ct)
def xp {x qual:Str}{st:Stmt}{f:Addr}{oc:Value}{od an:Option Addr}{osl:Array (Option Value)}{kV doc pm cdv ct:Value}(l:K.lookup f=some ⟨oc,od,.func (PySem.W.fnOf x qual (je st) (cZ st) (aw st) .none kV doc pm an cdv ct),osl⟩)
  (c:PySem.W.codeIn K cdv qual=true) (k:PySem.W.keepIn K (.ref f)=true):Ef K x qual st f (PySem.W.fnOf x qual (je st) (cZ st) (aw st) .none kV doc pm an cdv ct):=⟨⟨oc,od,kV,doc,pm,an,cdv,ct,osl,rfl,l,c⟩,k⟩
end
section
variable {X:Cx}
def pv (i:Nat){x:Str}{pos:Pos}(hN:X.N[i]? =some x:=by rfl)(hv:wO X.env.scope x:=by first |exact Or.inl rfl |exact Or.inr (Or.inl rfl) |exact Or.inr (Or.inr rfl))(hd:(x == ("__debug__":Str))=false:=by decide)
  (hcd:(x == ("__classdict__":Str))=false:=by decide):PE X (.Name x pos) (EJ i):=iS hN hv hd hcd
end
def wc {A B:Prop}(h:B):if false=true then A else B:=by
 rw[MO Nb]
 exact h
def w8 {A B:Prop}(h:A):if true=true then A else B:=by
 rw[MJ rfl]
 exact h
def av (H H':Hp):Prop:=∀b o,H b=some o->H' b=some o
def av.refl (H:Hp):av H H:=λ_ _ h=>h
def av.trans {H H1 H2:Hp}(a:av H H1)(b:av H1 H2):av H H2:=λc o h=>b c o (a c o h)
theorem av.free {H H':Hp}(e:av H H'){l:Addr}(h:H' l=Option.none):H l=Option.none:=by
 cases q:H l with
 |none=>rfl
 |some o=>
  rw[e l o q] at h
  cases h
def av.seq {K:Frag}{H H':Hp}{a:Addr}{xs:List V}(e:av H H')(h:gG K H a xs):gG K H' a xs:=by
 rcases h with (h | ⟨o,h⟩) |h
 ·exact .inl (.inl (e _ _ h))
 ·exact .inl (.inr ⟨o,e _ _ h⟩)
 ·exact .inr h
end L2
end
namespace L2.ST
open PySem PySem.SetTable
abbrev ke (xs:Array Nat):Prop:=xs.toList.Pairwise (· < ·)
def jj {xs:Array Nat}(h:ke xs){i k d:Nat}(hik:i < k)(hk:k < xs.size):xs.getD i d < xs.getD k d:=by
 have hi:i < xs.size:=Nat.lt_trans hik hk
 have:=OG.mp h i k (by simpa using hi) (by simpa using hk) hik
 simpa[Array.getD,hi,hk] using this
theorem DL {xs:Array Nat}{j:Nat}(h:ke xs):∀(fuel lo hi:Nat),lo<=hi->hi<=xs.size->hi - lo<=fuel->
  (∀i,i < lo->xs.getD i j < j)->(∀i,hi<=i->i < xs.size->j<=xs.getD i j)->
  below.go xs j fuel lo hi<=xs.size/\(∀i,i < below.go xs j fuel lo hi->xs.getD i j < j)/\(∀i,below.go xs j fuel lo hi<=i->i < xs.size->j<=xs.getD i j):=by
 intro fuel
 induction fuel with
 |zero=>
  intro lo hi h1 h2 h3 h4 h5
  have:lo=hi:=by omega
  subst this
  exact⟨h2,h4,h5⟩
 |succ fuel ih=>
  intro lo hi h1 h2 h3 h4 h5
  unfold below.go
  by_cases hlt:lo < hi
  ·rw[MJ hlt]
   dsimp only
   by_cases hm:xs.getD ((lo + hi) / 2) j < j
   ·rw[MJ hm]
    refine ih _ _ (by omega) h2 (by omega) (λi hi'=>?_) h5
    by_cases e:i=(lo + hi) / 2
    ·rw[e];exact hm
    ·exact Nat.lt_trans (jj h (show i < (lo + hi) / 2 by omega) (by omega)) hm
   ·rw[MO hm]
    refine ih _ _ (by omega) (by omega) (by omega) h4 (λi hi' hs=>?_)
    by_cases e:i=(lo + hi) / 2
    ·rw[e];omega
    ·have:=jj (d:=j) h (show (lo + hi) / 2 < i by omega) hs
     omega
  ·rw[MO hlt]
   have:lo=hi:=by omega
   subst this
   exact⟨h2,h4,h5⟩
def eG {xs:Array Nat}(h:ke xs)(j:Nat) :
  below xs j<=xs.size/\(∀i,i < below xs j->xs.getD i j < j)/\(∀i,below xs j<=i->i < xs.size->j<=xs.getD i j):=
 DL h xs.size 0 xs.size (Nm _) (MK _) (by omega) (λi hi=>by omega) (λi h1 h2=>by omega)
def A9 {xs:Array Nat}(h:ke xs){i j:Nat}(hi:xs[i]? =some j):below xs j=i:=by
 obtain⟨b1,b2,b3⟩:=eG h j
 have hs:i < xs.size:=(NH.mp hi).1
 have hv:xs.getD i j=j:=by rw[Nw,hi];rfl
 rcases Pj i (below xs j) with c |c |c
 ·have:=b2 i c;omega
 ·exact c.symm
 ·have hb:below xs j < xs.size:=by omega
  have q:=b3 (below xs j) (MK _) hb
  have:=jj (d:=j) h c hs
  omega
def zT (j:Nat):has #[] j=false:=by
 unfold has
 simp
def rT {t:SetTable}(h:ke t.place){i j:Nat}(hi:t.place[i]? =some j):t.slot j=.live i:=by
 unfold slot
 dsimp only
 rw[A9 h hi,MJ (by simp[hi])]
def yx {t:SetTable}(hd:t.dummies=#[]){j:Nat}(hj:j∉t.place):t.slot j=.empty:=by
 unfold slot
 dsimp only
 have:¬(t.place[below t.place j]? == some j)=true:=by
  intro e
  have e':t.place[below t.place j]? =some j:=by simpa using e
  obtain⟨h1,h2⟩:=NH.mp e'
  exact hj (Array.mem_iff_getElem.mpr ⟨_,h1,h2⟩)
 rw[MO this,hd,zT]
 rfl
def xg (mask:Nat)(p:Probe):Probe:=
 if p.more > 0 then {p with j:=p.j + 1,more:=p.more - 1} else
 {p with j:=(leap mask p.i p.perturb).1,more:=runEnd mask (leap mask p.i p.perturb).1 - (leap mask p.i p.perturb).1,i:=(leap mask p.i p.perturb).1,perturb:=(leap mask p.i p.perturb).2}
def AA (mask i perturb:Nat):Probe:={j:=i,more:=runEnd mask i - i,i,perturb,dummy:=none}
def st (mask:Nat)(h:Int):Probe:=AA mask (bits h % (mask + 1)) (bits h)
def CC (t:SetTable)(p:Probe):t.advance p=xg t.mask p:=rfl
def GP (t:SetTable)(h:Int):t.probeStart h=st t.mask h:=rfl
def gp (mask:Nat):Nat->Probe->Probe
 | 0,p=>p
 |n + 1,p=>gp mask n (xg mask p)
theorem lg (mask:Nat):∀(n m:Nat) (p:Probe),gp mask (n + m) p=gp mask m (gp mask n p)
 | 0,m,p=>by rw[NK];rfl
 |n + 1,m,p=>by rw[Nat.add_right_comm];exact lg mask n m (xg mask p)
def Dy {mask:Nat}{p:Probe}(h:p.dummy=none):(xg mask p).dummy=none:=by
 unfold xg;split <;> exact h
def jB {mask i:Nat}(h:i<=mask):i<=runEnd mask i/\runEnd mask i<=mask/\runEnd mask i - i<=9:=by
 unfold runEnd;split <;> omega
def In (mask:Nat)(p:Probe):Prop:=p.j + p.more<=mask/\p.more<=9
def IB {mask i q:Nat}(h:i<=mask):In mask (AA mask i q):=by
 have:=jB h
 unfold In AA;dsimp only;omega
def nE (mask i q:Nat):(leap mask i q).1<=mask:=by
 unfold leap;exact Nat.lt_succ_iff.mp (Nat.mod_lt _ (Nat.succ_pos _))
def Ig {mask:Nat}{p:Probe}(h:In mask p):In mask (xg mask p):=by
 unfold xg
 by_cases hm:p.more > 0
 ·rw[MJ hm];unfold In at *;dsimp only;omega
 ·rw[MO hm]
  have:=jB (nE mask p.i p.perturb)
  unfold In;dsimp only;omega
theorem zo {mask:Nat}:∀(n:Nat) {p:Probe},In mask p->In mask (gp mask n p)
 | 0,_,h=>h
 |n + 1,_,h=>zo n (Ig h)
def JY (mask:Nat)(h:Int):In mask (st mask h):=IB (Nat.lt_succ_iff.mp (Nat.mod_lt _ (Nat.succ_pos _)))
theorem wx (mask:Nat):∀(k:Nat) (p:Probe),p.more=k->gp mask (k + 1) p={p with j:=(leap mask p.i p.perturb).1,more:=runEnd mask (leap mask p.i p.perturb).1 - (leap mask p.i p.perturb).1,i:=(leap mask p.i p.perturb).1,perturb:=(leap mask p.i p.perturb).2}
 | 0,p,h=>by
  show xg mask p=_
  unfold xg
  rw[MO (by omega)]
 |k + 1,p,h=>by
  have e:xg mask p={p with j:=p.j + 1,more:=p.more - 1}:=by unfold xg;rw[MJ (by omega)]
  show gp mask (k + 1) (xg mask p)=_
  rw[e,wx mask k _ (by dsimp only;omega)]
def nW (mask i q:Nat):gp mask (runEnd mask i - i + 1) (AA mask i q)=AA mask (leap mask i q).1 (leap mask i q).2:=by
 exact wx mask _ (AA mask i q) rfl
theorem jX (mask i q:Nat):∀(k:Nat),k<=runEnd mask i - i->(gp mask k (AA mask i q))={AA mask i q with j:=i + k,more:=runEnd mask i - i - k}
 | 0,_=>rfl
 |k + 1,h=>by
  rw[lg mask k 1,jX mask i q k (by omega)]
  show xg mask _=_
  unfold xg
  rw[MJ (by dsimp only;omega)]
  simp only[Probe.mk.injEq]
  refine⟨by omega,by omega,?_⟩
  trivial
def gJ (mask:Nat):Nat->Nat×Nat->Nat×Nat
 | 0,x=>x
 |k + 1,x=>gJ mask k (leap mask x.1 x.2)
theorem oH (mask:Nat):∀(k i q:Nat),i<=mask->∃n,n<=10 * k/\gp mask n (AA mask i q)=AA mask (gJ mask k (i,q)).1 (gJ mask k (i,q)).2
 | 0,i,q,_=>⟨0,MK _,rfl⟩
 |k + 1,i,q,h=>by
  obtain⟨n,hn,e⟩:=oH mask k (leap mask i q).1 (leap mask i q).2 (nE _ _ _)
  have:=jB h
  refine⟨(runEnd mask i - i + 1) + n,by omega,?_⟩
  rw[lg,nW,e]
  rfl
theorem su (mask:Nat):∀(a b:Nat) (x:Nat×Nat),gJ mask (a + b) x=gJ mask b (gJ mask a x)
 | 0,b,x=>by rw[NK];rfl
 |a + 1,b,x=>by rw[Nat.add_right_comm];exact su mask a b (leap mask x.1 x.2)
theorem wZ (mask:Nat):∀(k:Nat) (x:Nat×Nat),x.1<=mask->(gJ mask k x).1<=mask
 | 0,_,h=>h
 |k + 1,x,_=>wZ mask k _ (nE mask x.1 x.2)
theorem lT (mask:Nat):∀(k:Nat) (x:Nat×Nat),(gJ mask k x).2=x.2 / 32 ^ k
 | 0,x=>by simp[gJ]
 |k + 1,x=>by
  show (gJ mask k (leap mask x.1 x.2)).2=_
  rw[lT mask k,Nat.pow_succ,Nat.mul_comm,<-Nat.div_div_eq_div_mul]
  rfl
def nx (mask i:Nat):Nat:=(i * 5 + 1) % (mask + 1)
def Bv (mask:Nat):Nat->Nat->Nat
 | 0,i=>i
 |k + 1,i=>Bv mask k (nx mask i)
theorem o5 (mask:Nat):∀(a b i:Nat),Bv mask (a + b) i=Bv mask b (Bv mask a i)
 | 0,b,i=>by rw[NK];rfl
 |a + 1,b,i=>by rw[Nat.add_right_comm];exact o5 mask a b (nx mask i)
theorem pP (mask:Nat):∀(k i:Nat),gJ mask k (i,0)=(Bv mask k i,0)
 | 0,_=>rfl
 |k + 1,i=>by
  show gJ mask k (leap mask i 0)=_
  have:leap mask i 0=(nx mask i,0):=by simp[leap,nx]
  rw[this,pP mask k]
  rfl
def CM (mask:Nat):Prop:=mask=7\/mask=31\/mask=127
def Jt (mask:Nat)(hm:CM mask):Bv mask (mask + 1) 0=0/\∀j,j<=mask->∃k,k<=mask/\Bv mask k 0=j:=by
 have h7:∀j:Nat,j < 8->∃k,k < 8/\Bv 7 k 0=j:=by decide +kernel
 have h31:∀j:Nat,j < 32->∃k,k < 32/\Bv 31 k 0=j:=by decide +kernel
 have h127:∀j:Nat,j < 128->∃k,k < 128/\Bv 127 k 0=j:=by decide +kernel
 rcases hm with rfl |rfl |rfl
 ·exact⟨by decide +kernel,λj hj=>let ⟨k,a,b⟩:=h7 j (by omega);⟨k,by omega,b⟩⟩
 ·exact⟨by decide +kernel,λj hj=>let ⟨k,a,b⟩:=h31 j (by omega);⟨k,by omega,b⟩⟩
 ·exact⟨by decide +kernel,λj hj=>let ⟨k,a,b⟩:=h127 j (by omega);⟨k,by omega,b⟩⟩
def Jj {mask:Nat}(hm:CM mask){i j:Nat}(hi:i<=mask)(hj:j<=mask):∃k,k<=mask/\Bv mask k i=j:=by
 obtain⟨z,o⟩:=Jt mask hm
 obtain⟨a,ha,ea⟩:=o i hi
 obtain⟨b,hb,eb⟩:=o j hj
 have back:Bv mask (mask + 1 - a) i=0:=by
  rw[<-ea,<-o5,show a + (mask + 1 - a)=mask + 1 by omega];exact z
 by_cases hab:a<=b
 ·refine⟨b - a,by omega,?_⟩
  rw[<-ea,<-o5,show a + (b - a)=b by omega];exact eb
 ·refine⟨mask + 1 - a + b,by omega,?_⟩
  rw[o5,back];exact eb
def qR {mask:Nat}(hm:CM mask){i q j:Nat}(hi:i<=mask)(hq:q < 2 ^ 64)(hj:j<=mask):∃k,k<=mask + 13/\(gJ mask k (i,q)).1=j:=by
 have hz:(gJ mask 13 (i,q)).2=0:=by
  rw[lT]
  exact Nat.div_eq_of_lt (Nk hq (by decide))
 obtain⟨k,hk,e⟩:=Jj hm (wZ mask 13 (i,q) hi) hj
 refine⟨13 + k,by omega,?_⟩
 rw[su]
 have:gJ mask 13 (i,q)=((gJ mask 13 (i,q)).1,0):=Prod.ext rfl hz
 rw[this,pP]
 exact e
def y2 (h:Int):bits h < 2 ^ 64:=by
 unfold bits
 have:=Int.emod_lt_of_pos h (show (0:Int) < 2 ^ 64 by decide)
 have:=Int.emod_nonneg h (show (2 ^ 64:Int)≠0 by decide)
 omega
def DE {mask:Nat}(hm:CM mask)(h:Int){j:Nat}(hj:j<=mask):∃n,n < 10 * turns mask/\(gp mask n (st mask h)).j=j:=by
 have hi:bits h % (mask + 1)<=mask:=Nat.lt_succ_iff.mp (Nat.mod_lt _ (Nat.succ_pos _))
 obtain⟨k,hk,e⟩:=qR hm hi (y2 h) hj
 obtain⟨n,hn,q⟩:=oH mask k (bits h % (mask + 1)) (bits h) hi
 refine⟨n,by unfold turns;omega,?_⟩
 show (gp mask n (AA mask _ _)).j=j
 rw[q];exact e
theorem BC {t:SetTable}{hashAt:Nat->Int}{h:Int}:∀(n fuel:Nat) (p:Probe),n < fuel->p.dummy=none->
  (∀m,m < n->∃i,t.slot (gp t.mask m p).j=.live i/\hashAt i≠h)->t.slot (gp t.mask n p).j=.empty->
  probe.go t hashAt h fuel p=some (.empty (gp t.mask n p).j none):=by
 intro n
 induction n with
 |zero=>
  intro fuel p hf hd _ he
  obtain⟨f,rfl⟩:∃f,fuel=f + 1:=⟨fuel - 1,by omega⟩
  unfold probe.go
  have he':t.slot p.j=.empty:=he
  rw[he',hd]
  rfl
 |succ n ih=>
  intro fuel p hf hd hl he
  obtain⟨f,rfl⟩:∃f,fuel=f + 1:=⟨fuel - 1,by omega⟩
  unfold probe.go
  obtain⟨i,e,ne⟩:=hl 0 (by omega)
  have e':t.slot p.j=.live i:=e
  rw[e']
  dsimp only
  rw[MO (by simpa using ne),CC]
  exact ih f (xg t.mask p) (by omega) (Dy hd) (λm hm=>hl (m + 1) (by omega)) he
theorem BI {t:SetTable}{hashAt:Nat->Int}{h:Int}:∀(n fuel:Nat) (p:Probe),n < fuel->
  (∀m,m<=n->∃i,t.slot (gp t.mask m p).j=.live i)->(∃i,t.slot (gp t.mask n p).j=.live i/\hashAt i=h)->
  ∃j i next,probe.go t hashAt h fuel p=some (.candidate j i next)/\t.slot j=.live i/\hashAt i=h:=by
 intro n
 induction n with
 |zero=>
  intro fuel p hf _ he
  obtain⟨f,rfl⟩:∃f,fuel=f + 1:=⟨fuel - 1,by omega⟩
  obtain⟨i,e,eh⟩:=he
  have e':t.slot p.j=.live i:=e
  unfold probe.go
  rw[e']
  dsimp only
  rw[MJ (by simpa using eh)]
  exact⟨p.j,i,_,rfl,e',eh⟩
 |succ n ih=>
  intro fuel p hf hl he
  obtain⟨f,rfl⟩:∃f,fuel=f + 1:=⟨fuel - 1,by omega⟩
  obtain⟨i,e⟩:=hl 0 (by omega)
  have e':t.slot p.j=.live i:=e
  unfold probe.go
  rw[e']
  dsimp only
  by_cases hh:hashAt i=h
  ·rw[MJ (by simpa using hh)]
   exact⟨p.j,i,_,rfl,e',hh⟩
  ·rw[MO (by simpa using hh),CC]
   exact ih f (xg t.mask p) (by omega) (λm hm=>hl (m + 1) (by omega)) he
def Reach (mask:Nat)(L:Nat->Prop)(h:Int)(j:Nat):Prop:=∃n,n < 10 * turns mask/\(gp mask n (st mask h)).j=j/\∀m,m < n->L (gp mask m (st mask h)).j
def Reach.mono {mask:Nat}{L L':Nat->Prop}{h:Int}{j:Nat}(r:Reach mask L h j)(k:∀x,L x->L' x):Reach mask L' h j:=
 let ⟨n,a,b,c⟩:=r;⟨n,a,b,λm hm=>k _ (c m hm)⟩
structure Tab (t:SetTable)(hs:List Int):Prop where
 mask:CM t.mask
 dum:t.dummies=#[]
 rise:ke t.place
 le:∀j,j∈t.place->j<=t.mask
 size:t.place.size=hs.length
 load:t.place.size * 5 < t.mask * 3
 reach:∀(i j:Nat) (h:Int),t.place[i]? =some j->hs[i]? =some h->Reach t.mask (· ∈t.place) h j
 plain:t.plain=true
theorem cn {α:Type}[DecidableEq α]:∀{l m:List α},l.Nodup->(∀x,x∈l->x∈m)->l.length<=m.length
 | [],_,_,_=>Nm _
 |a :: l,m,hn,hs=>by
  have ha:=hs a (MP ..)
  have hl:=Nq.mp hn
  have:=cn (l:=l) (m:=m.erase a) hl.2 λx hx=>by
   refine (List.mem_erase_of_ne ?_).mpr (hs x (MM _ hx))
   rintro rfl;exact hl.1 hx
  rw[OK ha] at this
  have:0 < m.length:=List.length_pos_of_mem ha
  simp only[Na];omega
def xQ {mask:Nat}{xs:Array Nat}(hl:xs.size<=mask):∃j,j<=mask/\j∉xs:=by
 refine Classical.byContradiction λhc=>?_
 have all:∀j,j∈List.range (mask + 1)->j∈xs.toList:=λj hj=>by
  have:=M5.mp hj
  refine Classical.byContradiction λhn=>hc ⟨j,by omega,λz=>hn (by simpa using z)⟩
 have:=cn Ou all
 simp at this
 omega
theorem uK {P:Nat->Prop}(h:∃n,P n):∃n,P n/\∀m,m < n->¬P m:=by
 obtain⟨n,hn⟩:=h
 induction n using Nat.strongRecOn with
 |_ n ih=>
  by_cases hc:∃m,m < n/\P m
  ·obtain⟨m,hm,hp⟩:=hc
   exact ih m hm hp
  ·exact⟨n,hn,λm hm hp=>hc ⟨m,hm,hp⟩⟩
section
variable {t:SetTable}{hs:List Int}
def Tab.load' (T:Tab t hs):t.place.size<=t.mask:=by have:=T.load;omega
def Tab.slotL (T:Tab t hs){j:Nat}(hj:j∈t.place):∃i,t.slot j=.live i/\t.place[i]? =some j:=by
 obtain⟨i,hi,e⟩:=Array.mem_iff_getElem.mp hj
 have q:t.place[i]? =some j:=by rw[Nj hi,e]
 exact⟨i,rT T.rise q,q⟩
def Tab.slotE (T:Tab t hs){j:Nat}(hj:j∉t.place):t.slot j=.empty:=yx T.dum hj
def Tab.first (T:Tab t hs)(h:Int):∃n,n < 10 * turns t.mask/\(gp t.mask n (st t.mask h)).j∉t.place/\∀m,m < n->(gp t.mask m (st t.mask h)).j∈t.place:=by
 obtain⟨j,hj,hn⟩:=xQ T.load'
 obtain⟨n,h1,h2⟩:=DE T.mask h hj
 obtain⟨k,hk,hlt⟩:=uK (P:=λn=>(gp t.mask n (st t.mask h)).j∉t.place) ⟨n,by rw[h2];exact hn⟩
 refine⟨k,?_,hk,λm hm=>Classical.byContradiction λz=>hlt m hm z⟩
 rcases NU n k with c |c
 ·exact absurd (show (gp t.mask n (st t.mask h)).j∉t.place by rw[h2];exact hn) (hlt n c)
 ·omega
def Tab.absent (T:Tab t hs){hashAt:Nat->Int}(ha:∀i,i < hs.length->some (hashAt i)=hs[i]?){h:Int}(hn:h∉hs) :
  ∃j,t.probe hashAt h (t.probeStart h)=some (.empty j none)/\j∉t.place/\j<=t.mask/\Reach t.mask (· ∈t.place) h j:=by
 obtain⟨n,h1,h2,h3⟩:=T.first h
 refine⟨(gp t.mask n (st t.mask h)).j,?_,h2,?_,⟨n,h1,rfl,h3⟩⟩
 ·unfold probe
  rw[GP]
  refine BC n _ _ h1 rfl (λm hm=>?_) (T.slotE h2)
  obtain⟨i,e,q⟩:=T.slotL (h3 m hm)
  refine⟨i,e,λz=>hn ?_⟩
  have hi:i < hs.length:=by rw[<-T.size];exact (NH.mp q).1
  have:=ha i hi
  rw[z] at this
  exact MU this.symm
 ·have:=zo n (JY t.mask h)
  unfold In at this;omega
def Tab.present (T:Tab t hs){hashAt:Nat->Int}(ha:∀i,i < hs.length->some (hashAt i)=hs[i]?){h:Int}(hm:h∈hs) :
  ∃j i next,t.probe hashAt h (t.probeStart h)=some (.candidate j i next)/\t.slot j=.live i/\i < hs.length/\hs[i]? =some h:=by
 obtain⟨i,hi,e⟩:=Nr.mp hm
 have hi':hs[i]? =some h:=by rw[MG hi,e]
 have hp:i < t.place.size:=by rw[T.size];exact hi
 obtain⟨n,h1,h2,h3⟩:=T.reach i t.place[i] h (Nj hp) hi'
 have hj:(gp t.mask n (st t.mask h)).j∈t.place:=by rw[h2];exact Pk hp
 obtain⟨j',i',nx,g1,g2,g3⟩:=BI (t:=t) (hashAt:=hashAt) (h:=h) n (10 * turns t.mask) (st t.mask h) h1 (λm hm=>by
   rcases NU m n with c |c
   ·obtain⟨i,e,_⟩:=T.slotL (h3 m c);exact⟨i,e⟩
   ·have:m=n:=by omega
    subst this
    obtain⟨i,e,_⟩:=T.slotL hj;exact⟨i,e⟩)
  ⟨i,by rw[h2];exact rT T.rise (Nj hp),by
   have:=ha i hi
   rw[hi'] at this
   exact Option.some.inj this⟩
 have hi2:i' < t.place.size:=by
  unfold slot at g2
  dsimp only at g2
  split at g2
  ·rename_i c
   have c':t.place[below t.place j']? =some j':=by simpa using c
   cases g2
   exact (NH.mp c').1
  ·split at g2 <;> cases g2
 refine⟨j',i',nx,by unfold probe;rw[GP];exact g1,g2,by rw[<-T.size];exact hi2,?_⟩
 have:=ha i' (by rw[<-T.size];exact hi2)
 rw[g3] at this
 exact this.symm
end
def b9 {α:Type}(xs:Array α)(p:Nat)(x:α)(_:p<=xs.size):(insertAt xs p x).toList=xs.toList.take p ++ x :: xs.toList.drop p:=by
 unfold insertAt
 simp[Array.toList_extract,O9]
 rw[NV (by simp)]
def sy (t:SetTable)(j:Nat)(hd:t.dummies=#[]):(t.put j).1={t with place:=insertAt t.place (below t.place j) j}/\(t.put j).2=below t.place j:=by
 unfold put
 dsimp only
 rw[hd,zT]
 exact⟨by simp,rfl⟩
section
variable {t:SetTable}{hs:List Int}
def mX {α:Type}{xs:Array α}{p:Nat}{x y:α}(hp:p<=xs.size):y∈insertAt xs p x↔y∈xs\/y=x:=by
 rw[<-OF,b9 xs p x hp,M6,MN,<-OF]
 have:y∈xs.toList↔y∈xs.toList.take p\/y∈xs.toList.drop p:=by
  conv=>lhs;rw[<-List.take_append_drop p xs.toList]
  exact M6
 rw[this]
 constructor
 ·rintro (a |a |a)
  ·exact .inl (.inl a)
  ·exact .inr a
  ·exact .inl (.inr a)
 ·rintro ((a |a) |a)
  ·exact .inl a
  ·exact .inr (.inr a)
  ·exact .inr (.inl a)
def rK {xs:Array Nat}(h:ke xs){j:Nat}(hj:j∉xs):ke (insertAt xs (below xs j) j):=by
 obtain⟨b1,b2,b3⟩:=eG h j
 unfold ke
 rw[b9 _ _ _ b1]
 have hl:∀y,y∈xs.toList.take (below xs j)->y < j:=λy hy=>by
  obtain⟨i,hi,e⟩:=Nr.mp hy
  have hi1:i < below xs j:=by simp at hi;omega
  have hi2:i < xs.size:=by omega
  have:=b2 i hi1
  rw[Nw,Nj hi2] at this
  simp at e this
  omega
 have hr:∀y,y∈xs.toList.drop (below xs j)->j < y:=λy hy=>by
  obtain⟨i,hi,e⟩:=Nr.mp hy
  have hi2:below xs j + i < xs.size:=by simp at hi;omega
  have:=b3 (below xs j + i) (by omega) hi2
  rw[Nw,Nj hi2] at this
  simp at e this
  rcases NU j y with c |c
  ·exact c
  ·have:j=y:=by omega
   exact absurd (by rw[this,<-e];exact Pk _) hj
 refine List.pairwise_append.mpr ⟨List.Pairwise.sublist (List.take_sublist ..) h,List.pairwise_cons.mpr ⟨λy hy=>hr y hy,List.Pairwise.sublist (List.drop_sublist ..) h⟩,λa ha b hb=>?_⟩
 rcases MN.mp hb with rfl |hb
 ·exact hl a ha
 ·exact Nat.lt_trans (hl a ha) (hr b hb)
def wH {α:Type}(l:List α)(p:Nat)(x:α)(hp:p<=l.length)(i:Nat):(l.take p ++ x :: l.drop p)[i]? =if i < p then l[i]? else if i=p then some x else l[i - 1]?:=by
 rcases Pj i p with c |c |c
 ·rw[MJ c,Nh (by simp;omega),List.getElem?_take_of_lt c]
 ·subst c
  rw[MO (Ny _),MJ rfl,Np (by simp;omega),Nu,Pa hp,Nat.sub_self]
  rfl
 ·rw[MO (by omega),MO (by omega),Np (by simp;omega),Nu,Pa hp]
  obtain⟨k,rfl⟩:∃k,i=p + 1 + k:=⟨i - (p + 1),by omega⟩
  rw[show p + 1 + k - p=k + 1 by omega,List.getElem?_cons_succ,List.getElem?_drop]
  congr 1
  omega
def Tab.put (T:Tab t hs){j:Nat}{h:Int}(hj:j∉t.place)(hm:j<=t.mask)(r:Reach t.mask (· ∈t.place) h j)(hf:(t.place.size + 1) * 5 < t.mask * 3) :
  Tab (t.put j).1 (hs.take (t.put j).2 ++ h :: hs.drop (t.put j).2)/\(t.put j).2<=hs.length:=by
 obtain⟨e1,e2⟩:=sy t j T.dum
 obtain⟨b1,b2,b3⟩:=eG T.rise j
 have hsz:(insertAt t.place (below t.place j) j).size=t.place.size + 1:=by
  rw[<-OS,b9 _ _ _ b1]
  simp;omega
 have hl:below t.place j<=hs.length:=by rw[<-T.size];exact b1
 rw[e1,e2]
 refine⟨⟨T.mask,T.dum,rK T.rise hj,λy hy=>?_,?_,?_,λi y g hy hg=>?_,T.plain⟩,hl⟩
 ·rcases (mX b1).mp hy with z |z
  ·exact T.le y z
  ·rw[z];exact hm
 ·show (insertAt t.place _ j).size=_
  rw[hsz,T.size];simp;omega
 ·show (insertAt t.place _ j).size * 5 < t.mask * 3
  rw[hsz];exact hf
 ·show Reach t.mask (· ∈insertAt t.place (below t.place j) j) g y
  have hy':(t.place.toList.take (below t.place j) ++ j :: t.place.toList.drop (below t.place j))[i]? =some y:=by
   rw[<-b9 _ _ _ b1,Of];exact hy
  rw[wH _ _ _ (by simpa using b1)] at hy'
  rw[wH _ _ _ hl] at hg
  have old:∀{g y},Reach t.mask (· ∈t.place) g y->Reach t.mask (· ∈insertAt t.place (below t.place j) j) g y:=λr=>r.mono λx hx=>(mX b1).mpr (.inl hx)
  split at hy'
  ·rename_i c
   rw[MJ c] at hg
   exact old (T.reach i y g (by simpa using hy') hg)
  ·rename_i c
   rw[MO c] at hg
   split at hy'
   ·rename_i c2
    rw[MJ c2] at hg
    cases hg;cases hy'
    exact old r
   ·rename_i c2
    rw[MO c2] at hg
    exact old (T.reach (i - 1) y g (by simpa using hy') hg)
end
abbrev own (o:Array (Option Nat))(j:Nat):Option Nat:=o.getD j none
theorem Bs {mask:Nat}{o:Array (Option Nat)}(hsz:o.size=mask + 1):∀(fuel i q:Nat) (j:Nat),i<=mask->layClean.free mask o fuel i q=some j->
  ∃n,n < 10 * fuel/\(gp mask n (AA mask i q)).j=j/\(∀m,m < n->(own o (gp mask m (AA mask i q)).j).isSome=true)/\own o j=none/\j<=mask:=by
 intro fuel
 induction fuel with
 |zero=>intro i q j _ h;unfold layClean.free at h;cases h
 |succ fuel ih=>
  intro i q j hi h
  unfold layClean.free at h
  have hr:=jB hi
  have ind:∀k,k<=runEnd mask i - i->o.getD (i + k) (some 0)=own o (i + k):=λk hk=>by
   have:i + k < o.size:=by omega
   simp[own,Array.getD,this]
  cases hf:(List.range (runEnd mask i + 1 - i)).find? λk=>(o.getD (i + k) (some 0)).isNone with
  |some k=>
   rw[hf] at h
   dsimp only at h
   have hk:=List.find?_eq_some_iff_getElem.mp hf
   obtain⟨hn,ix,hix,eix,hbef⟩:=hk
   have ek:ix=k:=by simpa using eix
   subst ek
   have hix':ix < runEnd mask i + 1 - i:=by simpa using hix
   cases h
   refine⟨ix,by omega,?_,λm hm=>?_,?_,by omega⟩
   ·rw[jX mask i q ix (by omega)]
   ·rw[jX mask i q m (by omega)]
    have:=hbef m hm
    simp only[List.getElem_range] at this
    rw[ind m (by omega)] at this
    dsimp only
    cases e:own o (i + m) with
    |none=>rw[e] at this;simp at this
    |some _=>rfl
   ·rw[ind ix (by omega)] at hn
    cases e:own o (i + ix) with
    |none=>rfl
    |some _=>rw[e] at hn;simp at hn
  |none=>
   rw[hf] at h
   dsimp only at h
   obtain⟨n,h1,h2,h3,h4,h5⟩:=ih _ _ j (nE mask i q) h
   have hnone:=List.find?_eq_none.mp hf
   refine⟨(runEnd mask i - i + 1) + n,by omega,?_,λm hm=>?_,h4,h5⟩
   ·rw[lg,nW];exact h2
   ·rcases NU m (runEnd mask i - i + 1) with c |c
    ·rw[jX mask i q m (by omega)]
     have:=hnone m (M5.mpr (by omega))
     rw[ind m (by omega)] at this
     dsimp only
     cases e:own o (i + m) with
     |none=>rw[e] at this;simp at this
     |some _=>rfl
    ·obtain⟨k,rfl⟩:∃k,m=(runEnd mask i - i + 1) + k:=⟨m - (runEnd mask i - i + 1),by omega⟩
     rw[lg,nW]
     exact h3 k (by omega)
theorem AN {mask:Nat}{o:Array (Option Nat)}(hsz:o.size=mask + 1):∀(fuel i q k:Nat),i<=mask->k < fuel->own o (gJ mask k (i,q)).1=none->∃j,layClean.free mask o fuel i q=some j:=by
 intro fuel
 induction fuel with
 |zero=>intro i q k _ hk;omega
 |succ fuel ih=>
  intro i q k hi hk hn
  unfold layClean.free
  cases hf:(List.range (runEnd mask i + 1 - i)).find? λk=>(o.getD (i + k) (some 0)).isNone with
  |some k=>exact⟨_,rfl⟩
  |none=>
   dsimp only
   cases k with
   |zero=>
    have hr:=jB hi
    have:=List.find?_eq_none.mp hf 0 (M5.mpr (by omega))
    have e:own o i=none:=hn
    have hi2:i < o.size:=by omega
    simp[own,Array.getD,hi2] at e this
    rw[e] at this;simp at this
   |succ k=>exact ih _ _ k (nE mask i q) (by omega) hn
structure Lay (mask:Nat)(o:Array (Option Nat))(hs:List Int):Prop where
 size:o.size=mask + 1
 all:∀k h,hs[k]? =some h->∃j,own o j=some k/\Reach mask (λx=>(own o x).isSome=true) h j
 one:∀j j' k,own o j=some k->own o j'=some k->j=j'
 le:∀j k,own o j=some k->j<=mask/\k < hs.length
def mS {o:Array (Option Nat)}{j x k:Nat}(hj:j < o.size):own (o.setIfInBounds j (some k)) x=if x=j then some k else own o x:=by
 unfold own
 rw[Nw,Nw,Array.getElem?_setIfInBounds]
 by_cases e:x=j
 ·subst e;simp[hj]
 ·rw[MO e,MO (λz=>e z.symm)]
def BO {mask:Nat}(hm:CM mask){o:Array (Option Nat)}{hs:List Int}(L:Lay mask o hs)(h:Int)(hl:hs.length<=mask) :
  ∃j,layClean.free mask o (turns mask) (bits h % (mask + 1)) (bits h)=some j/\Lay mask (o.setIfInBounds j (some hs.length)) (hs ++ [h]):=by
 have hi:bits h % (mask + 1)<=mask:=Nat.lt_succ_iff.mp (Nat.mod_lt _ (Nat.succ_pos _))
 have hfree:∃j,j<=mask/\own o j=none:=by
  refine Classical.byContradiction λhc=>?_
  have hall:∀j,j<=mask->∃k,own o j=some k:=λj hj=>by
   cases e:own o j with
   |none=>exact absurd ⟨j,hj,e⟩ hc
   |some k=>exact⟨k,rfl⟩
  have nd:((List.range (mask + 1)).map λj=>(own o j).getD 0).Nodup:=by
   refine NC.mpr ?_
   refine NX ?_ Ou
   intro a b ha hb hab e
   obtain⟨ka,ea⟩:=hall a (by have:=M5.mp ha;omega)
   obtain⟨kb,eb⟩:=hall b (by have:=M5.mp hb;omega)
   rw[ea,eb] at e
   simp at e
   subst e
   exact hab (L.one a b ka ea eb)
  have:=cn (m:=List.range hs.length) nd λx hx=>by
   obtain⟨j,hj,rfl⟩:=MQ.mp hx
   obtain⟨k,e⟩:=hall j (by have:=M5.mp hj;omega)
   rw[e]
   exact M5.mpr (L.le j k e).2
  simp at this
  omega
 obtain⟨j0,hj0,hn0⟩:=hfree
 obtain⟨k,hk,ek⟩:=qR hm hi (y2 h) hj0
 obtain⟨j,hj⟩:=AN L.size (turns mask) _ (bits h) k hi (by unfold turns;omega) (by rw[ek];exact hn0)
 refine⟨j,hj,?_⟩
 obtain⟨n,h1,h2,h3,h4,h5⟩:=Bs L.size _ _ _ _ hi hj
 have hjs:j < o.size:=by rw[L.size];omega
 have grow:∀x,(own o x).isSome=true->(own (o.setIfInBounds j (some hs.length)) x).isSome=true:=λx hx=>by
  rw[mS hjs];split
  ·rfl
  ·exact hx
 refine⟨by rw[Array.size_setIfInBounds];exact L.size,λk g hg=>?_,λa b c ea eb=>?_,λa c ea=>?_⟩
 ·rcases NU k hs.length with c |c
  ·rw[Nh c] at hg
   obtain⟨x,ex,rx⟩:=L.all k g hg
   refine⟨x,?_,rx.mono grow⟩
   rw[mS hjs,MO (λz=>?_)]
   ·exact ex
   ·subst z;rw[ex] at h4;cases h4
  ·rw[Np c] at hg
   have:k=hs.length:=by
    have:=(M9.mp hg).1
    simp at this;omega
   subst this
   simp at hg
   subst hg
   exact⟨j,by rw[mS hjs,MJ rfl],n,h1,h2,λm hm=>grow _ (h3 m hm)⟩
 ·rw[mS hjs] at ea eb
  split at ea
  ·cases ea
   split at eb
   ·omega
   ·have:=(L.le _ _ eb).2;omega
  ·split at eb
   ·cases eb
    have:=(L.le _ _ ea).2;omega
   ·exact L.one _ _ _ ea eb
 ·rw[mS hjs] at ea
  rw[Nf]
  split at ea
  ·cases ea;simp;omega
  ·have:=L.le _ _ ea;simp;omega
theorem zX {mask:Nat}(hm:CM mask):∀(rest hs:List Int) (o:Array (Option Nat)),Lay mask o hs->hs.length + rest.length<=mask->
  ∃o',rest.foldl (init:=some (o,hs.length)) (λacc h=>do
   let (owner,k) <-acc
   let j <-layClean.free mask owner (turns mask) (bits h % (mask + 1)) (bits h)
   pure (owner.setIfInBounds j (some k),k + 1))=some (o',hs.length + rest.length)/\Lay mask o' (hs ++ rest)
 | [],hs,o,L,_=>⟨o,rfl,by rw[Oh];exact L⟩
 |h :: rest,hs,o,L,hl=>by
  simp only[Na] at hl
  obtain⟨j,e,L'⟩:=BO hm L h (by omega)
  obtain⟨o',e',L2⟩:=zX hm rest (hs ++ [h]) _ L' (by simp;omega)
  refine⟨o',?_,by rw[N9] at L2;exact L2⟩
  rw[OA]
  simp only[Option.bind_eq_bind,Option.bind_some,e,Option.pure_def]
  have el:(hs ++ [h]).length=hs.length + 1:=by simp
  rw[el] at e'
  simp only[Option.bind_eq_bind,Option.pure_def] at e'
  rw[e']
  simp;omega
def zl (n j:Nat):own (Array.replicate n none) j=none:=by
 unfold own
 rw[Nw,Array.getElem?_replicate]
 split <;> rfl
def FH (mask:Nat):Lay mask (Array.replicate (mask + 1) none) []:=
 ⟨by simp,λk h e=>by simp at e,λj j' k e _=>by (rw[zl] at e;cases e),λj k e=>by (rw[zl] at e;cases e)⟩
def Br {mask:Nat}(hm:CM mask)(hs:Array Int)(hl:hs.size * 5 < mask * 3)(finger moves:Nat)(led:Bool) :
  ∃t order,laid mask finger moves led true hs=some (t,order)/\t.led=led/\t.mask=mask/\order.toList.Nodup/\(∀k,k∈order.toList↔k < hs.size)/\
   Tab t (order.toList.map λk=>hs.toList.getD k 0):=by
 obtain⟨o,e,L⟩:=zX hm hs.toList [] _ (FH mask) (by simp;omega)
 simp only[nil_append] at L
 have ec:layClean mask hs=some o:=by
  unfold layClean
  rw[<-Array.foldl_toList]
  simp only[length_nil] at e
  rw[e];rfl
 have hlive:∀j k,(j,k)∈((List.range (mask + 1)).filterMap λj=>(o.getD j none).map (j, ·))↔own o j=some k:=λj k=>by
  rw[Oe]
  constructor
  ·rintro⟨x,_,q⟩
   cases ex:o.getD x none with
   |none=>rw[ex] at q;cases q
   |some y=>rw[ex] at q;simp at q;rw[<-q.1,<-q.2];exact ex
  ·intro q
   refine⟨j,M5.mpr (by have:=(L.le j k q).1;omega),?_⟩
   have:o.getD j none=some k:=q
   rw[this];rfl
 have hpw:((List.range (mask + 1)).filterMap λj=>(o.getD j none).map (j, ·)).Pairwise (λa b=>a.1 < b.1):=by
  refine List.pairwise_filterMap.mpr ?_
  refine List.Pairwise.imp ?_ List.pairwise_lt_range
  intro a b hab x hx y hy
  cases ea:o.getD a none with
  |none=>rw[ea] at hx;cases hx
  |some u=>
   cases eb:o.getD b none with
   |none=>rw[eb] at hy;cases hy
   |some v=>
    rw[ea] at hx;rw[eb] at hy
    simp at hx hy
    rw[<-hx,<-hy];exact hab
 generalize hlv:((List.range (mask + 1)).filterMap λj=>(o.getD j none).map (j, ·))=live at hlive hpw
 refine⟨{mask,place:=(live.map (·.1)).toArray,dummies:=#[],finger,led,moves,plain:=true},(live.map (·.2)).toArray,?_,rfl,rfl,?_,λk=>?_,?_⟩
 ·unfold laid
  rw[ec]
  simp only[Option.bind_eq_bind,Option.bind_some,Option.pure_def,hlv]
 ·have:(live.map (·.2)).Nodup:=by
   refine NC.mpr (NX ?_ hpw)
   intro a b ha hb hab ee
   have h1:=(hlive a.1 a.2).mp ha
   have h2:=(hlive b.1 b.2).mp hb
   rw[ee] at h1
   have:=L.one _ _ _ h1 h2
   omega
  simpa using this
 ·rw[MQ]
  constructor
  ·rintro⟨x,hx,rfl⟩
   have:=(L.le x.1 x.2 ((hlive x.1 x.2).mp hx)).2
   simpa using this
  ·intro hk
   have hk':k < hs.toList.length:=by simpa using hk
   obtain⟨j,ej,_⟩:=L.all k _ (MG hk')
   exact⟨(j,k),(hlive j k).mpr ej,rfl⟩
 ·have hord:live.length=hs.size:=by
   have a1:(live.map (·.2)).Nodup:=by
    refine NC.mpr (NX ?_ hpw)
    intro a b ha hb hab ee
    have h1:=(hlive a.1 a.2).mp ha
    have h2:=(hlive b.1 b.2).mp hb
    rw[ee] at h1
    have:=L.one _ _ _ h1 h2
    omega
   have b1:=cn (m:=List.range hs.size) a1 λx hx=>by
    obtain⟨y,hy,rfl⟩:=MQ.mp hx
    have:=(L.le y.1 y.2 ((hlive y.1 y.2).mp hy)).2
    exact M5.mpr (by simpa using this)
   have b2:=cn (l:=List.range hs.size) (m:=live.map (·.2)) Ou λx hx=>by
    have hk':x < hs.toList.length:=by simpa using M5.mp hx
    obtain⟨j,ej,_⟩:=L.all x _ (MG hk')
    exact MQ.mpr ⟨(j,x),(hlive j x).mpr ej,rfl⟩
   simp at b1 b2
   omega
  refine⟨hm,rfl,?_,λj hj=>?_,?_,?_,λi j h hi hh=>?_,rfl⟩
  ·show (live.map (·.1)).toArray.toList.Pairwise _
   rw[Oa]
   exact NC.mpr hpw
  ·have:j∈live.map (·.1):=by simpa using hj
   obtain⟨x,hx,rfl⟩:=MQ.mp this
   exact (L.le x.1 x.2 ((hlive x.1 x.2).mp hx)).1
  ·simp
  ·show (live.map (·.1)).toArray.size * 5 < mask * 3
   simp[hord];exact hl
  ·have hi':(live.map (·.1))[i]? =some j:=by simpa using hi
   have hh':((live.map (·.2)).map λk=>hs.toList.getD k 0)[i]? =some h:=by simpa using hh
   rw[MV] at hi'
   rw[MV,MV] at hh'
   cases ex:live[i]? with
   |none=>rw[ex] at hi';cases hi'
   |some x=>
    rw[ex] at hi' hh'
    simp at hi' hh'
    have hxl:=(hlive x.1 x.2).mp (MU ex)
    have hk:=(L.le _ _ hxl).2
    have hk2:x.2 < hs.size:=by simpa using hk
    obtain⟨j2,ej2,r⟩:=L.all x.2 h (by
     rw[MG hk]
     simp[hk2] at hh'
     simpa using hh')
    have:j2=j:=by rw[<-hi'];exact L.one _ _ _ ej2 hxl
    subst this
    refine r.mono λy hy=>?_
    show y∈(live.map (·.1)).toArray
    cases ey:own o y with
    |none=>rw[ey] at hy;cases hy
    |some k=>
     have:y∈live.map (·.1):=MQ.mpr ⟨(y,k),(hlive y k).mpr ey,rfl⟩
     simpa using this
abbrev Pr:=Int×Int
def hp (p:Pr):Int:=reduceHash (Builtin.Tuple.tupleHashOf [hashInt p.1,hashInt p.2])
def Sm (p:Pr):Prop:=(0<=p.1/\p.1 < 8)/\(0<=p.2/\p.2 < 8)
def qw:List Pr:=(List.range 64).map λk=>(((k / 8:Nat):Int),((k % 8:Nat):Int))
def mz {p:Pr}(h:Sm p):p∈qw:=by
 unfold qw
 obtain⟨⟨a,b⟩,c,d⟩:=h
 refine MQ.mpr ⟨p.1.toNat * 8 + p.2.toNat,M5.mpr (by omega),?_⟩
 refine Prod.ext ?_ ?_ <;> dsimp only <;> omega
def Cj:(qw.map hp).Nodup:=by decide +kernel
theorem mR {α β:Type}{f:α->β}:∀{l:List α},(l.map f).Nodup->∀a b,a∈l->b∈l->f a=f b->a=b
 | [],_,_,_,h,_,_=>by cases h
 |x :: l,hn,a,b,ha,hb,e=>by
  have hn':=Nq.mp hn
  rcases MN.mp ha with ea |ha
  ·rcases MN.mp hb with eb |hb
   ·rw[ea,eb]
   ·exact absurd (MQ.mpr ⟨b,hb,by rw[<-e,ea]⟩) hn'.1
  ·rcases MN.mp hb with eb |hb
   ·exact absurd (MQ.mpr ⟨a,ha,by rw[e,eb]⟩) hn'.1
   ·exact mR hn'.2 a b ha hb e
def HI {p q:Pr}(hp1:Sm p)(hq:Sm q)(e:hp p=hp q):p=q:=mR Cj p q (mz hp1) (mz hq) e
def xE {l:List Pr}(hn:l.Nodup)(h:∀p,p∈l->Sm p):l.length<=64:=by
 have:=cn (m:=qw) hn λx hx=>mz (h x hx)
 simpa[qw] using this
section
variable {prog:Program}{w:World}{A:Around}{E:Value->Shared->Prop}{s:Shared}
abbrev bS (prog:Program)(w:World)(h:Heap)(p:Pr)(a:Addr):Prop:=IsTupleKey (intKind prog w) h [p.1,p.2] a
def bS.inj {h:Heap}{p q:Pr}{a:Addr}(x:bS prog w h p a)(y:bS prog w h q a):p=q:=by
 have:=IsTupleKey.inj x y
 simp at this
 exact Prod.ext this.1 this.2
structure uO (f:Pr->Int)(prog:Program)(w:World)(led:Bool)(h:Heap)(S:Addr)(ps:List (Addr×Pr)):Prop where
 ex:∃o ep t,h.get? S=some o/\o.ExactSet/\o.data=.set (ps.map λq=>(f q.2,Value.ref q.1)).toArray ep t/\Tab t (ps.map λq=>f q.2)/\t.led=led
 at':∀q,q∈ps->bS prog w h q.2 q.1/\Sm q.2
 nd:(ps.map (·.2)).Nodup
def qg {t:SetTable}{hs:List Int}(T:Tab t hs){n:Nat}(e:n=hs.length):t.fits n=true:=by
 unfold SetTable.fits SetTable.fill
 have:=T.load'
 simp[T.size,T.dum,e]
 rw[T.size] at this;exact this
def C6 (a:Addr)(wanted:Nat):setRelay a wanted=(do
  let (es,_,t) <-setState a
  if SetTable.sizeAbove wanted > sizeLine then unsupported "set:memory"
  let (es,t) <-(do
   let some (t,order):=t.relaid (es.map (·.1)) wanted |unsupported "internal:set-table-without-room"
   let es':=order.filterMap (es[·]?)
   if es'.size != es.size then unsupported "internal:set-table-lost-an-element"
   pure (es',t))
  storeSet a es t):=rfl
def Ag (a:Addr)(x:Value)(h:Int)(fuel:Nat):setSearchFrom a x h true (fuel + 1) none=(do
  let (es,_,t) <-setState a
  if t.gaveWay then unsupported "set:on-a-table-that-gave-way"
  let some met:=t.probe (λi=>(es[i]?.map (·.1)).getD 0) h (t.probeStart h) |unsupported "internal:set-table-without-an-empty-slot"
  match met with
  | .empty j dummy=>
   match dummy with
   |none=>return .free j false
   |some d=>
    if true && t.slot d != .dummy then rule "set.search.the-dummy-was-taken";return <-setSearchFrom a x h true fuel none
    return .free d true
  | .candidate j i next=>
   if !t.led then
    if <-searchCouldBeSeen x ((es.filter (·.1 == h)).toList.map (·.2)) then unsupported "set:the-search-would-show-the-table"
   let some (_,y):=es[i]? |unsupported "internal:set-entry"
   let equal <-holding [y] (eqBool y x)
   let (es',_,t') <-setState a
   if true && equal then return .there none
   let some same:=t'.sameMemory t.moves t.mask |unsupported "set.changed-during-lookup:is-the-new-block-at-the-old-address"
   let still <-match (if same then t'.slot j else .empty) with
    | .live i'=>match es'[i']? with
     |some (_,y')=>do pure (if <-isSame y' y then some i' else none)
     |none=>pure none
    |_=>pure none
   match still with
   |none=>rule "set.search.anew";setSearchFrom a x h true fuel none
   |some i'=>if equal then return .there (some i') else setSearchFrom a x h true fuel (some next)):=rfl
theorem wU (n:Nat){v:Value}(h:carriedByValue v=true):ofAClassStatement n v=pure false:=by
 cases v with
 |ref a=>simp[carriedByValue] at h
 |_=>first |rfl | (unfold ofAClassStatement;rfl)
def yj (n:Nat){v:Value}{k:Int}(h:(intKind prog w).is k v=true):hashByValue n v=pure true:=by
 obtain⟨t,rfl⟩:=Om h
 cases n <;> rfl
def mH {p:Pr}{a:Addr}{Q:Bool->Shared->Prop}(hk:bS prog w s.heap p a)(h:Q false s):wpAny (model prog w) A (ofAClassStatement 8 (.ref a)) Q E s:=by
 have hT:=hk.typeIs
 obtain⟨o,items,n,ho,hc,hd,hi⟩:=hk
 unfold ofAClassStatement
 refine MF (Pd hT ?_)
 dsimp only
 rw[MJ (by decide)]
 refine MF (MI ?_)
 simp only[OW,MZ,Nx]
 refine MF (wpAny_seqItems ho hd ?_)
 dsimp only
 refine MF ?_
 rw[<-Array.forIn_toList]
 refine wpAny_forIn_list _ (λrest r s'=>r.1=none/\s'=s/\∀v∈rest,carriedByValue v=true) _ ?_ ?_ _ _ ⟨rfl,rfl,hi.byValue⟩
 ·rintro v rest r s' ⟨hr,rfl,hall⟩
  rw[wU _ (hall v MP)]
  refine MF (MI ?_)
  simp only[MZ,Nx]
  exact MI ⟨rfl,rfl,λu hu'=>hall u (MM _ hu')⟩
 ·rintro⟨r1,r2⟩ s' ⟨hr,rfl,_⟩
  simp only at hr
  subst hr
  exact MI h
def wd {p:Pr}{a:Addr}{Q:Bool->Shared->Prop}(hk:bS prog w s.heap p a)(h:Q true s):wpAny (model prog w) A (hashByValue 8 (.ref a)) Q E s:=by
 have hT:=hk.typeIs
 obtain⟨o,items,n,ho,hc,hd,hi⟩:=hk
 unfold hashByValue
 refine MF (wpAny_specialOf hT F.slot_tuple_hash.lookup ?_)
 dsimp only
 refine MF (wpAny_seqItems ho hd ?_)
 simp only[Option.getD_some]
 refine MF ?_
 rw[<-Array.forIn_toList]
 refine wpAny_forIn_list _ (λrest r s'=>r.1=none/\s'=s/\∀v∈rest,∃k,(intKind prog w).is k v=true) _ ?_ ?_ _ _ ⟨rfl,rfl,λv hv=>?_⟩
 ·rintro v rest r s' ⟨hr,rfl,hall⟩
  obtain⟨k,hk⟩:=hall v MP
  rw[yj _ hk]
  refine MF (MI ?_)
  simp only[OW,MZ,Nx]
  exact MI ⟨rfl,rfl,λu hu'=>hall u (MM _ hu')⟩
 ·rintro⟨r1,r2⟩ s' ⟨hr,rfl,_⟩
  simp only at hr
  subst hr
  exact MI h
 ·generalize items.toList=l at *
  cases hi with
  |cons h1 hi=>
   cases hi with
   |cons h2 hi=>
    cases hi
    rcases MN.mp hv with rfl |hv
    ·exact⟨_,h1⟩
    ·rcases MN.mp hv with rfl |hv
     ·exact⟨_,h2⟩
     ·cases hv
def yh {p:Pr}{a:Addr}(hk:bS prog w s.heap p a):∀(l:List Value) {Q:Bool->Shared->Prop},(∀v∈l,∃q b,v=.ref b/\bS prog w s.heap q b)->Q false s->wpAny (model prog w) A (searchCouldBeSeen (.ref a) l) Q E s:=by
 intro l Q hl h
 unfold searchCouldBeSeen
 refine MF ?_
 refine wpAny_forIn_list _ (λrest r s'=>r.1=none/\s'=s/\∀v∈rest,∃q b,v=.ref b/\bS prog w s.heap q b) _ ?_ ?_ _ _ ⟨rfl,rfl,hl⟩
 ·rintro v rest r s' ⟨hr,rfl,hall⟩
  obtain⟨q,b,rfl,hb⟩:=hall v MP
  have hrest:=λu hu'=>hall u (MM _ hu')
  dsimp only
  split
  ·exact MI ⟨rfl,rfl,hrest⟩
  ·refine MF (wpAny_eqIsQuiet_tuple hk ?_)
   simp only[OW,MZ,Nx]
   refine MF (wpAny_eqIsQuiet_tuple hb ?_)
   simp only[OW,MZ,Nx]
   refine MF (mH hk ?_)
   simp only[MZ,Nx]
   refine MF (mH hb ?_)
   simp only[MZ,Nx]
   exact MI ⟨rfl,rfl,hrest⟩
 ·rintro⟨r1,r2⟩ s' ⟨hr,rfl,_⟩
  simp only at hr
  subst hr
  exact MI h
end
section
variable {prog:Program}{w:World}{A:Around}{E:Value->Shared->Prop}{s:Shared}
def wj (t:SetTable)(hs:Array Int)(wanted:Nat)(hp:t.plain=true):t.relaid hs wanted=laid (sizeAbove wanted - 1) t.finger (t.movedTo (sizeAbove wanted - 1)) t.led true hs:=by
 unfold relaid;rw[hp]
def Gy:sizeAbove (grown 5)=32/\sizeAbove (grown 19)=128:=by decide +kernel
theorem filterMap_get {α:Type}(es:Array α):∀(order:List Nat),(∀k,k∈order->k < es.size)->∃l:List α,order.filterMap (λi=>es[i]?)=l/\l.length=order.length/\(∀(i k:Nat),order[i]? =some k->l[i]? =es[k]?)/\∀x,x∈l->∃k,k∈order/\es[k]? =some x
 | [],_=>⟨[],rfl,rfl,λi k h=>by simp at h,λx hx=>by cases hx⟩
 |k :: r,h=>by
  obtain⟨l,e1,e2,e3,e4⟩:=filterMap_get es r λx hx=>h x (MM _ hx)
  have hk:=h k (MP ..)
  refine⟨es[k] :: l,by rw[Oo,Nj hk,e1],by simp[e2],λi x hi=>?_,λx hx=>?_⟩
  ·cases i with
   |zero=>simp at hi;subst hi;simp[hk]
   |succ i=>simp at hi;simpa using e3 i x hi
  ·rcases MN.mp hx with rfl |hx
   ·exact⟨k,MP ..,by simp[hk]⟩
   ·obtain⟨y,hy,q⟩:=e4 x hx
    exact⟨y,MM _ hy,q⟩
abbrev fg (f:Pr->Int)(q:Addr×Pr):Int×Value:=(f q.2,Value.ref q.1)
def uL (f:Pr->Int){mask:Nat}(hm:CM mask){ps:List (Addr×Pr)}(hl:ps.length * 5 < mask * 3)(finger moves:Nat)(led:Bool) :
  ∃(t:SetTable) (order:Array Nat) (ps':List (Addr×Pr)),laid mask finger moves led true ((ps.map (fg f)).toArray.map (·.1))=some (t,order)/\order.filterMap (λi=>(ps.map (fg f)).toArray[i]?)=(ps'.map (fg f)).toArray/\ps'.length=ps.length/\
   (∀q,q∈ps'↔q∈ps)/\Tab t (ps'.map λq=>f q.2)/\t.led=led:=by
 obtain⟨t,order,e,el,em,nd,mem,T⟩:=Br hm ((ps.map (fg f)).toArray.map (·.1)) (by simpa using hl) finger moves led
 have hsz:((ps.map (fg f)).toArray.map (·.1)).size=ps.length:=by simp
 obtain⟨ps',f1,f2,f3,f4⟩:=filterMap_get ps.toArray order.toList λk hk=>by
  have:=(mem k).mp hk;rw[hsz] at this;simpa using this
 have hlen:order.toList.length=ps.length:=by
  have a1:=cn (m:=List.range ps.length) nd λx hx=>M5.mpr (by have:=(mem x).mp hx;rwa [hsz] at this)
  have a2:=cn (l:=List.range ps.length) (m:=order.toList) Ou λx hx=>(mem x).mpr (by rw[hsz];exact M5.mp hx)
  simp at a1 a2 ⊢;omega
 refine⟨t,order,ps',e,?_,by omega,λq=>⟨λhq=>?_,λhq=>?_⟩,?_,el⟩
 ·apply Array.toList_inj.mp
  rw[Array.toList_filterMap,<-f1]
  simp only[Oa]
  rw[List.map_filterMap]
  congr 1
  funext i
  simp
 ·obtain⟨k,_,q2⟩:=f4 q hq
  rw[List.getElem?_toArray] at q2
  exact MU q2
 ·obtain⟨k,hk,q2⟩:=Nr.mp hq
  have hko:k∈order.toList:=(mem k).mpr (by rw[hsz];exact hk)
  obtain⟨i,hi,e2⟩:=Nr.mp hko
  have:=f3 i k (by rw[MG hi,e2])
  rw[List.getElem?_toArray,MG hk,q2] at this
  exact MU this
 ·have:(order.toList.map λk=>((ps.map (fg f)).toArray.map (·.1)).toList.getD k 0)=ps'.map λq=>f q.2:=by
   apply OZ
   intro i
   rw[MV,MV]
   cases hi:order.toList[i]? with
   |none=>
    have:ps'[i]? =none:=List.getElem?_eq_none_iff.mpr (by rw[f2];exact List.getElem?_eq_none_iff.mp hi)
    rw[this];rfl
   |some k=>
    have hk:k < ps.length:=by have:=(mem k).mp (MU hi);rwa [hsz] at this
    have:=f3 i k hi
    rw[List.getElem?_toArray,MG hk] at this
    rw[this]
    simp[hk]
  rw[<-this];exact T
theorem oz:∀{l m:List Int},m.Nodup->(∀x,x∈m->x∈l)->l.length<=m.length->l.Nodup
 | [],_,_,_,_=>OH
 |a :: l,m,hn,hs,hl=>by
  by_cases ha:a∈m
  ·have hnot:a∉l:=λz=>by
    have:=cn (m:=l) hn λx hx=>by
     rcases MN.mp (hs x hx) with e |e
     ·rw[e];exact z
     ·exact e
    simp only[Na] at hl;omega
   refine Nq.mpr ⟨hnot,oz (m:=m.erase a) (hn.erase a) (λx hx=>?_) ?_⟩
   ·have:=(hn.mem_erase_iff).mp hx
    rcases MN.mp (hs x this.2) with e |e
    ·exact absurd e this.1
    ·exact e
   ·rw[OK ha];simp only[Na] at hl;omega
  ·have:=cn (m:=l) hn λx hx=>by
    rcases MN.mp (hs x hx) with e |e
    ·exact absurd (e▸hx) ha
    ·exact e
   simp only[Na] at hl;omega
def uc (a:Addr)(es:Array (Int×Value)):byScan (.ref a) es=false:=by unfold byScan Value.scannable;simp
def xl {t:SetTable}(h:CM t.mask):t.gaveWay=false:=by
 unfold SetTable.gaveWay
 rcases h with e |e |e <;> rw[e] <;> decide
def uO.add {f:Pr->Int}(hinj:∀p q,Sm p->Sm q->f p=f q->p=q){led:Bool}{S a:Addr}{ps:List (Addr×Pr)}{p:Pr}{Q:Bool->Shared->Prop}(P:uO f prog w led s.heap S ps)(hk:bS prog w s.heap p a)(hs:Sm p)(hu:A.units < cLine)
  (h:∀(b:Bool) (h':Heap) (ps':List (Addr×Pr)),Heap.SameBut S s.heap h'->uO f prog w led h' S ps'->(∀q,q∈ps'->q∈ps\/q=(a,p))->(∀q,q∈ps->q∈ps')->(∃q,q∈ps'/\q.2=p)->Q b {s with heap:=h'}) :
  wpAny (model prog w) A (setAddHashed S (.ref a) (f p)) Q E s:=by
 obtain⟨o,ep,t,ho,hex,hd,T,hled⟩:=P.ex
 have hfit:t.fits (ps.map (fg f)).toArray.size=true:=qg T (by simp)
 have ha:∀i,i < (ps.map λq=>f q.2).length->some ((((ps.map (fg f)).toArray)[i]?.map (·.1)).getD 0)=(ps.map λq=>f q.2)[i]?:=λi hi=>by
  have hi':i < ps.length:=by simpa using hi
  simp[hi']
 unfold setAddHashed
 refine NP ?_
 unfold setAddHashedIn
 refine MF (NL ho hd hfit ?_)
 dsimp only
 rw[uc]
 simp only[MZ,Nx]
 unfold setSearch
 rw[Ag]
 refine MF (MF (NL ho hd hfit ?_))
 dsimp only
 rw[xl T.mask]
 simp only[MZ,Nx]
 by_cases hm:f p∈ps.map λq=>f q.2
 ·
  obtain⟨j,i,nx,e1,e2,e3,e4⟩:=T.present ha hm
  rw[e1]
  dsimp only
  have hi:i < ps.length:=by simpa using e3
  have e5:f (ps[i].2)=f p:=by
   rw[MV,MG hi] at e4
   simpa using e4
  have hq:=P.at' ps[i] (NI hi)
  have e6:ps[i].2=p:=hinj _ _ hq.2 hs e5
  have hget:((ps.map (fg f)).toArray)[i]? =some (f ps[i].2,.ref ps[i].1):=by simp[hi]
  have rest:wpAny (model prog w) A (do
    let some (_,y):=((ps.map (fg f)).toArray)[i]? |unsupported "internal:set-entry"
    let equal <-holding [y] (eqBool y (.ref a))
    let (es',_,t') <-setState S
    if true && equal then return SetFound.there none
    let some same:=t'.sameMemory t.moves t.mask |unsupported "set.changed-during-lookup:is-the-new-block-at-the-old-address"
    let still <-match (if same then t'.slot j else .empty) with
     | .live i'=>match es'[i']? with
      |some (_,y')=>do pure (if <-isSame y' y then some i' else none)
      |none=>pure none
     |_=>pure none
    match still with
    |none=>rule "set.search.anew";setSearchFrom S (.ref a) (f p) true 99999 none
    |some i'=>if equal then return .there (some i') else setSearchFrom S (.ref a) (f p) true 99999 (some nx))
    (λr s'=>s'=s/\r=.there none) E s:=by
   rw[hget]
   dsimp only
   refine MF (NP (wpAny_eqBool_tuple hu hq.1 hk ?_))
   rw[MR (by rw[e6])]
   refine MF (NL ho hd hfit ?_)
   dsimp only
   simp only[OC,NN]
   exact MI ⟨rfl,rfl⟩
  have fin:∀r s',s'=s/\r=SetFound.there none->wpAny (model prog w) A (match r with
    | .free slot wasDummy=>(do
     let (es,_,t) <-setState S
     let (t,p'):=t.put slot
     let byValue <-if t.plain then hashByValue 8 (.ref a) else pure true
     let t:=if byValue then t else {t with plain:=false}
     storeSet S (SetTable.insertAt es p' (f p,.ref a)) t
     if !wasDummy && t.tooFull then setRelay S (SetTable.grown (es.size + 1))
     return true)
    |_=>pure false) Q E s':=by
   rintro r s' ⟨rfl,rfl⟩
   exact MI (h false s'.heap ps (Heap.SameBut.refl ..) P (λq hq=>.inl hq) (λq hq=>hq) ⟨ps[i],NI hi,e6⟩)
  cases hl:led with
  |true=>
   rw[hled,hl]
   simp only[OW,MZ,Nx]
   exact N0 rest (λr s' hr=>fin r s' hr) λ_ _ x=>x
  |false=>
   rw[hled,hl]
   simp only[Bool.not_false,NN]
   refine MF (yh hk _ (λv hv=>?_) ?_)
   ·obtain⟨x,hx,rfl⟩:=MQ.mp hv
    have hx':x∈(ps.map (fg f)).toArray:=(Array.mem_filter.mp (OF.mp hx)).1
    have hx2:x∈ps.map (fg f):=by simpa using hx'
    obtain⟨q,hq,rfl⟩:=MQ.mp hx2
    exact⟨q.2,q.1,rfl,(P.at' q hq).1⟩
   ·simp only[MZ,Nx]
    exact N0 rest (λr s' hr=>fin r s' hr) λ_ _ x=>x
 ·
  obtain⟨j,e1,e2,e3,e4⟩:=T.absent ha hm
  rw[e1]
  dsimp only
  refine MI ?_
  dsimp only
  refine MF (NL ho hd hfit ?_)
  dsimp only
  obtain⟨q1,q2⟩:=sy t j T.dum
  have hpl:(t.put j).1.plain=true:=by rw[q1];exact T.plain
  rw[hpl]
  simp only[NN]
  refine MF (wd hk ?_)
  simp only[NN]
  have hb:(t.put j).2<=ps.length:=by
   rw[q2]
   have:=(eG T.rise j).1
   rw[T.size] at this;simpa using this
  have hins:insertAt (ps.map (fg f)).toArray (t.put j).2 (f p,Value.ref a)=((ps.take (t.put j).2 ++ (a,p) :: ps.drop (t.put j).2).map (fg f)).toArray:=by
   apply Array.toList_inj.mp
   rw[b9 _ _ _ (by simpa using hb)]
   simp[List.map_take,List.map_drop]
  rw[hins]
  generalize hps':ps.take (t.put j).2 ++ (a,p) :: ps.drop (t.put j).2=ps1
  have mem1:∀q,q∈ps1↔q∈ps\/q=(a,p):=λq=>by
   rw[<-hps',M6,MN]
   conv=>rhs;rw[<-List.take_append_drop (t.put j).2 ps,M6]
   constructor
   ·rintro (z |z |z)
    ·exact .inl (.inl z)
    ·exact .inr z
    ·exact .inl (.inr z)
   ·rintro ((z |z) |z)
    ·exact .inl z
    ·exact .inr (.inr z)
    ·exact .inr (.inl z)
  have len1:ps1.length=ps.length + 1:=by rw[<-hps'];simp;omega
  have nd1:(ps1.map (·.2)).Nodup:=by
   have hnot:p∉ps.map (·.2):=λz=>by
    obtain⟨q,hq,e⟩:=MQ.mp z
    exact hm (MQ.mpr ⟨q,hq,by rw[e]⟩)
   have perm:(ps1.map (·.2)).Perm (p :: ps.map (·.2)):=by
    rw[<-hps']
    have:(ps.take (t.put j).2 ++ (a,p) :: ps.drop (t.put j).2).Perm ((a,p) :: ps):=by
     refine List.perm_middle.trans ?_
     rw[List.take_append_drop]
    exact this.map (·.2)
   exact perm.nodup_iff.mpr (Nq.mpr ⟨hnot,P.nd⟩)
  have ne:∀b q,bS prog w s.heap q b->b≠S:=λb q ⟨o',_,_,ho',_,hd',_⟩ e=>by
   subst e
   rw[ho] at ho';cases ho'
   rw[hd] at hd';cases hd'
  have at1:∀{h':Heap},Heap.SameBut S s.heap h'->∀q,q∈ps1->bS prog w h' q.2 q.1/\Sm q.2:=λ{h'} hsb q hq=>by
   have key:∀{b:Addr} {q:Pr},bS prog w s.heap q b->bS prog w h' q b:=λ{b q} hb=>by
    have hne:=ne b q hb
    obtain⟨o',i',n',ho',r'⟩:=hb
    exact⟨o',i',n',(hsb.2 b hne).trans ho',r'⟩
   rcases (mem1 q).mp hq with z |z
   ·exact⟨key (P.at' q z).1,(P.at' q z).2⟩
   ·subst z;exact⟨key hk,hs⟩
  have hlen64:ps1.length<=64:=by
   have:=xE nd1 λx hx=>by
    obtain⟨q,hq,rfl⟩:=MQ.mp hx
    exact (at1 (Heap.SameBut.refl ..) q hq).2
   simpa using this
  have hsize:((ps1.map (fg f)).toArray).size<=sizeLine:=by rw[Ni];simp;omega
  refine MF (wpAny_storeSet_of ho hd ?_ hsize)
  have ho1:(s.heap.update S (Obj.putSet (ps1.map (fg f)).toArray (t.put j).1)).get? S=some {o with data:=.set (ps1.map (fg f)).toArray (ep + 1) (t.put j).1}:=by
   have:=NG (Obj.putSet (ps1.map (fg f)).toArray (t.put j).1) ho (by rw[putSet_of _ _ hd];rfl)
   rw[putSet_of _ _ hd] at this;exact this
  have sb1:=Heap.SameBut.update s.heap S (Obj.putSet (ps1.map (fg f)).toArray (t.put j).1)
  have hex1:({o with data:=.set (ps1.map (fg f)).toArray (ep + 1) (t.put j).1}:Obj).ExactSet:=hex
  have psz:(t.put j).1.place.size=ps.length + 1:=by
   rw[q1]
   show (insertAt t.place (below t.place j) j).size=_
   rw[<-OS,b9 _ _ _ (eG T.rise j).1]
   have:=T.size
   simp at this ⊢
   have:=(eG T.rise j).1
   omega
  have dum1:(t.put j).1.dummies=#[]:=by rw[q1];exact T.dum
  have mask1:(t.put j).1.mask=t.mask:=by rw[q1]
  have tsz:t.place.size=ps.length:=by simpa using T.size
  simp only[Bool.not_false,Bool.true_and]
  cases htf:(t.put j).1.tooFull with
  |false=>
   simp only[MZ,Nx]
   have hload:(t.place.size + 1) * 5 < t.mask * 3:=by
    unfold SetTable.tooFull SetTable.fill at htf
    rw[psz,dum1,mask1] at htf
    simp at htf
    rw[tsz];exact htf
   obtain⟨T1,_⟩:=T.put e2 e3 e4 hload
   refine MF (MI (MI (h true _ ps1 sb1 ⟨⟨_,ep + 1,_,ho1,hex1,rfl,?_,?_⟩,at1 sb1,nd1⟩ (λq hq=>(mem1 q).mp hq) (λq hq=>(mem1 q).mpr (.inl hq)) ⟨(a,p),(mem1 _).mpr (.inr rfl),rfl⟩)))
   ·rw[<-hps']
    simpa[List.map_take,List.map_drop] using T1
   ·rw[q1];exact hled
  |true=>
   simp only[NN]
   have hfull:t.mask * 3<=(ps.length + 1) * 5:=by
    unfold SetTable.tooFull SetTable.fill at htf
    rw[psz,dum1,mask1] at htf
    simpa using htf
   have hload:=T.load
   rw[tsz] at hload
   have hcase:∃mask',CM mask'/\sizeAbove (grown (ps.length + 1)) - 1=mask'/\sizeAbove (grown (ps.length + 1))<=sizeLine/\(ps.length + 1) * 5 < mask' * 3:=by
    rcases T.mask with e |e |e
    ·have:ps.length + 1=5:=by rw[e] at hfull hload;omega
     rw[this,Gy.1]
     exact⟨31,.inr (.inl rfl),rfl,by rw[Ni];decide,by decide⟩
    ·have:ps.length + 1=19:=by rw[e] at hfull hload;omega
     rw[this,Gy.2]
     exact⟨127,.inr (.inr rfl),rfl,by rw[Ni];decide,by decide⟩
    ·rw[e] at hfull;omega
   obtain⟨mask',hm3,em,hline,hl2⟩:=hcase
   have hes:(ps.map (fg f)).toArray.size + 1=ps.length + 1:=by simp
   rw[hes,C6]
   have hfit1:(t.put j).1.fits ((ps1.map (fg f)).toArray).size=true:=by
    unfold SetTable.fits SetTable.fill
    have hpl2:ps.length + 1<=t.mask:=by
     rcases T.mask with e |e |e <;> rw[e] at hload ⊢ <;> omega
    rw[psz,dum1,mask1]
    simp[len1,hpl2]
   refine MF (MF (NL ho1 rfl hfit1 ?_))
   dsimp only
   rw[MO (by omega)]
   rw[wj _ _ _ hpl,em]
   obtain⟨t2,order,ps2,g1,g2,g3,g4,g5,g6⟩:=uL f hm3 (ps:=ps1) (by rw[len1];exact hl2) (t.put j).1.finger ((t.put j).1.movedTo mask') (t.put j).1.led
   rw[g1]
   simp only[bind_pure_comp,pure_bind]
   rw[g2]
   have hne:((ps2.map (fg f)).toArray.size != (ps1.map (fg f)).toArray.size)=false:=by simp[g3]
   rw[hne]
   simp only[MZ,Nx]
   have hsize2:((ps2.map (fg f)).toArray).size<=sizeLine:=by rw[Ni];simp;omega
   refine MF (MI ?_)
   refine wpAny_storeSet_of ho1 rfl ?_ hsize2
   have ho2:((s.heap.update S (Obj.putSet (ps1.map (fg f)).toArray (t.put j).1)).update S (Obj.putSet (ps2.map (fg f)).toArray t2)).get? S=some {o with data:=.set (ps2.map (fg f)).toArray (ep + 1 + 1) t2}:=by
    have:=NG (Obj.putSet (ps2.map (fg f)).toArray t2) ho1 (by rw[putSet_of (ep:=ep + 1) _ _ rfl];rfl)
    rw[putSet_of (ep:=ep + 1) _ _ rfl] at this;exact this
   have sb2:=sb1.trans (Heap.SameBut.update _ S (Obj.putSet (ps2.map (fg f)).toArray t2))
   have nd2:(ps2.map (·.2)).Nodup:=by
    have hmem:∀q,q∈ps2.map (·.2)↔q∈ps1.map (·.2):=λq=>by
     rw[MQ,MQ]
     exact⟨λ⟨x,hx,e⟩=>⟨x,(g4 x).mp hx,e⟩,λ⟨x,hx,e⟩=>⟨x,(g4 x).mpr hx,e⟩⟩
    have hnd:(ps2.map λq=>f q.2).Nodup:=by
     refine oz (m:=ps1.map λq=>f q.2) ?_ (λx hx=>?_) (by simp[g3])
     ·have:(ps1.map λq=>f q.2)=(ps1.map (·.2)).map f:=by simp
      rw[this]
      refine NC.mpr (NX ?_ nd1)
      intro x y hx hy hxy e
      obtain⟨q,hq,rfl⟩:=MQ.mp hx
      obtain⟨r,hr,rfl⟩:=MQ.mp hy
      exact hxy (hinj _ _ (at1 sb1 q hq).2 (at1 sb1 r hr).2 e)
     ·obtain⟨q,hq,rfl⟩:=MQ.mp hx
      exact MQ.mpr ⟨q,(g4 q).mpr hq,rfl⟩
    have:(ps2.map λq=>f q.2)=(ps2.map (·.2)).map f:=by simp
    rw[this] at hnd
    exact (NC.mp hnd).imp λhxy e=>hxy (by rw[e])
   refine MI (h true _ ps2 sb2 ⟨⟨_,ep + 1 + 1,t2,ho2,hex,rfl,g5,?_⟩,λq hq=>at1 sb2 q ((g4 q).mp hq),nd2⟩ (λq hq=>(mem1 q).mp ((g4 q).mp hq)) (λq hq=>(g4 q).mpr ((mem1 q).mpr (.inl hq))) ⟨(a,p),(g4 _).mpr ((mem1 _).mpr (.inr rfl)),rfl⟩)
   rw[g6,q1];exact hled
end
def jN (w:World):Bool:= !(w.params.followText "set-order")
def Bz (prog:Program)(w:World)(p:Pr):Int:=tupleKeyHash (intKind prog w) [p.1,p.2]
def EI (prog:Program)(w:World):∀p q,Sm p->Sm q->Bz prog w p=Bz prog w q->p=q:=λp q h1 h2 e=>HI h1 h2 e
section
variable {prog:Program}{w:World}{A:Around}{E:Value->Shared->Prop}{s:Shared}{R:Result->Shared->Prop}{I:Addr}{fp wr:List Addr}{n:Nat}{P:Nat->Value->Prop}{St:Nat->Heap->Prop}
def dE (prog:Program)(w:World)(h:Heap)(vs:List Value)(ps:List Pr):Prop:=vs.length=ps.length/\∀(i:Nat) (v:Value) (p:Pr),vs[i]? =some v->ps[i]? =some p->∃a,v=.ref a/\bS prog w h p a/\Sm p
abbrev pd (prog:Program)(w:World)(h:Heap)(S:Addr)(vs:List Value)(ps:List Pr)(k:Nat):Prop:=∃qs:List (Addr×Pr),uO (Bz prog w) prog w (jN w) h S qs/\
 (∀q,q∈qs->Value.ref q.1∈vs.take k/\q.2∈ps.take k)/\∀p,p∈ps.take k->p∈qs.map (·.2)
theorem ni (W:Walks prog w A.in1 I fp wr n P St)(S:Addr)(hSf:S∉fp){vs:List Value}{ps:List Pr}(hn:vs.length=n)(hP:∀i v,P i v->vs[i]? =some v)(hu:A.in1.units < cLine)(h₀:Heap)
  (hps:dE prog w h₀ vs ps) (hwr:∀b o,b∈S :: wr->h₀.get? b=some o->False):∀(k i:Nat) (s:Shared),n - i=k->i<=n->St i s.heap->(∀b o,h₀.get? b=some o->s.heap.get? b=some o)->pd prog w s.heap S vs ps i->
   (∀h' tk,(∀b o,b∉S :: wr->s.heap.get? b=some o->h'.get? b=some o)->pd prog w h' S vs ps n->R (.ok (.ret .none)) {s with heap:=h',toks:=tk})->
   codeAny (model prog w) A (.builtin "set.update.loop" ⟨[.ref S,.ref I],[]⟩) R s:=by
 have nw:S∉wr:=λh=>hSf (W.sub _ h)
 intro k
 induction k with
 |zero=>
  intro i s hk hi hst hk0 hF hR
  obtain rfl:i=n:=by omega
  refine Oi PyProof.Rows.F.entry_set_update_loop ?_
  rw[N6 Ow _]
  show wpAny _ A.in1 (pyNext (.ref I) >>= λr=>_) _ _ s
  refine MF (W.done s _ _ hst λh' tk hm=>?_)
  show wpAny _ A.in1 (ret Value.none) _ _ _
  refine MI (hR h' tk (λb o hb e=>hm b o (λz=>hb (MM _ z)) e) ?_)
  obtain⟨qs,Q1,Q2,Q3⟩:=hF
  obtain⟨o,ep,t,ho,r⟩:=Q1.ex
  refine⟨qs,⟨⟨o,ep,t,hm S o nw ho,r⟩,λq hq=>⟨?_,(Q1.at' q hq).2⟩,Q1.nd⟩,Q2,Q3⟩
  obtain⟨m,hm1,hm2⟩:=Nr.mp (N1 (Q2 q hq).1)
  have hm1':m < ps.length:=by rw[<-hps.1];exact hm1
  obtain⟨a,ea,ha,_⟩:=hps.2 m vs[m] ps[m] (MG hm1) (MG hm1')
  rw[hm2] at ea
  cases ea
  obtain⟨o',it',n',ho',r'⟩:=(Q1.at' q hq).1
  obtain⟨o2,it2,n2,ho2,r2⟩:=ha
  have:o'=o2:=Option.some.inj (ho'.symm.trans (hk0 _ _ ho2))
  subst this
  exact⟨o',it',n',hm _ _ (λz=>hwr _ _ (MM _ z) ho2) ho',r'⟩
 |succ k ih=>
  intro i s hk hi hst hk0 hF hR
  have hlt:i < n:=by omega
  refine Oi PyProof.Rows.F.entry_set_update_loop ?_
  rw[N6 Ow _]
  show wpAny _ A.in1 (pyNext (.ref I) >>= λr=>_) _ _ s
  refine MF (W.item i s _ _ hlt hst λv h1 tk1 hv hst1 hm=>?_)
  have hvi:=hP i v hv
  have hip:i < ps.length:=by rw[<-hps.1,hn];exact hlt
  obtain⟨a,rfl,ha,hsm⟩:=hps.2 i v ps[i] hvi (MG hip)
  have k1:∀b o,h₀.get? b=some o->h1.get? b=some o:=λb o e=>hm b o (λz=>hwr b o (MM _ z) e) (hk0 b o e)
  obtain⟨qs,Q1,Q2,Q3⟩:=hF
  have old:∀{q:Addr×Pr} {h:Heap},q∈qs->(∀b o,h₀.get? b=some o->h.get? b=some o)->bS prog w h q.2 q.1:=λ{q h} hq kk=>by
   obtain⟨m,hm1,hm2⟩:=Nr.mp (N1 (Q2 q hq).1)
   have hm1':m < ps.length:=by rw[<-hps.1];exact hm1
   obtain⟨a,ea,ha,_⟩:=hps.2 m vs[m] ps[m] (MG hm1) (MG hm1')
   rw[hm2] at ea
   cases ea
   obtain⟨o',it',n',ho',r'⟩:=(Q1.at' q hq).1
   obtain⟨o2,it2,n2,ho2,r2⟩:=ha
   have:o'=o2:=Option.some.inj (ho'.symm.trans (hk0 _ _ ho2))
   subst this
   exact⟨o',it',n',kk _ _ ho2,r'⟩
  have P1:uO (Bz prog w) prog w (jN w) h1 S qs:=by
   obtain⟨o,ep,t,ho,r⟩:=Q1.ex
   exact⟨⟨o,ep,t,hm S o nw ho,r⟩,λq hq=>⟨old hq k1,(Q1.at' q hq).2⟩,Q1.nd⟩
  have ha1:bS prog w h1 ps[i] a:=by
   obtain⟨o',it',n',ho',r'⟩:=ha
   exact⟨o',it',n',k1 _ _ ho',r'⟩
  show wpAny _ A.in1 (holding [Value.ref a] (setAdd S (.ref a)) >>= λ_=>_) _ _ _
  refine MF (NP ?_)
  unfold setAdd
  refine NP (MF (wpAny_pyHash_tuple hu ha1 ?_))
  refine uO.add (EI prog w) (s:={s with heap:=h1,toks:=tk1 + ([ps[i].1,ps[i].2].length + 1)}) P1 ha1 hsm hu λb h2 qs' sb P2 m1 m2 m3=>?_
  have sbS:∀b o,h₀.get? b=some o->h2.get? b=some o:=λb o e=>(sb.2 b (λz=>hwr b o (by rw[z];exact MP) e)).trans (k1 b o e)
  refine MI ⟨O5 Ow _,ih (i + 1) _ (by omega) hlt (W.frame _ _ _ hst1 λb hb o e=>?_) sbS ⟨qs',P2,λq hq=>?_,λp hp=>?_⟩ λh' tk hm' F'=>?_⟩
  ·rw[sb.2 b λz=>hSf (by rw[<-z];exact hb)];exact e
  ·have htk:∀{α:Type} {l:List α} {x:α},x∈l.take i->x∈l.take (i + 1):=λ{α l x} hx=>by
    rw[OE];exact Og _ hx
   rcases m1 q hq with z |z
   ·exact⟨htk (Q2 q z).1,htk (Q2 q z).2⟩
   ·subst z
    refine⟨?_,?_⟩
    ·rw[OE,hvi];exact Nt _ (by simp)
    ·rw[OE,MG hip];exact Nt _ (by simp)
  ·rw[OE,MG hip] at hp
   rcases M6.mp hp with z |z
   ·obtain⟨q,hq,rfl⟩:=MQ.mp (Q3 p z)
    exact MQ.mpr ⟨q,m2 q hq,rfl⟩
   ·have:p=ps[i]:=by simpa using z
    obtain⟨q,hq,e⟩:=m3
    exact MQ.mpr ⟨q,hq,by rw[e,this]⟩
  ·refine hR h' tk (λb o hb e=>hm' b o hb ?_) F'
   show h2.get? b=some o
   rw[sb.2 b λz=>hb (by rw[z];exact MP)]
   exact hm b o (λz=>hb (MM _ z)) e
def vF (a:Value){Q1:Value->Shared->Prop}
  (h:Q1 (.ref s.heap.objs.size) {s with heap:=s.heap.push {cls:=.type "set",dict:=none,data:=.set #[] 0 (.fresh 0 0 (jN w))}}) :
  codeAny (model prog w) A (.call (.builtin "set.__new__") ⟨[.type "set",a],[]⟩) (wants Q1 E) s:=by
 refine codeAny_of_tree ?_
 show wpAny _ A.in1 (do (checkBuiltinCall "set.__new__" ⟨[.type "set",a],[]⟩);again (.builtin "set.__new__" ⟨[.type "set",a],[]⟩)) _ _ s
 refine MF (wpAny_of_eq (F.newCall_set_1 a) (MI ⟨O5 F.plain_set_new _,Oi F.entry_set_new ?_⟩))
 rw[N6 F.plain_set_new _]
 (unfold Builtin.«set.__new__» Builtin.Frozenset.newClass)
 have hsub0:=sub_set_self
 obtain⟨hp0,g0,d0,tk0,os0⟩:=s
 dsimp only
 wp_walk
 (refine O4 (MI ?_))
 dsimp only
 simp only[newObj]
 (refine MF (wpAny_alloc (MI ?_)))
 exact MI h
def Af (led:Bool):Tab (.fresh 0 0 led) []:=
 ⟨.inl rfl,rfl,List.Pairwise.nil,λj h=>(by cases (OF.mpr h)),rfl,(by show (0:Nat) * 5 < 7 * 3;decide),λi j h e=>(by simp[SetTable.fresh] at e),rfl⟩
structure Src (prog:Program)(w:World)(h:Heap)(l:Addr)(vs:List Value)(T:String)(itO:Obj)(St:Addr->Nat->Heap->Prop):Prop where
 ty:∃o,h.get? l=some o/\o.cls=.type T
 ns:isSubtype (.type T) (.type "set")=pure false
 nf:isSubtype (.type T) (.type "frozenset")=pure false
 nd:(Value.type T == Value.type "dict")=false
 it:∀(A:Around) (s1:Shared) (Q:Value->Shared->Prop) (E:Value->Shared->Prop),(∀b o,h.get? b=some o->s1.heap.get? b=some o)->Q (.ref s1.heap.objs.size) {s1 with heap:=s1.heap.push itO}->wpAny (model prog w) A (pyIter (.ref l)) Q E s1
 st:∀(h1:Heap),(∀b o,h.get? b=some o->h1.get? b=some o)->St h1.objs.size 0 (h1.push itO)
 wk:∀(A:Around) (I:Addr),A.handled=none->l≠I->Walks prog w A I [I,l] [I] vs.length (λi v=>vs[i]? =some v) (St I)
def Src.list {h:Heap}{l:Addr}{vs:List Value}(hl:h.IsList l vs.toArray):Src prog w h l vs "list" {cls:=.type "list_iterator",data:=.fields #[.ref l,.int 0 0]} (λI i h'=>h'.IsListIter I l i/\h'.IsList l vs.toArray):=by
 obtain⟨o,ho,hc,n,hd⟩:=id hl
 refine⟨⟨o,ho,hc⟩,F.sub_list_set,F.sub_list_frozenset,by decide,λA s1 Q E k hQ=>OD ⟨o,k _ _ ho,hc,n,hd⟩ hQ,λh1 k=>⟨⟨_,MX _ rfl,rfl,rfl⟩,⟨o,MH _ (k _ _ ho),hc,n,hd⟩⟩,λA I hh hne=>?_⟩
 have:=Walks.list (prog:=prog) (w:=w) hh I l hne vs.toArray
 simpa using this
def sub_tuple_set:isSubtype (.type "tuple") (.type "set")=pure false:=by rw[Ov];kernel_rfl
def sub_tuple_frozenset:isSubtype (.type "tuple") (.type "frozenset")=pure false:=by rw[Ov];kernel_rfl
def Src.tuple {h:Heap}{l:Addr}{vs:List Value}(hl:h.IsTuple l vs.toArray):Src prog w h l vs "tuple" {cls:=.type "tuple_iterator",data:=.fields #[.ref l,.int 0 0]} (λI i h'=>h'.IsTupleIter I l i/\h'.IsTuple l vs.toArray):=by
 obtain⟨o,ho,hc,n,hd⟩:=id hl
 refine⟨⟨o,ho,hc⟩,sub_tuple_set,sub_tuple_frozenset,by decide,λA s1 Q E k hQ=>wpAny_pyIter_tuple ⟨o,k _ _ ho,hc,n,hd⟩ hQ,λh1 k=>⟨⟨_,MX _ rfl,rfl,rfl⟩,⟨o,MH _ (k _ _ ho),hc,n,hd⟩⟩,λA I hh hne=>?_⟩
 have:=Walks.tuple (prog:=prog) (w:=w) hh I l hne vs.toArray
 simpa using this
set_option maxHeartbeats 3200000 in
theorem qp {l:Addr}{vs:List Value}{ps:List Pr}{T:String}{itO:Obj}{St:Addr->Nat->Heap->Prop}{Q:Value->Shared->Prop}(X:Src prog w s.heap l vs T itO St)(hh:A.handled=none)(hu:A.units + 64 < cLine)(hps:dE prog w s.heap vs ps)
  (h:∀(h':Heap) (tk:Nat),pd prog w h' s.heap.objs.size vs ps vs.length->(∀b o,s.heap.get? b=some o->h'.get? b=some o)->Q (.ref s.heap.objs.size) {s with heap:=h',toks:=tk}) :
  wpAny (model prog w) A (call (.type "set") [.ref l]) Q E s:=by
 obtain⟨c0,tl0,hmro0⟩:=OL.mro
 have hmade0:=OL.made
 have hsub0:=OL.sub
 refine wpAny_call (codeAny_of_tree ?_)
 show wpAny _ _ (callAny (.type "set") ⟨[.ref l],[]⟩) _ _ _
 refine MI ⟨Code.quiet_builtin _ (by decide +kernel),Oi F.entry_type_call ?_⟩
 (rw[Around.under_plain (weight_type_call_type "set" [.ref l] []) rfl])
 have g1:=OL.notType
 have g2:=OL.canCreate
 have g3:=F.typeCall_set_1 (.ref l)
 repeat (any_goals (first |assumption |wp_step))
 refine Pc (vF (.ref l) (E:=E) (Q1:=λobj s1=>obj=.ref s.heap.objs.size/\s1={s with heap:=s.heap.push {cls:=.type "set",dict:=none,data:=.set #[] 0 (.fresh 0 0 (jN w))}}) ⟨rfl,rfl⟩) λr s1 hr=>?_
 cases r with
 |error e=>exact hr
 |ok fl=>
  cases fl with
  |ret obj=>
   obtain⟨rfl,rfl⟩:=hr
   generalize hO:({cls:=.type "set",dict:=none,data:=.set #[] 0 (.fresh 0 0 (jN w))}:Obj)=O
   have hS0:(s.heap.push O).get? s.heap.objs.size=some O:=MX _ (by rw[<-hO];rfl)
   have hT0:Shared.TypeIs {s with heap:=s.heap.push O} (.ref s.heap.objs.size) "set":=⟨_,hS0,by rw[<-hO]⟩
   have g4:=OL.init.lookup
   have g5:=OL.init.bind (.ref s.heap.objs.size)
   repeat (any_goals (first |assumption |wp_step))
   refine Pc (codeAny_call_builtin (R:=wants (λr s2=>r=.none/\∃h' tk,s2={s with heap:=h',toks:=tk}/\pd prog w h' s.heap.objs.size vs ps vs.length/\(∀b o,s.heap.get? b=some o->h'.get? b=some o)) E)
    OL.init.plain F.entry_set_init (check_set_init_1 hT0 ?_)) λr2 s2 hr2=>?_
   ·obtain⟨ol,hol,hcl⟩:=X.ty
    have hol':(s.heap.push O).get? l=some ol:=MH _ hol
    have e1:=X.ns
    have e2:=X.nf
    have e3:=X.nd
    have hTl:Shared.TypeIs {s with heap:=s.heap.push O} (.ref l) T:=⟨ol,hol',hcl⟩
    have hdat:O.data=.set #[] 0 (.fresh 0 0 (jN w)):=by rw[<-hO]
    (unfold Builtin.«set.__init__» noKeywords Builtin.Frozenset.updateFrom)
    subst hO
    obtain⟨oc,od,odt,osl⟩:=ol
    simp only at hcl
    subst hcl
    (generalize hPI0:pyIter=PI0)
    wp_walk
    subst hPI0
    have kp:∀b o,s.heap.get? b=some o->(s.heap.push {cls:=.type "set",dict:=none,data:=.set #[] 0 (.fresh 0 0 (jN w))}).get? b=some o:=λb o e=>MH _ e
    refine X.it _ _ _ _ kp ?_
    refine MF (wpAny_runValue ?_)
    have hlS:l < s.heap.objs.size:=MT hol
    have hh3:A.in1.in1.in1.handled=none:=by simp[hh]
    have hneI:l≠(s.heap.push {cls:=.type "set",dict:=none,data:=.set #[] 0 (.fresh 0 0 (jN w))}).objs.size:=by
     rw[OI];exact Nl (Nat.lt_succ_of_lt hlS)
    have hSf:s.heap.objs.size∉ [(s.heap.push {cls:=.type "set",dict:=none,data:=.set #[] 0 (.fresh 0 0 (jN w))}).objs.size,l]:=by
     rw[OI]
     intro z
     rcases MN.mp z with e |z
     ·exact absurd e (Nl (Nat.lt_succ_self _))
     ·exact absurd (Nc.mp z) (Nat.ne_of_gt hlS)
    refine ni (X.wk _ _ hh3 hneI) s.heap.objs.size hSf rfl (λi v e=>e) (by simp;omega) s.heap hps (λb o hb e=>?_) (vs.length - 0) 0 _ (by omega) (Nm _) (X.st _ kp) (λb o e=>MH _ (kp b o e)) ?_ ?_
    ·have hlt:=MT e
     rw[OI] at hb
     rcases MN.mp hb with z |z
     ·exact absurd hlt (by rw[z];exact Ny _)
     ·rw[Nc.mp z] at hlt
      exact absurd hlt (Nat.not_lt.mpr (Nat.le_succ _))
    ·refine⟨[],⟨⟨_,0,_,MH _ hS0,⟨rfl,rfl,rfl⟩,rfl,Af _,rfl⟩,λq hq=>(by cases hq),OH⟩,λq hq=>(by cases hq),λp hp=>(by simp at hp)⟩
    ·intro h' tk hm F'
     show wpAny _ _ _ _ _ _
     refine MI ?_
     show wpAny _ _ (ret Value.none) _ _ _
     refine MI ⟨rfl,h',tk,rfl,F',λb o e=>hm b o (λz=>?_) (MH _ (kp b o e))⟩
     have hlt:=MT e
     rw[OI] at z
     rcases MN.mp z with z |z
     ·exact absurd hlt (by rw[z];exact Ny _)
     ·rw[Nc.mp z] at hlt
      exact absurd hlt (Nat.not_lt.mpr (Nat.le_succ _))
   ·cases r2 with
    |error e=>exact hr2
    |ok fl2=>
     cases fl2 with
     |ret r=>
      obtain⟨rfl,h',tk,rfl,hF,hk⟩:=hr2
      repeat (any_goals (first |assumption |wp_step))
      exact h _ _ hF hk
     |_=>exact hr2.elim
  |_=>exact hr.elim
end
end L2.ST
namespace L2.SO
open PySem PySem.W PyProof.Rows
def kB {α:Type}(lt:Nat->Nat->Bool):KasT α->α
 | .ret a=>a
 | .ask i j k=>kB lt (k (lt i j))
theorem gf {α β:Type}(lt:Nat->Nat->Bool)(f:α->KasT β):∀t:KasT α,kB lt (t.bind f)=kB lt (f (kB lt t))
 | .ret _=>rfl
 | .ask i j k=>gf lt f (k (lt i j))
def u0 {α:Type}(n:Nat)(lt:Nat->Nat->Bool):KasT α->Prop
 | .ret _=>True
 | .ask i j k=>i < n/\j < n/\u0 n lt (k (lt i j))
theorem iG {α β:Type}{n:Nat}{lt:Nat->Nat->Bool}{f:α->KasT β}:∀{t:KasT α},u0 n lt t->u0 n lt (f (kB lt t))->u0 n lt (t.bind f)
 | .ret _,_,h=>h
 | .ask i j k,h,h'=>⟨h.1,h.2.1,iG h.2.2 h'⟩
section
variable {n:Nat}{key:Nat->Int}
abbrev oK (key:Nat->Int)(i j:Nat):Bool:=decide (key i < key j)
abbrev Kp (key:Nat->Int)(p:Array Nat)(k:Nat):Int:=key (p.getD k 0)
structure Pm (n:Nat)(p:Array Nat):Prop where
 sz:p.size=n
 nd:p.toList.Nodup
 lt:∀x,x∈p->x < n
def Pm.at {p:Array Nat}(P:Pm n p){k:Nat}(hk:k < n):p.getD k 0 < n:=by
 have h:k < p.size:=by rw[P.sz];exact hk
 simp only[Array.getD,h,dif_pos]
 exact P.lt _ (Pk h)
def Pm.ne {p:Array Nat}(P:Pm n p){i k:Nat}(hi:i < n)(hk:k < n)(hne:i≠k):p.getD i 0≠p.getD k 0:=by
 have h1:i < p.toList.length:=by simpa using (by rw[P.sz];exact hi:i < p.size)
 have h2:k < p.toList.length:=by simpa using (by rw[P.sz];exact hk:k < p.size)
 have h1':i < p.size:=by rw[P.sz];exact hi
 have h2':k < p.size:=by rw[P.sz];exact hk
 have a1:p.getD i 0=p.toList[i]:=by simp[Array.getD,h1']
 have a2:p.getD k 0=p.toList[k]:=by simp[Array.getD,h2']
 rw[a1,a2]
 have q:=OG.mp P.nd
 rcases NU i k with c |c
 ·exact q i k h1 h2 c
 ·exact (q k i h2 h1 (by omega)).symm
def Pm.perm {p q:Array Nat}(P:Pm n p)(h:q.Perm p):Pm n q:=by
 have h':=Array.perm_iff_toList_perm.mp h
 exact⟨by rw[h.size_eq];exact P.sz,h'.nodup_iff.mpr P.nd,λx hx=>P.lt x (by simpa using h'.mem_iff.mp (by simpa using hx))⟩
def vT (n:Nat):Pm n (List.toArray (List.range n)):=⟨by simp,by simpa using Ou,λx hx=>by simpa using hx⟩
def Inj (n:Nat)(key:Nat->Int):Prop:=∀i j,i < n->j < n->key i=key j->i=j
def Pm.tri {p:Array Nat}(P:Pm n p)(hi:Inj n key){i k:Nat}(h1:i < n)(h2:k < n)(hne:i≠k):Kp key p i < Kp key p k\/Kp key p k < Kp key p i:=by
 have:Kp key p i≠Kp key p k:=λe=>P.ne h1 h2 hne (hi _ _ (P.at h1) (P.at h2) e)
 omega
def Up (key:Nat->Int)(p:Array Nat)(m:Nat):Prop:=∀i j,i < j->j < m->Kp key p i < Kp key p j
def Dn (key:Nat->Int)(p:Array Nat)(m:Nat):Prop:=∀i j,i < j->j < m->Kp key p j < Kp key p i
def Up.snoc {p:Array Nat}{m:Nat}(U:Up key p m)(h1:1<=m)(h:Kp key p (m - 1) < Kp key p m):Up key p (m + 1):=λi j hij hj=>by
 rcases NU j m with c |c
 ·exact U i j hij c
 ·have:j=m:=by omega
  subst this
  rcases NU i (j - 1) with d |d
  ·exact Int.lt_trans (U i (j - 1) d (by omega)) h
  ·have:i=j - 1:=by omega
   rw[this];exact h
def Dn.snoc {p:Array Nat}{m:Nat}(U:Dn key p m)(h1:1<=m)(h:Kp key p m < Kp key p (m - 1)):Dn key p (m + 1):=λi j hij hj=>by
 rcases NU j m with c |c
 ·exact U i j hij c
 ·have:j=m:=by omega
  subst this
  rcases NU i (j - 1) with d |d
  ·exact Int.lt_trans h (U i (j - 1) d (by omega))
  ·have:i=j - 1:=by omega
   rw[this];exact h
theorem pQ {p:Array Nat}(P:Pm n p)(hi:Inj n key):∀(f m:Nat),1<=m->m + f<=n->Up key p m->
  ∃r,(kB (oK key) (kas_asc p f m)=r/\u0 n (oK key) (kas_asc p f m))/\m<=r/\r<=m + f/\Up key p r/\(r < m + f->Kp key p r < Kp key p (r - 1))
 | 0,m,_,_,U=>⟨m,⟨rfl,trivial⟩,MK _,MK _,U,λh=>absurd h (Ny _)⟩
 |f + 1,m,h1,hn,U=>by
  have b1:p.getD m 0 < n:=P.at (by omega)
  have b2:p.getD (m - 1) 0 < n:=P.at (by omega)
  unfold kas_asc kB u0
  by_cases c:Kp key p m < Kp key p (m - 1)
  ·rw[show oK key (p.getD m 0) (p.getD (m - 1) 0)=true from MR c]
   simp only[NN]
   exact⟨m,⟨rfl,b1,b2,trivial⟩,MK _,by omega,U,λ_=>c⟩
  ·rw[show oK key (p.getD m 0) (p.getD (m - 1) 0)=false from MW c]
   simp only[MZ,Nx]
   have up:Kp key p (m - 1) < Kp key p m:=(P.tri hi (by omega) (by omega) (by omega)).resolve_right c
   obtain⟨r,⟨e,o⟩,a,b,u,d⟩:=pQ P hi f (m + 1) (by omega) (by omega) (U.snoc h1 up)
   exact⟨r,⟨e,b1,b2,o⟩,by omega,by omega,u,λh=>d (by omega)⟩
theorem sF {p:Array Nat}(P:Pm n p)(hi:Inj n key):∀(f m:Nat),1<=m->m + f<=n->Dn key p m->
  ∃r,(kB (oK key) (kas_desc f p m 0)=(p,r,0)/\u0 n (oK key) (kas_desc f p m 0))/\m<=r/\r<=m + f/\Dn key p r
 | 0,m,_,_,U=>⟨m,⟨rfl,trivial⟩,MK _,MK _,U⟩
 |f + 1,m,h1,hn,U=>by
  have b1:p.getD m 0 < n:=P.at (by omega)
  have b2:p.getD (m - 1) 0 < n:=P.at (by omega)
  unfold kas_desc kB u0
  by_cases c:Kp key p m < Kp key p (m - 1)
  ·rw[show oK key (p.getD m 0) (p.getD (m - 1) 0)=true from MR c]
   simp only[NN,Ny,gt_iff_lt,Nx]
   obtain⟨r,⟨e,o⟩,a,b,u⟩:=sF P hi f (m + 1) (by omega) (by omega) (U.snoc h1 c)
   exact⟨r,⟨e,b1,b2,o⟩,by omega,by omega,u⟩
  ·rw[show oK key (p.getD m 0) (p.getD (m - 1) 0)=false from MW c]
   simp only[MZ,Nx]
   unfold kB u0
   have up:Kp key p (m - 1) < Kp key p m:=(P.tri hi (by omega) (by omega) (by omega)).resolve_right c
   rw[show oK key (p.getD (m - 1) 0) (p.getD m 0)=true from MR up]
   simp only[NN]
   exact⟨m,⟨rfl,b1,b2,b2,b1,trivial⟩,MK _,by omega,U⟩
def Dc {p:Array Nat}{j k:Nat}(hj:j<=p.size)(hk:k < j):(kas_rev p 0 j).getD k 0=p.getD (j - 1 - k) 0:=by
 unfold kas_rev
 rw[Nw,getElem?_mirror_all hj k,MJ ⟨Nm _,hk⟩,Nw]
 congr 2
 omega
def Hq {p:Array Nat}{m:Nat}(hm:m<=p.size)(D:Dn key p m):Up key (kas_rev p 0 m) m:=λi j hij hj=>by
 unfold Kp
 rw[Dc hm (by omega),Dc hm hj]
 exact D (m - 1 - j) (m - 1 - i) (by omega) (by omega)
def Pm.rev {p:Array Nat}(P:Pm n p)(j:Nat):Pm n (kas_rev p 0 j):=P.perm (mirror_perm ..)
def xH {p:Array Nat}(P:Pm n p)(hi:Inj n key)(h1:1<=n) :
  ∃m q,(kB (oK key) (kas_count n p)=(m,q)/\u0 n (oK key) (kas_count n p))/\Pm n q/\1<=m/\m<=n/\Up key q m:=by
 obtain⟨r,⟨e,o⟩,a,b,u,d⟩:=pQ P hi (n - 1) 1 (MK _) (by omega) (λi j hij hj=>by omega)
 have rest:∃m q,(kB (oK key) (if (r == n)=true then KasT.ret (r,p) else if r > 1 then .ask (p.getD 0 0) (p.getD (r - 1) 0) λc=>if c=true then .ret (r,p) else kas_descPart r n (kas_rev p 0 r) else kas_descPart r n p)=(m,q)/\
   u0 n (oK key) (if (r == n)=true then KasT.ret (r,p) else if r > 1 then .ask (p.getD 0 0) (p.getD (r - 1) 0) λc=>if c=true then .ret (r,p) else kas_descPart r n (kas_rev p 0 r) else kas_descPart r n p))/\Pm n q/\1<=m/\m<=n/\Up key q m:=by
  by_cases c:(r == n)=true
  ·rw[MJ c]
   exact⟨r,p,⟨rfl,trivial⟩,P,a,by omega,u⟩
  ·rw[MO c]
   have hrn:r≠n:=by simpa using c
   have dd:=d (by omega)
   by_cases c2:r > 1
   ·rw[MJ c2]
    unfold kB u0
    rw[show oK key (p.getD 0 0) (p.getD (r - 1) 0)=true from MR (u 0 (r - 1) (by omega) (by omega))]
    simp only[NN]
    exact⟨r,p,⟨rfl,P.at (by omega),P.at (by omega),trivial⟩,P,a,by omega,u⟩
   ·rw[MO c2]
    have hr1:r=1:=by omega
    subst hr1
    unfold kas_descPart
    rw[gf]
    have D2:Dn key p 2:=λi j hij hj=>by
     have e1:i=0:=by omega
     have e2:j=1:=by omega
     rw[e1,e2];exact dd
    obtain⟨x,⟨e2,o2⟩,a2,b2,u2⟩:=sF P hi (n - 2) 2 (by omega) (by omega) D2
    obtain⟨y,⟨e3,o3⟩,a3,b3,u3,_⟩:=pQ (P.rev x) hi (n - x) x (by omega) (by omega) (Hq (by rw[P.sz];omega) u2)
    rw[show n - (1 + 1)=n - 2 from rfl,show (1 + 1:Nat)=2 from rfl]
    have t3:u0 n (oK key) (kas_tail3 x n p):=by
     unfold kas_tail3
     exact iG o3 trivial
    refine⟨y,kas_rev p 0 x,⟨?_,iG o2 ?_⟩,P.rev x,by omega,by omega,u3⟩
    ·rw[e2]
     simp only[Ny,gt_iff_lt,Nx]
     unfold kas_tail3
     rw[gf,e3]
     rfl
    ·rw[e2]
     simp only[Ny,gt_iff_lt,Nx]
     exact t3
 obtain⟨m,q,⟨f1,f2⟩,f3⟩:=rest
 refine⟨m,q,⟨?_,?_⟩,f3⟩
 ·unfold kas_count
  rw[gf,e]
  exact f1
 ·unfold kas_count
  refine iG o ?_
  rw[e]
  exact f2
theorem place_spec {p:Array Nat}{k:Nat}(P:Pm n p)(hi:Inj n key)(hk:k < n)(U:Up key p k):∀(f l r:Nat),l<=r->r<=k->r - l<=f->(∀i,i < l->Kp key p i < Kp key p k)->(∀i,r<=i->i < k->Kp key p k < Kp key p i)->
  ∃x,(kB (oK key) (kas_place p k f l r)=x/\u0 n (oK key) (kas_place p k f l r))/\x<=k/\(∀i,i < x->Kp key p i < Kp key p k)/\(∀i,x<=i->i < k->Kp key p k < Kp key p i)
 | 0,l,r,h1,h2,h3,a,b=>⟨l,⟨rfl,trivial⟩,by omega,a,λi hi=>b i (by omega)⟩
 |f + 1,l,r,h1,h2,h3,a,b=>by
  unfold kas_place
  by_cases c:l>=r
  ·rw[MJ c]
   exact⟨l,⟨rfl,trivial⟩,by omega,a,λi hi=>b i (by omega)⟩
  ·rw[MO c]
   have b1:p.getD k 0 < n:=P.at hk
   have b2:p.getD ((l + r) / 2) 0 < n:=P.at (by omega)
   unfold kB u0
   by_cases d:Kp key p k < Kp key p ((l + r) / 2)
   ·rw[show oK key (p.getD k 0) (p.getD ((l + r) / 2) 0)=true from MR d]
    simp only[NN]
    have side:∀i,(l + r) / 2<=i->i < k->Kp key p k < Kp key p i:=λi h1 h2=>by
     rcases NU ((l + r) / 2) i with z |z
     ·exact Int.lt_trans d (U _ _ z h2)
     ·have:i=(l + r) / 2:=by omega
      rw[this];exact d
    obtain⟨x,⟨e1,e2⟩,e3⟩:=place_spec P hi hk U f l ((l + r) / 2) (by omega) (by omega) (by omega) a side
    exact⟨x,⟨e1,b1,b2,e2⟩,e3⟩
   ·rw[show oK key (p.getD k 0) (p.getD ((l + r) / 2) 0)=false from MW d]
    simp only[MZ,Nx]
    have d':Kp key p ((l + r) / 2) < Kp key p k:=(P.tri hi (by omega) hk (by omega)).resolve_right d
    have side:∀i,i < (l + r) / 2 + 1->Kp key p i < Kp key p k:=λi h=>by
     rcases NU i ((l + r) / 2) with z |z
     ·exact Int.lt_trans (U _ _ z (by omega)) d'
     ·have:i=(l + r) / 2:=by omega
      rw[this];exact d'
    obtain⟨x,⟨e1,e2⟩,e3⟩:=place_spec P hi hk U f ((l + r) / 2 + 1) r (by omega) h2 (by omega) side b
    exact⟨x,⟨e1,b1,b2,e2⟩,e3⟩
def Dk {p:Array Nat}{k l j:Nat}(hk:k < p.size)(hl:l<=k):(bubble p k (k - l)).getD j 0=if j=l then p.getD k 0 else if l < j/\j<=k then p.getD (j - 1) 0 else p.getD j 0:=by
 rw[Nw,getElem?_bubble hk (k - l) (by omega) j,show k - (k - l)=l by omega]
 simp only[Nw]
 split
 ·rfl
 ·split <;> rfl
theorem wF (hi:Inj n key):∀(f k:Nat) (p:Array Nat),Pm n p->1<=k->k + f=n->Up key p k->∃q,(kB (oK key) (kas_bin f p k)=q/\u0 n (oK key) (kas_bin f p k))/\Pm n q/\Up key q n
 | 0,k,p,P,_,e,U=>⟨p,⟨rfl,trivial⟩,P,by rw[<-e];exact U⟩
 |f + 1,k,p,P,h1,e,U=>by
  have hk:k < n:=by omega
  obtain⟨l,⟨el,ol⟩,hl,a,b⟩:=place_spec P hi hk U k 0 k (Nm _) (MK _) (by omega) (λi h=>by omega) (λi h h'=>by omega)
  have side:Up key (bubble p k (k - l)) (k + 1):=λi j hij hj=>by
   have hks:k < p.size:=by rw[P.sz];exact hk
   unfold Kp
   rw[Dk hks hl,Dk hks hl]
   by_cases i1:i=l
   ·rw[MJ i1,MO (by omega)]
    by_cases j2:l < j/\j<=k
    ·rw[MJ j2];exact b _ (by omega) (by omega)
    ·omega
   ·rw[MO i1]
    by_cases i2:l < i/\i<=k
    ·rw[MJ i2,MO (by omega),MJ (by omega)]
     exact U _ _ (by omega) (by omega)
    ·rw[MO i2]
     by_cases j1:j=l
     ·rw[MJ j1];exact a _ (by omega)
     ·rw[MO j1]
      by_cases j2:l < j/\j<=k
      ·rw[MJ j2]
       rcases NU i (j - 1) with z |z
       ·exact U _ _ z (by omega)
       ·omega
      ·rw[MO j2];exact U _ _ hij (by omega)
  obtain⟨q,⟨q1,q2⟩,q3⟩:=wF hi f (k + 1) (bubble p k (k - l)) (P.perm (bubble_perm ..)) (by omega) (by omega) side
  refine⟨q,⟨?_,?_⟩,q3⟩
  ·unfold kas_bin;rw[gf,el];exact q1
  ·unfold kas_bin;refine iG ol ?_;rw[el];exact q2
def Aj (hi:Inj n key)(h2:2<=n):∃q,(kB (oK key) (kas_sort n)=q/\u0 n (oK key) (kas_sort n))/\Pm n q/\Up key q n:=by
 obtain⟨m,q,⟨e,o⟩,P,a,b,u⟩:=xH (vT n) hi (by omega)
 by_cases c:m < n
 ·obtain⟨q',⟨e1,o1⟩,r⟩:=wF hi (n - m) m q P a (by omega) u
  refine⟨q',⟨?_,?_⟩,r⟩
  ·unfold kas_sort;rw[gf,e];dsimp only;rw[MJ c,Nat.max_eq_left a];exact e1
  ·unfold kas_sort;refine iG o ?_;rw[e];dsimp only;rw[MJ c,Nat.max_eq_left a];exact o1
 ·refine⟨q,⟨?_,?_⟩,P,λi j hij hj=>u i j hij (by omega)⟩
  ·unfold kas_sort;rw[gf,e];dsimp only;rw[MO c];rfl
  ·unfold kas_sort;refine iG o ?_;rw[e];dsimp only;rw[MO c];trivial
theorem wp_run {α:Type}{n:Nat}{lt:Nat->Nat->Bool}{cmp:Nat->Nat->(Bool->Shared->Prop)->Shared->Prop}{Q:α->Shared->Prop}{s:Shared} :
  ∀(t:KasT α),(∀i j C,i < n->j < n->C (lt i j) s->cmp i j C s)->u0 n lt t->Q (kB lt t) s->t.kasWp cmp Q s
 | .ret a,_,_,h=>h
 | .ask i j k,hc,ho,h=>hc i j _ ho.1 ho.2.1 (wp_run (k (lt i j)) hc ho.2.2 h)
end
end L2.SO
namespace L2.ST
open PySem PySem.SetTable PySem.W PyProof.Rows
def code (p:Pr):Int:=p.1 * 8 + p.2
def zj {p q:Pr}(h1:Sm p)(h2:Sm q):code p < code q↔p.1 < q.1\/(p.1=q.1/\p.2 < q.2):=by
 unfold code Sm at *;omega
def code_inj {p q:Pr}(h1:Sm p)(h2:Sm q)(e:code p=code q):p=q:=by
 unfold code Sm at *
 refine Prod.ext ?_ ?_ <;> omega
section
variable {prog:Program}{w:World}{A:Around}{E:Value->Shared->Prop}{s:Shared}
abbrev ra (ps:List Pr)(i:Nat):Int:=code (ps.getD i (0,0))
def D6 {ps:List Pr}(nd:ps.Nodup)(hs:∀p,p∈ps->Sm p):L2.SO.Inj ps.length (ra ps):=λi j hi hj e=>by
 have a1:ps.getD i (0,0)=ps[i]:=by simp[hi]
 have a2:ps.getD j (0,0)=ps[j]:=by simp[hj]
 unfold ra at e
 rw[a1,a2] at e
 have e':=code_inj (hs _ (NI hi)) (hs _ (NI hj)) e
 have q:=OG.mp nd
 rcases Pj i j with c |c |c
 ·exact absurd e' (q i j hi hj c)
 ·exact c
 ·exact absurd e'.symm (q j i hj hi c)
theorem FU {a b:Addr}{p q:Pr}{Q:Bool->Shared->Prop}(ha:bS prog w s.heap p a)(hb:bS prog w s.heap q b)(hp:Sm p)(hq:Sm q)(h:Q (decide (code p < code q)) s) :
  wpAny (model prog w) A (keyLt' (tuples' true) (.ref a) (.ref b)) Q E s:=by
 obtain⟨oa,ia,na,hoa,hca,hda,hia⟩:=ha
 obtain⟨ob,ib,nb,hob,hcb,hdb,hib⟩:=hb
 obtain⟨l1,rfl⟩:∃l,ia=List.toArray l:=⟨ia.toList,by simp⟩
 obtain⟨l2,rfl⟩:∃l,ib=List.toArray l:=⟨ib.toList,by simp⟩
 simp only[Oa] at hia hib
 cases hia with
 | @cons _ v1 _ _ h1 hia=>
  cases hia with
  | @cons _ v2 _ _ h2 hia=>
   cases hia
   cases hib with
   | @cons _ u1 _ _ g1 hib=>
    cases hib with
    | @cons _ u2 _ _ g2 hib=>
     cases hib
     obtain⟨t1,rfl⟩:=Om h1
     obtain⟨t2,rfl⟩:=Om h2
     obtain⟨t3,rfl⟩:=Om g1
     obtain⟨t4,rfl⟩:=Om g2
     refine kat_lt hoa hda hob hdb ?_
     have hc:=zj hp hq
     refine kat_cons (wpAny_eqBool_int ?_)
     by_cases e1:p.1=q.1
     ·rw[show (p.1 == q.1)=true by simpa using e1]
      refine kat_yes (kat_cons (wpAny_eqBool_int ?_))
      by_cases e2:p.2=q.2
      ·rw[show (p.2 == q.2)=true by simpa using e2]
       refine kat_yes (kat_nil ?_)
       have:decide (code p < code q)=false:=MW (by rw[hc];omega)
       rw[this] at h
       simpa using h
      ·rw[show (p.2 == q.2)=false by simpa using e2]
       refine kat_no ?_
       show wpAny _ _ (oneLt' false _ _) _ _ _
       refine kat_one _ _ (lt_int ?_)
       have:decide (code p < code q)=decide (p.2 < q.2):=by
        by_cases z:p.2 < q.2
        ·rw[MR z];exact MR (hc.mpr (.inr ⟨e1,z⟩))
        ·rw[MW z];exact MW (by rw[hc];omega)
       rw[this] at h;exact h
     ·rw[show (p.1 == q.1)=false by simpa using e1]
      refine kat_no ?_
      show wpAny _ _ (oneLt' true _ _) _ _ _
      refine oneLt_int ?_
      have:decide (code p < code q)=decide (p.1 < q.1):=by
       by_cases z:p.1 < q.1
       ·rw[MR z];exact MR (hc.mpr (.inl z))
       ·rw[MW z];exact MW (by rw[hc];omega)
      rw[this] at h;exact h
theorem yZ:∀{vs:List Value} {ps:List Pr},dE prog w s.heap vs ps->∃fs,KatTups s.heap vs fs/\fs.length=vs.length/\∀v∈fs,∃(i:Int) (t:Tok),v=.int i t
 | [],ps,_=>⟨[],KatTups.nil,rfl,λv hv=>by cases hv⟩
 |v :: vs,[],h=>by have:=h.1;simp at this
 |v :: vs,p :: ps,h=>by
  obtain⟨a,rfl,⟨o,items,n,ho,hc,hd,hi⟩,_⟩:=h.2 0 v p rfl rfl
  obtain⟨fs,k,e,f⟩:=yZ (vs:=vs) (ps:=ps) ⟨by simpa using h.1,λi v p h1 h2=>h.2 (i + 1) v p (by simpa using h1) (by simpa using h2)⟩
  obtain⟨l1,rfl⟩:∃l,items=List.toArray l:=⟨items.toList,by simp⟩
  simp only[Oa] at hi
  cases hi with
  | @cons _ v1 _ _ h1 hi=>
   obtain⟨t1,rfl⟩:=Om h1
   exact⟨_ :: fs,KatTups.cons ho hc hd rfl k,by simp[e],λv hv=>by
    rcases MN.mp hv with z |z
    ·exact⟨_,_,z⟩
    ·exact f v z⟩
def vJ {a:Addr}{vs:List Value}{ps:List Pr}{n:Nat}{P:PySem.Fin->Shared->Prop}(ho:s.heap.get? a=some (seqObj "list" vs.toArray n))(hps:dE prog w s.heap vs ps)(nd:ps.Nodup)(h64:vs.length < 64)
  (h:∀(h':Heap) (c:Nat) (ix:Array Nat),L2.SO.Pm vs.length ix->L2.SO.Up (ra ps) ix vs.length->(∀b o,b≠a->s.heap.get? b=some o->h'.get? b=some o)->
   h'.get? a=some (seqObj "list" (ix.toList.map λi=>vs.getD i Value.none).toArray c)->P (.done (.ret .none)) {s with heap:=h'}) :
  wpAny (model prog w) A (Builtin.«list.sort» ⟨[.ref a],[]⟩) P E s:=by
 have ha:a < s.heap.objs.size:=MT ho
 obtain⟨e1,ho1⟩:∃e1,(s.heap.update a (Obj.mapSeq λ_=>(#[]:Array Value))).get? a=some (seqObj "list" #[] e1):=⟨_,get?_update_seq ho λ_=>#[]⟩
 generalize hH1:(s.heap.update a (Obj.mapSeq λ_=>(#[]:Array Value)))=H1 at ho1
 have sb1:Heap.SameBut a s.heap H1:=by rw[<-hH1];exact Heap.SameBut.update ..
 have kp2:∀b o,H1.get? b=some o->((H1.push (seqObj "tuple" vs.toArray 0)).push (seqObj "list" #[] 0)).get? b=some o:=λb o e=>MH _ (MH _ e)
 generalize hH2:((H1.push (seqObj "tuple" vs.toArray 0)).push (seqObj "list" #[] 0))=H2 at kp2
 have kp:∀b o,b≠a->s.heap.get? b=some o->H2.get? b=some o:=λb o hb e=>kp2 b o ((sb1.2 b hb).trans e)
 have ho2:=kp2 _ _ ho1
 have hps2:dE prog w H2 vs ps:=⟨hps.1,λi v p h1 h2=>by
  obtain⟨b,e,⟨o,it,m,hb,hc,hd,r⟩,hs⟩:=hps.2 i v p h1 h2
  refine⟨b,e,⟨o,it,m,kp b o (λz=>?_) hb,hc,hd,r⟩,hs⟩
  subst z
  rw[ho] at hb;cases hb
  exact absurd hc (by simp[seqObj])⟩
 have hz:vs.length<=sizeLine:=by rw[Ni];omega
 rw[list_sort_plain]
 refine MF (listItems_at ho rfl (MF (listUpdate_at ho rfl ?_ (by simpa using hz) (Nm _))))
 rw[hH1]
 refine MF (seqEpoch_at (s:={s with heap:=H1}) ho1 rfl (MF (wpAny_newTuple ?_ (by simpa using hz))))
 refine MF (wpAny_newList ?_ (Nm _))
 refine NP ?_
 show wpAny (model prog w) A _ P E {s with heap:=(H1.push (seqObj "tuple" vs.toArray 0)).push (seqObj "list" #[] 0)}
 rw[hH2]
 have fin:∀(ix:Array Nat) (st:SortSt),L2.SO.Pm vs.length ix->L2.SO.Up (ra ps) ix vs.length->(arrOf st).map (·.2)=List.toArray (ix.toList.map λi=>vs.getD i Value.none)->failedOf st=none->
   wpAny (model prog w) A (do
    let sorted:=(arrOf st).map (·.2)
    let touched:=(<-seqEpoch a) != e1
    Builtin.List.listUpdate (.ref a) λ_=>sorted
    if let some e:=failedOf st then rule "list.sort.comparison-raised";throw e
    if touched then rule "list.sort.modified";raiseError "ValueError" "list modified during sort"
    ret .none) P E {s with heap:=H2}:=λix st P1 U1 hout hf=>by
  dsimp only
  rw[hout]
  have hsz:(List.toArray (ix.toList.map λi=>vs.getD i Value.none)).size=vs.length:=by simp[P1.sz]
  refine MF (seqEpoch_at (s:={s with heap:=H2}) ho2 rfl ?_)
  refine MF (listUpdate_at (s:={s with heap:=H2}) ho2 rfl ?_ (Nm _) (NA (Nat.le_of_eq hsz) (Nat.le_succ_of_le hz)))
  rw[hf]
  simp only[bne_self_eq_false,MZ,Nx]
  obtain⟨c2,hc2⟩:∃c2,(H2.update a (Obj.mapSeq λ_=>List.toArray (ix.toList.map λi=>vs.getD i Value.none))).get? a=some (seqObj "list" (List.toArray (ix.toList.map λi=>vs.getD i Value.none)) c2):=⟨_,get?_update_seq ho2 λ_=>List.toArray (ix.toList.map λi=>vs.getD i Value.none)⟩
  exact MI (h _ c2 ix P1 U1 (λb o hb e=>((Heap.SameBut.update H2 a _).2 b hb).trans (kp b o hb e)) hc2)
 by_cases h2:vs.length < 2
 ·have h2':vs.toArray.size < 2:=by simpa using h2
  dsimp only
  rw[MJ h2',MJ h2']
  refine MF (MI ?_)
  rw[StateT.run_pure]
  refine MF (MI ?_)
  refine fin (List.toArray (List.range vs.length)) (SortSt.mk' general' (vs.toArray.zip vs.toArray) #[] 7 none) (L2.SO.vT _) (λi j hij hj=>by omega) ?_ rfl
  have:∀{l:List Value},l.length < 2->((l.toArray.zip l.toArray).map (·.2))=List.toArray ((List.range l.length).map λi=>l.getD i Value.none):=λ{l} hl=>by
   match l,hl with
   | [],_=>simp
   | [x],_=>simp
  exact (this h2).trans (by simp)
 ·have h2':¬vs.toArray.size < 2:=by simpa using h2
  dsimp only
  rw[MO h2',MO h2']
  obtain⟨fs,kt,fl,ff⟩:=yZ (s:={s with heap:=H2}) hps2
  refine MF (kat_kind (s:={s with heap:=H2}) (T:=.type "int") kt (by omega) (λv hv=>?_) (by decide) ?_)
  ·obtain⟨i,t,rfl⟩:=ff v hv
   exact .now
  ·rw[show ((Value.type "int" != Value.type "tuple"):Bool)=true by decide]
   have hinj:L2.SO.Inj vs.length (ra ps):=by
    rw[hps.1]
    refine D6 nd λp hp=>?_
    obtain⟨i,hi,e⟩:=Nr.mp hp
    have hi':i < vs.length:=by rw[hps.1];exact hi
    obtain⟨_,_,_,hs⟩:=hps.2 i vs[i] p (MG hi') (by rw[MG hi,e])
    exact hs
   obtain⟨ix,⟨er,ok⟩,P1,U1⟩:=L2.SO.Aj hinj (by omega)
   refine MF (N0 (kat_run (s:={s with heap:=H2}) (κ:=tuples' true) (ks:=vs) (Q:=λst s'=>s'={s with heap:=H2}/\arrOf st=ix.map (kas_item (vs.toArray.zip vs.toArray))/\failedOf st=none)
    (G:=λp s'=>p=ix/\s'={s with heap:=H2}) rfl (by omega) h64 (λp st s' a1 a2 a3 a4=>?_) (L2.SO.wp_run (n:=vs.length) (lt:=L2.SO.oK (ra ps)) _ (λi j C hi hj hC=>?_) ok ⟨er,rfl⟩)) ?_ λ_ _ x=>x)
   ·obtain⟨rfl,rfl⟩:=a4
    exact⟨rfl,a2,a3⟩
   ·unfold kas_ask
    have hi':i < ps.length:=by rw[<-hps.1];exact hi
    have hj':j < ps.length:=by rw[<-hps.1];exact hj
    obtain⟨b1,eb1,hb1,s1⟩:=hps2.2 i vs[i] ps[i] (MG hi) (MG hi')
    obtain⟨b2,eb2,hb2,s2⟩:=hps2.2 j vs[j] ps[j] (MG hj) (MG hj')
    have e1:vs.getD i Value.none=.ref b1:=by rw[<-eb1];simp[hi]
    have e2:vs.getD j Value.none=.ref b2:=by rw[<-eb2];simp[hj]
    rw[e1,e2]
    refine FU (s:={s with heap:=H2}) hb1 hb2 s1 s2 ?_
    have:L2.SO.oK (ra ps) i j=decide (code ps[i] < code ps[j]):=by
     unfold L2.SO.oK ra;simp[hi',hj']
    rw[<-this];exact hC
   ·rintro⟨⟨⟩,st⟩ s' ⟨rfl,har,hf⟩
    exact fin ix st P1 U1 (kat_snds rfl har) hf
end
def cf:Slot "set_iterator" "__next__" "set_iterator.__next__":=
 Slot.of (owner:="set_iterator") (n:="__next__") (by rw[typeLookup_type,O1];kernel_rfl) (by decide +kernel) (by decide +kernel) (by decide +kernel) (by first |exact .inl (by decide +kernel) |exact .inr (by decide +kernel)) (by rw[Ov];kernel_rfl)
def jI:entryFor table "set_iterator.__next__"=some Builtin.«set_iterator.__next__»:=entryFor_of_tree (by kernel_rfl)
def ku (a:Value):argsOk "set_iterator.__next__" ⟨[a],[]⟩:=by unfold argsOk;kernel_rfl
def p5:entryFor table "set.__iter__"=some Builtin.«frozenset.__iter__»:=entryFor_alias (id':="frozenset.__iter__") (by kernel_rfl) rfl (by decide +kernel) (by kernel_rfl)
def ky:Slot "set_iterator" "__iter__" "set_iterator.__iter__":=
 Slot.of (owner:="set_iterator") (n:="__iter__") (by rw[typeLookup_type,O1];kernel_rfl) (by decide +kernel) (by decide +kernel) (by decide +kernel) (by first |exact .inl (by decide +kernel) |exact .inr (by decide +kernel)) (by rw[Ov];kernel_rfl)
def ot:entryFor table "set_iterator.__iter__"=some Builtin.«dict_keyiterator.__iter__»:=entryFor_alias (id':="dict_keyiterator.__iter__") (by kernel_rfl) rfl (by decide +kernel) (by kernel_rfl)
def oP (a:Value):argsOk "set_iterator.__iter__" ⟨[a],[]⟩:=by unfold argsOk;kernel_rfl
def FD (a:Addr)(slot given ep0:Nat):setNext a slot given ep0=(do
  let (es,epoch,t) <-setState a
  if (<-ask).params.followText "set-order" then
   if epoch != ep0 then unsupported "set_iterator.__next__:elements-changed"
   return ((<-setWalk a)[given]?).map λe=>(e.2,slot)
  if !t.plain && es.size > 1 then unsupported "set_iterator.__next__:the-table-is-plain-no-more"
  let u:Unit <-(show Sem Unit from do if !t.led && !es.isEmpty then unsupported "set:maker-not-led")
  let i:=SetTable.below t.place slot
  return match es[i]?,t.place[i]? with
   |some (_,x),some j=>some (x,j + 1)
   |_,_=>none):=by
 unfold setNext setsByText
 simp only[bind_assoc,pure_bind]
 rfl
def Fj (a:Addr):setWalk a=(do
  let (es,epoch,t) <-setState a
  if (<-ask).params.followText "set-order" then return pickOrder ((<-ask).params.setOrder a epoch) es
  if !t.plain && es.size > 1 then return (<-drawOrder es.size es.toList).toArray
  let u:Unit <-(show Sem Unit from do if !t.led && es.size > 1 then unsupported "set:maker-not-led")
  return es):=by
 unfold setWalk setsByText
 simp only[bind_assoc,pure_bind]
 rfl
def Cd (a:Addr):setDrawn a=(do
  let (es,_,t) <-setState a
  let byText <-(do return (<-ask).params.followText "set-order")
  return !byText && (!t.plain && es.size > 1)):=rfl
theorem iP {α:Type}:∀(l:List α) (i:Nat) (h:i < l.length),(l[i] :: l.eraseIdx i).Perm l
 |a :: l,0,_=>List.Perm.refl _
 |a :: l,i + 1,h=>by
  have hi:i < l.length:=by simpa using h
  show (l[i] :: a :: l.eraseIdx i).Perm (a :: l)
  exact (List.Perm.swap ..).trans ((iP l i hi).cons a)
theorem rZ {α:Type}(next:Nat->Nat):∀(fuel k:Nat) (left:List α) (out:Array α),left.length=fuel->(pickOrder.go next fuel k left out).toList.Perm (out.toList ++ left)
 | 0,k,left,out,h=>by
  have:left= []:=List.length_eq_zero_iff.mp h
  subst this
  unfold pickOrder.go
  simp
 |fuel + 1,k,left,out,h=>by
  unfold pickOrder.go
  have hlt:next k % left.length < left.length:=Nat.mod_lt _ (by omega)
  rw[MG hlt]
  dsimp only
  refine (rZ next fuel (k + 1) _ _ (by rw[List.length_eraseIdx_of_lt hlt];omega)).trans ?_
  rw[Array.toList_push,N9]
  refine List.Perm.append_left _ ?_
  exact iP left _ hlt
def kZ {α:Type}(next:Nat->Nat)(xs:Array α):(pickOrder next xs).toList.Perm xs.toList:=by
 have:=rZ next xs.size 0 xs.toList #[] (by simp)
 simpa[pickOrder] using this
section
variable {prog:Program}{w:World}{A:Around}{E:Value->Shared->Prop}{s:Shared}
def told (w:World)(S:Addr)(ep:Nat)(es:Array (Int×Value)):Array (Int×Value):=if w.params.followText "set-order" then pickOrder (w.params.setOrder S ep) es else es
def sh (w:World)(S:Addr)(ep:Nat)(es:Array (Int×Value)):(told w S ep es).toList.Perm es.toList:=by
 unfold told;split
 ·exact kZ _ _
 ·exact List.Perm.refl _
abbrev ve (S:Addr)(slot k n ep:Nat):Obj:={cls:=.type "set_iterator",data:=.fields #[.int (slot:Int) 0,.int (k:Int) 0,.ref S,.int (n:Int) 0,.int (ep:Int) 0]}
structure mK (w:World)(S:Addr)(o:Obj)(es:Array (Int×Value))(ep:Nat)(t:SetTable)(I:Addr)(k:Nat)(h:Heap):Prop where
 set:h.get? S=some o
 data:o.data=.set es ep t
 cls:o.cls=.type "set"
 tab:Tab t (es.toList.map (·.1))
 led:t.led=jN w
 it:∃slot,h.get? I=some (ve S slot k es.size ep)/\(jN w=true->slot=if k=0 then 0 else t.place.getD (k - 1) 0 + 1)
def mK.fits {S I:Addr}{o:Obj}{es:Array (Int×Value)}{ep k:Nat}{t:SetTable}{h:Heap}(X:mK w S o es ep t I k h):t.fits es.size=true:=qg X.tab (by simp)
theorem zC {S I:Addr}{o:Obj}{es:Array (Int×Value)}{ep k slot:Nat}{t:SetTable}{Q:Option (Value×Nat)->Shared->Prop}(X:mK w S o es ep t I k s.heap)(hk:k<=es.size)(hs:jN w=true->slot=if k=0 then 0 else t.place.getD (k - 1) 0 + 1)
  (h:∀(r:Option (Value×Nat)),(k < es.size->∃x nx,r=some (x,nx)/\(told w S ep es)[k]?.map (·.2)=some x/\(jN w=true->nx=t.place.getD k 0 + 1))->(k=es.size->r=none)->Q r s) :
  wpAny (model prog w) A (setNext S slot k ep) Q E s:=by
 rw[FD]
 refine MF (NL X.set X.data X.fits ?_)
 dsimp only
 refine MF (O4 ?_)
 dsimp only
 cases hb:w.params.followText "set-order" with
 |true=>
  rw[MJ (show (model prog w).w.params.followText "set-order"=true from hb)]
  simp only[bne_self_eq_false,MZ,Nx]
  rw[Fj]
  refine MF (MF (NL X.set X.data X.fits ?_))
  dsimp only
  refine MF (O4 ?_)
  dsimp only
  rw[MJ (show (model prog w).w.params.followText "set-order"=true from hb)]
  refine MF (O4 (MI (MI ?_)))
  have et:told w S ep es=pickOrder (w.params.setOrder S ep) es:=by unfold told;rw[MJ hb]
  have hsz:(pickOrder (w.params.setOrder S ep) es).size=es.size:=by
   have:=(kZ (w.params.setOrder S ep) es).length_eq;simpa using this
  refine h _ (λhlt=>?_) (λe=>?_)
  ·have hlt':k < (pickOrder (w.params.setOrder S ep) es).size:=by rw[hsz];exact hlt
   refine⟨(pickOrder (w.params.setOrder S ep) es)[k].2,slot,?_,?_,λz=>?_⟩
   ·show Option.map _ (pickOrder (w.params.setOrder S ep) es)[k]? =_
    rw[Nj hlt'];rfl
   ·rw[et,Nj hlt'];rfl
   ·unfold jN at z;rw[hb] at z;cases z
  ·show Option.map _ (pickOrder (w.params.setOrder S ep) es)[k]? =_
   rw[OY (by rw[hsz];omega)];rfl
 |false=>
  rw[MO (show ¬(model prog w).w.params.followText "set-order"=true by intro z;rw[show (model prog w).w.params.followText "set-order"=false from hb] at z;cases z)]
  have hl:jN w=true:=by unfold jN;rw[hb];rfl
  rw[X.tab.plain,X.led,hl]
  simp only[OW,Bool.false_and,MZ,Nx]
  have et:told w S ep es=es:=by unfold told;rw[hb];simp
  have hps:t.place.size=es.size:=by simpa using X.tab.size
  have hbl:below t.place slot=k:=by
   rw[hs hl]
   obtain⟨b1,b2,b3⟩:=eG X.tab.rise (if k=0 then 0 else t.place.getD (k - 1) 0 + 1)
   by_cases k0:k=0
   ·subst k0
    simp only[NN] at b1 b2 b3 ⊢
    rcases Nat.eq_zero_or_pos (below t.place 0) with z |z
    ·exact z
    ·have:=b2 0 z;omega
   ·rw[MO k0] at b1 b2 b3 ⊢
    have hk1:k - 1 < t.place.size:=by omega
    rcases Pj (below t.place (t.place.getD (k - 1) 0 + 1)) k with z |z |z
    ·have q:=b3 (k - 1) (by omega) hk1
     have e:t.place.getD (k - 1) (t.place.getD (k - 1) 0 + 1)=t.place.getD (k - 1) 0:=by simp[Array.getD,hk1]
     omega
    ·exact z
    ·have hks:k < t.place.size:=by omega
     have q:=b2 k z
     have e:t.place.getD k (t.place.getD (k - 1) 0 + 1)=t.place.getD k 0:=by simp[Array.getD,hks]
     have:=jj (d:=0) X.tab.rise (show k - 1 < k by omega) hks
     omega
  refine MI ?_
  rw[hbl]
  refine h _ (λhlt=>?_) (λe=>?_)
  ·have hlt2:k < t.place.size:=by omega
   refine⟨es[k].2,t.place[k] + 1,?_,?_,λ_=>?_⟩
   ·rw[Nj hlt,Nj hlt2]
   ·rw[et,Nj hlt];rfl
   ·simp[Array.getD,hlt2]
  ·rw[OY (by omega)]
def Ah {S I:Addr}{o:Obj}{es:Array (Int×Value)}{ep:Nat}{t:SetTable}(hh:A.handled=none)(hne:S≠I) :
  Walks prog w A I [I,S] [I] es.size (λi v=>(told w S ep es)[i]?.map (·.2)=some v) (λi h=>mK w S o es ep t I i h) where
 sub:=λb hb=>MN.mpr (.inl (Nc.mp hb))
 frame:=λi h h' X k=>by
  obtain⟨slot,e,r⟩:=X.it
  exact⟨k S (by simp) _ X.set,X.data,X.cls,X.tab,X.led,slot,k I (by simp) _ e,r⟩
 item:=λi s Q E hi X hQ=>by
  obtain⟨slot,e,r⟩:=X.it
  have hT:s.TypeIs (.ref I) "set_iterator":=⟨_,e,rfl⟩
  unfold pyNext
  refine MF (wpAny_attempt (wpAny_callSpecial?_slot (name:=Str.ofString "__next__") hT cf (ON cf hT jI ?_ (ku _))))
  unfold Builtin.«set_iterator.__next__»
  refine MF (m:=slotArgs "__next__" 0 _) (MI ?_)
  dsimp only
  unfold fieldsOf
  refine MF (MF (wpAny_load e (MI ?_)))
  dsimp only
  unfold setEntries
  refine MF (MF (NL X.set X.data X.fits (MI ?_)))
  dsimp only
  rw[MO (by simp)]
  refine MF ?_
  simp only[NJ]
  refine zC X (Nat.le_of_lt hi) r λrr h1 _=>?_
  obtain⟨x,nx,rfl,h2,h3⟩:=h1 hi
  dsimp only
  refine MF (O2 e rfl (by simp) ?_)
  have e2:=NG (Obj.mapFields λvs=>vs.setIfInBounds 0 (rawInt (nx:Int))) e rfl
  refine MF (O2 e2 rfl (by simp) ?_)
  refine MI ⟨x,rfl,MI ?_⟩
  have sb:=(Heap.SameBut.update s.heap I (Obj.mapFields λvs=>vs.setIfInBounds 0 (rawInt (nx:Int)))).trans (Heap.SameBut.update _ I (Obj.mapFields λvs=>vs.setIfInBounds 1 (rawInt ((i:Int) + 1))))
  refine hQ x _ _ h2 ⟨(sb.2 S hne).trans X.set,X.data,X.cls,X.tab,X.led,nx,?_,λz=>?_⟩ λb o hb eb=>(sb.2 b (by simpa using hb)).trans eb
  ·exact NG (Obj.mapFields λvs=>vs.setIfInBounds 1 (rawInt ((i:Int) + 1))) e2 rfl
  ·rw[MO (by omega)];exact h3 z
 done:=λs Q E X hQ=>by
  obtain⟨slot,e,r⟩:=X.it
  have hT:s.TypeIs (.ref I) "set_iterator":=⟨_,e,rfl⟩
  unfold pyNext
  refine MF (wpAny_attempt (wpAny_callSpecial?_slot (name:=Str.ofString "__next__") hT cf (ON cf hT jI ?_ (ku _))))
  unfold Builtin.«set_iterator.__next__»
  refine MF (m:=slotArgs "__next__" 0 _) (MI ?_)
  dsimp only
  unfold fieldsOf
  refine MF (MF (wpAny_load e (MI ?_)))
  dsimp only
  unfold setEntries
  refine MF (MF (NL X.set X.data X.fits (MI ?_)))
  dsimp only
  rw[MO (by simp)]
  refine MF ?_
  simp only[NJ]
  refine zC X (MK _) r λrr _ h1=>?_
  rw[h1 rfl]
  dsimp only
  refine MF (O2 e rfl (by simp) ?_)
  (show wpAny _ _ (newExc (.type "StopIteration") [] >>= λx=>raiseNew x) _ _ _)
  refine MF ?_
  simp only[newExc,newTuple]
  (refine MF (NS ?_ (by size_fits)))
  (refine MF (m:=firstArgMember _ _) (wpAny_of_eq (a:=Value.none) (by first |rfl | (simp only[firstArgMember];rfl)) ?_))
  (refine NS ?_ (by size_fits))
  simp only[raiseNew]
  refine MF (wpAny_handled ?_)
  (rw[show A.in1.handled=none from hh])
  refine MF (MI (wpAny_throw ?_))
  refine MF (wpAny_isInstance (T:="StopIteration") (b:=true) ⟨_,MX _ rfl,rfl⟩ isSubtype_stop (MI (hQ _ _ λb o hb eb=>?_)))
  exact MH _ (MH _ (((Heap.SameBut.update ..).2 b (by simpa using hb)).trans eb))
 self:=λi s Q E X hQ=>by
  obtain⟨slot,e,r⟩:=X.it
  have hT:s.TypeIs (.ref I) "set_iterator":=⟨_,e,rfl⟩
  refine wpAny_pyIter_slot hT ky (ON ky hT ot ?_ (oP _))
  show wpAny _ _ (ret (.ref I)) _ _ s
  exact MI ⟨_,rfl,"set_iterator",_,hT,cf.lookup,hQ⟩
def C7 {S:Addr}{o:Obj}{es:Array (Int×Value)}{ep:Nat}{t:SetTable}{Q:Value->Shared->Prop}(ho:s.heap.get? S=some o)(hd:o.data=.set es ep t)(hc:o.cls=.type "set")(T:Tab t (es.toList.map (·.1)))(hl:t.led=jN w)
  (h:Q (.ref s.heap.objs.size) {s with heap:=s.heap.push (ve S 0 0 es.size ep)}):wpAny (model prog w) A (pyIter (.ref S)) Q E s:=by
 have hT:s.TypeIs (.ref S) "set":=⟨o,ho,hc⟩
 have hf:t.fits es.size=true:=qg T (by simp)
 refine wpAny_pyIter_slot hT F.slot_set_iter (ON F.slot_set_iter hT p5 ?_ (F.args_set_iter_1 _))
 unfold Builtin.«frozenset.__iter__» Builtin.Frozenset.slot0
 refine MF (MF (m:=slotArgs "__iter__" 0 _) (MI (MI ?_)))
 unfold Builtin.Frozenset.sizeOf setEntries
 refine MF (MF (MF (NL ho hd hf (MI (MI ?_)))))
 rw[Cd]
 refine MF (MF (NL ho hd hf ?_))
 dsimp only
 refine MF (MF (O4 (MI (MI ?_))))
 rw[T.plain]
 simp only[OW,Bool.false_and,Bool.and_false,MZ,Nx]
 refine MF (MI ?_)
 unfold setEpoch
 refine MF (MF (NL ho hd hf (MI ?_)))
 refine MF (NS (MI ⟨_,rfl,"set_iterator",_,⟨_,MX _ rfl,rfl⟩,cf.lookup,h⟩))
def v5 {S:Addr}{o:Obj}{es:Array (Int×Value)}{ep:Nat}{t:SetTable}{Q:List Value->Shared->Prop}(hh:A.handled=none)(ho:s.heap.get? S=some o)(hd:o.data=.set es ep t)(hc:o.cls=.type "set")(T:Tab t (es.toList.map (·.1)))(hl:t.led=jN w)
  (hn:es.size<=64) (h:∀h' tk vs,vs=(told w S ep es).toList.map (·.2)->(∀b o,s.heap.get? b=some o->h'.get? b=some o)->Q vs {s with heap:=h',toks:=tk}):wpAny (model prog w) A (collect (.ref S)) Q E s:=by
 have hz:es.size<=sizeLine:=by rw[Ni];omega
 unfold collect
 (refine MF (wpAny_runValue (Oi F.entry_proto_collect ?_)))
 (rw[N6 F.plain_proto_collect _])
 show wpAny _ A.in1 (newList [] >>= λl=>again (.builtin "list.__iadd__" ⟨[l,.ref S],[]⟩)) _ _ s
 refine MF (NS ?_)
 (refine MI ⟨O5 F.plain_list_iadd _,Oi F.entry_list_iadd ?_⟩)
 (rw[N6 F.plain_list_iadd _])
 show wpAny _ A.in1 (Builtin.List.listExtendWith (.ref s.heap.objs.size) (.ref S) (.ref s.heap.objs.size)) _ _ {s with heap:=s.heap.push (seqObj "list" #[] 0)}
 generalize hH:s.heap.push (seqObj "list" #[] 0)=H1
 have kp1:∀b o,s.heap.get? b=some o->H1.get? b=some o:=λb o e=>by rw[<-hH];exact MH _ e
 have hD:H1.get? s.heap.objs.size=some (seqObj "list" #[] 0):=by rw[<-hH];exact MX _ rfl
 have hHs:H1.objs.size=s.heap.objs.size + 1:=by rw[<-hH];exact OI ..
 have hSD:S≠s.heap.objs.size:=Nl (MT ho)
 have hT:Shared.TypeIs {s with heap:=H1} (.ref S) "set":=⟨o,kp1 _ _ ho,hc⟩
 unfold Builtin.List.listExtendWith
 refine MF (Pd hT ?_)
 have h1:Builtin.List.listSameRef (.ref s.heap.objs.size) (.ref S)=false:=by simp[Builtin.List.listSameRef,Ne.symm hSD]
 have h2:(Value.type "set" == Value.type "list")=false:=by decide
 have h3:(Value.type "set" == Value.type "tuple")=false:=by decide
 rw[h1,h2,h3]
 simp only[Bool.or_false,MZ,Nx]
 refine MF (C7 (s:={s with heap:=H1}) (kp1 _ _ ho) hd hc T hl ?_)
 refine MF (NP ?_)
 unfold Builtin.List.listLengthHint
 have hT2:Shared.TypeIs {s with heap:=H1.push (ve S 0 0 es.size ep)} (.ref S) "set":=⟨o,MH _ (kp1 _ _ ho),hc⟩
 refine MF (wpAny_specialOf hT2 F.slot_set_len.lookup ?_)
 wp_delta
 refine MF (wpAny_isInstance hT2 (b:=true) (by rw[Ov];kernel_rfl) ?_)
 show wpAny _ A.in1 (typeOf (Value.ref S) >>= λ_=>_) _ _ _
 refine MF (Pd hT2 ?_)
 refine MI ?_
 show wpAny _ A.in1 (rule "list.extend.makes-room" >>= λ_=>Builtin.List.listTouch (.ref s.heap.objs.size) >>= λ_=>again (.builtin "list.extend.loop" ⟨[.ref s.heap.objs.size,.ref H1.objs.size,.ref s.heap.objs.size],[]⟩)) _ _ _
 refine MF (wpAny_rule (MF ?_))
 generalize hH2:H1.push (ve S 0 0 es.size ep)=H2
 have kp2:∀b o,H1.get? b=some o->H2.get? b=some o:=λb o e=>by rw[<-hH2];exact MH _ e
 have hI:H2.get? H1.objs.size=some (ve S 0 0 es.size ep):=by rw[<-hH2];exact MX _ rfl
 have hS0:=kp2 _ _ hD
 show wpAny _ A.in1 (updateSeq s.heap.objs.size (·.push .none) >>= λ_=>updateSeq s.heap.objs.size (·.pop)) _ _ _
 refine MF (wpAny_updateSeq (s:={s with heap:=H2}) hS0 rfl ?_)
 have hS2:=NG (Obj.mapSeq (·.push Value.none)) hS0 rfl
 refine wpAny_updateSeq (hz:=by seq_fits) hS2 rfl ?_
 have hS3:=NG (Obj.mapSeq (·.pop)) hS2 rfl
 have oth:∀b o,b≠s.heap.objs.size->H2.get? b=some o->((H2.update s.heap.objs.size (Obj.mapSeq (·.push Value.none))).update s.heap.objs.size (Obj.mapSeq (·.pop))).get? b=some o:=λb o hb e=>
  ((Heap.SameBut.update _ s.heap.objs.size (Obj.mapSeq (·.pop))).2 b hb).trans (((Heap.SameBut.update H2 s.heap.objs.size (Obj.mapSeq (·.push Value.none))).2 b hb).trans e)
 have hIS:S≠H1.objs.size:=by rw[hHs];exact Nl (Nat.lt_succ_of_lt (MT ho))
 have hID:H1.objs.size≠s.heap.objs.size:=by rw[hHs];exact Nat.succ_ne_self _
 have hDf:s.heap.objs.size∉ [H1.objs.size,S]:=λz=>by
  rcases MN.mp z with e |z
  ·exact hID e.symm
  ·exact hSD (Nc.mp z).symm
 have X0:mK w S o es ep t H1.objs.size 0 ((H2.update s.heap.objs.size (Obj.mapSeq (·.push Value.none))).update s.heap.objs.size (Obj.mapSeq (·.pop))):=
  ⟨oth _ _ hSD (kp2 _ _ (kp1 _ _ ho)),hd,hc,T,hl,0,oth _ _ hID hI,λ_=>rfl⟩
 refine MI ⟨O5 F.plain_extend_loop _,codeAny_extend_loopS (Ah (A:=A.in1) (o:=o) (t:=t) hh hIS).toS hz _ hDf _ es.size 0 _ _ _ rfl (Nm _) X0 hS3 (ItemsOf.nil _) λs' acc' c' hm hS' hacc=>?_⟩
 show wpAny _ A (load s.heap.objs.size >>= λ_=>_) _ _ s'
 refine MF (wpAny_load hS' (MI ?_))
 obtain⟨h',g',d',tk',os'⟩:=s'
 have eg:g'=s.gens:=hm.gens
 have ed:d'=s.drawn:=hm.drawn
 have eo:os'=s.os:=hm.os
 subst eg ed eo
 refine h h' tk' acc'.toList ?_ λb ob e=>hm.heap b ob (λhb=>?_) (oth b ob (Nl (MT e)) (kp2 _ _ (kp1 _ _ e)))
 ·have hts:(told w S ep es).size=es.size:=by have:=(sh w S ep es).length_eq;simpa using this
  apply OZ
  intro i
  rw[MV]
  by_cases hi:i < es.size
  ·have hi1:i < acc'.size:=by rw[hacc.1];exact hi
   have q:=hacc.2 i acc'[i] (Nj hi1)
   rw[Of,Of,Nj hi1]
   exact q.symm
  ·rw[Of,Of,OY (by rw[hacc.1];omega),OY (by omega)];rfl
 ·have hlt:=MT e
  rcases MN.mp hb with z |z
  ·rw[z] at hlt;exact Ny _ hlt
  ·rw[Nc.mp z,hHs] at hlt;exact absurd hlt (Nat.not_lt.mpr (Nat.le_succ _))
end
end L2.ST
namespace OM
abbrev Pr:=Int×Int
def Ej (p q:Pr):Prop:=p.1 < q.1\/(p.1=q.1/\p.2 < q.2)
def jY (p:Pr):¬Ej p p:=by unfold Ej;omega
def AK {p q r:Pr}(a:Ej p q)(b:Ej q r):Ej p r:=by unfold Ej at *;omega
abbrev tE (l:List Pr):Prop:=l.Pairwise Ej
theorem fC:∀{l m:List Pr},tE l->tE m->(∀x,x∈l↔x∈m)->l=m
 | [],[],_,_,_=>rfl
 | [],b :: m,_,_,h=>absurd ((h b).mpr (MP ..)) (by simp)
 |a :: l,[],_,_,h=>absurd ((h a).mp (MP ..)) (by simp)
 |a :: l,b :: m,hl,hm,h=>by
  have hl':=List.pairwise_cons.mp hl
  have hm':=List.pairwise_cons.mp hm
  have e:a=b:=by
   rcases MN.mp ((h a).mp (MP ..)) with e |e
   ·exact e
   ·rcases MN.mp ((h b).mpr (MP ..)) with e' |e'
    ·exact e'.symm
    ·exact absurd (AK (hm'.1 a e) (hl'.1 b e')) (jY _)
  subst e
  congr 1
  refine fC hl'.2 hm'.2 λx=>⟨λhx=>?_,λhx=>?_⟩
  ·rcases MN.mp ((h x).mp (MM _ hx)) with e |e
   ·subst e;exact absurd (hl'.1 x hx) (jY _)
   ·exact e
  ·rcases MN.mp ((h x).mpr (MM _ hx)) with e |e
   ·subst e;exact absurd (hm'.1 x hx) (jY _)
   ·exact e
def iB {l:List Pr}(h:tE l):l.Nodup:=h.imp λ{a b} hab e=>by subst e;exact jY _ hab
def de {l:List Pr}(p:Pr->Bool)(h:tE l):tE (l.filter p):=h.sublist List.filter_sublist
def cq (n:Nat):List Pr:=(List.range (n * n)).map λk=>(((k / n:Nat):Int),((k % n:Nat):Int))
def bC {n:Nat}{p:Pr}:p∈cq n↔(0<=p.1/\p.1 < n)/\(0<=p.2/\p.2 < n):=by
 unfold cq
 rw[MQ]
 constructor
 ·rintro⟨k,hk,rfl⟩
  have hk:=M5.mp hk
  have hn:0 < n:=by
   rcases Nat.eq_zero_or_pos n with e |e
   ·subst e;omega
   ·exact e
  have h1:k / n < n:=Nat.div_lt_of_lt_mul hk
  have h2:k % n < n:=Nat.mod_lt _ hn
  generalize k / n=q at h1
  generalize k % n=r at h2
  exact⟨⟨Int.natCast_nonneg _,by dsimp only;omega⟩,⟨Int.natCast_nonneg _,by dsimp only;omega⟩⟩
 ·rintro⟨⟨a0,a1⟩,⟨b0,b1⟩⟩
  have hn:0 < n:=by omega
  refine⟨p.1.toNat * n + p.2.toNat,M5.mpr ?_,?_⟩
  ·have h1:p.1.toNat + 1<=n:=by omega
   have h2:p.2.toNat < n:=by omega
   have:=Nat.mul_le_mul_right n h1
   rw[Nat.add_mul] at this
   omega
  ·have h2:p.2.toNat < n:=by omega
   have e1:(p.1.toNat * n + p.2.toNat) / n=p.1.toNat:=by
    rw[Nat.mul_comm,Nat.mul_add_div hn,Nat.div_eq_of_lt h2];rfl
   have e2:(p.1.toNat * n + p.2.toNat) % n=p.2.toNat:=by
    rw[Nat.mul_comm,Nat.mul_add_mod,Nat.mod_eq_of_lt h2]
   rw[e1,e2]
   refine Prod.ext ?_ ?_ <;> dsimp only <;> omega
def gF (n:Nat):tE (cq n):=by
 unfold cq
 refine NC.mpr (NX ?_ List.pairwise_lt_range)
 intro a b ha hb hab
 have ha:=M5.mp ha
 have hb:=M5.mp hb
 have hn:0 < n:=by
  rcases Nat.eq_zero_or_pos n with e |e
  ·subst e;omega
  ·exact e
 have h1:a / n<=b / n:=Nat.div_le_div_right (Nat.le_of_lt hab)
 have e1:=Nat.div_add_mod a n
 have e2:=Nat.div_add_mod b n
 unfold Ej
 dsimp only
 rcases NU (a / n) (b / n) with c |c
 ·left;omega
 ·right
  have e:a / n=b / n:=by omega
  rw[e] at e1
  omega
open Classical in
noncomputable def bR (n:Nat)(R:Int->Int->Prop):List Pr:=(cq n).filter λp=>decide (R p.1 p.2)
def aX {n:Nat}{R:Int->Int->Prop}{p:Pr}:p∈bR n R↔((0<=p.1/\p.1 < n)/\(0<=p.2/\p.2 < n))/\R p.1 p.2:=by
 unfold bR
 rw[M8,bC]
 simp
def cH (n:Nat)(R:Int->Int->Prop):tE (bR n R):=de _ (gF n)
def xW {n:Nat}{R S:Int->Int->Prop}(h:∀a b:Int,0<=a->a < n->0<=b->b < n->(R a b↔S a b)):bR n R=bR n S:=by
 refine fC (cH n R) (cH n S) λx=>?_
 rw[aX,aX]
 constructor
 ·rintro⟨⟨⟨a,b⟩,c,d⟩,r⟩;exact⟨⟨⟨a,b⟩,c,d⟩,(h _ _ a b c d).mp r⟩
 ·rintro⟨⟨⟨a,b⟩,c,d⟩,r⟩;exact⟨⟨⟨a,b⟩,c,d⟩,(h _ _ a b c d).mpr r⟩
def Wn (n:Nat)(l:List Pr):Prop:=∀p,p∈l->(0<=p.1/\p.1 < n)/\(0<=p.2/\p.2 < n)
abbrev Mem (l:List Pr)(a b:Int):Prop:=(a,b)∈l
def A0 {n:Nat}{l:List Pr}(w:Wn n l)(r:tE l):bR n (Mem l)=l:=by
 refine fC (cH n _) r λx=>?_
 rw[aX]
 exact⟨λh=>h.2,λh=>⟨w x h,h⟩⟩
def pj (n:Nat)(R:Int->Int->Prop):Wn n (bR n R):=λ_ h=>(aX.mp h).1
def Cz (n:Nat)(R:Int->Int->Prop):(bR n R).length<=n * n:=by
 unfold bR
 refine NA (NR ..) ?_
 unfold cq;simp
inductive Tr (R:Int->Int->Prop):Int->Int->Prop
 |one {a b}:R a b->Tr R a b
 |more {a b c}:R a b->Tr R b c->Tr R a c
theorem Tr.trans {R:Int->Int->Prop}{a b c:Int}(h:Tr R a b)(k:Tr R b c):Tr R a c:=by
 induction h with
 |one r=>exact .more r k
 |more r _ ih=>exact .more r (ih k)
theorem Tr.least {R S:Int->Int->Prop}(f:∀a b,R a b->S a b)(t:∀a b c,S a b->S b c->S a c){a b:Int}(h:Tr R a b):S a b:=by
 induction h with
 |one r=>exact f _ _ r
 |more r _ ih=>exact t _ _ _ (f _ _ r) ih
theorem Tr.wn {n:Nat}{l:List Pr}(w:Wn n l){a b:Int}(h:Tr (Mem l) a b):(0<=a/\a < n)/\(0<=b/\b < n):=by
 induction h with
 |one r=>exact w _ r
 |more r _ ih=>exact⟨(w _ r).1,ih.2⟩
structure Ord (n:Nat)(l:List Pr):Prop where
 lo:1<=n
 hi:n<=8
 wn:Wn n l
 ris:tE l
 irr:∀a,(a,a)∉l
 tr:∀a b c,(a,b)∈l->(b,c)∈l->(a,c)∈l
def Ord.tr_mem {n:Nat}{l:List Pr}(O:Ord n l){a b:Int}:Tr (Mem l) a b↔(a,b)∈l:=
 ⟨λh=>h.least (λ_ _ r=>r) λa b c=>O.tr a b c,λh=>.one h⟩
def Ord.closed {n:Nat}{l:List Pr}(O:Ord n l):bR n (Tr (Mem l))=l:=by
 rw[xW (S:=Mem l) λa b _ _ _ _=>O.tr_mem,A0 O.wn O.ris]
def Hx {n:Nat}{l:List Pr}(h1:1<=n)(h8:n<=8)(w:Wn n l)(hr:∀a,¬Tr (Mem l) a a):Ord n (bR n (Tr (Mem l))):=
 ⟨h1,h8,pj n _,cH n _,λa h=>hr a (aX.mp h).2,λa b c h k=>aX.mpr ⟨⟨(aX.mp h).1.1,(aX.mp k).1.2⟩,(aX.mp h).2.trans (aX.mp k).2⟩⟩
theorem qL {l m:List Pr}(hl:l.Nodup)(h:∀x,x∈l->x∈m):l.length<=m.length:=by
 induction l generalizing m with
 |nil=>exact Nm _
 |cons a l ih=>
  have ha:=h a (MP ..)
  have hl':=Nq.mp hl
  have:=ih (m:=m.erase a) hl'.2 λx hx=>by
   refine (List.mem_erase_of_ne ?_).mpr (h x (MM _ hx))
   rintro rfl;exact hl'.1 hx
  rw[OK ha] at this
  have:0 < m.length:=List.length_pos_of_mem ha
  simp only[Na];omega
def sub_eq {l m:List Pr}(hl:tE l)(hm:tE m)(h:∀x,x∈l->x∈m)(e:l.length=m.length):l=m:=by
 refine fC hl hm λx=>⟨h x,λhx=>Classical.byContradiction λhn=>?_⟩
 have:=qL (l:=x :: l) (m:=m) (Nq.mpr ⟨hn,iB hl⟩) λy hy=>by
  rcases MN.mp hy with e |e
  ·subst e;exact hx
  ·exact h y e
 simp only[Na] at this
 omega
def more (l:List Pr):List Pr:=l.flatMap λp=>(l.filter λq=>decide (q.1=p.2)).map λq=>(p.1,q.2)
def qe {l:List Pr}{x:Pr}:x∈more l↔∃b,(x.1,b)∈l/\(b,x.2)∈l:=by
 unfold more
 rw[List.mem_flatMap]
 constructor
 ·rintro⟨p,hp,hx⟩
  obtain⟨q,hq,rfl⟩:=MQ.mp hx
  obtain⟨hq,e⟩:=M8.mp hq
  have e:q.1=p.2:=by simpa using e
  exact⟨p.2,hp,by rw[<-e];exact hq⟩
 ·rintro⟨b,h1,h2⟩
  exact⟨(x.1,b),h1,MQ.mpr ⟨(b,x.2),M8.mpr ⟨h2,by simp⟩,rfl⟩⟩
noncomputable def kS (n:Nat)(l:List Pr):List Pr:=bR n (Mem (l ++ more l))
structure Gx (n:Nat)(ps l:List Pr):Prop where
 wn:Wn n l
 ris:tE l
 sub:∀x,x∈ps->x∈l
 sup:∀x,x∈l->Tr (Mem ps) x.1 x.2
def AE {n:Nat}{ps:List Pr}(w:Wn n ps):Gx n ps (bR n (Mem ps)):=
 ⟨pj n _,cH n _,λx hx=>aX.mpr ⟨w x hx,hx⟩,λ_ hx=>.one (aX.mp hx).2⟩
def C1 {n:Nat}{ps l:List Pr}(B:Gx n ps l):Wn n (l ++ more l):=λx hx=>by
 rcases M6.mp hx with h |h
 ·exact B.wn x h
 ·obtain⟨b,h1,h2⟩:=qe.mp h
  exact⟨(B.wn _ h1).1,(B.wn _ h2).2⟩
def vt {n:Nat}{ps l:List Pr}(B:Gx n ps l):Gx n ps (kS n l)/\∀x,x∈l->x∈kS n l:=by
 have hs:∀x,x∈l->x∈kS n l:=λx hx=>aX.mpr ⟨B.wn x hx,Og _ hx⟩
 refine⟨⟨pj n _,cH n _,λx hx=>hs x (B.sub x hx),λx hx=>?_⟩,hs⟩
 rcases M6.mp (aX.mp hx).2 with h |h
 ·exact B.sup _ h
 ·obtain⟨b,h1,h2⟩:=qe.mp h
  exact (B.sup _ h1).trans (B.sup _ h2)
def BB {n:Nat}{ps l:List Pr}(B:Gx n ps l)(e:(kS n l).length=l.length):kS n l=bR n (Tr (Mem ps)):=by
 obtain⟨B2,hs⟩:=vt B
 have q:l=kS n l:=sub_eq B.ris B2.ris hs e.symm
 refine fC B2.ris (cH n _) λx=>⟨λh=>aX.mpr ⟨B2.wn x h,B2.sup x h⟩,λh=>?_⟩
 rw[<-q]
 have tr:∀a b c:Int,(a,b)∈l->(b,c)∈l->(a,c)∈l:=λa b c h1 h2=>by
  rw[q]
  exact aX.mpr ⟨⟨(B.wn _ h1).1,(B.wn _ h2).2⟩,Nt _ (qe.mpr ⟨b,h1,h2⟩)⟩
 exact (aX.mp h).2.least (S:=Mem l) (λa b r=>B.sub _ r) tr
abbrev Tb:=Nat->Nat->Bool
def Tb.set (M:Tb)(a b:Nat):Tb:=λx y=>if x=a/\y=b then true else M x y
def Fb (M:Tb)(m:Nat):Prop:=∀k a b,k < m->M a k=true->M k b=true->M a b=true
def Phase (M0 M:Tb)(m:Nat)(D:Nat->Nat->Prop):Prop:=∀a b,M a b=true↔M0 a b=true\/(D a b/\M0 a m=true/\M0 m b=true)
def Phase.start (M:Tb)(m:Nat):Phase M M m λ_ _=>False:=λa b=>by simp
def Phase.row {M0 M:Tb}{m:Nat}{D:Nat->Nat->Prop}(P:Phase M0 M m D)(a:Nat):M a m=true↔M0 a m=true:=by
 rw[P]
 exact⟨λh=>h.elim id λh=>h.2.1,.inl⟩
def Phase.col {M0 M:Tb}{m:Nat}{D:Nat->Nat->Prop}(P:Phase M0 M m D)(b:Nat):M m b=true↔M0 m b=true:=by
 rw[P]
 exact⟨λh=>h.elim id λh=>h.2.2,.inl⟩
def Phase.step {M0 M:Tb}{m:Nat}{D:Nat->Nat->Prop}(P:Phase M0 M m D)(x y:Nat) :
  Phase M0 (if M x m=true/\M m y=true then M.set x y else M) m (λa b=>D a b\/(a=x/\b=y)):=λa b=>by
 have r:=P.row x
 have c:=P.col y
 by_cases h:M x m=true/\M m y=true
 ·rw[MJ h]
  unfold Tb.set
  by_cases e:a=x/\b=y
  ·rw[MJ e]
   obtain⟨rfl,rfl⟩:=e
   simp only[true_iff]
   exact .inr ⟨.inr (by simp),r.mp h.1,c.mp h.2⟩
  ·rw[MO e,P]
   constructor
   ·rintro (q | ⟨d,q⟩)
    ·exact .inl q
    ·exact .inr ⟨.inl d,q⟩
   ·rintro (q | ⟨d |d,q⟩)
    ·exact .inl q
    ·exact .inr ⟨d,q⟩
    ·exact absurd d e
 ·rw[MO h,P]
  constructor
  ·rintro (q | ⟨d,q⟩)
   ·exact .inl q
   ·exact .inr ⟨.inl d,q⟩
  ·rintro (q | ⟨d | ⟨rfl,rfl⟩,q1,q2⟩)
   ·exact .inl q
   ·exact .inr ⟨d,q1,q2⟩
   ·exact absurd ⟨r.mpr q1,c.mpr q2⟩ h
def Phase.done {M0 M:Tb}{m n:Nat}{D:Nat->Nat->Prop}(P:Phase M0 M m D)(hD:∀a b,a < n->b < n->D a b)(hM:∀a b,M0 a b=true->a < n/\b < n)(T:Fb M0 m) :
  Fb M (m + 1)/\∀a b,M a b=true->a < n/\b < n:=by
 have hM':∀a b,M a b=true->a < n/\b < n:=λa b h=>by
  rcases (P a b).mp h with q | ⟨_,q1,q2⟩
  ·exact hM a b q
  ·exact⟨(hM _ _ q1).1,(hM _ _ q2).2⟩
 have put:∀a b,M0 a m=true->M0 m b=true->M a b=true:=λa b h1 h2=>(P a b).mpr (.inr ⟨hD a b (hM _ _ h1).1 (hM _ _ h2).2,h1,h2⟩)
 refine⟨λk a b hk h1 h2=>?_,hM'⟩
 rcases NU k m with c |c
 ·rcases (P a k).mp h1 with q1 | ⟨_,q1,q1'⟩
  ·rcases (P k b).mp h2 with q2 | ⟨_,q2,q2'⟩
   ·exact (P a b).mpr (.inl (T k a b c q1 q2))
   ·exact put a b (T k a m c q1 q2) q2'
  ·rcases (P k b).mp h2 with q2 | ⟨_,q2,q2'⟩
   ·exact put a b q1 (T k m b c q1' q2)
   ·exact put a b q1 q2'
 ·have e:k=m:=by omega
  subst e
  exact put a b ((P.row a).mp h1) ((P.col b).mp h2)
structure Tab (n:Nat)(ps:List Pr)(M:Tb):Prop where
 inn:∀a b,M a b=true->a < n/\b < n
 sub:∀a b:Nat,((a:Int),(b:Int))∈ps->M a b=true
 sup:∀a b:Nat,M a b=true->Tr (Mem ps) a b
def Tab.phase {n:Nat}{ps:List Pr}{M0 M:Tb}{m:Nat}{D:Nat->Nat->Prop}(T:Tab n ps M0)(P:Phase M0 M m D):Tab n ps M:=
 ⟨λa b h=>by
  rcases (P a b).mp h with q | ⟨_,q1,q2⟩
  ·exact T.inn a b q
  ·exact⟨(T.inn _ _ q1).1,(T.inn _ _ q2).2⟩,
  λa b h=>(P a b).mpr (.inl (T.sub a b h)),
  λa b h=>by
  rcases (P a b).mp h with q | ⟨_,q1,q2⟩
  ·exact T.sup a b q
  ·exact (T.sup _ _ q1).trans (T.sup _ _ q2)⟩
def Tab.all {n:Nat}{ps:List Pr}{M:Tb}(w:Wn n ps)(T:Tab n ps M)(H:Fb M n)(a b:Nat):M a b=true↔Tr (Mem ps) a b:=by
 refine⟨T.sup a b,λh=>?_⟩
 have key:∀{x y:Int},Tr (Mem ps) x y->M x.toNat y.toNat=true:=λ{x y} h=>by
  induction h with
  | @one x y r=>
   have:=w _ r
   refine T.sub _ _ ?_
   have e1:((x.toNat:Nat):Int)=x:=by simp only at this;omega
   have e2:((y.toNat:Nat):Int)=y:=by simp only at this;omega
   rw[e1,e2];exact r
  | @more x y z r _ ih=>
   have:=w _ r
   have e1:((x.toNat:Nat):Int)=x:=by simp only at this;omega
   have e2:((y.toNat:Nat):Int)=y:=by simp only at this;omega
   have q:M x.toNat y.toNat=true:=T.sub _ _ (by rw[e1,e2];exact r)
   exact H y.toNat _ _ (T.inn _ _ q).2 q ih
 have:=key h
 simpa using this
end OM
namespace L2.ST
open PySem PySem.SetTable PySem.W PyProof.Rows
section
variable {prog:Program}{w:World}{A:Around}{E:Value->Shared->Prop}{s:Shared}
def Hl {ps:List Pr}(hs:∀p,p∈ps->Sm p){ix:Array Nat}(P:L2.SO.Pm ps.length ix)(U:L2.SO.Up (ra ps) ix ps.length):OM.tE (ix.toList.map λi=>ps.getD i (0,0)):=by
 refine NC.mpr (OG.mpr λi j hi hj hij=>?_)
 have hi':i < ix.size:=by simpa using hi
 have hj':j < ix.size:=by simpa using hj
 have q:=U i j hij (by rw[<-P.sz];exact hj')
 unfold L2.SO.Kp ra at q
 have ei:ix.getD i 0=ix.toList[i]:=by simp[Array.getD,hi']
 have ej:ix.getD j 0=ix.toList[j]:=by simp[Array.getD,hj']
 rw[ei,ej] at q
 have ai:ix.toList[i] < ps.length:=P.lt _ (by simp)
 have aj:ix.toList[j] < ps.length:=P.lt _ (by simp)
 have bi:Sm (ps.getD ix.toList[i] (0,0)):=by rw[Nd,MG ai];exact hs _ (NI ai)
 have bj:Sm (ps.getD ix.toList[j] (0,0)):=by rw[Nd,MG aj];exact hs _ (NI aj)
 exact (zj bi bj).mp q
def Hm {n:Nat}{ix:Array Nat}(P:L2.SO.Pm n ix){k:Nat}(hk:k < n):k∈ix.toList:=by
 refine Classical.byContradiction λhn=>?_
 have:=cn (l:=k :: ix.toList) (m:=List.range n) (Nq.mpr ⟨hn,P.nd⟩) λx hx=>by
  rcases MN.mp hx with e |e
  ·rw[e];exact M5.mpr hk
  ·exact M5.mpr (P.lt x (by simpa using e))
 simp[P.sz] at this
 omega
theorem KC {h:Heap}{vs:List Value}{ps:List Pr}(hps:dE prog w h vs ps){ix:Array Nat}(P:L2.SO.Pm vs.length ix) :
  dE prog w h (ix.toList.map λi=>vs.getD i Value.none) (ix.toList.map λi=>ps.getD i (0,0)):=by
 refine⟨by simp,λi v p h1 h2=>?_⟩
 rw[MV] at h1 h2
 cases e:ix.toList[i]? with
 |none=>rw[e] at h1;cases h1
 |some k=>
  rw[e] at h1 h2
  have hk:k < vs.length:=P.lt k (by simpa using MU e)
  have hk':k < ps.length:=by rw[<-hps.1];exact hk
  simp[hk,hk'] at h1 h2
  exact hps.2 k v p (by rw[MG hk,h1]) (by rw[MG hk',h2])
def sP {v:Value}{vs:List Value}{ps:List Pr}{Q:Value->Shared->Prop}(hps:dE prog w s.heap vs ps)(nd:ps.Nodup)(h64:vs.length < 64)
  (hcol:∀(Q':List Value->Shared->Prop),(∀h' tk,(∀b o,s.heap.get? b=some o->h'.get? b=some o)->Q' vs {s with heap:=h',toks:=tk})->wpAny (model prog w) A.in1 (collect v) Q' (λe s'=>E e s') s)
  (h:∀(h1 h':Heap) (tk:Nat) (D:Addr) (out:List Value) (qs:List Pr) (c:Nat),(∀b o,s.heap.get? b=some o->h1.get? b=some o)->D=h1.objs.size->(∀b o,h1.get? b=some o->h'.get? b=some o)->h'.get? D=some (seqObj "list" out.toArray c)->dE prog w h' out qs->(∀u,u∈out->u∈vs)->OM.tE qs->(∀p,p∈qs↔p∈ps)->
   Q (.ref D) {s with heap:=h',toks:=tk}):wpAny (model prog w) A (call (.builtin "sorted") [v]) Q E s:=by
 have hsm:∀p,p∈ps->Sm p:=λp hp=>by
  obtain⟨i,hi,e⟩:=Nr.mp hp
  have hi':i < vs.length:=by rw[hps.1];exact hi
  obtain⟨_,_,_,hs⟩:=hps.2 i vs[i] p (MG hi') (by rw[MG hi,e])
  exact hs
 (refine Calls.call_function_entry kind_sorted plain_sorted entry_sorted (args_sorted1 _) ?_)
 unfold Builtin.«sorted»
 refine MF (m:=checkCount "sorted" 1 1 ([v]:List Value).length) (MI ?_)
 refine MF (hcol _ λh1 tk1 k1=>?_)
 have hz:vs.length<=sizeLine:=by rw[Ni];omega
 refine MF (wpAny_newList ?_ hz)
 show wpAny _ _ _ _ _ {s with heap:=h1.push (seqObj "list" vs.toArray 0),toks:=tk1}
 have hoL:(h1.push (seqObj "list" vs.toArray 0)).get? h1.objs.size=some (seqObj "list" vs.toArray 0):=MX _ rfl
 have kp:∀b o,s.heap.get? b=some o->(h1.push (seqObj "list" vs.toArray 0)).get? b=some o:=λb o e=>MH _ (k1 b o e)
 have hp1:dE prog w (h1.push (seqObj "list" vs.toArray 0)) vs ps:=⟨hps.1,λi v p a b=>by
  obtain⟨c,e,⟨o,it,n,ho,r⟩,hs⟩:=hps.2 i v p a b
  exact⟨c,e,⟨o,it,n,kp _ _ ho,r⟩,hs⟩⟩
 have hne:∀b o,s.heap.get? b=some o->b≠h1.objs.size:=λb o e=>Nl (MT (k1 b o e))
 refine MF (NP (ON slot_list_sort ⟨_,hoL,rfl⟩ entry_list_sort ?_ (args_list_sort _)))
 refine vJ (s:={s with heap:=h1.push (seqObj "list" vs.toArray 0),toks:=tk1}) hoL hp1 nd h64 λh' c ix P U hk ho=>?_
 refine⟨_,rfl,MI ⟨_,rfl,?_⟩⟩
 have kk:∀b o,s.heap.get? b=some o->h'.get? b=some o:=λb o e=>hk b o (hne b o e) (kp b o e)
 have P':L2.SO.Pm ps.length ix:=by rw[<-hps.1];exact P
 have k2:∀b o,h1.get? b=some o->h'.get? b=some o:=λb o e=>hk b o (Nl (MT e)) (MH _ e)
 refine h h1 h' tk1 h1.objs.size _ (ix.toList.map λi=>ps.getD i (0,0)) c k1 rfl k2 ho (KC ⟨hps.1,λi v p a b=>?_⟩ P) (λu hu=>?_) (Hl hsm P' (by rw[<-hps.1];exact U)) λp=>⟨λhp=>?_,λhp=>?_⟩
 ·obtain⟨c,e,⟨o,it,n,ho,r⟩,hs⟩:=hps.2 i v p a b
  exact⟨c,e,⟨o,it,n,kk _ _ ho,r⟩,hs⟩
 ·obtain⟨i,hi,rfl⟩:=MQ.mp hu
  have:i < vs.length:=P.lt i (by simpa using hi)
  rw[Nd,MG this]
  exact NI this
 ·obtain⟨i,hi,rfl⟩:=MQ.mp hp
  have:i < ps.length:=P'.lt i (by simpa using hi)
  rw[Nd,MG this]
  exact NI this
 ·obtain⟨i,hi,e⟩:=Nr.mp hp
  refine MQ.mpr ⟨i,Hm P' hi,?_⟩
  rw[Nd,MG hi,e];rfl
end
end L2.ST
namespace L2
open PySem PySem.Spec PyProof.Rows
abbrev Pr:=Int×Int
abbrev Sm:=L2.ST.Sm
section
variable {X:Cx}{pins:List (Addr×Obj)}{σ:St}{H H':Hp}{s:Shared}
def iR (H H':Hp):Prop:=(∀b xs,H b=some (.tup xs)->H' b=some (.tup xs))/\∀b o u,H b=some (.bg o u)->H' b=some (.bg o u)
def iR.trans {H H1 H2:Hp}(a:iR H H1)(b:iR H1 H2):iR H H2:=⟨λc xs h=>b.1 c xs (a.1 c xs h),λc o u h=>b.2 c o u (a.2 c o u h)⟩
def av.grow {H H':Hp}(e:av H H'):iR H H':=⟨λb xs h=>e b _ h,λb o u h=>e b _ h⟩
def iR.new {H:Hp}{l:Addr}{o:HO}(h:H l=none):iR H (upd H l o):=⟨λb xs e=>by rw[az (aL e h)];exact e,λb o' u e=>by rw[az (aL e h)];exact e⟩
def av.new {H:Hp}{l:Addr}{o:HO}(h:H l=none):av H (upd H l o):=λb u e=>by rw[az (aL e h)];exact e
def fL.grow {K:Frag}{a:Addr}{xs:List V}(h:fL K H a xs)(g:iR H H'):fL K H' a xs:=by
 rcases h with (h | ⟨o,h⟩) |h
 ·exact .inl (.inl (g.1 _ _ h))
 ·exact .inl (.inr ⟨o,g.2 _ _ _ h⟩)
 ·exact .inr h
def iR.list {a:Addr}{ys:List V}{o:HO}(h:H a=some (.lst ys)):iR H (upd H a o):=
 ⟨λb xs e=>by rw[az (oD e h (by intro z;cases z))];exact e,λb o' u e=>by rw[az (oD e h (by intro z;cases z))];exact e⟩
theorem rM {α β:Type}{f:α->β}:∀{l:List α} {m:List β},m.Perm (l.map f)->∃l':List α,m=l'.map f/\l'.Perm l:=by
 intro l m h
 generalize hk:l.map f=k at h
 induction h generalizing l with
 |nil=>
  have:l= []:=by simpa using hk
  exact⟨[],rfl,by rw[this]⟩
 | @cons x m1 m2 _ ih=>
  cases l with
  |nil=>cases hk
  |cons a l=>
   simp only[Ng,List.cons.injEq] at hk
   obtain⟨l',e,p⟩:=ih hk.2
   exact⟨a :: l',by rw[Ng,hk.1,e],p.cons a⟩
 |swap x y m1=>
  cases l with
  |nil=>cases hk
  |cons a l=>
   cases l with
   |nil=>simp at hk
   |cons b l=>
    simp only[Ng,List.cons.injEq] at hk
    exact⟨b :: a :: l,by rw[Ng,Ng,hk.1,hk.2.1,hk.2.2],List.Perm.swap ..⟩
 |trans _ _ ih1 ih2=>
  obtain⟨l1,e1,p1⟩:=ih2 hk
  obtain⟨l2,e2,p2⟩:=ih1 e1.symm
  exact⟨l2,e2,p2.trans p1⟩
def aQ (K:Frag)(H:Hp):List V->List Pr->Prop:=Paired λv p=>∃a,v=.ref a/\fL K H a [.int p.1,.int p.2]
def aQ.grow {K:Frag}{vs:List V}{ps:List Pr}(h:aQ K H vs ps)(g:iR H H'):aQ K H' vs ps:=Paired.mapP h λv p ⟨a,e,q⟩=>⟨a,e,q.grow g⟩
theorem Paired.getP {α β:Type}{F:α->β->Prop}:∀{l:List α} {m:List β} {i:Nat} {x:α},Paired F l m->l[i]? =some x->∃y,m[i]? =some y/\F x y
 |_,_,_,_,.nil,e=>by simp at e
 |_,_,0,_,.cons r _,e=>by simp at e;subst e;exact⟨_,rfl,r⟩
 |_,_,i + 1,x,.cons _ t,e=>by
  obtain⟨u,h1,h2⟩:=Paired.getP (i:=i) (x:=x) t (by simpa using e)
  exact⟨u,by simpa using h1,h2⟩
theorem Paired.getQ {α β:Type}{F:α->β->Prop}:∀{l:List α} {m:List β} {i:Nat} {y:β},Paired F l m->m[i]? =some y->∃x,l[i]? =some x/\F x y
 |_,_,_,_,.nil,e=>by simp at e
 |_,_,0,_,.cons r _,e=>by simp at e;subst e;exact⟨_,rfl,r⟩
 |_,_,i + 1,x,.cons _ t,e=>by
  obtain⟨u,h1,h2⟩:=Paired.getQ (i:=i) (y:=x) t (by simpa using e)
  exact⟨u,by simpa using h1,h2⟩
theorem tW (I:Inv X pins σ H s){a:Addr}{p:Pr}(h:fL X.K H a [.int p.1,.int p.2]):L2.ST.bS X.prog X.w s.heap p a:=by
 obtain⟨its,r,⟨o,ho,hc,n,hd⟩,_⟩:=I.tuple h
 cases r with
 |cons r1 r=>
  cases r with
  |cons r2 r=>
   cases r
   obtain⟨t1,rfl⟩:=r1
   obtain⟨t2,rfl⟩:=r2
   exact⟨o,_,n,ho,hc,hd,.cons (intKind_is ..) (.cons (intKind_is ..) .nil)⟩
def pairs_at (I:Inv X pins σ H s){vs:List V}{us:List Value}{ps:List Pr}(hv:Vals vs us)(h:aQ X.K H vs ps)(hs:∀p,p∈ps->Sm p):L2.ST.dE X.prog X.w s.heap us ps:=by
 refine⟨by rw[<-hv.length];exact Paired.length h,λi u p e1 e2=>?_⟩
 obtain⟨v,ev,a,rfl,q⟩:=Paired.getQ h e2
 obtain⟨u',eu,ru⟩:=hv.get ev
 rw[e1] at eu;cases eu
 cases ru
 exact⟨a,rfl,tW I q,hs p (MU e2)⟩
theorem pK (I:Inv X pins σ H s){vs:List V}{us:List Value}{ps:List Pr}(hv:Vals vs us)(h:aQ X.K H vs ps){h':Heap}(k:∀b o,s.heap.get? b=some o->h'.get? b=some o):∀{out:List Value} {qs:List Pr},
  (∀u,u∈out->u∈us)->L2.ST.dE X.prog X.w h' out qs->∃ws,Vals ws out/\aQ X.K H ws qs
 | [],[],_,_=>⟨[],.nil,.nil⟩
 | [],_ :: _,_,hp=>by have:=hp.1;simp at this
 |_ :: _,[],_,hp=>by have:=hp.1;simp at this
 |u :: out,q :: qs,hm,hp=>by
  obtain⟨ws,a1,a2⟩:=pK I hv h k (out:=out) (qs:=qs) (λx hx=>hm x (MM _ hx)) ⟨by have:=hp.1;simpa using this,λi v p e1 e2=>hp.2 (i + 1) v p (by simpa using e1) (by simpa using e2)⟩
  obtain⟨i,hi,e⟩:=Nr.mp (hm u (MP ..))
  have hi':i < vs.length:=by rw[hv.length];exact hi
  obtain⟨u',eu,ru⟩:=hv.get (MG hi')
  rw[MG hi,e] at eu
  cases eu
  obtain⟨p,ep,a,ea,qa⟩:=Paired.getP h (MG hi')
  rw[ea] at ru
  cases ru
  obtain⟨b,eb,hb,_⟩:=hp.2 0 (.ref a) q rfl rfl
  cases eb
  have pa:L2.ST.bS X.prog X.w h' p a:=by
   obtain⟨o,it,n,ho,r⟩:=tW I qa
   exact⟨o,it,n,k _ _ ho,r⟩
  have:p=q:=L2.ST.bS.inj pa hb
  subst this
  exact⟨.ref a :: ws,.cons rfl a1,.cons ⟨a,rfl,qa⟩ a2⟩
def zK (K:Frag):List V->Hp->VK->Prop:=λxs H Q=>∃a vs ps,xs= [.ref a]/\gG K H a vs/\aQ K H vs ps/\(∀p,p∈ps->Sm p)/\ps.Nodup/\ps.length < 64/\
 ∀l ws qs,H l=none->aQ K H ws qs->OM.tE qs->(∀p,p∈qs↔p∈ps)->Q (.ref l) (upd H l (.lst ws))
def qI (I:Inv X pins σ H s){vs:List V}{us:List Value}{ps:List Pr}(hv:Vals vs us)(hp:aQ X.K H vs ps)(hlen:ps.length < 64){Q:VK}
  (q:∀l ws qs,H l=none->aQ X.K H ws qs->OM.tE qs->(∀p,p∈qs↔p∈ps)->Q (.ref l) (upd H l (.lst ws)))
  {h1 h':Heap} {tk:Nat} {D:Addr} {out:List Value} {qs:List Pr} {c:Nat} (k1:∀b o,s.heap.get? b=some o->h1.get? b=some o) (eD:D=h1.objs.size) (k2:∀b o,h1.get? b=some o->h'.get? b=some o)
  (ho:h'.get? D=some (seqObj "list" out.toArray c)) (hpq:L2.ST.dE X.prog X.w h' out qs) (hm:∀u,u∈out->u∈us) (hr:OM.tE qs) (hmem:∀p,p∈qs↔p∈ps):EP X pins σ Q (.ref D) {s with heap:=h',toks:=tk}:=by
 obtain⟨ws,r1,r2⟩:=pK I hv hp (λb o e=>k2 b o (k1 b o e)) hm hpq
 have I1:Inv X pins σ H {s with heap:=h1,toks:=tk}:=I.kept k1
 have hf:H D=none:=by rw[eD];exact I1.hok.fresh (MK _)
 have hz:ws.length<=sizeLine:=by
  have e1:=r1.length
  have e2:out.length=qs.length:=hpq.1
  have e3:=OM.qL (OM.iB hr) λx hx=>(hmem x).mp hx
  rw[Ni];omega
 have I2:Inv X pins σ (upd H D (.lst ws)) {s with heap:=h',toks:=tk}:=I1.laid (t':=tk) k2 (by rw[eD];exact MK _) (show bP X.prog X.w _ h' _ (.lst ws) from⟨hz,out,c,r1,ho⟩)
 exact⟨.ref D,_,I2,rfl,q D ws qs hf r2 hr hmem⟩
def oA:c8 X (.builtin "sorted") (zK X.K):=by
 intro pins s σ H xs us Q I r h
 obtain⟨a,vs,ps,rfl,hq,hp,hs,nd,hl,q⟩:=h
 obtain⟨u,rfl,rx⟩:=vals1 r
 cases rx
 obtain⟨its,rv,pl,hz⟩:=I.list hq
 have hpa:=pairs_at I rv hp hs
 have h64:its.length < 64:=by rw[hpa.1];exact hl
 refine L2.ST.sP (v:=.ref a) hpa nd h64 (λQ' hQ'=>collect_list pl.isList ?_ (by rw[Ni];omega)) λh1 h' tk D out qs c k1 eD k2 ho hpq hm hr hmem=>?_
 ·exact hQ' _ s.toks λb o e=>by
   rw[Heap.get?_update_ne _ _ _ _ (Nl (MT e)),Heap.get?_push_ne _ _ _ (Nl (MT e))];exact e
 ·exact qI I rv hp hl q k1 eD k2 ho hpq hm hr hmem
abbrev vq (qs:List (Addr×Pr)):List V:=qs.map λq=>V.ref q.1
abbrev pq (qs:List (Addr×Pr)):List Pr:=qs.map (·.2)
def GD (prog:Program)(w:World)(S:Addr)(qs:List (Addr×Pr))(h:Heap):Prop:=∃o ep t,h.get? S=some o/\o.ExactSet/\o.data=.set (qs.map λq=>(L2.ST.Bz prog w q.2,Value.ref q.1)).toArray ep t/\L2.ST.Tab t (qs.map λq=>L2.ST.Bz prog w q.2)/\t.led=L2.ST.jN w
def Bj (prog:Program)(w:World)(S:Addr)(qs:List (Addr×Pr)):HO:=.ext (GD prog w S qs)
def Kz (P:Program)(w:World)(K:Frag):List V->Hp->VK->Prop:=λxs H Q=>∃a vs ps,xs= [.ref a]/\(gG K H a vs\/fL K H a vs)/\aQ K H vs ps/\(∀p,p∈ps->Sm p)/\
 ∀S qs,H S=none->aQ K H (vq qs) (pq qs)->(pq qs).Nodup->(∀p,p∈pq qs↔p∈ps)->Q (.ref S) (upd H S (Bj P w S qs))
def CB (hc:X.calm=true)(hu:X.A.units + 64 < cLine):c8 X (.type "set") (Kz X.prog X.w X.K):=by
 intro pins s σ H xs us Q I r h
 obtain⟨a,vs,ps,rfl,hq,hp,hs,q⟩:=h
 obtain⟨u,rfl,rx⟩:=vals1 r
 cases rx
 have hh:=I.ok.hd hc
 have core:∀{its:List Value} {T:String} {itO:Obj} {St:Addr->Nat->Heap->Prop},Vals vs its->L2.ST.Src X.prog X.w s.heap a its T itO St->wpAny (model X.prog X.w) X.A (call (.type "set") [.ref a]) (EP X pins σ Q) X.xe s:=λ{its T itO St} rv src=>by
  refine L2.ST.qp src hh hu (pairs_at I rv hp hs) λh' tk F k=>?_
  obtain⟨qs,P1,P2,P3⟩:=F
  have hlen:its.length=vs.length:=rv.length.symm
  have back:∀qv:Addr×Pr,qv∈qs->∃b,b=qv.1/\fL X.K H b [.int qv.2.1,.int qv.2.2]:=λqv hqv=>by
   obtain⟨i,hi,e⟩:=Nr.mp (N1 (P2 qv hqv).1)
   have hi':i < vs.length:=by rw[<-hlen];exact hi
   obtain⟨u',eu,ru⟩:=rv.get (MG hi')
   rw[MG hi,e] at eu
   cases eu
   obtain⟨p,ep,b,eb,qb⟩:=Paired.getP hp (MG hi')
   rw[eb] at ru
   cases ru
   have pa:L2.ST.bS X.prog X.w h' p qv.1:=by
    obtain⟨o,it,n,ho,r⟩:=tW I qb
    exact⟨o,it,n,k _ _ ho,r⟩
   have:p=qv.2:=L2.ST.bS.inj pa (P1.at' qv hqv).1
   subst this
   exact⟨_,rfl,qb⟩
  have hpv:∀{l:List (Addr×Pr)},(∀x,x∈l->x∈qs)->aQ X.K H (vq l) (pq l):=λ{l}=>by
   induction l with
   |nil=>intro _;exact .nil
   |cons y l ih=>
    intro hl
    obtain⟨b,eb,qb⟩:=back y (hl y (MP ..))
    subst eb
    exact .cons ⟨_,rfl,qb⟩ (ih λx hx=>hl x (MM _ hx))
  have hmem:∀p,p∈pq qs↔p∈ps:=λp=>by
   have hpl:ps.length=its.length:=by rw[hlen];exact (Paired.length hp).symm
   constructor
   ·intro hx
    obtain⟨qv,hqv,rfl⟩:=MQ.mp hx
    exact N1 (P2 qv hqv).2
   ·intro hx
    exact P3 p (by rw[<-hpl,NV (MK _)];exact hx)
  have hf:H s.heap.objs.size=none:=I.hok.fresh (MK _)
  obtain⟨o,ep,t,ho,r1⟩:=P1.ex
  have new:bP X.prog X.w (upd H s.heap.objs.size (Bj X.prog X.w s.heap.objs.size qs)) h' s.heap.objs.size (Bj X.prog X.w s.heap.objs.size qs):=
   ⟨⟨o,ep,t,ho,r1⟩,⟨o,ho⟩,λh1 h2 ⟨o1,ep1,t1,g1,g2⟩ kk=>⟨o1,ep1,t1,kk _ g1,g2⟩⟩
  exact⟨.ref _,_,I.laid (t':=tk) k (MK _) new,rfl,q _ qs hf (hpv λx hx=>hx) P1.nd hmem⟩
 rcases hq with hq |hq
 ·obtain⟨its,rv,pl,hz⟩:=I.list hq
  exact core rv (L2.ST.Src.list pl.isList)
 ·obtain⟨its,rv,pl,hz⟩:=I.tuple hq
  exact core rv (L2.ST.Src.tuple pl)
def vZ (P:Program)(w:World)(K:Frag):List V->Hp->VK->Prop:=λxs H Q=>∃S qs,xs= [.ref S]/\H S=some (Bj P w S qs)/\aQ K H (vq qs) (pq qs)/\(∀p,p∈pq qs->Sm p)/\(pq qs).Nodup/\qs.length < 64/\
 ∀l ws rs,H l=none->aQ K H ws rs->OM.tE rs->(∀p,p∈rs↔p∈pq qs)->Q (.ref l) (upd H l (.lst ws))
def tG (hc:X.calm=true):c8 X (.builtin "sorted") (vZ X.prog X.w X.K):=by
 intro pins s σ H xs us Q I r h
 obtain⟨S,qs,rfl,hS,hp,hs,nd,hl,q⟩:=h
 obtain⟨u,rfl,rx⟩:=vals1 r
 cases rx
 have hh:=I.ok.hd hc
 obtain⟨⟨o,ep,t,ho,hex,hd,T,hled⟩,_,_⟩:GD X.prog X.w S qs s.heap/\_:=I.hok S _ hS
 have T':L2.ST.Tab t ((qs.map λq=>(L2.ST.Bz X.prog X.w q.2,Value.ref q.1)).toArray.toList.map (·.1)):=by
  rw[Oa,NQ];exact T
 have htp:=L2.ST.sh X.w S ep (qs.map λq=>(L2.ST.Bz X.prog X.w q.2,Value.ref q.1)).toArray
 have hmem:∀x,x∈(L2.ST.told X.w S ep (qs.map λq=>(L2.ST.Bz X.prog X.w q.2,Value.ref q.1)).toArray).toList->∃q,q∈qs/\x=(L2.ST.Bz X.prog X.w q.2,Value.ref q.1):=λx hx=>by
  have:=htp.mem_iff.mp hx
  simp only[Oa] at this
  obtain⟨q,hq,e⟩:=MQ.mp this
  exact⟨q,hq,e.symm⟩
 obtain⟨q2,e2,p2⟩:∃q2:List (Addr×Pr),(L2.ST.told X.w S ep (qs.map λq=>(L2.ST.Bz X.prog X.w q.2,Value.ref q.1)).toArray).toList=q2.map (λq=>(L2.ST.Bz X.prog X.w q.2,Value.ref q.1))/\q2.Perm qs:=by
  have:=htp
  simp only[Oa] at this
  exact rM this
 have hp2:aQ X.K H (vq q2) (pq q2):=by
  have key:∀{l:List (Addr×Pr)},(∀x,x∈l->x∈qs)->aQ X.K H (vq l) (pq l):=λ{l}=>by
   induction l with
   |nil=>intro _;exact .nil
   |cons y l ih=>
    intro hl
    obtain⟨i,hi,e⟩:=Nr.mp (hl y (MP ..))
    obtain⟨p,ep',a,ea,qa⟩:=Paired.getP (l:=vq qs) (m:=pq qs) (i:=i) (x:=.ref y.1) hp (by simp[hi,e])
    have:p=y.2:=by simp[hi,e] at ep';exact ep'.symm
    subst this
    exact .cons ⟨a,ea,qa⟩ (ih λx hx=>hl x (MM _ hx))
  exact key λx hx=>p2.mem_iff.mp hx
 have hv2:Vals (vq q2) (q2.map λq=>Value.ref q.1):=by
  induction q2 with
  |nil=>exact .nil
  |cons y l ih=>exact .cons rfl (by
    clear ih e2 p2 hp2
    induction l with
    |nil=>exact .nil
    |cons z l ih2=>exact .cons rfl ih2)
 have hm2:∀p,p∈pq q2↔p∈pq qs:=λp=>(p2.map (·.2)).mem_iff
 have hpa:=pairs_at I hv2 hp2 λp hpp=>hs p ((hm2 p).mp hpp)
 have hl2:q2.length < 64:=by rw[p2.length_eq];exact hl
 refine L2.ST.sP (v:=.ref S) hpa ((p2.map (·.2)).nodup_iff.mpr nd) (by simpa using hl2) (λQ' hQ'=>L2.ST.v5 (by simpa using hh) ho hd hex.1 T' hled (by simp;omega) λh' tk vs ev k=>?_) λh1 h' tk D out qs' c k1 eD k2 ho' hpq hm hr hmem'=>?_
 ·rw[ev,e2]
  rw[NQ]
  exact hQ' h' tk k
 ·exact qI I hv2 hp2 (by simpa using hl2) (λl ws rs a1 a2 a3 a4=>q l ws rs a1 a2 a3 λp=>(a4 p).trans (hm2 p)) k1 eD k2 ho' hpq hm hr hmem'
end
def om (cells:List (Str×Addr)):List (Str×NameKind)->List (Str×Addr)->List (Str×Addr)
 | [],cs=>cs
 | (n,k) :: r,cs=>om cells r (if k == .free then (n,(cells.lookup n).getD 0) :: cs else cs)
def qM {scope:Scope}{env:Env}(h:∀y∈scope.names,y.2=.free->∃c,env.cells.lookup y.1=some c):closureFor scope env=pure (om env.cells scope.names []):=by
 unfold closureFor
 have key:∀(l:List (Str×NameKind)) (cs:List (Str×Addr)),(∀y∈l,y.2=.free->∃c,env.cells.lookup y.1=some c)->
   (forIn l cs (λ(x:Str×NameKind) (r:List (Str×Addr))=>if (x.2 == NameKind.free)=true then (do let a <-cellOf env x.1;pure (ForInStep.yield ((x.1,a) :: r)):Sem _) else pure (ForInStep.yield r)):Sem (List (Str×Addr)))=pure (om env.cells l cs):=by
  intro l
  induction l with
  |nil=>intro cs _;rfl
  |cons y l ih=>
   intro cs hy
   obtain⟨n,k⟩:=y
   rw[List.forIn_cons]
   unfold om
   by_cases hk:(k == NameKind.free)=true
   ·have hk':k=.free:=by simpa using hk
    obtain⟨c,hc⟩:=hy (n,k) (MP ..) hk'
    have hce:cellOf env n=pure c:=by unfold cellOf;rw[hc]
    simp only[hk,NN]
    have hc':env.cells.lookup n=some c:=hc
    rw[hce,hc']
    simp only[pure_bind,Option.getD_some]
    exact ih _ λz hz=>hy z (MM _ hz)
   ·simp only[hk,Nx,MZ]
    simp only[pure_bind]
    exact ih _ λz hz=>hy z (MM _ hz)
 have:=key scope.names [] h
 simp only[bind_pure_comp] at this ⊢
 first
  |exact this
  | (rw[this];rfl)
  | (simpa using this)
theorem nJ {cells:List (Str×Addr)}{x:Str}:∀{l:List (Str×NameKind)} {cs:List (Str×Addr)},((x,NameKind.free)∈l\/cs.lookup x=some ((cells.lookup x).getD 0))->(om cells l cs).lookup x=some ((cells.lookup x).getD 0)
 | [],cs,h=>by
  rcases h with h |h
  ·cases h
  ·exact h
 | (n,k) :: r,cs,h=>by
  unfold om
  refine nJ ?_
  by_cases hk:(k == NameKind.free)=true
  ·rw[MJ hk]
   by_cases hx:x=n
   ·subst hx;right;simp
   ·rcases h with h |h
    ·rcases MN.mp h with e |e
     ·injection e with e1 _;exact absurd e1 hx
     ·exact .inl e
    ·right
     rw[OO,show (x == n)=false by simpa using hx]
     exact h
  ·rw[MO hk]
   rcases h with h |h
   ·rcases MN.mp h with e |e
    ·injection e with _ e2;exact absurd (by rw[<-e2];rfl) hk
    ·exact .inl e
   ·exact .inr h
theorem n9 {cells:List (Str×Addr)}{x:Str}{c:Addr}:∀{l:List (Str×NameKind)} {cs:List (Str×Addr)},(om cells l cs).lookup x=some c->((x,NameKind.free)∈l/\c=(cells.lookup x).getD 0)\/cs.lookup x=some c
 | [],cs,h=>.inr h
 | (n,k) :: r,cs,h=>by
  unfold om at h
  rcases n9 h with⟨a,b⟩ |a
  ·exact .inl ⟨MM _ a,b⟩
  ·by_cases hk:(k == NameKind.free)=true
   ·rw[MJ hk,OO] at a
    by_cases hx:x=n
    ·subst hx
     simp at a
     have:k=.free:=by simpa using hk
     subst this
     exact .inl ⟨MP ..,a.symm⟩
    ·rw[show (x == n)=false by simpa using hx] at a
     exact .inr a
   ·rw[MO hk] at a
    exact .inr a
theorem oG {f:Str->NameKind->NameKind}{x:Str}:∀(l:List (Str×NameKind)),(l.map λy=>(y.1,f y.1 y.2)).lookup x=(l.lookup x).map (f x)
 | []=>rfl
 | (n,k) :: l=>by
  rw[Ng,OO,OO]
  by_cases hx:x=n
  ·subst hx;simp
  ·have hb:(x == n)=false:=by simpa using hx
   simp only[hb]
   exact oG l
def qr (scope:Scope)(env:Env)(x:Str):(relabel scope env).names.lookup x=(scope.names.lookup x).map λk=>if (k == .free && env.scope.kind == .function && env.kindOf x == some .cell) then .cell else k:=by
 have e:(relabel scope env).names=scope.names.map λy=>(y.1,if (y.2 == .free && env.scope.kind == .function && env.kindOf y.1 == some .cell) then .cell else y.2):=by
  unfold relabel
  dsimp only
  refine Ot λy _=>?_
  obtain⟨n,k⟩:=y
  dsimp only
  split <;> rfl
 rw[e]
 exact oG (f:=λn k=>if (k == .free && env.scope.kind == .function && env.kindOf n == some .cell) then .cell else k) scope.names
def jt (X:Cx)(NB:List Str)(scope:Scope)(C:Addr)(ex:List Addr)(s3:Shared)(H3:Hp)(pn:List (Addr×Obj)):Cx:=
 {X with N:=NB,s₀:=s3,H₀:=H3,env:=compEnvC scope (om X.env.cells scope.names []) C X.env,outer:=X.stack,ex:=ex,fn:=λ_=>false,pn:=pn,xe:=λ_ _=>False}
def uG (own:Nat)(ixs:List Nat)(σ:St):St:=List.replicate own none ++ ixs.map λi=>(σ[i]?).join
structure dz (X:Cx)(NB:List Str)(own:Nat)(ixs:List Nat)(scope:Scope):Prop where
 kind:scope.kind=.function
 nocell:∀y∈scope.names,y.2≠.cell
 names:∀y∈scope.names,scope.names.lookup y.1=some y.2
 frees:∀y∈scope.names,y.2=.free->X.env.kindOf y.1=some .cell\/X.env.kindOf y.1=some .free
 nd:NB.Nodup
 len:NB.length=own + ixs.length
 at':∀k,k < ixs.length->NB[own + k]? =X.N[ixs.getD k 0]?/\∀x,NB[own + k]? =some x->(x,NameKind.free)∈scope.names
section
variable {X:Cx}{NB:List Str}{own:Nat}{ixs:List Nat}{scope:Scope}{pins:List (Addr×Obj)}{σ:St}{H:Hp}{s:Shared}
def AZ (S:dz X NB own ixs scope)(I:Inv X pins σ H s){fp:List Addr}(hfp:∀b∈fp,oO X pins H b)(hob:∀b∈fp,∃o,s.heap.get? b=some o){h1:Heap}{tk:Nat}
  (hn:h1.Ns s.heap.objs.size (λ_=>none)) (hk:∀b o,s.heap.get? b=some o->h1.get? b=some o) :
  Inv (jt X NB scope s.heap.objs.size fp s H (X.pn ++ pins)) [] (uG own ixs σ) H {s with heap:=h1,toks:=tk}:=by
 have stk:=I.stack
 have frees:∀{x:Str},(x,NameKind.free)∈scope.names->∃c,X.env.cells.lookup x=some c:=λ{x} hx=>I.ok.has x (S.frees _ hx rfl)
 have clE:∀{x:Str} {c:Addr},(om X.env.cells scope.names []).lookup x=some c->(x,NameKind.free)∈scope.names/\X.env.cells.lookup x=some c:=λ{x c} h=>by
  rcases n9 h with⟨a,b⟩ |a
  ·obtain⟨c',e⟩:=frees a
   rw[e] at b
   exact⟨a,by rw[e,b];rfl⟩
  ·simp at a
 have kindB:∀x,(jt X NB scope s.heap.objs.size fp s H (X.pn ++ pins)).env.kindOf x=(scope.names.lookup x).map λk=>if (k == .free && X.env.scope.kind == .function && X.env.kindOf x == some .cell) then .cell else k:=λx=>qr scope X.env x
 have isFree:∀{x:Str},((jt X NB scope s.heap.objs.size fp s H (X.pn ++ pins)).env.kindOf x=some .cell\/(jt X NB scope s.heap.objs.size fp s H (X.pn ++ pins)).env.kindOf x=some .free)->(x,NameKind.free)∈scope.names:=λ{x} h=>by
  rw[kindB] at h
  cases e:scope.names.lookup x with
  |none=>rw[e] at h;simp at h
  |some k=>
   have hm:=Oq e
   cases k with
   |free=>exact hm
   |cell=>exact absurd rfl (S.nocell _ hm)
   |_=>rw[e] at h;simp at h
 have neN:∀b o,s.heap.get? b=some o->b≠s.heap.objs.size:=λb o e=>Nl (MT e)
 have cellN:∀{x:Str} {c:Addr},X.env.cells.lookup x=some c->c < s.heap.objs.size:=λ{x c} e=>by
  obtain⟨v,o,ho,_⟩:=I.cell x c e
  exact MT ho
 have ok:(jt X NB scope s.heap.objs.size fp s H (X.pn ++ pins)).Ok:=by
  refine⟨I.ok.mod,S.kind,I.ok.glob,I.ok.blt,MK _,λx y c h1 h2=>I.ok.inj x y c (clE h1).2 (clE h2).2,λx hx=>?_,λx c h=>(by cases h),I.ok.hd,I.ok.frames,.inl rfl,λb hb=>?_,I.bs,NA I.ok.bsz I.sz,λb o e hb=>?_,λb hb hs=>?_,stk,I.stkFree⟩
  ·have hm:=isFree hx
   exact⟨_,nJ (.inl hm)⟩
  ·obtain⟨_,f1,f2,f3,f4,f5⟩:=hfp b hb
   refine⟨?_,λx c h z=>f4 x c (clE h).2 z⟩
   obtain⟨o,ho⟩:=hob b hb
   exact neN b o ho
  ·obtain⟨_,f1,f2,f3,f4,f5⟩:=hfp b hb
   rcases f3 with f3 |f3
   ·exact I.ok.noex b o e f3
   ·exact absurd (Nk (MT e) (NA I.ok.bsz f3)) (Ny _)
  ·obtain⟨_,f1,f2,f3,f4,f5⟩:=hfp b hb
   rcases MN.mp (I.stkSub b hs) with z |z
   ·exact f1 z
   ·exact f2 z
 refine⟨ok,rfl,I.bare,Un.kept hk,⟨_,hn,λi x v h1' h2' h3'=>?_⟩,λx c h=>?_,I.hok.fresh (MK _),λx c h=>I.freeC x c (clE h).2,λp hp=>?_,I.hok.kept hk,?_⟩
 ·
  have h1':NB[i]? =some x:=h1'
  have hown:own<=i:=by
   refine Classical.byContradiction λhc=>?_
   have hlt:i < own:=Nat.lt_of_not_le hc
   unfold uG at h2'
   rw[Nh (by simpa using hlt),N7,MJ hlt] at h2'
   cases h2'
  obtain⟨k,rfl⟩:∃k,i=own + k:=⟨i - own,by omega⟩
  have hk':k < ixs.length:=by
   have:=(M9.mp h1').1
   rw[S.len] at this;omega
  obtain⟨e1,e2⟩:=S.at' k hk'
  have hm:=e2 x h1'
  unfold uG at h2'
  rw[Np (by simp),Oz,Nat.add_sub_cancel_left,MV,MG hk'] at h2'
  simp only[Option.map_some,Option.some.injEq] at h2'
  have hix:ixs.getD k 0=ixs[k]:=by simp[hk']
  have hσ:σ[ixs[k]]? =some (some v):=by
   cases e:σ[ixs[k]]? with
   |none=>rw[e] at h2';cases h2'
   |some o=>rw[e] at h2';simp at h2';rw[h2']
  rw[e1,hix] at h1'
  have hkind:=S.frees _ hm rfl
  have hvis:wO X.env.scope x:=hkind.elim (λz=>.inr (.inl z)) (λz=>.inr (.inr z))
  obtain⟨m,hm',hl⟩:=I.loc
  obtain⟨u,r,look⟩:=hl _ x v h1' hσ hvis
  refine⟨u,r,.inr ⟨?_,?_⟩⟩
  ·rw[kindB]
   have hfr:scope.names.lookup x=some .free:=S.names _ hm
   rw[hfr]
   simp only[Option.map_some]
   split
   ·exact .inl rfl
   ·exact .inr rfl
  ·rcases look with⟨z,_⟩ | ⟨_,c,hc,hcell⟩
   ·rcases hkind with q |q
    ·rw[q] at z;cases z
    ·rw[q] at z;cases z
   ·refine⟨c,?_,?_⟩
    ·have:=nJ (cells:=X.env.cells) (cs:=[]) (.inl hm)
     rw[hc] at this
     exact this
    ·obtain⟨o,ho,hd⟩:=hcell
     exact⟨o,hk _ _ ho,hd⟩
 ·obtain⟨v,o,ho,hd⟩:=I.cell x c (clE h).2
  exact⟨v,o,hk _ _ ho,hd⟩
 ·have hp':p∈X.pn ++ pins:=by
   rcases M6.mp hp with z |z
   ·exact z
   ·cases z
  obtain⟨e,n,ne,nf,d⟩:=I.pin p hp'
  refine⟨hk _ _ e,n,neN _ _ e,λz=>?_,d⟩
  rcases MN.mp (I.stkSub _ z) with q |q
  ·exact ne q
  ·exact nf q
 ·show (uG own ixs σ).length=NB.length
  unfold uG
  rw[S.len];simp
end
abbrev zE (ifs:List Expr)(env:Env):Sem Bool:=forIn ifs true λc r=>if r=true then do let ok <-isTrue c env (eval c env);pure (ForInStep.yield ok) else pure (ForInStep.yield r)
theorem Aq {prog:Program}{w:World}{A:Around}{R:Result->Shared->Prop}{s:Shared}{elt target iter:Expr}{ifs:List Expr}{scope:Scope}{pos:Pos}{it acc:Value}{env:Env}(I:Nat->Shared->Prop)
  (turn:∀n s,I n s->wpAny (model prog w) A (pyNext it) (λr s1=>match r with
   |none=>R (.ok .next) s1
   |some v=>wpAny (model prog w) A (letOwnedTupleGo target it v) (λ_ s1'=>wpAny (model prog w) A (assign target env v) (λ_ s2=>
     wpAny (model prog w) A (zE ifs env) (λok s3=>
      if ok=true then wpAny (model prog w) A (eval elt env) (λx s4=>wpAny (model prog w) A (call (.builtin "list.append") [acc,x]) (λ_ s5=>∃m,m < n/\I m s5) (λ_ _=>False) s4) (λ_ _=>False) s3
      else ∃m,m < n/\I m s3) (λ_ _=>False) s2) (λ_ _=>False) s1') (λ_ _=>False) s1) (λ_ _=>False) s)
  (n:Nat) (h:I n s):codeAny (model prog w) A (.compLoop (.ListComp elt [⟨target,iter,ifs,0⟩] scope pos) 0 it acc env) R s:=by
 refine codeAny_loop rfl I (λn s hI=>?_) n h
 (show wpAny _ A ((compTurn (.ListComp elt [⟨target,iter,ifs,0⟩] scope pos) 0 it acc env).onRaise (λx=>do (noteFrame x env);theTreesLotGoes x)) _ _ s)
 refine wpAny_noted ?_
 rw[compTurn_list]
 refine MF (wpAny_standAt (MF (N0 (turn n s hI) (λr s1 h1=>?_) λ_ _ z=>z.elim)))
 cases r with
 |none=>exact MI h1
 |some v=>
  refine MF (N0 h1 (λ_ s1' h1'=>?_) λ_ _ z=>z.elim)
  refine MF (N0 h1' (λ_ s2 h2=>MF (N0 h2 (λok s3 h3=>?_) λ_ _ z=>z.elim)) λ_ _ z=>z.elim)
  cases ok with
  |false=>exact MI ⟨rfl,h3⟩
  |true=>exact MF (MF (N0 h3 (λx s4 h4=>MF (N0 h4 (λ_ s5 h5=>MI (MI ⟨rfl,h5⟩)) λ_ _ z=>z.elim)) λ_ _ z=>z.elim))
def BJ (X:Cx)(ifs:List Expr)(t:TT):Prop:=
 ∀(pins:List (Addr×Obj)) (s:Shared) (σ:St) (H:Hp) (Q:Bool->Hp->Prop),Inv X pins σ H s->t σ H Q->wpAny (model X.prog X.w) X.A (zE ifs X.env) (TP X pins σ Q) X.xe s
def Iw:TT:=λ_ H Q=>Q true H
def tR {X:Cx}:BJ X [] Iw:=λpins s σ H Q I h=>MI ⟨H,I,h⟩
def zN {X:Cx}{c:Expr}{t:TT}(h:PT X c t):BJ X [c] t:=λpins s σ H Q I q=>wpAny_tests_one (h pins s σ H Q I q)
def yC (own:Nat)(ixs:List Nat)(wi:TI)(g:TG)(tt:TT)(te:TE)(σ:St)(H:Hp)(Q:VK):Prop:=wi σ H λJ H1=>∀D,H1 D=none->∃W:Nat->Nat->St->Hp->Prop,(∃m,W 0 m (uG own ixs σ) (upd H1 D (.lst [])))/\∀i m σ' H',W i m σ' H'->
 (J.stop i H'/\(∃acc,H' D=some (.lst acc))/\Q (.ref D) H')\/
 (J.go i H'/\∃N:St->Hp->Prop,(∀σ2 H2,N σ2 H2->∃m',m' < m/\W (i + 1) m' σ2 H2)/\∀x H2,J.yld i H' x H2->g x σ' H2 λσ3 H3=>tt σ3 H3 λb H4=>
  if b=true then te σ3 H4 λv H5=>∃acc,H5 D=some (.lst acc)/\acc.length < sizeLine/\N σ3 (upd H5 D (.lst (acc ++ [v]))) else N σ3 H4)
section
variable {X:Cx}{NB:List Str}{own:Nat}{ixs:List Nat}{scope:Scope}{elt tg iter:Expr}{ifs:List Expr}{pos:Pos}{wi:TI}{g:TG}{tt:TT}{te:TE}
def sd (hc:X.calm=true)(S:dz X NB own ixs scope)
  (hg:∀C ex s3 H3 pn,PG (jt X NB scope C ex s3 H3 pn) tg g) (ht:∀C ex s3 H3 pn,BJ (jt X NB scope C ex s3 H3 pn) ifs tt) (he:∀C ex s3 H3 pn,PE (jt X NB scope C ex s3 H3 pn) elt te)
  {pins:List (Addr×Obj)} {σ:St} {H1:Hp} {s2:Shared} {it:Addr} {fp:List Addr} {tn:Nat->Heap->Prop} {J:It} {Q:VK} (I2:Inv X pins σ H1 s2) (T:Turn X.prog X.w X.K tg J fp it tn) (st2:tn 0 s2.heap) (f2:∀b∈fp,oO X pins H1 b)
  (hQ:∀D,H1 D=none->∃W:Nat->Nat->St->Hp->Prop,(∃m,W 0 m (uG own ixs σ) (upd H1 D (.lst [])))/\∀i m σ' H',W i m σ' H'->
   (J.stop i H'/\(∃acc,H' D=some (.lst acc))/\Q (.ref D) H')\/
   (J.go i H'/\∃N:St->Hp->Prop,(∀σ2 H2,N σ2 H2->∃m',m' < m/\W (i + 1) m' σ2 H2)/\∀x H2,J.yld i H' x H2->g x σ' H2 λσ3 H3=>tt σ3 H3 λb H4=>
    if b=true then te σ3 H4 λv H5=>∃acc,H5 D=some (.lst acc)/\acc.length < sizeLine/\N σ3 (upd H5 D (.lst (acc ++ [v]))) else N σ3 H4))
  {E:Value->Shared->Prop} {RR:Value->Addr->Result->Shared->Prop}
  (fin:∀D C H' s' m,Inv X pins σ H' s'->Q (.ref D) H'->s'.heap.Ns C m->H' C=none->C≠X.env.locals->(∀x c,X.env.cells.lookup x=some c->c≠C)->X.s₀.heap.objs.size<=C->(∀p∈X.pn ++ pins,p.1≠C)->RR (.ref D) C (.ok .next) s') :
  wpAny (model X.prog X.w) X.A (newList []) (λacc s3=>wpAny (model X.prog X.w) X.A (newFunctionEnv scope X.env.globals (om X.env.cells scope.names []) [] X.env.qual none .none (some X.env)) (λcenv s4=>
   codeAny (model X.prog X.w) X.A (.compStart (.ListComp elt [⟨tg,iter,ifs,0⟩] scope pos) 0 (.ref it) acc {cenv with scope:=relabel scope X.env}) (RR acc cenv.locals) s4) E s3) E s2:=by
 refine wpAny_newList ?_ (Nm _)
 have hD:H1 s2.heap.objs.size=none:=I2.hok.fresh (MK _)
 obtain⟨W,⟨m0,w0⟩,turn⟩:=hQ s2.heap.objs.size hD
 generalize hs3:({s2 with heap:=s2.heap.push (seqObj "list" ([]:List Value).toArray 0)}:Shared)=s3
 have I3:Inv X pins σ (upd H1 s2.heap.objs.size (.lst [])) s3:=by
  rw[<-hs3]
  exact I2.lnew (ys:=[]) (its:=[]) (t':=s2.toks) .nil (Nm _)
 have k3:∀b o,s2.heap.get? b=some o->s3.heap.get? b=some o:=λb o e=>by rw[<-hs3];exact MH _ e
 have sz3:s3.heap.objs.size=s2.heap.objs.size + 1:=by rw[<-hs3];exact OI ..
 have ob2:∀b∈fp,∃o,s2.heap.get? b=some o:=λb hb=>let ⟨o,e,_⟩:=T.obj 0 _ st2 b hb;⟨o,e⟩
 have neD:∀b∈fp,b≠s2.heap.objs.size:=λb hb=>let ⟨o,e⟩:=ob2 b hb;Nl (MT e)
 have f3:∀b∈fp,oO X pins (upd H1 s2.heap.objs.size (.lst [])) b:=λb hb=>by
  obtain⟨a1,a2⟩:=f2 b hb
  exact⟨by rw[az (neD b hb)];exact a1,a2⟩
 have st3:tn 0 s3.heap:=T.keep _ _ _ st2 λb _ o e=>k3 b o e
 refine wpAny_newFunctionEnv S.nocell (λy hy=>by simp at hy) (λh4 hn4 sb4=>?_) S.kind
 have k4:∀b o,s3.heap.get? b=some o->h4.get? b=some o:=λb o e=>sb4.extBut b o (Nl (MT e)) (MH _ e)
 have I4:Inv (jt X NB scope s3.heap.objs.size fp s3 (upd H1 s2.heap.objs.size (.lst [])) (X.pn ++ pins)) [] (uG own ixs σ) (upd H1 s2.heap.objs.size (.lst [])) {s3 with heap:=h4,toks:=s3.toks + ([]:List (Str×Value)).length}:=
  AZ S I3 f3 (λb hb=>let ⟨o,e⟩:=ob2 b hb;⟨o,k3 _ _ e⟩) (by simpa using hn4) k4
 have st4:tn 0 h4:=T.keep _ _ _ st3 λb _ o e=>k4 b o e
 generalize hB:jt X NB scope s3.heap.objs.size fp s3 (upd H1 s2.heap.objs.size (.lst [])) (X.pn ++ pins)=B at I4
 have hgB:PG B tg g:=by rw[<-hB];exact hg _ _ _ _ _
 have htB:BJ B ifs tt:=by rw[<-hB];exact ht _ _ _ _ _
 have heB:PE B elt te:=by rw[<-hB];exact he _ _ _ _ _
 have eP:B.prog=X.prog:=by rw[<-hB];rfl
 have eW:B.w=X.w:=by rw[<-hB];rfl
 have eK:B.K=X.K:=by rw[<-hB];rfl
 have eA:B.A=X.A:=by rw[<-hB];rfl
 have eC:B.calm=true:=by rw[<-hB];exact hc
 have eX:B.xe=λ_ _=>False:=by rw[<-hB];rfl
 have eE:B.env=compEnvC scope (om X.env.cells scope.names []) s3.heap.objs.size X.env:=by rw[<-hB];rfl
 have ex:B.ex=fp:=by rw[<-hB];rfl
 have eL:B.env.locals=s3.heap.objs.size:=by rw[eE];rfl
 have stat:∀{H':Hp},(∀b∈fp,H' b=none)->∀b∈fp,oO B [] H' b:=λ{H'} hn b hb=>by
  obtain⟨a1,a2,a3,a4,a5,a6⟩:=f3 b hb
  obtain⟨o,eo⟩:=ob2 b hb
  refine⟨hn b hb,?_,λz=>?_,.inl (by rw[ex];exact hb),λx c e z=>?_,λp hp z=>?_⟩
  ·rw[eL];exact Nl (MT (k3 _ _ eo))
  ·have hz:b∈jx X.stack:=by rw[<-hB] at z;exact z
   rcases MN.mp (I3.stkSub b hz) with q |q
   ·exact a2 q
   ·exact a3 q
  ·rw[eE] at e
   rcases n9 e with⟨m1,m2⟩ |m1
   ·obtain⟨c',e'⟩:=I3.ok.has x (S.frees _ m1 rfl)
    rw[e'] at m2
    exact a5 x c' e' (by rw[<-z,m2];rfl)
   ·simp at m1
  ·have hp':p∈X.pn ++ pins:=by
    rw[<-hB] at hp
    rcases M6.mp hp with q |q
    ·exact q
    ·cases q
   exact a6 p hp' z
 have back:∀{σ':St} {H':Hp} {s':Shared},Inv B [] σ' H' s'->Inv X pins σ H' s':=λ{σ' H' s'} J'=>by
  have u:=J'.base
  have os:=J'.os
  have bare:=J'.bare
  have hok:=J'.hok
  subst hB
  exact I3.call' (ch:=fp) os u hok bare λb hb=>by
   obtain⟨a1,a2,a3,a4,a5,a6⟩:=f3 b hb
   exact⟨a4,a2,a5,a6⟩
 have loop:∀s5:Shared,s5={s3 with heap:=h4,toks:=s3.toks + ([]:List (Str×Value)).length}->
   codeAny (model X.prog X.w) X.A (.compLoop (.ListComp elt [⟨tg,iter,ifs,0⟩] scope pos) 0 (.ref it) (.ref s2.heap.objs.size) (compEnvC scope (om X.env.cells scope.names []) s3.heap.objs.size X.env)) (RR (.ref s2.heap.objs.size) s3.heap.objs.size) s5:=by
  rintro s5 rfl
  refine Aq (λn s'=>∃i σ' H',Inv B [] σ' H' s'/\tn i s'.heap/\(∀b∈fp,H' b=none)/\W i n σ' H') ?_ m0 ⟨0,_,_,I4,st4,λb hb=>(f3 b hb).1,w0⟩
  rintro n s6 ⟨i,σ6,H6,I6,st6,fr6,w6⟩
  rcases turn i n σ6 H6 w6 with⟨stop,⟨acc,hacc⟩,qn⟩ | ⟨go,N,hN,step⟩
  ·have:=T.done B eP eW eK eC i [] s6 σ6 H6 (λ_ _=>False) I6 (stat fr6) st6 stop
   rw[eA] at this
   refine b5 this λr s7 ⟨hr,I7⟩=>?_
   subst hr
   obtain⟨m7,hn7,_⟩:=I7.loc
   rw[eL] at hn7
   have J7:=back I7
   refine fin _ _ H6 s7 m7 J7 qn hn7 (by rw[<-eL];exact I7.free) (λz=>?_) (λx c e z=>?_) ?_ λp hp z=>?_
   ·have:=I3.lt
    rw[<-z] at this
    exact Ny _ this
   ·obtain⟨v,o,ho,_⟩:=I3.cell x c e
    exact absurd (MT ho) (by rw[z];exact Ny _)
   ·exact I3.sz
   ·have:=MT (I3.pin p hp).1
    rw[z] at this
    exact Ny _ this
  ·have hitem:=T.item B eP eW eK eC i [] s6 σ6 H6 (λ_ _=>False) I6 (stat fr6) st6 go
   rw[eA] at hitem
   refine b5 hitem λr s7 ⟨u,hr,h7⟩=>?_
   subst hr
   refine b5 h7 λ_ s8 ⟨x,H8,I8,r8,y8,st8,fr8⟩=>?_
   have I8':=I8.pinned (stat fr8) (T.obj _ _ st8)
   have ha:=hgB _ s8 σ6 H8 x u _ I8' r8 (step x H8 y8)
   rw[eP,eW,eA,eE,eX] at ha
   refine b5 ha λ_ s9 ⟨σ9,H9,I9,q9⟩=>?_
   have hb:=htB _ s9 σ9 H9 _ I9 q9
   rw[eP,eW,eA,eE,eX] at hb
   refine b5 hb λok s10 ⟨H10,I10,q10⟩=>?_
   have again:∀{σ7:St} {H7:Hp} {s7:Shared},Inv B ([] ++ qW fp s8.heap) σ7 H7 s7->N σ7 H7->∃m,m < n/\∃i σ' H',Inv B [] σ' H' s7/\tn i s7.heap/\(∀b∈fp,H' b=none)/\W i m σ' H':=λ{σ7 H7 s7} I7 n7=>by
    obtain⟨m',hm,w7⟩:=hN σ7 H7 n7
    refine⟨m',hm,i + 1,σ7,H7,I7.unpinned,T.keep _ _ _ st8 λb hb o e=>(I7.pin (b,o) (Nt _ (Nt _ (kh hb e)))).1,λb hb=>?_,w7⟩
    obtain⟨o,e,d⟩:=T.obj _ _ st8 b hb
    exact (I7.pin (b,o) (Nt _ (Nt _ (kh hb e)))).2.1
   cases ok with
   |false=>
    simp only[MZ,Nx] at q10 ⊢
    exact again I10 q10
   |true=>
    simp only[NN] at q10 ⊢
    have hv:=heB _ s10 σ9 H10 _ I10 q10
    rw[eP,eW,eA,eE,eX] at hv
    refine b5 hv λy s11 ⟨v,H11,I11,r11,acc,hacc,hz,q11⟩=>?_
    have hap:=ou (X:=B) _ s11 σ9 H11 (.ref s2.heap.objs.size) [v] (.ref s2.heap.objs.size) [y] (λz H'=>z=.non/\N σ9 H') I11 rfl (.cons r11 .nil) ⟨_,acc,v,rfl,rfl,hacc,hz,rfl,q11⟩
    rw[eP,eW,eA,eX] at hap
    exact b5 hap λ_ s12 ⟨_,H12,I12,_,_,q12⟩=>again I12 q12
 exact codeAny_compStart_list (loop _ rfl) (T.self X.A 0 _ _ _ st4 (loop _ rfl))
def vN (hc:X.calm=true)(S:dz X NB own ixs scope)(hi:PI X tg iter wi)
  (hg:∀C ex s3 H3 pn,PG (jt X NB scope C ex s3 H3 pn) tg g) (ht:∀C ex s3 H3 pn,BJ (jt X NB scope C ex s3 H3 pn) ifs tt) (he:∀C ex s3 H3 pn,PE (jt X NB scope C ex s3 H3 pn) elt te)
  (hs:∀x,foldedSetIterable iter X.env x=pure x:=by intro _;rfl) :
  PE X (.ListComp elt [⟨tg,iter,ifs,0⟩] scope pos) (yC own ixs wi g tt te):=by
 intro pins s σ H Q I h
 rw[eval_ListComp]
 refine wpAny_comprehension_free (use:=none) rfl hs (qM λy hy e=>I.ok.has _ (S.frees y hy e)) S.kind (λy hy e=>by rw[S.names y hy,e]) ?_
 refine b5 (hi pins s σ H _ I h) λv s1 h1=>b5 h1 λitv s2 h2=>?_
 obtain⟨it,fp,tn,J,H2,e,I2,T,st2,f2,q2⟩:=h2
 subst e
 refine sd hc S hg ht he I2 T st2 f2 q2 (RR:=λacc C=>compPost (model X.prog X.w) X.A X.xe none (EP X pins σ Q) acc C) λD C H' s' m J' q hn hC n1 n2 n3 n4=>?_
 refine⟨m,hn,λh'' sb=>⟨.ref D,H',?_,rfl,q⟩⟩
 exact J'.turned (t':=s'.toks) (it:=C) (λb o hb e=>sb.extBut b o hb e) hC n1 (.inr n3) n2 n4
def Dr {i:Nat}{y:Str}{py spos:Pos}(hc:X.calm=true)(S:dz X NB own ixs scope)(hi:PI X tg iter wi)
  (hg:∀C ex s3 H3 pn,PG (jt X NB scope C ex s3 H3 pn) tg g) (ht:∀C ex s3 H3 pn,BJ (jt X NB scope C ex s3 H3 pn) ifs tt) (he:∀C ex s3 H3 pn,PE (jt X NB scope C ex s3 H3 pn) elt te)
  (hN:X.N.Nodup) (hy:X.N[i]? =some y) (hl:X.env.scope.names.lookup y=some .local)
  (hsw:swapsWith (.ListComp elt [⟨tg,iter,ifs,0⟩] scope pos) (some (.Name y py)) spos.line X.env=pure true)
  (hs:∀x,foldedSetIterable iter X.env x=pure x:=by intro _;rfl) :
  PS X (.Assign [.Name y py] (.ListComp elt [⟨tg,iter,ifs,0⟩] scope pos) spos) (λD σ H=>yC own ixs wi g tt te σ H λv H'=>D.nx (σ.set i (some v)) H'):=by
 intro pins s σ H D I h
 rw[exec_Assign_Name_used _ _ _ _ hsw]
 refine MF (wpAny_standAt (MF ?_))
 show wpAny _ X.A (comprehension (.ListComp elt [⟨tg,iter,ifs,0⟩] scope pos) scope X.env _ (newList []) false (eval iter X.env) (some (assign (.Name y py) X.env)) >>= λ_=>pure ()) _ _ s
 refine MF (N0 (wpAny_comprehension_free (use:=some (assign (.Name y py) X.env)) (Q:=λ_ s'=>SP X pins D .next s') rfl hs (qM λy hy e=>I.ok.has _ (S.frees y hy e)) S.kind (λy hy e=>by rw[S.names y hy,e]) ?_)
  (λ_ s' hq=>MI (MI hq)) λ_ _ e=>e)
 refine b5 (hi pins s σ H _ I h) λv s1 h1=>b5 h1 λitv s2 h2=>?_
 obtain⟨it,fp,tn,J,H2,e,I2,T,st2,f2,q2⟩:=h2
 subst e
 refine sd hc S hg ht he I2 T st2 f2 q2 (Q:=λv H'=>D.nx (σ.set i (some v)) H') (RR:=λacc C=>compPost (model X.prog X.w) X.A X.xe (some (assign (.Name y py) X.env)) (λ_ s'=>SP X pins D .next s') acc C) λD' C H' s' m J' q hn hC n1 n2 n3 n4=>?_
 show wpAny _ X.A (assign (.Name y py) X.env (.ref D')) _ _ s'
 refine wpAny_assign_Name (sL J' hN hy (.inl hl) (v:=.ref D') rfl (λs'' I'' ⟨a,sb,ha⟩=>?_) (.inr hl))
 have hCa:C≠a:=by
  rcases ha with z |z
  ·rw[z];exact n1
  ·exact (n2 _ _ z).symm
 refine⟨m,hn.sameBut sb hCa,λh3 sb3=>⟨_,H',?_,q⟩⟩
 exact I''.turned (t':=s''.toks) (it:=C) (λb o hb e=>sb3.extBut b o hb e) hC n1 (.inr n3) n2 n4
end
section
variable {own:Nat}{ixs:List Nat}{g:TG}{tt:TT}{te:TE}{σ:St}{H:Hp}{Q:VK}{K:Frag}{D a:Addr}{xs:List V}
abbrev fu (g:TG)(tt:TT)(te:TE)(D:Addr)(x:V)(σ:St)(H:Hp)(N:St->Hp->Prop):Prop:=g x σ H λσ3 H3=>tt σ3 H3 λb H4=>
  if b=true then te σ3 H4 λv H5=>∃acc,H5 D=some (.lst acc)/\acc.length < sizeLine/\N σ3 (upd H5 D (.lst (acc ++ [v]))) else N σ3 H4
def Ad (Pv:Nat->St->Hp->Prop)(h0:Pv 0 (uG own ixs σ) (upd H D (.lst [])))(hl:∀i σ H,i<=xs.length->Pv i σ H->gG K H a xs)
  (hs:∀i x σ H,xs[i]? =some x->Pv i σ H->fu g tt te D x σ H (Pv (i + 1))) (hd:∀σ H,Pv xs.length σ H->(∃acc,H D=some (.lst acc))/\Q (.ref D) H) :
  ∃W:Nat->Nat->St->Hp->Prop,(∃m,W 0 m (uG own ixs σ) (upd H D (.lst [])))/\∀i m σ' H',W i m σ' H'->
   ((Bb K a).stop i H'/\(∃acc,H' D=some (.lst acc))/\Q (.ref D) H')\/
   ((Bb K a).go i H'/\∃N:St->Hp->Prop,(∀σ2 H2,N σ2 H2->∃m',m' < m/\W (i + 1) m' σ2 H2)/\∀x H2,(Bb K a).yld i H' x H2->fu g tt te D x σ' H2 N):=by
 refine⟨λi m σ H=>m=xs.length - i/\i<=xs.length/\Pv i σ H,⟨xs.length,by simp,Nm _,h0⟩,?_⟩
 rintro i m σ H ⟨rfl,hi,p⟩
 have q:=hl i σ H hi p
 by_cases hlt:i < xs.length
 ·refine .inr ⟨⟨xs,xs[i],q,by simp[hlt]⟩,Pv (i + 1),λσ' H' p'=>⟨xs.length - (i + 1),by omega,rfl,hlt,p'⟩,λx H' y=>?_⟩
  obtain⟨e,y⟩:=y
  subst e
  exact hs i x σ _ (y xs q) p
 ·have e:i=xs.length:=by omega
  subst e
  exact .inl ⟨⟨xs,q,MK _⟩,hd σ H p⟩
def xF {lo:Int}{n:Nat}(Pv:Nat->St->Hp->Prop)(h0:Pv 0 (uG own ixs σ) (upd H D (.lst [])))
  (hs:∀i σ H,i < n->Pv i σ H->fu g tt te D (.int (lo + i)) σ H (Pv (i + 1))) (hd:∀σ H,Pv n σ H->(∃acc,H D=some (.lst acc))/\Q (.ref D) H) :
  ∃W:Nat->Nat->St->Hp->Prop,(∃m,W 0 m (uG own ixs σ) (upd H D (.lst [])))/\∀i m σ' H',W i m σ' H'->
   ((Bc lo n).stop i H'/\(∃acc,H' D=some (.lst acc))/\Q (.ref D) H')\/
   ((Bc lo n).go i H'/\∃N:St->Hp->Prop,(∀σ2 H2,N σ2 H2->∃m',m' < m/\W (i + 1) m' σ2 H2)/\∀x H2,(Bc lo n).yld i H' x H2->fu g tt te D x σ' H2 N):=by
 refine⟨λi m σ H=>m=n - i/\i<=n/\Pv i σ H,⟨n,by simp,Nm _,h0⟩,?_⟩
 rintro i m σ H ⟨rfl,hi,p⟩
 by_cases hlt:i < n
 ·refine .inr ⟨hlt,Pv (i + 1),λσ' H' p'=>⟨n - (i + 1),by omega,rfl,hlt,p'⟩,λx H' y=>?_⟩
  obtain⟨e,y⟩:=y
  subst e y
  exact hs i σ _ hlt p
 ·have e:i=n:=by omega
  subst e
  exact .inl ⟨MK _,hd σ H p⟩
end
mutual
inductive Rep (K:Frag)(H:Hp):V->PyData->Prop
 |non:Rep K H .non .none
 |bl (b:Bool):Rep K H (.bl b) (.bool b)
 |int (i:Int):Rep K H (.int i) (.int i)
 |str (x:Str):Rep K H (.str x) (.str x)
 |tup {a:Addr} {xs:List V} {ds:List PyData}:fL K H a xs->kN K H xs ds->Rep K H (.ref a) (.tuple ds)
 |lst {a:Addr} {xs:List V} {ds:List PyData}:gG K H a xs->kN K H xs ds->Rep K H (.ref a) (.list ds)
inductive kN (K:Frag)(H:Hp):List V->List PyData->Prop
 |nil:kN K H [] []
 |cons {x:V} {xs:List V} {d:PyData} {ds:List PyData}:Rep K H x d->kN K H xs ds->kN K H (x :: xs) (d :: ds)
end
section
variable {X:Cx}{pins:List (Addr×Obj)}{σ:St}{H H':Hp}{s:Shared}
mutual
theorem Rep.reads (I:Inv X pins σ H s):∀{x:V} {d:PyData} {u:Value},Rep X.K H x d->RelV x u->∃as,Reads s.heap u d as
 |_,_,_,.non,r=>by cases r;exact⟨_,.none⟩
 |_,_,_,.bl b,r=>by cases r;exact⟨_,.bool b⟩
 |_,_,_,.int i,r=>by obtain⟨t,rfl⟩:=r;exact⟨_,.int i t⟩
 |_,_,_,.str x,r=>by obtain⟨t,rfl⟩:=r;exact⟨_,.str x t⟩
 |_,_,_,.tup h hs,r=>by
  cases r
  obtain⟨its,rv,⟨o,ho,hc,n,hd⟩,_⟩:=I.tuple h
  obtain⟨as,q⟩:=kN.reads I hs rv
  exact⟨_,.tuple ho hc hd (by simpa using q)⟩
 |_,_,_,.lst h hs,r=>by
  cases r
  obtain⟨its,rv,pl,_⟩:=I.list h
  obtain⟨o,ho,hc,n,hd⟩:=pl.isList
  obtain⟨as,q⟩:=kN.reads I hs rv
  exact⟨_,.list ho hc hd (by simpa using q)⟩
theorem kN.reads (I:Inv X pins σ H s):∀{xs:List V} {ds:List PyData} {us:List Value},kN X.K H xs ds->Vals xs us->∃as,ReadsAll s.heap us ds as
 |_,_,_,.nil,r=>by cases r;exact⟨_,.nil⟩
 |_,_,_,.cons h hs,r=>by
  cases r with
  |cons r1 r2=>
   obtain⟨as,q⟩:=Rep.reads I h r1
   obtain⟨bs,q'⟩:=kN.reads I hs r2
   exact⟨_,.cons q q'⟩
end
def Hv (K:Frag)(neg:Bool):R2:=λx y H Q=>∃d e,Rep K H x d/\Rep K H y e/\SeqAt.shaped d=true/\SeqAt.shaped e=true/\Q (.bl (if neg then !PyData.eqv d e else PyData.eqv d e)) H
def dY (hu:X.A.units + 64 < cLine):lX X (compareOp .Eq) (Hv X.K false):=by
 intro pins s σ H x y v u Q I rx ry h
 obtain⟨d,e,h1,h2,s1,s2,q⟩:=h
 obtain⟨as,r1⟩:=h1.reads I rx
 obtain⟨bs,r2⟩:=h2.reads I ry
 exact SeqAt.compareEq_shaped r1 r2 s1 s2 hu ⟨.bl _,H,I,rfl,q⟩
def dW (hu:X.A.units + 64 < cLine):lX X (compareOp .NotEq) (Hv X.K true):=by
 intro pins s σ H x y v u Q I rx ry h
 obtain⟨d,e,h1,h2,s1,s2,q⟩:=h
 obtain⟨as,r1⟩:=h1.reads I rx
 obtain⟨bs,r2⟩:=h2.reads I ry
 exact SeqAt.compareNe_shaped r1 r2 s1 s2 hu ⟨.bl _,H,I,rfl,q⟩
def Il (K:Frag)(neg:Bool):R2:=λx y H Q=>∃p xs d ds,y=.ref p/\(gG K H p xs\/fL K H p xs)/\kN K H xs ds/\Rep K H x d/\SeqAt.shaped d=true/\(∀e,e∈ds->SeqAt.shaped e=true)/\
 Q (.bl (if neg then !(ds.any λe=>PyData.eqv e d) else ds.any λe=>PyData.eqv e d)) H
theorem kN.at' {K:Frag}:∀{xs:List V} {ds:List PyData} {i:Nat} {x:V},kN K H xs ds->xs[i]? =some x->∃d,ds[i]? =some d/\Rep K H x d
 |_,_,_,_,.nil,e=>by simp at e
 |_,_,0,_,.cons r _,e=>by simp at e;subst e;exact⟨_,rfl,r⟩
 |_,_,i + 1,x,.cons _ t,e=>by
  obtain⟨u,h1,h2⟩:=kN.at' (i:=i) (x:=x) t (by simpa using e)
  exact⟨u,by simpa using h1,h2⟩
open Classical in
theorem ng (I:Inv X pins σ H s)(d:PyData):∀{xs:List V} {us:List Value} {ds:List PyData},Vals xs us->kN X.K H xs ds->(∀e,e∈ds->SeqAt.shaped e=true)->∃f:Value->Bool,us.any f=(ds.any λe=>PyData.eqv e d)/\∀u,u∈us->∃e as,e∈ds/\Reads s.heap u e as/\f u=PyData.eqv e d:=by
 intro xs us ds hv hr hs
 let f:Value->Bool:=λu=>if h:∃e as,SeqAt.shaped e=true/\Reads s.heap u e as then PyData.eqv (Classical.choose h) d else false
 have hf:∀{u:Value} {e:PyData} {as:List Addr},SeqAt.shaped e=true->Reads s.heap u e as->f u=PyData.eqv e d:=λ{u e as} h1 h2=>by
  have hx:∃e as,SeqAt.shaped e=true/\Reads s.heap u e as:=⟨e,as,h1,h2⟩
  show (if h:∃e as,SeqAt.shaped e=true/\Reads s.heap u e as then PyData.eqv (Classical.choose h) d else false)=_
  rw[dif_pos hx]
  obtain⟨bs,q1,q2⟩:=Classical.choose_spec hx
  rw[SeqAt.Reads.unique _ _ _ _ _ (Ob q1) q2 h2]
 refine⟨f,?_,?_⟩
 ·induction hv generalizing ds with
  |nil=>cases hr;rfl
  | @cons x u xs us r1 r2 ih=>
   cases hr with
   | @cons _ _ e es h1 h2=>
    obtain⟨as,q⟩:=h1.reads I r1
    rw[Oc,Oc,hf (hs e (MP ..)) q,ih h2 λz hz=>hs z (MM _ hz)]
 ·intro u hu
  obtain⟨i,hi,e0⟩:=Nr.mp hu
  have hi':i < xs.length:=by rw[hv.length];exact hi
  obtain⟨u',eu,ru⟩:=hv.get (MG hi')
  rw[MG hi,e0] at eu
  cases eu
  obtain⟨e,ee,re⟩:=kN.at' hr (MG hi')
  obtain⟨as,q⟩:=re.reads I ru
  have hm:=MU ee
  exact⟨e,as,hm,q,hf (hs e hm) q⟩
def Dg (hu:X.A.units + 100 < cLine):lX X (compareOp .In) (Il X.K false):=by
 intro pins s σ H x y v u Q I rx ry h
 obtain⟨p,xs,d,ds,rfl,hq,hs,hx,s1,s2,q⟩:=h
 cases ry
 obtain⟨bs,r2⟩:=hx.reads I rx
 have key:∀{e:PyData} {as:List Addr} {u:Value},SeqAt.shaped e=true->Reads s.heap u e as->SeqAt.EqAt X.A.in1 s u v (PyData.eqv e d):=λ{e as u} h1 h2=>by
  refine SeqAt.eqAt_reads _ _ _ _ _ _ _ _ h2 r2 (Ob h1) (Ob s1) ?_
  have:=SeqAt.depth_of_shaped h1
  show X.A.units + 1 + _ < _
  omega
 rcases hq with hq |hq
 ·obtain⟨its,r,pl,hz⟩:=I.list hq
  obtain⟨f,e1,e2⟩:=ng I d r hs s2
  refine SeqAt.in_listAt f pl.isList (λw hw=>?_) ⟨.bl _,H,I,rfl,?_⟩
  ·obtain⟨e,as,hm,rd,ef⟩:=e2 w (by simpa using hw)
   rw[ef];exact key (s2 e hm) rd
  ·rw[show its.toArray.any f=its.any f by simp,e1];exact q
 ·obtain⟨its,r,pl,hz⟩:=I.tuple hq
  obtain⟨f,e1,e2⟩:=ng I d r hs s2
  refine SeqAt.in_tupleAt f pl (λw hw=>?_) ⟨.bl _,H,I,rfl,?_⟩
  ·obtain⟨e,as,hm,rd,ef⟩:=e2 w (by simpa using hw)
   rw[ef];exact key (s2 e hm) rd
  ·rw[show its.toArray.any f=its.any f by simp,e1];exact q
inductive Ga (K:Frag)(H:Hp):V->String->Prop
 |non:Ga K H .non "NoneType"
 |bl (b:Bool):Ga K H (.bl b) "bool"
 |int (i:Int):Ga K H (.int i) "int"
 |str (x:Str):Ga K H (.str x) "str"
 |tup {a:Addr} {xs:List V}:fL K H a xs->Ga K H (.ref a) "tuple"
 |lst {a:Addr} {xs:List V}:gG K H a xs->Ga K H (.ref a) "list"
 |dic {a:Addr} {kvs:List (Key×V)}:H a=some (.dK kvs)->Ga K H (.ref a) "dict"
def LA (K:Frag):List V->Hp->VK->Prop:=λxs H Q=>∃x T t b,xs= [x,.ty T]/\Ga K H x t/\PySem.W.kitOne K (.type t) (.type T)=some b/\Q (.bl b) H
theorem D7:c8 X (.builtin "isinstance") (LA X.K):=by
 intro pins s σ H xs us Q I r h
 obtain⟨x,T,t,b,rfl,ty,e,q⟩:=h
 obtain⟨u,c,rfl,rx,rc⟩:=vals2 r
 cases rc
 have fin:∀tk,EP X pins σ Q (.bool b) {s with toks:=tk}:=λtk=>⟨.bl b,H,I.tok tk,rfl,q⟩
 cases ty with
 |non=>exact jF I rx .non e fin
 |bl b=>exact jF I rx (.bl b) e fin
 |int i=>exact jF I rx (.int i) e fin
 |str z=>exact jF I rx (.str z) e fin
 |dic hk=>exact jF I rx (.dK hk) e fin
 |tup hq=>
  cases rx
  obtain⟨its,rv,⟨o,h1,h2,_⟩,_⟩:=I.tuple hq
  exact NF PySem.W.kitx_tuple I.kIn ⟨o,h1,h2⟩ e (λz=>nomatch z) fin
 |lst hq=>
  cases rx
  obtain⟨its,rv,pl,_⟩:=I.list hq
  obtain⟨o,h1,h2,_⟩:=pl.isList
  exact NF PySem.W.kitx_list I.kIn ⟨o,h1,h2⟩ e (λz=>nomatch z) fin
def wq {A:Around}{its:List Value}{bs:List Bool}(hv:Vals (bs.map V.bl) its):TruthOf X.prog X.w A (λi v=>its[i]? =some v) (λi=>bs.getD i false):=λi v s Q E hi hq=>by
 have hl:=hv.length
 have hi2:i < bs.length:=by
  have:=(M9.mp hi).1
  rw[<-hl] at this;simpa using this
 obtain⟨u,eu,ru⟩:=hv.get (i:=i) (x:=.bl bs[i]) (by simp[hi2])
 rw[hi] at eu;cases eu
 cases ru
 refine N8 ?_
 have:bs.getD i false=bs[i]:=by simp[hi2]
 rw[<-this];exact hq
theorem range_all (bs:List Bool):(List.range bs.length).all (λi=>bs.getD i false)=bs.all id:=by
 induction bs with
 |nil=>rfl
 |cons b bs ih=>
  rw[Na,List.range_succ_eq_map,all_cons,List.all_map,all_cons,<-ih]
  rfl
theorem range_any (bs:List Bool):(List.range bs.length).any (λi=>bs.getD i false)=bs.any id:=by
 induction bs with
 |nil=>rfl
 |cons b bs ih=>
  rw[Na,List.range_succ_eq_map,Oc,List.any_map,Oc,<-ih]
  rfl
def yf (K:Frag)(f:List Bool->Bool):List V->Hp->VK->Prop:=λxs H Q=>∃a bs,xs= [.ref a]/\gG K H a (bs.map V.bl)/\Q (.bl (f bs)) H
def qu (hc:X.calm=true){a:Addr}{bs:List Bool}{Q:VK}(I:Inv X pins σ H s)(hq:gG X.K H a (bs.map V.bl)){f:List Bool->Bool}{g:(Nat->Bool)->Nat->Bool}(hfg:g (λi=>bs.getD i false) bs.length=f bs)(q:Q (.bl (f bs)) H) :
  wpAny (model X.prog X.w) X.A.in1 (pyIter (.ref a)) (λit s2=>∃Ii fp wr n P St tr,it=.ref Ii/\Walks X.prog X.w X.A.in1 Ii fp wr n P St/\St 0 s2.heap/\TruthOf X.prog X.w X.A.in1 P tr/\
   ∀h' tk,(∀b o,b∉wr->s2.heap.get? b=some o->h'.get? b=some o)->EP X pins σ Q (.bool (g tr n)) {s2 with heap:=h',toks:=tk}) X.xe s:=by
 obtain⟨its,rv,pl,hz⟩:=I.list hq
 have hh:X.A.in1.handled=none:=I.ok.hd hc
 have hlen:its.length=bs.length:=by rw[<-rv.length];simp
 obtain⟨o,ho,_⟩:=id pl.isList
 refine OD pl.isList ?_
 have W:=Walks.list (prog:=X.prog) (w:=X.w) hh s.heap.objs.size a (Nl (MT ho)) its.toArray
 refine⟨s.heap.objs.size,_,_,_,_,_,λi=>bs.getD i false,rfl,W,⟨⟨_,MX _ rfl,rfl,rfl⟩,pl.isList.push _⟩,?_,λh' tk k=>?_⟩
 ·have:=wq (X:=X) (A:=X.A.in1) rv
  simpa using this
 ·have e:its.toArray.size=bs.length:=by simpa using hlen
  rw[e,hfg]
  have I1:Inv X pins σ H {s with heap:=s.heap.push {cls:=.type "list_iterator",data:=.fields #[.ref a,.int 0 0]}}:=I.kept (t':=s.toks) λb o e=>MH _ e
  have hf:H s.heap.objs.size=none:=I.hok.fresh (MK _)
  have fp:=I.fpOk (H':=H) (b:=s.heap.objs.size) (MK _) hf
  refine⟨.bl _,H,I1.turned (it:=s.heap.objs.size) (t':=tk) (λb o hb e=>k b o (by simpa using hb) e) hf fp.2.1 fp.2.2.2.1 fp.2.2.2.2.1 fp.2.2.2.2.2,rfl,q⟩
def jJ (hc:X.calm=true):c8 X (.builtin "all") (yf X.K λbs=>bs.all id):=by
 intro pins s σ H xs us Q I r h
 obtain⟨a,bs,rfl,hq,q⟩:=h
 obtain⟨u,rfl,rx⟩:=vals1 r
 cases rx
 exact call_all_walk (qu hc I hq (f:=λbs=>bs.all id) (g:=λtr n=>(List.range n).all tr) (range_all bs) q)
def Dq (hc:X.calm=true):c8 X (.builtin "any") (yf X.K λbs=>bs.any id):=by
 intro pins s σ H xs us Q I r h
 obtain⟨a,bs,rfl,hq,q⟩:=h
 obtain⟨u,rfl,rx⟩:=vals1 r
 cases rx
 exact call_any_walk (qu hc I hq (f:=λbs=>bs.any id) (g:=λtr n=>(List.range n).any tr) (range_any bs) q)
def BF:c8 X (.type "range") (λxs H Q=>∃n:Int,xs= [.int n]/\∀p,H p=none->Q (.ref p) (upd H p (.iY 0 n))):=by
 intro pins s σ H xs us Q I r h
 obtain⟨n,rfl,q⟩:=h
 obtain⟨u,rfl,rx⟩:=vals1 r
 obtain⟨t,rfl⟩:=rx
 refine call_range_1 ⟨.ref s.heap.objs.size,upd H s.heap.objs.size (.iY 0 n),?_,rfl,q _ (I.hok.fresh (MK _))⟩
 exact I.laid (λb o e=>MH _ e) (MK _) ⟨_,_,_,MX _ rfl⟩
def rn (hc:X.calm=true):c8 X (.type "list") (λxs H Q=>∃p n,xs= [.ref p]/\H p=some (.iY 0 n)/\0<=n/\n<=1000/\∀l,H l=none->Q (.ref l) (upd H l (.lst ((List.range n.toNat).map λ(i:Nat)=>V.int (i:Int))))):=by
 intro pins s σ H xs us Q I r h
 obtain⟨p,n,rfl,hp,h0,h1,q⟩:=h
 obtain⟨u,rfl,rx⟩:=vals1 r
 cases rx
 obtain⟨t,u,v,hr⟩:∃t u v,s.heap.get? p=some {cls:=.type "range",data:=.fields #[.int 0 t,.int n u,.int 1 v]}:=I.hok p _ hp
 have hsz:Builtin.Range.rangeSize 0 n 1=(n.toNat:Int):=by rw[rangeSize_one];split <;> omega
 refine call_list_range (I.ok.hd hc) hr (small_one (by omega) (by omega) (by omega) (by omega)) hsz (by omega) λh' tk acc c k hS hacc=>?_
 have hv:Vals ((List.range n.toNat).map λ(i:Nat)=>V.int (i:Int)) acc.toList:=by
  have key:∀(m:Nat) (us:List Value) (j:Nat),us.length=m->(∀(i:Nat) (v:Value),us[i]? =some v->∃t,v=Value.int ((j + i:Nat):Int) t)->Vals ((List.range' j m).map λ(i:Nat)=>V.int (i:Int)) us:=by
   intro m
   induction m with
   |zero=>intro us j hl _;cases us with
    |nil=>exact .nil
    |cons a b=>simp at hl
   |succ m ih=>
    intro us j hl hh
    cases us with
    |nil=>simp at hl
    |cons u us=>
     rw[List.range'_succ,Ng]
     refine .cons (by have:=hh 0 u rfl;simp at this;exact this) (ih us (j + 1) (by simpa using hl) λi v hi=>?_)
     obtain⟨t,e⟩:=hh (i + 1) v (by simpa using hi)
     exact⟨t,by rw[e];congr 2;omega⟩
  have:=key n.toNat acc.toList 0 (by simpa using hacc.1) λi v hi=>by
   obtain⟨t,e⟩:=hacc.2 i v (by simpa using hi)
   exact⟨t,by rw[e];simp⟩
  rw[List.range_eq_range'];exact this
 refine⟨.ref s.heap.objs.size,_,I.laid (t':=tk) k (MK _) (show bP X.prog X.w _ h' _ (.lst _) from⟨by simp;rw[Ni];omega,acc.toList,c,hv,by simpa using hS⟩),rfl,q _ (I.hok.fresh (MK _))⟩
end
def Rc (h:Heap)(e:Addr)(cls:Value)(T:Addr)(fl:Value):Prop:=∃oe vs oT ts,h.get? e=some oe/\oe.cls=cls/\oe.dict=none/\oe.data=.fields vs/\vs[1]? =some (.ref T)/\T≠e/\h.get? T=some oT/\oT.data=.fields ts/\ts[3]? =some fl
abbrev Keeps (F:List Addr)(ch:List Addr)(h h':Heap):Prop:=∀b o,h.get? b=some o->b∉F->b∉ch->h'.get? b=some o
abbrev Slots (F:List Addr)(h h':Heap):Prop:=∀b o,h.get? b=some o->b∈F->∃sl,h'.get? b=some {o with slots:=sl}
section
variable {M:Model}{A:Around}{E:Value->Shared->Prop}{s:Shared}{base:Heap}{env:Env}{outer:List Env}{L e:Addr}{cls:Value}{Q:Unit->Shared->Prop}
def BN {oe:Obj}{vs:Array Value}{head:Value}{hadNext:Bool}(hfr:A.frames=some (env :: outer))(hl:s.heap.FunFrames base (env :: outer))(hf:env.frame=some L)(he:s.heap.get? e=some oe)(hc:oe.cls=cls)(hdd:oe.dict=none)(hd:oe.data=.fields vs)(hsz:1 < vs.size)
  (h:∀h' T,Keeps (jx (env :: outer)) [e] s.heap h'->Slots (jx (env :: outer)) s.heap h'->s.heap.get? T=none->Rc h' e cls T (rawInt L)->Q () {s with heap:=h'}) :
  wpAny M A (do let a <-frameOf env;let pl <-entryPlaceOf L hadNext;let b <-EntryCells.newEntry head a .none (rawInt L) .none pl;setField (.ref e) 1 b) Q E s:=by
 have eF:e∉jx (env :: outer):=λz=>by
  obtain⟨_,o,q,n⟩:=hl.mem z
  rw[he] at q;cases q;exact n _ hd
 refine MF (wpAny_frameOf_fun hfr hl hf λh1 s1=>?_)
 refine MF (wpAny_entryPlaceOf λpl hpl=>?_)
 unfold EntryCells.newEntry newFields
 refine MF (NS ?_ (hpl.sizeOk5 _ _ _ _ _))
 have e1:h1.get? e=some oe:=(s1.2.1 e eF).trans he
 have e2:=MH (h:=h1) {cls:=.type "traceback",dict:=none,data:=.fields ([head,.ref L,.none,rawInt L,.none] ++ (if pl.isEmpty then List.replicate 6 Value.none else pl)).toArray} e1
 have tn:h1.objs.size≠e:=Nat.ne_of_gt (MT e1)
 refine O2 e2 hd hsz (h _ h1.objs.size (λb o q hb hn=>?_) (λb o q hb=>?_) ?_ ?_)
 ·have hbe:b≠e:=by simpa using hn
  have q1:h1.get? b=some o:=(s1.2.1 b hb).trans q
  rw[NM _ _ (Ne.symm hbe)]
  exact MH _ q1
 ·obtain⟨sl,q1⟩:=s1.2.2 b o q
  have hbe:b≠e:=λz=>eF (z▸hb)
  refine⟨sl,?_⟩
  rw[NM _ _ (Ne.symm hbe)]
  exact MH _ q1
 ·cases q:s.heap.get? h1.objs.size with
  |none=>rfl
  |some o=>obtain⟨sl,q1⟩:=s1.2.2 _ o q;exact absurd (MT q1) (Ny _)
 ·have d3:=Obj.data_mapFields hd (·.setIfInBounds 1 (Value.ref h1.objs.size))
  have e3:=NG (Obj.mapFields (·.setIfInBounds 1 (Value.ref h1.objs.size))) e2 (Obj.isFreed_of_fields d3)
  refine⟨_,_,_,_,e3,(Obj.cls_mapFields _ _).trans hc,?_,d3,by simp[hsz],tn,(NM _ _ (Ne.symm tn)).trans (MX h1 rfl),rfl,?_⟩
  ·unfold Obj.mapFields
   split <;> exact hdd
  ·rcases hpl with rfl | ⟨_,_,_,_,_,_,_,rfl⟩ <;> simp
def xN {oe:Obj}{vs:Array Value}(hfr:A.frames=some (env :: outer))(hl:s.heap.FunFrames base (env :: outer))(hf:env.frame=some L)(he:s.heap.get? e=some oe)(hc:oe.cls=cls)(hdd:oe.dict=none)(hd:oe.data=.fields vs)(h1:vs[1]? =some .none)
  (h:∀h' T,Keeps (jx (env :: outer)) [e] s.heap h'->Slots (jx (env :: outer)) s.heap h'->s.heap.get? T=none->Rc h' e cls T (rawInt L)->Q () {s with heap:=h'}):wpAny M A (noteFrame (.ref e) env) Q E s:=by
 unfold noteFrame
 simp only[hf]
 refine MF (O6 he hd h1 ?_)
 rw[MO (by decide)]
 exact BN hfr hl hf he hc hdd hd (NH.mp h1).1 h
def Ac {T0:Addr}(hfr:A.frames=some (env :: outer))(hl:s.heap.FunFrames base (env :: outer))(hf:env.frame=some L)(r:Rc s.heap e cls T0 .none)
  (h:∀h' T,Keeps (jx (env :: outer)) [e,T0] s.heap h'->Slots (jx (env :: outer)) s.heap h'->(s.heap.get? T=none\/T=T0)->Rc h' e cls T (rawInt L)->Q () {s with heap:=h'}):wpAny M A (noteFrame (.ref e) env) Q E s:=by
 obtain⟨oe,vs,oT,ts,he,hc,hdd,hd,h1,hTe,hT,hdT,h3⟩:=r
 have tF:T0∉jx (env :: outer):=λz=>by
  obtain⟨_,o,q,n⟩:=hl.mem z
  rw[hT] at q;cases q;exact n _ hdT
 unfold noteFrame
 simp only[hf]
 refine MF (O6 he hd h1 ?_)
 rw[MJ (show (Value.ref T0 != Value.none)=true from by simp)]
 refine MF (O6 hT hdT h3 ?_)
 rw[MO (show ¬((Value.none == rawInt L)=true) from by simp[rawInt])]
 refine MF (O2 hT hdT (NH.mp h3).1 ?_)
 have oth:∀b,b≠T0->(s.heap.update T0 (Obj.mapFields (·.setIfInBounds 3 Value.none))).get? b=s.heap.get? b:=λb hb=>NM _ _ (Ne.symm hb)
 have nf:∀b o,s.heap.get? b=some o->(∀ws,o.data≠.fields ws)->b≠T0:=λb o q n z=>by
  rw[z,hT] at q;cases q;exact n _ hdT
 refine BN (base:=base) hfr (hl.of_keeps λb o q n=>⟨o,(oth b (nf b o q n)).trans q,rfl⟩) hf ((oth e (Ne.symm hTe)).trans he) hc hdd hd (NH.mp h1).1 λh' T kp sl tn rc=>?_
 refine h h' T (λb o q hb hn=>?_) (λb o q hb=>?_) ?_ rc
 ·simp only[MN,Od,or_false,not_or] at hn
  exact kp b o ((oth b hn.2).trans q) hb (by simp[hn.1])
 ·exact sl b o ((oth b λz=>tF (z▸hb)).trans q) hb
 ·by_cases z:T=T0
  ·exact .inr z
  ·exact .inl ((oth T z).symm.trans tn)
def y7 {T:Addr}{fl:Value}(r:Rc s.heap e cls T fl)(h:∀h',Keeps [] [T] s.heap h'->Rc h' e cls T .none->Q () {s with heap:=h'}):wpAny M A (setFlight (.ref e) none) Q E s:=by
 obtain⟨oe,vs,oT,ts,he,hc,hdd,hd,h1,hTe,hT,hdT,h3⟩:=r
 have sz:3 < ts.size:=(NH.mp h3).1
 unfold setFlight
 refine MF (O6 he hd h1 ?_)
 rw[MJ (show (Value.ref T != Value.none)=true from by simp)]
 refine O2 hT hdT sz (h _ (λb o q _ hn=>?_) ?_)
 ·have hb:b≠T:=by simpa using hn
  exact (NM _ _ (Ne.symm hb)).trans q
 ·have d3:=Obj.data_mapFields hdT (·.setIfInBounds 3 ((none:Option Addr).elim Value.none λf=>rawInt f))
  exact⟨oe,vs,_,_,(NM _ _ hTe).trans he,hc,hdd,hd,h1,hTe,NG _ hT (Obj.isFreed_of_fields d3),d3,by simp[sz]⟩
end
section
variable {P:Program}{w:World}
theorem bP.there {H:Hp}{h:Heap}{a:Addr}{o:HO}(x:bP P w H h a o):∃u,h.get? a=some u:=by
 cases o with
 |lst xs=>obtain⟨_,_,_,_,e⟩:=x;exact⟨_,e⟩
 |tup xs=>obtain⟨_,_,_,u,e,_⟩:=x;exact⟨u,e⟩
 |dK kvs=>obtain⟨_,_,_,_,o,_,_,e,_⟩:=x;exact⟨_,e⟩
 |dT kvs=>obtain⟨_,_,_,_,o,_,_,e,_⟩:=x;exact⟨_,e⟩
 |set S n=>obtain⟨o,_,_,_,e,_⟩:=x;exact⟨_,e⟩
 |ins C dx fs=>obtain⟨_,_,_,e,_⟩:=x;exact⟨_,e⟩
 |own y=>obtain⟨_,e⟩:=x;exact⟨_,e⟩
 |xd fs=>obtain⟨_,⟨_,_,_,e,_⟩,_⟩:=x;exact⟨_,e⟩
 |iY lo hi=>obtain⟨_,_,_,e⟩:=x;exact⟨_,e⟩
 |bg ob u=>obtain⟨e,_⟩:=x;exact⟨_,e⟩
 |tbl ps=>exact⟨_,show h.get? a=some _ from x⟩
 |met f y=>exact⟨_,show h.get? a=some _ from x⟩
 |ext φ=>obtain⟨_,⟨_,e⟩,_⟩:=x;exact⟨_,e⟩
end
structure Lies (h₀:Heap)(H:Hp)(h:Heap)(e:Addr)(cls:Value):Prop where
 free:H e=none
 new:h₀.get? e=none
 ob:∃T,Rc h e cls T .none/\H T=none/\h₀.get? T=none
def oS (P:Program)(w:World):Az:=λouter H s E e s'=>∃ea cls H',e=.ref ea/\s'.os=s.os/\AllBare s'.gens/\Un (jx outer) [] H H' s.heap s'.heap/\kE P w H' s'.heap/\Lies s.heap H' s'.heap ea cls/\E cls none H'
section
variable {P:Program}{w:World}{M:Model}{A:Around}{E':Value->Shared->Prop}{s:Shared}{env:Env}{outer:List Env}{L e:Addr}{cls:Value}{base h₀:Heap}{H:Hp}{Q:Unit->Shared->Prop}
def wC {h h':Heap}(hok:kE P w H h)(k:∀b o,h.get? b=some o->(∃u,H b=some u)->h'.get? b=some o):kE P w H h':=λa o ha=>
 (hok a o ha).stay (λb u hb q=>k b u q (hb.elim (λz=>⟨o,by rw[z];exact ha⟩) λz=>⟨_,z⟩)) (λ_ q=>q) λ_ _ q=>q
def Di (hfr:A.frames=some (env :: outer))(hf:env.frame=some L)(hfn:s.heap.FunFrames base (env :: outer))(hok:kE P w H s.heap)(hff:∀b∈jx (env :: outer),H b=none)(Ly:Lies h₀ H s.heap e cls)(hex:∀b o,h₀.get? b=some o->∃o',s.heap.get? b=some o')
  (hQ:∀h',(∀b o,s.heap.get? b=some o->b∉jx (env :: outer)->((∃o0,h₀.get? b=some o0)\/∃u,H b=some u)->h'.get? b=some o)->(∀b o,s.heap.get? b=some o->b∈jx (env :: outer)->∃sl,h'.get? b=some {o with slots:=sl})->Lies h₀ H h' e cls->kE P w H h'->Q () {s with heap:=h'}) :
  wpAny M A (leaving env (.ref e)) Q E' s:=by
 obtain⟨fr,nw,T0,rc,hHT,hnT⟩:=Ly
 obtain⟨oe,vs,oT,ts,he,hc,hdd,hd,h1,hTe,hT,hdT,h3⟩:=id rc
 have tF:T0∉jx (env :: outer):=λz=>by
  obtain⟨_,o,q,n⟩:=hfn.mem z
  rw[hT] at q;cases q;exact n _ hdT
 unfold leaving
 refine MF (Ac hfr hfn hf rc λh4 T kp sl tn rc4=>y7 rc4 λh5 kp5 rc5=>?_)
 have nT:∀b o,s.heap.get? b=some o->b≠T0->b≠T:=λb o q n z=>by
  rcases tn with tn |tn
  ·rw[z,tn] at q;cases q
  ·exact n (z.trans tn)
 have kept:∀b o,s.heap.get? b=some o->b∉jx (env :: outer)->((∃o0,h₀.get? b=some o0)\/∃u,H b=some u)->h5.get? b=some o:=λb o q hb hor=>by
  have be:b≠e:=λz=>by subst z;rcases hor with⟨_,z⟩ | ⟨_,z⟩ <;> simp_all
  have bT:b≠T0:=λz=>by subst z;rcases hor with⟨_,z⟩ | ⟨_,z⟩ <;> simp_all
  exact kp5 b o (kp b o q hb (by simp[be,bT])) (by simp) (by simp[nT b o q bT])
 have slot:∀b o,s.heap.get? b=some o->b∈jx (env :: outer)->∃sl,h5.get? b=some {o with slots:=sl}:=λb o q hb=>by
  obtain⟨x,q4⟩:=sl b o q hb
  exact⟨x,kp5 b _ q4 (by simp) (by simp[nT b o q λz=>tF (z▸hb)])⟩
 have fresh:H T=none/\h₀.get? T=none:=by
  rcases tn with tn |tn
  ·refine⟨?_,?_⟩
   ·cases q:H T with
    |none=>rfl
    |some u=>obtain⟨o,qo⟩:=(hok T u q).there;rw[tn] at qo;cases qo
   ·cases q:h₀.get? T with
    |none=>rfl
    |some u=>obtain⟨o,qo⟩:=hex T u q;rw[tn] at qo;cases qo
  ·rw[tn];exact⟨hHT,hnT⟩
 refine hQ h5 kept slot ⟨fr,nw,T,rc5,fresh.1,fresh.2⟩ (wC hok λb o q hu=>kept b o q (λz=>?_) (.inr hu))
 obtain⟨u,hu⟩:=hu
 rw[hff b z] at hu;cases hu
def yk {h:Heap}{args:List Value}(hfr:A.frames=some (env :: outer))(hf:env.frame=some L)(hfn:h.FunFrames base (env :: outer))(hok:kE P w H h)(hff:∀b∈jx (env :: outer),H b=none)(hex:∀b o,h₀.get? b=some o->∃o',h.get? b=some o')(hx:Heap.MadeExcOf h s.heap e cls args)
  (hQ:∀h',(∀b o,h.get? b=some o->b∉jx (env :: outer)->h'.get? b=some o)->(∀b o,h.get? b=some o->b∈jx (env :: outer)->∃sl,h'.get? b=some {o with slots:=sl})->Lies h₀ H h' e cls->kE P w H h'->Q () {s with heap:=h'}) :
  wpAny M A (leaving env (.ref e)) Q E' s:=by
 obtain⟨t,he,_,_⟩:=hx.there
 unfold leaving
 refine MF (xN (cls:=cls) hfr (hfn.of_keeps λb o q _=>⟨o,hx.keeps b o q,rfl⟩) hf he rfl rfl rfl rfl λh4 T kp sl tn rc4=>y7 rc4 λh5 kp5 rc5=>?_)
 have ne:∀b o,h.get? b=some o->b≠e:=λb o q z=>by rw[z,hx.new] at q;cases q
 have nT:∀b o,h.get? b=some o->b≠T:=λb o q z=>by
  have:=hx.keeps b o q
  rw[z,tn] at this;cases this
 have kept:∀b o,h.get? b=some o->b∉jx (env :: outer)->h5.get? b=some o:=λb o q hb=>kp5 b o (kp b o (hx.keeps b o q) hb (by simp[ne b o q])) (by simp) (by simp[nT b o q])
 have slot:∀b o,h.get? b=some o->b∈jx (env :: outer)->∃sl,h5.get? b=some {o with slots:=sl}:=λb o q hb=>by
  obtain⟨x,q4⟩:=sl b o (hx.keeps b o q) hb
  exact⟨x,kp5 b _ q4 (by simp) (by simp[nT b o q])⟩
 have fresh:∀{b:Addr},h.get? b=none->H b=none/\h₀.get? b=none:=λ{b} hb=>by
  refine⟨?_,?_⟩
  ·cases q:H b with
   |none=>rfl
   |some u=>obtain⟨o,qo⟩:=(hok b u q).there;rw[hb] at qo;cases qo
  ·cases q:h₀.get? b with
   |none=>rfl
   |some u=>obtain⟨o,qo⟩:=hex b u q;rw[hb] at qo;cases qo
 have no:h.get? T=none:=by
  cases q:h.get? T with
  |none=>rfl
  |some o=>exact absurd rfl (nT T o q)
 obtain⟨f1,f2⟩:=fresh hx.new
 obtain⟨g1,g2⟩:=fresh no
 refine hQ h5 kept slot ⟨f1,f2,T,rc5,g1,g2⟩ (wC hok λb o q hu=>kept b o q λz=>?_)
 obtain⟨u,hu⟩:=hu
 rw[hff b z] at hu;cases hu
end
section
variable {P:Program}{w:World}{K:Frag}{mg:Str->Option Value}{base:Heap}{N:List Str}{qual:Str}{scope:Scope}{f:Addr}{cd:Value}{A:Around}{outer:List Env}{s0:Shared}{H0:Hp}{E:XK}
def aY:Passes (oS P w) (lM (oS P w) P w K mg base N qual scope f cd A outer s0 H0 E) E:=by
 intro pins σ H s e s' I hcx
 obtain⟨ea,cls,H',rfl,os,bare,un,hok,Ly,q⟩:=hcx
 have I':=I.call' os un hok bare (λb hb=>absurd hb (by simp))
 have old:∀{b:Addr},s.heap.get? b=none->s0.heap.get? b=none:=λ{b} hb=>by
  cases z:s0.heap.get? b with
  |none=>rfl
  |some o=>obtain⟨o',z'⟩:=I.base.there b o z (show b∉([]:List Addr) by simp);rw[hb] at z';cases z'
 have Ly0:Lies s0.heap H' s'.heap ea cls:=by
  obtain⟨fr,nw,T,rc,hHT,hnT⟩:=Ly
  exact⟨fr,old nw,T,rc,hHT,old hnT⟩
 have above:s0.heap.objs.size<=(envOfC qual scope s0.heap.objs.size f cd).locals:=I.ok.above
 refine Di (base:=base) (h₀:=s0.heap) I'.ok.frames rfl I'.stack I'.hok I'.stkFree Ly0 (λb o z=>I'.base.there b o z (show b∉([]:List Addr) by simp)) λh' kept slot Ly' hok'=>?_
 have nL:∀{b:Addr} {o:Obj},s0.heap.get? b=some o->b∉jx outer->b∉jx (envOfC qual scope s0.heap.objs.size f cd :: outer):=λ{b o} z hb hm=>by
  rcases MN.mp (I'.stkSub b hm) with e |e
  ·have:=MT z
   rw[e] at this
   exact absurd (Nk this above) (Ny _)
  ·exact hb e
 have inn:∀{b:Addr},b∈jx outer->b∈jx (envOfC qual scope s0.heap.objs.size f cd :: outer):=λ{b} hb=>by
  obtain⟨en,h1,h2⟩:=Oe.mp hb
  exact Oe.mpr ⟨en,MM _ h1,h2⟩
 refine⟨ea,cls,H',rfl,os.trans I.os,bare,⟨λb o z n hb _=>?_,λb o z n hb _=>?_,λb o z n _=>I'.base.free b o z n (show b∉([]:List Addr) by simp),λb o z _=>?_,I'.base.tups,I'.base.frzs,I'.base.tbls⟩,hok',Ly',q⟩
 ·exact kept b o (I'.base.keep b o z n hb (show b∉([]:List Addr) by simp)) (nL z hb) (.inl ⟨o,z⟩)
 ·obtain⟨sl,z1⟩:=I'.base.slot b o z n hb (show b∉([]:List Addr) by simp)
  obtain⟨sl2,z2⟩:=slot b _ z1 (inn hb)
  exact⟨sl2,z2⟩
 ·obtain⟨o',z1⟩:=I'.base.there b o z (show b∉([]:List Addr) by simp)
  by_cases hb:b∈jx (envOfC qual scope s0.heap.objs.size f cd :: outer)
  ·obtain⟨sl,z2⟩:=slot b o' z1 hb
   exact⟨_,z2⟩
  ·exact⟨o',kept b o' z1 hb (.inl ⟨o,z⟩)⟩
def IM (C:Addr)(E:XK)(t:TA):TS:=λ_ σ H=>t σ H λvs H1=>vs.length<=sizeLine/\E (.ref C) none H1
def C3 {x:Str}{C:Addr}{np cpos pos:Pos}{e0:Expr}{es:List Expr}{t:TA}{Bn newId initId:String}{bmB:List Value}(FB:ExcBaseFacts Bn newId initId bmB)(hbb:bmB.contains (.type "BaseException")=true)(q:PySem.W.excIn K C bmB newId=true)
  (hg:Gl (lM (oS P w) P w K mg base N qual scope f cd A outer s0 H0 E) x) (hm:mg x=some (.ref C)) (ha:PA (lM (oS P w) P w K mg base N qual scope f cd A outer s0 H0 E) (e0 :: es) t)
  (he:starEach (e0 :: es) (envOfC qual scope s0.heap.objs.size f cd)=(false,eval e0 (envOfC qual scope s0.heap.objs.size f cd)) :: starEach es (envOfC qual scope s0.heap.objs.size f cd):=by rfl)
  (hpl:(backTo cpos (starEach es (envOfC qual scope s0.heap.objs.size f cd))).any (·.1)=false:=by rfl) (hdb:(x == ("__debug__":Str))=false:=by decide) :
  PS (lM (oS P w) P w K mg base N qual scope f cd A outer s0 H0 E) (.Raise (some (.Call (.Name x np) (e0 :: es) [] cpos)) none pos) (IM C E t):=by
 intro pins s σ H D I h
 have own:∀{hh:Heap},K.In hh->∃bm Nn nm qn bs hdct sn sub ab col dd k0 k1 k2 k3 k5 mN,hh.get? C=some (excClassObj nm qn C Nn bs bm hdct sn sub ab col dd k0 k1 k2 k3 k5 newId)/\hh.Ns Nn mN/\mN "__init__"=none/\OwnTail hh bmB bm:=λ{hh} X=>by
  have q:=q
  unfold PySem.W.excIn at q
  split at q
  ·rename_i dd cdd sl ho
   split at q
   ·rename_i C' bm k0 k1 k2 k3 n k5 hm hs
    simp only[MS,beq_iff_eq,NT] at q
    obtain⟨⟨⟨⟨⟨rfl,rfl⟩,hdel⟩,ht⟩,hok⟩,hni⟩:=q
    obtain⟨nm,bs,mro,ns,qn,hd,sn,sub,ab,col,del⟩:=cdd
    dsimp only at hm hdel hok hni
    subst hm hdel
    have hsl:sl=#[k0,k1,k2,k3,some (.builtin n),k5]:=by
     obtain⟨l⟩:=sl
     simp only at hs
     rw[hs]
    subst hsl
    exact⟨bm,ns,nm,qn,bs,hd,sn,sub,ab,col,dd,k0,k1,k2,k3,k5,_,X _ _ ho,.of_isNs (PySem.W.isNs_of_in X hok),PySem.W.nsMap_none_of_in X hok hni,PySem.W.tail_of_in X ht⟩
   ·cases q
  ·cases q
 obtain⟨bm,Nn,nm,qn,bs,hdct,sn,sub,ab,col,dd,k0,k1,k2,k3,k5,mN,hC,hN,hni,TL⟩:=own I.ok.mod.kin
 have hA:=ha cpos pins s σ H _ I h
 refine wpAny_Raise_call_subT (C:=C) (nm:=nm) (q:=qn) (N:=Nn) (bs:=bs) (bm:=bm) (hdct:=hdct) (sn:=sn) (sub:=sub) (ab:=ab) (col:=col) (dd:=dd) (k0:=k0) (k1:=k1) (k2:=k2) (k3:=k3) (k5:=k5) FB (mN:=mN) (TL.hasType hbb) (I.ok.hd rfl) ?_ hni (tf I hg hm ⟨rfl,?_⟩ hdb)
 ·show (backTo cpos (starEach (e0 :: es) (envOfC qual scope s0.heap.objs.size f cd))).any (·.1)=false
  rw[he]
  show (false || (backTo cpos (starEach es (envOfC qual scope s0.heap.objs.size f cd))).any (·.1))=false
  rw[hpl];rfl
 have hA:wpAny _ _ (spliced (backTo cpos (starEach (e0 :: es) (envOfC qual scope s0.heap.objs.size f cd)))) _ _ s:=hA
 show wpAny _ _ (evalArgs (.ref C) true (backTo cpos (starEach (e0 :: es) (envOfC qual scope s0.heap.objs.size f cd))) []) _ _ s
 rw[he] at hA ⊢
 refine Calls.evalArgs_plain (b5 hA λus s2 ⟨vs,H2,I2,r2,hl2,q2⟩=>⟨rfl,by show us.length<=_;rw[<-r2.length];exact hl2,I2.bk _ _ hC,hN.keeps I2.bk,TL.keeps I2.bk,λh' e hx=>?_⟩)
 have above:s0.heap.objs.size<=(envOfC qual scope s0.heap.objs.size f cd).locals:=I2.ok.above
 have nil:∀b:Addr,b∉([]:List Addr):=λb=>by simp
 refine yk (s:={s2 with heap:=h'}) (h:=s2.heap) (base:=base) (h₀:=s0.heap) I2.ok.frames rfl I2.stack I2.hok I2.stkFree (λb o z=>I2.base.there b o z (nil b)) hx λh2 kept slot Ly hok=>?_
 have nL:∀{b:Addr} {o:Obj},s0.heap.get? b=some o->b∉jx outer->b∉jx (envOfC qual scope s0.heap.objs.size f cd :: outer):=λ{b o} z hb hm=>by
  rcases MN.mp (I2.stkSub b hm) with e |e
  ·have:=MT z
   rw[e] at this
   exact absurd (Nk this above) (Ny _)
  ·exact hb e
 have inn:∀{b:Addr},b∈jx outer->b∈jx (envOfC qual scope s0.heap.objs.size f cd :: outer):=λ{b} hb=>by
  obtain⟨en,h1,h2⟩:=Oe.mp hb
  exact Oe.mpr ⟨en,MM _ h1,h2⟩
 refine⟨e,.ref C,H2,rfl,I2.os,I2.bare,⟨λb o z n hb _=>?_,λb o z n hb _=>?_,λb o z n _=>I2.base.free b o z n (nil b),λb o z _=>?_,I2.base.tups,I2.base.frzs,I2.base.tbls⟩,hok,Ly,q2⟩
 ·exact kept b o (I2.base.keep b o z n hb (nil b)) (nL z hb)
 ·obtain⟨sl,z1⟩:=I2.base.slot b o z n hb (nil b)
  obtain⟨sl2,z2⟩:=slot b _ z1 (inn hb)
  exact⟨sl2,z2⟩
 ·obtain⟨o',z1⟩:=I2.base.there b o z (nil b)
  by_cases hb:b∈jx (envOfC qual scope s0.heap.objs.size f cd :: outer)
  ·obtain⟨sl,z2⟩:=slot b o' z1 hb
   exact⟨_,z2⟩
  ·exact⟨o',kept b o' z1 hb⟩
end
def mroIn (K:Frag)(C:Addr):List Value:=match K.lookup C with
 |some ⟨_,_,.cls cd,_⟩=>cd.mro
 |_=>[]
structure Dx (k:Nat)(A:Around):Prop where
 dp:A.depth + 3 * k + 5 < recursionLimit
 un:A.units + 16 * k + 200 < cLine
 gd:A.guards=some []
def fJ.h {k:Nat}{A:Around}(r:fJ k A):Dx k A:=⟨r.dp,r.un,r.gd⟩
def Dx.units {k:Nat}{A:Around}(r:Dx k A):A.units + 64 < cLine:=by have:=r.un;omega
section
variable {P:Program}{w:World}{K:Frag}{mg:Str->Option Value}{base:Heap}
def Ef.Bx {x qual:Str}{st:Stmt}{f:Addr}{fd:FuncData}{N ps:List Str}{k:Nat}{sp:Sp}(F:Ef K x qual st f fd)(S:aJ N ps (aw st))(len:∀vs H Q E,sp vs H Q E->vs.length=ps.length)
  (hbody:∀(cdv:Value) (A:Around) (outer:List Env) (s:Shared) (H:Hp) (vs:List V) (Q:VK) (E:XK),fJ k (A.deeper (envOfC qual (aw st) s.heap.objs.size f cdv))->sp vs H Q E->
   ∃t,sg (lM (oS P w) P w K mg base N qual (aw st) f cdv A outer s H E) (cZ st) t/\t {nx:=λ_ H'=>Q .non H',rt:=Q} (start N vs) H):gB P w K mg base (oS P w) (k + 1) f fd ps sp:=by
 obtain⟨oc,od,kV,doc,pm,an,cdv,ct,osl,rfl,lk,hcd⟩:=F.ex
 exact Gz lk hcd S len λA outer s H vs Q E hr hsp=>hbody cdv A outer s H vs Q E hr hsp
end
section
variable {X:Cx}
def lJ (hu:X.A.units + 100 < cLine):lX X (compareOp .NotIn) (Il X.K true):=by
 intro pins s σ H x y v u Q I rx ry h
 obtain⟨p,xs,d,ds,rfl,hq,hs,hx,s1,s2,q⟩:=h
 cases ry
 obtain⟨bs,r2⟩:=hx.reads I rx
 have key:∀{e:PyData} {as:List Addr} {u:Value},SeqAt.shaped e=true->Reads s.heap u e as->SeqAt.EqAt X.A.in1 s u v (PyData.eqv e d):=λ{e as u} h1 h2=>by
  refine SeqAt.eqAt_reads _ _ _ _ _ _ _ _ h2 r2 (Ob h1) (Ob s1) ?_
  have:=SeqAt.depth_of_shaped h1
  show X.A.units + 1 + _ < _
  omega
 rcases hq with hq |hq
 ·obtain⟨its,r,pl,hz⟩:=I.list hq
  obtain⟨f,e1,e2⟩:=ng I d r hs s2
  refine SeqAt.notIn_listAt f pl.isList (λw hw=>?_) ⟨.bl _,H,I,rfl,?_⟩
  ·obtain⟨e,as,hm,rd,ef⟩:=e2 w (by simpa using hw)
   rw[ef];exact key (s2 e hm) rd
  ·rw[show its.toArray.any f=its.any f by simp,e1];exact q
 ·obtain⟨its,r,pl,hz⟩:=I.tuple hq
  obtain⟨f,e1,e2⟩:=ng I d r hs s2
  refine SeqAt.notIn_tupleAt f pl (λw hw=>?_) ⟨.bl _,H,I,rfl,?_⟩
  ·obtain⟨e,as,hm,rd,ef⟩:=e2 w (by simpa using hw)
   rw[ef];exact key (s2 e hm) rd
  ·rw[show its.toArray.any f=its.any f by simp,e1];exact q
end
abbrev D:=PyData
def kD:Key->D
 | .inl i=>.int i
 | .inr x=>.str x
mutual
inductive Rp (K:Frag)(G:Hp):V->D->Prop
 |non:Rp K G .non .none
 |bl (b:Bool):Rp K G (.bl b) (.bool b)
 |int (i:Int):Rp K G (.int i) (.int i)
 |str (x:Str):Rp K G (.str x) (.str x)
 |tup {a:Addr} {xs:List V} {ds:List D}:fL K G a xs->cC K G xs ds->Rp K G (.ref a) (.tuple ds)
 |lst {a:Addr} {xs:List V} {ds:List D}:G a=some (.lst xs)->cC K G xs ds->Rp K G (.ref a) (.list ds)
 |scr {a:Addr} {ns:List Int}:gG K G a (ns.map V.int)->Rp K G (.ref a) (.dict [(.none,.list (ns.map int))])
 |dK {a:Addr} {kvs:List (Key×V)} {ds:List (D×D)}:G a=some (.dK kvs)->xi K G kvs ds->Rp K G (.ref a) (.dict ds)
 |dT {a:Addr} {kvs:List (List Key×V)} {ds:List (D×D)}:G a=some (.dT kvs)->sx K G kvs ds->Rp K G (.ref a) (.dict ds)
inductive cC (K:Frag)(G:Hp):List V->List D->Prop
 |nil:cC K G [] []
 |cons {x:V} {xs:List V} {d:D} {ds:List D}:Rp K G x d->cC K G xs ds->cC K G (x :: xs) (d :: ds)
inductive xi (K:Frag)(G:Hp):List (Key×V)->List (D×D)->Prop
 |nil:xi K G [] []
 |cons {k:Key} {x:V} {xs:List (Key×V)} {d:D} {ds:List (D×D)}:Rp K G x d->xi K G xs ds->xi K G ((k,x) :: xs) ((kD k,d) :: ds)
inductive sx (K:Frag)(G:Hp):List (List Key×V)->List (D×D)->Prop
 |nil:sx K G [] []
 |cons {k:List Key} {x:V} {xs:List (List Key×V)} {d:D} {ds:List (D×D)}:Rp K G x d->sx K G xs ds->sx K G ((k,x) :: xs) ((.tuple (k.map kD),d) :: ds)
end
section
variable {K:Frag}{G G' H H':Hp}
def Rd.mono {a:Addr}{u:HO}(h:Rd G a u)(s:av G G'):Rd G' a u:=h.elim (λe=>.inl (s _ _ e)) λ⟨o,e⟩=>.inr ⟨o,s _ _ e⟩
mutual
theorem Rp.mono (s:av G G'):∀{x:V} {d:D},Rp K G x d->Rp K G' x d
 |_,_,.non=>.non
 |_,_,.bl b=>.bl b
 |_,_,.int i=>.int i
 |_,_,.str x=>.str x
 |_,_,.tup h hs=>.tup (h.grow s.grow) (cC.mono s hs)
 |_,_,.lst h hs=>.lst (s _ _ h) (cC.mono s hs)
 |_,_,.scr h=>.scr (s.seq h)
 |_,_,.dK h hs=>.dK (s _ _ h) (xi.mono s hs)
 |_,_,.dT h hs=>.dT (s _ _ h) (sx.mono s hs)
theorem cC.mono (s:av G G'):∀{xs:List V} {ds:List D},cC K G xs ds->cC K G' xs ds
 |_,_,.nil=>.nil
 |_,_,.cons h hs=>.cons (Rp.mono s h) (cC.mono s hs)
theorem xi.mono (s:av G G'):∀{xs:List (Key×V)} {ds:List (D×D)},xi K G xs ds->xi K G' xs ds
 |_,_,.nil=>.nil
 |_,_,.cons h hs=>.cons (Rp.mono s h) (xi.mono s hs)
theorem sx.mono (s:av G G'):∀{xs:List (List Key×V)} {ds:List (D×D)},sx K G xs ds->sx K G' xs ds
 |_,_,.nil=>.nil
 |_,_,.cons h hs=>.cons (Rp.mono s h) (sx.mono s hs)
end
theorem cC.len:∀{xs:List V} {ds:List D},cC K G xs ds->xs.length=ds.length
 |_,_,.nil=>rfl
 |_,_,.cons _ t=>by simp[cC.len t]
theorem cC.at:∀{xs:List V} {ds:List D} {i:Nat} {d:D},cC K G xs ds->ds[i]? =some d->∃x,xs[i]? =some x/\Rp K G x d
 |_,_,_,_,.nil,e=>by simp at e
 |_,_,0,_,.cons r _,e=>by simp at e;subst e;exact⟨_,rfl,r⟩
 |_,_,i + 1,x,.cons _ t,e=>by
  obtain⟨u,h1,h2⟩:=cC.at (i:=i) (d:=x) t (by simpa using e)
  exact⟨u,by simpa using h1,h2⟩
theorem cC.at':∀{xs:List V} {ds:List D} {i:Nat} {x:V},cC K G xs ds->xs[i]? =some x->∃d,ds[i]? =some d/\Rp K G x d
 |_,_,_,_,.nil,e=>by simp at e
 |_,_,0,_,.cons r _,e=>by simp at e;subst e;exact⟨_,rfl,r⟩
 |_,_,i + 1,x,.cons _ t,e=>by
  obtain⟨u,h1,h2⟩:=cC.at' (i:=i) (x:=x) t (by simpa using e)
  exact⟨u,by simpa using h1,h2⟩
theorem cC.append:∀{xs ys:List V} {ds es:List D},cC K G xs ds->cC K G ys es->cC K G (xs ++ ys) (ds ++ es)
 |_,_,_,_,.nil,s=>s
 |_,_,_,_,.cons r t,s=>.cons r (cC.append t s)
def cC.snoc {xs:List V}{ds:List D}{x:V}{d:D}(h:cC K G xs ds)(q:Rp K G x d):cC K G (xs ++ [x]) (ds ++ [d]):=h.append (.cons q .nil)
theorem cC.take:∀{xs:List V} {ds:List D} (n:Nat),cC K G xs ds->cC K G (xs.take n) (ds.take n)
 |_,_,0,_=>.nil
 |_,_,_ + 1,.nil=>.nil
 |_,_,n + 1,.cons r t=>.cons r (cC.take n t)
theorem cC.drop:∀{xs:List V} {ds:List D} (n:Nat),cC K G xs ds->cC K G (xs.drop n) (ds.drop n)
 |_,_,0,r=>r
 |_,_,_ + 1,.nil=>.nil
 |_,_,n + 1,.cons _ t=>cC.drop n t
mutual
def By:D->Bool
 | .dict _=>false
 | .list ds=>rl ds
 | .tuple ds=>rl ds
 |_=>true
def rl:List D->Bool
 | []=>true
 |d :: ds=>By d && rl ds
end
mutual
theorem Rp.rep:∀{x:V} {d:D},Rp K G x d->By d=true->Rep K G x d
 |_,_,.non,_=>.non
 |_,_,.bl b,_=>.bl b
 |_,_,.int i,_=>.int i
 |_,_,.str x,_=>.str x
 |_,_,.tup h hs,e=>.tup h (cC.reps hs (by simpa[By] using e))
 |_,_,.lst h hs,e=>.lst (.inl (.inl h)) (cC.reps hs (by simpa[By] using e))
 |_,_,.scr _,e=>by simp[By] at e
 |_,_,.dK _ _,e=>by simp[By] at e
 |_,_,.dT _ _,e=>by simp[By] at e
theorem cC.reps:∀{xs:List V} {ds:List D},cC K G xs ds->rl ds=true->kN K G xs ds
 |_,_,.nil,_=>.nil
 |_,_,.cons h hs,e=>.cons (Rp.rep h (by simp[rl] at e;exact e.1)) (cC.reps hs (by simp[rl] at e;exact e.2))
end
def Own (K:Frag)(G H:Hp)(a:Addr):D->Prop
 | .list ds=>∃xs,H a=some (.lst xs)/\cC K G xs ds
 | .dict ds=>(∃kvs,H a=some (.dK kvs)/\xi K G kvs ds)\/∃kvs,H a=some (.dT kvs)/\sx K G kvs ds
 |_=>False
def Own.obj {a:Addr}{d:D}(h:Own K G H a d):∃o,H a=some o:=by
 cases d <;> first |exact h.elim |skip
 ·obtain⟨xs,e,_⟩:=h;exact⟨_,e⟩
 ·rcases h with⟨_,e,_⟩ | ⟨_,e,_⟩ <;> exact⟨_,e⟩
def Own.mono {a:Addr}{d:D}(h:Own K G H a d)(s:av G G')(m:∀o,H a=some o->H' a=some o):Own K G' H' a d:=by
 cases d <;> first |exact h.elim |skip
 ·obtain⟨xs,e,r⟩:=h;exact⟨xs,m _ e,r.mono s⟩
 ·rcases h with⟨k,e,r⟩ | ⟨k,e,r⟩
  ·exact .inl ⟨k,m _ e,r.mono s⟩
  ·exact .inr ⟨k,m _ e,r.mono s⟩
def Own.rp {a:Addr}{d:D}(h:Own K G H a d)(n:G a=none){G':Hp}(s:av G G')(e:∀o,H a=some o->G' a=some o):Rp K G' (.ref a) d:=by
 cases d <;> first |exact h.elim |skip
 ·obtain⟨xs,q,r⟩:=h;exact .lst (e _ q) (r.mono s)
 ·rcases h with⟨k,q,r⟩ | ⟨k,q,r⟩
  ·exact .dK (e _ q) (r.mono s)
  ·exact .dT (e _ q) (r.mono s)
def kQ (K:Frag)(B:Option Addr)(G H:Hp)(v:V)(d:D):Prop:=Rp K G v d\/∃a,v=.ref a/\B≠some a/\Own K G H a d
def iX (B:Option Addr)(H H':Hp):Prop:=∀b o,H b=some o->B≠some b->H' b=some o
def iX.refl (B:Option Addr)(H:Hp):iX B H H:=λ_ _ h _=>h
def iX.trans {B:Option Addr}{H1:Hp}(x:iX B H H1)(y:iX B H1 H'):iX B H H':=λb o h n=>y b o (x b o h n) n
def av.mov (s:av H H')(B:Option Addr):iX B H H':=λb o h _=>s b o h
def kQ.mono {B:Option Addr}{v:V}{d:D}(h:kQ K B G H v d)(s:av G G')(m:iX B H H'):kQ K B G' H' v d:=by
 rcases h with h | ⟨a,e,n,h⟩
 ·exact .inl (h.mono s)
 ·exact .inr ⟨a,e,n,h.mono s λo q=>m a o q n⟩
def kQ.rpH {B:Option Addr}{v:V}{d:D}(h:kQ K B G H v d)(s:av G H):Rp K H v d:=by
 rcases h with h | ⟨a,rfl,n,h⟩
 ·exact h.mono s
 ·cases d <;> first |exact h.elim |skip
  ·obtain⟨xs,q,r⟩:=h;exact .lst q (r.mono s)
  ·rcases h with⟨k,q,r⟩ | ⟨k,q,r⟩
   ·exact .dK q (r.mono s)
   ·exact .dT q (r.mono s)
def kQ.list {B:Option Addr}{v:V}{ds:List D}(h:kQ K B G H v (.list ds))(s:av G H):∃a xs,v=.ref a/\Rd H a (.lst xs)/\cC K G xs ds:=by
 rcases h with h | ⟨a,rfl,n,xs,q,r⟩
 ·cases h with
  |lst h r=>exact⟨_,_,rfl,.inl (s _ _ h),r⟩
 ·exact⟨a,xs,rfl,.inl q,r⟩
def kQ.tuple {B:Option Addr}{v:V}{ds:List D}(h:kQ K B G H v (.tuple ds))(s:av G H):∃a xs,v=.ref a/\fL K H a xs/\cC K G xs ds:=by
 rcases h with h | ⟨a,rfl,n,h⟩
 ·cases h with
  |tup h r=>exact⟨_,_,rfl,h.grow s.grow,r⟩
 ·exact h.elim
def kQ.int {B:Option Addr}{v:V}{i:Int}(h:kQ K B G H v (.int i)):v=.int i:=by
 rcases h with h | ⟨a,rfl,n,h⟩
 ·cases h;rfl
 ·exact h.elim
def kQ.bool {B:Option Addr}{v:V}{b:Bool}(h:kQ K B G H v (.bool b)):v=.bl b:=by
 rcases h with h | ⟨a,rfl,n,h⟩
 ·cases h;rfl
 ·exact h.elim
def kQ.str {B:Option Addr}{v:V}{x:Str}(h:kQ K B G H v (.str x)):v=.str x:=by
 rcases h with h | ⟨a,rfl,n,h⟩
 ·cases h;rfl
 ·exact h.elim
def kQ.none {B:Option Addr}{v:V}(h:kQ K B G H v .none):v=.non:=by
 rcases h with h | ⟨a,rfl,n,h⟩
 ·cases h;rfl
 ·exact h.elim
end
def Fz:HO->Prop
 | .tup _=>True
 | .bg _ _=>True
 |_=>False
def Mx (H:Hp)(b:Addr):Prop:=H b≠none/\∀o,H b=some o->¬Fz o
def Mx.lst {H:Hp}{b:Addr}{xs:List V}(h:H b=some (.lst xs)):Mx H b:=⟨by rw[h];simp,λys z=>by rw[h] at z;cases z;exact λy=>y⟩
theorem Mx.same {H H':Hp}{b:Addr}(h:Mx H b)(m:∀o,H b=some o->H' b=some o):Mx H' b:=by
 obtain⟨h1,h2⟩:=h
 cases e:H b with
 |none=>exact absurd e h1
 |some o=>
  refine⟨by rw[m o e];simp,λxs z=>?_⟩
  rw[m o e] at z
  cases z
  exact h2 o e
def Own.mx {K:Frag}{G H:Hp}{a:Addr}{d:D}(h:Own K G H a d):Mx H a:=by
 cases d <;> first |exact h.elim |skip
 ·obtain⟨xs,e,_⟩:=h;exact Mx.lst e
 ·rcases h with⟨k,e,_⟩ | ⟨k,e,_⟩ <;> exact⟨by rw[e];simp,λys z=>by rw[e] at z;cases z;exact λy=>y⟩
open Classical in
noncomputable def nu (G H:Hp):Hp:=λb=>match G b with
 |some o=>some o
 |none=>match H b with
  |some o=>if Fz o then some o else none
  |none=>none
def sE {G H:Hp}:av G (nu G H):=λb o e=>by unfold nu;rw[e]
theorem yR {G H:Hp}(s:av G H){b:Addr}{o:HO}(e:H b=some o)(f:Fz o):nu G H b=some o:=by
 unfold nu
 cases q:G b with
 |some u=>have:=s b u q;rw[e] at this;cases this;rfl
 |none=>simp only[e];rw[MJ f]
theorem wM {G H:Hp}(s:av G H):av (nu G H) H:=λb o e=>by
 unfold nu at e
 cases q:G b with
 |some u=>rw[q] at e;cases e;exact s b _ q
 |none=>
  rw[q] at e
  cases q2:H b with
  |none=>rw[q2] at e;cases e
  |some u=>
   rw[q2] at e
   dsimp only at e
   split at e
   ·cases e;rfl
   ·cases e
theorem yI {G H H':Hp}(hh:av H H'){b:Addr}(m:Mx H b):nu G H' b=G b:=by
 unfold nu
 cases q:G b with
 |some u=>rfl
 |none=>
  obtain⟨h1,h2⟩:=m
  cases e:H b with
  |none=>exact absurd e h1
  |some o=>
   simp only[hh b o e]
   rw[MO (h2 o e)]
def mV {K:Frag}{G H:Hp}(s:av G H){a:Addr}{xs:List V}(h:fL K H a xs):fL K (nu G H) a xs:=by
 rcases h with (h | ⟨o,h⟩) |h
 ·exact .inl (.inl (yR s h trivial))
 ·exact .inl (.inr ⟨o,yR s h trivial⟩)
 ·exact .inr h
structure Fx where
 K:Frag
 H0:Hp
 G0:Hp
 par:List Addr
 ca:Str->Addr
 br:Nat->Bool
 bx:Option Addr
inductive Sl where
 |no |fz (d:D) |ow (d:D) |bx |br (d:D)
abbrev En:=List Sl
inductive Nv where
 |no |da (d:D) |bx
def Sl.val:Sl->Nv
 | .no=>.no
 | .fz d=>.da d
 | .ow d=>.da d
 | .br d=>.da d
 | .bx=>.bx
def vl (env:En):List Nv:=env.map Sl.val
def LB (Γ:Fx)(B:Option Addr)(G H:Hp)(i:Nat)(o:Option (Option V)):Sl->Prop
 | .no=>True
 | .fz d=>∃v,o=some (some v)/\Rp Γ.K G v d
 | .ow d=>∃a,o=some (some (.ref a))/\Γ.H0 a=none/\G a=none/\B≠some a/\Own Γ.K G H a d
 | .bx=>∃a,o=some (some (.ref a))/\B=some a
 | .br d=>Γ.br i=true/\∃a,o=some (some (.ref a))/\B≠some a/\a∉Γ.par/\Own Γ.K G H a d
structure SR (Γ:Fx)(B:Option Addr)(G H:Hp)(σ:St)(env:En)(β:Int):Prop where
 sub:av G H
 old:av Γ.G0 G
 new:∀b,Mx Γ.H0 b->Γ.G0 b=none->G b=none
 keep:∀b o,Γ.H0 b=some o->b∉Γ.par->H b=some o
 pin:∀b,b∈Γ.par->Mx H b
 fix:∀b,Γ.bx=some b->B=some b
 box:∀b,B=some b->H b=some (.lst [.int β])/\G b=none/\(b∈Γ.par\/Γ.H0 b=none)
 len:σ.length=env.length
 slot:∀(i:Nat) (s:Sl),env[i]? =some s->LB Γ B G H i (σ[i]?) s
 sep:∀(i j:Nat) (a:Addr) (d e:D),env[i]? =some (.ow d)->env[j]? =some (.ow e)->σ[i]? =some (some (.ref a))->σ[j]? =some (some (.ref a))->i=j
structure Ext (G H G' H':Hp):Prop where
 hh:av H H'
 gg:av G G'
 gh:av G' H'
 on:∀b,Mx H b->G' b=G b
def Ext.refl {G H:Hp}(s:av G H):Ext G H G H:=⟨av.refl _,av.refl _,s,λ_ _=>rfl⟩
def Ext.tups {G H H':Hp}(s:av G H)(hh:av H H'):Ext G H (nu G H') H':=⟨hh,sE,wM (s.trans hh),λ_ m=>yI hh m⟩
def Ext.new {G H:Hp}(s:av G H){p:Addr}{o:HO}(h:H p=none):Ext G H (upd G p o) (upd H p o):=by
 refine⟨av.new h,av.new (s.free h),λb u e=>?_,λb hb=>?_⟩
 ·by_cases z:b=p
  ·subst z;rw[ay] at e ⊢;exact e
  ·rw[az z] at e ⊢;exact s b u e
 ·exact az (λz=>hb.1 (by rw[z];exact h))
def Ext.own {G H:Hp}(s:av G H){p:Addr}{o:HO}(h:H p=none):Ext G H G (upd H p o):=
 ⟨av.new h,av.refl _,s.trans (av.new h),λ_ _=>rfl⟩
def Ext.trans {G H G1 H1 G2 H2:Hp}(x:Ext G H G1 H1)(y:Ext G1 H1 G2 H2):Ext G H G2 H2:=by
 refine⟨x.hh.trans y.hh,x.gg.trans y.gg,y.gh,λb hb=>?_⟩
 rw[y.on b (hb.same λo e=>x.hh b o e),x.on b hb]
section
variable {Γ:Fx}{B:Option Addr}{G H G' H':Hp}{σ:St}{env:En}{β:Int}
def SR.there (I:SR Γ B G H σ env β){b:Addr}(h:Γ.H0 b≠none):H b≠none:=by
 by_cases hp:b∈Γ.par
 ·exact (I.pin b hp).1
 ·cases e:Γ.H0 b with
  |none=>exact absurd e h
  |some o=>rw[I.keep b o e hp];simp
def SR.thereM (I:SR Γ B G H σ env β){b:Addr}(h:Mx Γ.H0 b):Mx H b:=by
 by_cases hp:b∈Γ.par
 ·exact I.pin b hp
 ·exact h.same λo e=>I.keep b o e hp
def SR.ext (I:SR Γ B G H σ env β)(x:Ext G H G' H'):SR Γ B G' H' σ env β:=by
 refine⟨x.gh,I.old.trans x.gg,λb h1 h2=>?_,λb o h1 h2=>x.hh b o (I.keep b o h1 h2),λb hb=>?_,I.fix,λb e=>?_,I.len,λi s e=>?_,I.sep⟩
 ·rw[x.on b (I.thereM h1)];exact I.new b h1 h2
 ·exact (I.pin b hb).same λo e=>x.hh b o e
 ·obtain⟨h1,h2,h3⟩:=I.box b e
  exact⟨x.hh b _ h1,by rw[x.on b (Mx.lst h1)];exact h2,h3⟩
 ·have q:=I.slot i s e
  cases s with
  |no=>trivial
  |fz d=>obtain⟨v,h1,h2⟩:=q;exact⟨v,h1,h2.mono x.gg⟩
  |ow d=>
   obtain⟨a,h1,h2,h3,h4,h5⟩:=q
   exact⟨a,h1,h2,by rw[x.on a h5.mx];exact h3,h4,h5.mono x.gg λo q=>x.hh a o q⟩
  |bx=>exact q
  |br d=>obtain⟨b1,a,h1,h4,hp,h5⟩:=q;exact⟨b1,a,h1,h4,hp,h5.mono x.gg λo q=>x.hh a o q⟩
def jE (env:En)(i:Nat):En:=match env[i]? with
 |some (.ow d)=>env.set i (.fz d)
 |_=>env
def bg (L:List Nat)(env:En):En:=L.foldl jE env
def cL (L M:List Nat)(env:En):bg (L ++ M) env=bg M (bg L env):=by unfold bg;rw[List.foldl_append]
def yb (env:En)(i:Nat)(s:Sl)(h:∀t,env[i]? =some t->t.val=s.val):vl (env.set i s)=vl env:=by
 unfold vl
 apply OZ
 intro j
 rw[MV,MV,List.getElem?_set]
 by_cases e:i=j
 ·subst e
  by_cases hi:i < env.length
  ·simp only[NN,hi]
   have:=h _ (MG hi)
   simp[MG hi,this]
  ·simp only[NN,hi,Nx]
   rw[OB (by omega)]
 ·simp[e]
def Ff (env:En)(i:Nat):vl (jE env i)=vl env:=by
 unfold jE
 split
 ·rename_i d e
  exact yb _ _ _ λt ht=>by rw[e] at ht;cases ht;rfl
 ·rfl
theorem gQ (L:List Nat)(env:En):vl (bg L env)=vl env:=by
 unfold bg
 induction L generalizing env with
 |nil=>rfl
 |cons i L ih=>rw[OA,ih,Ff]
theorem G6 {i:Nat}{d:D}(h:(vl env)[i]? =some (.da d)):env[i]? =some (.fz d)\/env[i]? =some (.ow d)\/env[i]? =some (.br d):=by
 unfold vl at h
 rw[MV] at h
 cases e:env[i]? with
 |none=>rw[e] at h;simp at h
 |some s=>
  rw[e] at h
  cases s with
  |no=>simp[Sl.val] at h
  |fz d'=>simp[Sl.val] at h;subst h;exact .inl rfl
  |ow d'=>simp[Sl.val] at h;subst h;exact .inr (.inl rfl)
  |bx=>simp[Sl.val] at h
  |br d'=>simp[Sl.val] at h;subst h;exact .inr (.inr rfl)
theorem JL {i:Nat}(h:(vl env)[i]? =some .bx):env[i]? =some .bx:=by
 unfold vl at h
 rw[MV] at h
 cases e:env[i]? with
 |none=>rw[e] at h;simp at h
 |some s=>
  rw[e] at h
  cases s with
  |bx=>rfl
  |_=>simp[Sl.val] at h
def SR.freeze (I:SR Γ B G H σ env β)(i:Nat)(hb:Γ.br i=false){d:D}(h:(vl env)[i]? =some (.da d)):∃G' v,SR Γ B G' H σ (jE env i) β/\av G G'/\σ[i]? =some (some v)/\Rp Γ.K G' v d:=by
 rcases G6 h with e |e |e
 ·obtain⟨v,h1,h2⟩:=I.slot i _ e
  exact⟨G,v,by unfold jE;rw[e];exact I,av.refl _,h1,h2⟩
 rotate_left
 ·obtain⟨z,_⟩:=I.slot i _ e
  rw[hb] at z;cases z
 ·obtain⟨a,h1,h2,h3,h4,h5⟩:=I.slot i _ e
  obtain⟨o,ho⟩:=h5.obj
  have sG:av G (upd G a o):=av.new h3
  have hi:i < env.length:=(M9.mp e).1
  have hr:Rp Γ.K (upd G a o) (.ref a) d:=h5.rp h3 sG λo' q=>by rw[ho] at q;cases q;exact ay
  refine⟨upd G a o,.ref a,?_,sG,h1,hr⟩
  unfold jE
  rw[e]
  refine⟨λb u q=>?_,I.old.trans sG,λb n1 n2=>?_,I.keep,I.pin,I.fix,λb q=>?_,by rw[NY];exact I.len,λj s q=>?_,λj k c d1 d2 q1 q2 q3 q4=>?_⟩
  ·by_cases z:b=a
   ·subst z;rw[ay] at q;cases q;exact ho
   ·rw[az z] at q;exact I.sub b u q
  ·rw[az (λz=>n1.1 (by rw[z];exact h2))];exact I.new b n1 n2
  ·obtain⟨k1,k2,k3⟩:=I.box b q
   exact⟨k1,by rw[az (λz=>h4 (by rw[<-z];exact q))];exact k2,k3⟩
  ·by_cases z:j=i
   ·subst z
    rw[M7 hi] at q
    cases q
    exact⟨.ref a,h1,hr⟩
   ·rw[M1 (Ne.symm z)] at q
    have w:=I.slot j s q
    cases s with
    |no=>trivial
    |fz d'=>obtain⟨v,w1,w2⟩:=w;exact⟨v,w1,w2.mono sG⟩
    |ow d'=>
     obtain⟨c,w1,w2,w3,w4,w5⟩:=w
     have ca:c≠a:=λz2=>z (I.sep j i c d' d q e w1 (by rw[z2];exact h1))
     exact⟨c,w1,w2,by rw[az ca];exact w3,w4,w5.mono sG λo q=>q⟩
    |bx=>exact w
    |br d'=>obtain⟨b1,c,w1,w4,wp,w5⟩:=w;exact⟨b1,c,w1,w4,wp,w5.mono sG λo q=>q⟩
  ·have ne:∀{j:Nat} {d':D},(env.set i (Sl.fz d))[j]? =some (.ow d')->env[j]? =some (.ow d'):=λ{j d'} q=>by
    by_cases z:j=i
    ·subst z;rw[M7 hi] at q;cases q
    ·rw[M1 (Ne.symm z)] at q;exact q
   exact I.sep j k c d1 d2 (ne q1) (ne q2) q3 q4
theorem SR.bg (I:SR Γ B G H σ env β)(L:List Nat)(hb:∀i,i∈L->Γ.br i=false):∃G',SR Γ B G' H σ (bg L env) β/\av G G':=by
 induction L generalizing env G with
 |nil=>exact⟨G,I,av.refl _⟩
 |cons i L ih=>
  show ∃G',SR Γ B G' H σ (L2.bg L (jE env i)) β/\av G G'
  have key:∃G1,SR Γ B G1 H σ (jE env i) β/\av G G1:=by
   cases e:env[i]? with
   |none=>exact⟨G,by unfold jE;rw[e];exact I,av.refl _⟩
   |some s=>
    cases s with
    |ow d=>
     obtain⟨G1,v,h1,h2,_⟩:=I.freeze i (hb i (MP ..)) (d:=d) (by unfold vl;rw[MV,e];rfl)
     exact⟨G1,h1,h2⟩
    |_=>exact⟨G,by unfold jE;rw[e];exact I,av.refl _⟩
  obtain⟨G1,I1,s1⟩:=key
  obtain⟨G2,I2,s2⟩:=ih I1 λj hj=>hb j (MM _ hj)
  exact⟨G2,I2,s1.trans s2⟩
def SR.set (I:SR Γ B G H σ env β){i:Nat}(hi:i < env.length){v:V}{d:D}(h:Rp Γ.K G v d):SR Γ B G H (σ.set i (some v)) (env.set i (.fz d)) β:=by
 have hs:i < σ.length:=by rw[I.len];exact hi
 refine⟨I.sub,I.old,I.new,I.keep,I.pin,I.fix,I.box,by rw[NY,NY];exact I.len,λj s q=>?_,λj k c d1 d2 q1 q2 q3 q4=>?_⟩
 ·by_cases z:j=i
  ·subst z
   rw[M7 hi] at q
   cases q
   exact⟨v,by rw[M7 hs],h⟩
  ·rw[M1 (Ne.symm z)] at q ⊢
   exact I.slot j s q
 ·have ne:∀{j:Nat} {d':D},(env.set i (Sl.fz d))[j]? =some (.ow d')->j≠i/\env[j]? =some (.ow d'):=λ{j d'} q=>by
   by_cases z:j=i
   ·subst z;rw[M7 hi] at q;cases q
   ·rw[M1 (Ne.symm z)] at q;exact⟨z,q⟩
  obtain⟨n1,e1⟩:=ne q1
  obtain⟨n2,e2⟩:=ne q2
  rw[M1 (Ne.symm n1)] at q3
  rw[M1 (Ne.symm n2)] at q4
  exact I.sep j k c d1 d2 e1 e2 q3 q4
def SR.setOw (I:SR Γ B G H σ env β){i:Nat}(hi:i < env.length){a:Addr}{d:D}(h0:Γ.H0 a=none)(hg:G a=none)(hb:B≠some a)(h:Own Γ.K G H a d)(hn:∀(j:Nat) (d':D),env[j]? =some (.ow d')->j≠i->σ[j]?≠some (some (.ref a))):SR Γ B G H (σ.set i (some (.ref a))) (env.set i (.ow d)) β:=by
 have hs:i < σ.length:=by rw[I.len];exact hi
 refine⟨I.sub,I.old,I.new,I.keep,I.pin,I.fix,I.box,by rw[NY,NY];exact I.len,λj s q=>?_,λj k c d1 d2 q1 q2 q3 q4=>?_⟩
 ·by_cases z:j=i
  ·subst z
   rw[M7 hi] at q
   cases q
   exact⟨a,by rw[M7 hs],h0,hg,hb,h⟩
  ·rw[M1 (Ne.symm z)] at q ⊢
   exact I.slot j s q
 ·by_cases z1:j=i
  ·by_cases z2:k=i
   ·rw[z1,z2]
   ·subst z1
    rw[M1 (Ne.symm z2)] at q2 q4
    rw[M7 hs] at q3
    cases q3
    exact absurd q4 (hn k d2 q2 z2)
  ·by_cases z2:k=i
   ·subst z2
    rw[M1 (Ne.symm z1)] at q1 q3
    rw[M7 hs] at q4
    cases q4
    exact absurd q3 (hn j d1 q1 z1)
   ·rw[M1 (Ne.symm z1)] at q1 q3
    rw[M1 (Ne.symm z2)] at q2 q4
    exact I.sep j k c d1 d2 q1 q2 q3 q4
def SR.fresh (I:SR Γ B G H σ env β){a:Addr}(h:H a=none):Γ.H0 a=none/\G a=none/\B≠some a/\∀(j:Nat) (d:D),env[j]? =some (.ow d)->σ[j]?≠some (some (.ref a)):=by
 have hB:B≠some a:=λz=>by rw[(I.box a z).1] at h;cases h
 refine⟨?_,I.sub.free h,hB,λj d e z=>?_⟩
 ·cases e:Γ.H0 a with
  |none=>rfl
  |some o=>exact absurd h (I.there (by rw[e];simp))
 ·obtain⟨c,h1,_,_,_,h5⟩:=I.slot j _ e
  rw[z] at h1
  cases h1
  obtain⟨o,ho⟩:=h5.obj
  rw[h] at ho;cases ho
def SR.write (I:SR Γ B G H σ env β)(hb:∀j,Γ.br j=false){i:Nat}{a:Addr}{d d':D}{o:HO}(e:env[i]? =some (.ow d))(ea:σ[i]? =some (some (.ref a)))(h:∀H',H' a=some o->av G H'->Own Γ.K G H' a d'):SR Γ B G (upd H a o) σ (env.set i (.ow d')) β:=by
 obtain⟨a',h1,h2,h3,h4,h5⟩:=I.slot i _ e
 rw[ea] at h1;cases h1
 have hi:i < env.length:=(M9.mp e).1
 have sub:av G (upd H a o):=λb u q=>by rw[az (λz=>by rw[z,h3] at q;cases q)];exact I.sub b u q
 refine⟨sub,I.old,I.new,λb u q n=>?_,λb q=>?_,I.fix,λb q=>?_,by rw[NY];exact I.len,λj s q=>?_,λj k c d1 d2 q1 q2 q3 q4=>?_⟩
 ·rw[az (λz=>by rw[z,h2] at q;cases q)];exact I.keep b u q n
 ·by_cases z:b=a
  ·subst z;exact (h _ ay sub).mx
  ·exact (I.pin b q).same λo e=>by rw[az z];exact e
 ·obtain⟨k1,k2,k3⟩:=I.box b q
  exact⟨by rw[az (λz=>h4 (by rw[<-z];exact q))];exact k1,k2,k3⟩
 ·by_cases z:j=i
  ·subst z
   rw[M7 hi] at q
   cases q
   exact⟨a,ea,h2,h3,h4,h _ ay sub⟩
  ·rw[M1 (Ne.symm z)] at q
   have w:=I.slot j s q
   cases s with
   |no=>trivial
   |fz d1=>exact w
   |ow d1=>
    obtain⟨c,w1,w2,w3,w4,w5⟩:=w
    have ca:c≠a:=λz2=>z (I.sep j i c d1 d q e w1 (by rw[z2];exact ea))
    exact⟨c,w1,w2,w3,w4,w5.mono (av.refl _) λo q=>by rw[az ca];exact q⟩
   |bx=>exact w
   |br d1=>obtain⟨b1,_⟩:=w;rw[hb j] at b1;cases b1
 ·have back:∀{j:Nat} {d1:D},(env.set i (Sl.ow d'))[j]? =some (.ow d1)->∃d2,env[j]? =some (.ow d2):=λ{j d1} q=>by
   by_cases z:j=i
   ·subst z;exact⟨d,e⟩
   ·rw[M1 (Ne.symm z)] at q;exact⟨d1,q⟩
  obtain⟨_,b1⟩:=back q1
  obtain⟨_,b2⟩:=back q2
  exact I.sep j k c _ _ b1 b2 q3 q4
end
inductive R (α:Type) where
 |ok (a:α) (β:Int)
 |exc (c:Str)
 |bad
def R.bnd {α γ:Type}(r:R α)(k:α->Int->R γ):R γ:=match r with
 | .ok a β=>k a β
 | .exc c=>.exc c
 | .bad=>.bad
def R.of {α:Type}(o:Option α)(β:Int):R α:=match o with
 |some a=>.ok a β
 |none=>.bad
abbrev VF (α:Type):=List Nv->Int->R α
def Kp (Γ:Fx)(H':Hp):Prop:=∀b o,Γ.H0 b=some o->b∉Γ.par->H' b=some o
def Out {α:Type}(Γ:Fx)(E:XK)(r:R α)(P:α->Int->Prop):Prop:=match r with
 | .ok a β=>P a β
 | .exc c=>∀H',Kp Γ H'->E (.ref (Γ.ca c)) none H'
 | .bad=>False
section
variable {α γ:Type}{Γ:Fx}{E:XK}
theorem Out.bnd {r:R α}{k:α->Int->R γ}{P:γ->Int->Prop}(h:Out Γ E (r.bnd k) P):Out Γ E r λa β=>Out Γ E (k a β) P:=by
 cases r with
 |ok a β=>exact h
 |exc c=>exact h
 |bad=>exact h
theorem Out.imp {r:R α}{P P':α->Int->Prop}(h:Out Γ E r P)(i:∀a β,P a β->P' a β):Out Γ E r P':=by
 cases r with
 |ok a β=>exact i a β h
 |exc c=>exact h
 |bad=>exact h
theorem Out.of {o:Option α}{β:Int}{P:α->Int->Prop}(h:Out Γ E (R.of o β) P):∃a,o=some a/\P a β:=by
 cases o with
 |none=>exact h.elim
 |some a=>exact⟨a,rfl,h⟩
end
inductive Md where
 |b |v |w
def VO (K:Frag)(B:Option Addr)(H G' H':Hp):Md->D->V->Prop
 | .b,d,v=>kQ K B G' H' v d
 | .v,d,v=>Rp K G' v d
 | .w,d,v=>∃a,v=.ref a/\H a=none/\G' a=none/\Own K G' H' a d
def pT (Γ:Fx)(E:XK)(f:VF D)(L:List Nat)(md:Md):TE:=λσ H Q=>∃env G B β,SR Γ B G H σ env β/\
 Out Γ E (f (vl env) β) λd β'=>∀v G' H',SR Γ B G' H' σ (bg L env) β'->av G G'->iX B H H'->VO Γ.K B H G' H' md d v->Q v H'
def SE (X:Cx)(Γ:Fx)(E:XK)(e:Expr)(f:VF D)(L:List Nat)(md:Md):Prop:=PE X e (pT Γ E f L md)
def qT (Γ:Fx)(E:XK)(f:VF Bool)(L:List Nat):TT:=λσ H Q=>∃env G B β,SR Γ B G H σ env β/\
 Out Γ E (f (vl env) β) λc β'=>∀G' H',SR Γ B G' H' σ (bg L env) β'->av G G'->iX B H H'->Q c H'
def A1 (X:Cx)(Γ:Fx)(E:XK)(e:Expr)(f:VF Bool)(L:List Nat):Prop:=PT X e (qT Γ E f L)
def rQ (X:Cx)(Γ:Fx)(E:XK)(e:Expr)(f:VF Bool)(L:List Nat):Prop:=PW X e (qT Γ E f L)
def aT (Γ:Fx)(E:XK)(f:VF (List D))(L:List Nat):TA:=λσ H Q=>∃env G B β,SR Γ B G H σ env β/\
 Out Γ E (f (vl env) β) λds β'=>∀vs G' H',SR Γ B G' H' σ (bg L env) β'->av G G'->iX B H H'->cC Γ.K G' vs ds->Q vs H'
def SA (X:Cx)(Γ:Fx)(E:XK)(es:List Expr)(f:VF (List D))(L:List Nat):Prop:=PA X es (aT Γ E f L)
def PE.post' {X:Cx}{e:Expr}{t u:TE}(h:PE X e t)(m:∀σ H Q,u σ H Q->t σ H Q):PE X e u:=λpins s σ H Q I q=>h pins s σ H Q I (m σ H Q q)
def PT.post {X:Cx}{e:Expr}{t u:TT}(h:PT X e t)(m:∀σ H Q,u σ H Q->t σ H Q):PT X e u:=λpins s σ H Q I q=>h pins s σ H Q I (m σ H Q q)
def PW.post {X:Cx}{e:Expr}{t u:TT}(h:PW X e t)(m:∀σ H Q,u σ H Q->t σ H Q):PW X e u:=λwh pins s σ H Q I q=>h wh pins s σ H Q I (m σ H Q q)
def PA.post {X:Cx}{es:List Expr}{t u:TA}(h:PA X es t)(m:∀σ H Q,u σ H Q->t σ H Q):PA X es u:=λpos pins s σ H Q I q=>h pos pins s σ H Q I (m σ H Q q)
def PS.post {X:Cx}{st:Stmt}{t u:TS}(h:PS X st t)(m:∀D σ H,u D σ H->t D σ H):PS X st u:=λpins s σ H D I q=>h pins s σ H D I (m D σ H q)
def dat:Option Nv->Option D
 |some (.da d)=>some d
 |_=>none
def gv (i:Nat):VF D:=λvs β=>R.of (dat vs[i]?) β
def cst (d:D):VF D:=λ_ β=>.ok d β
section
variable {X:Cx}{Γ:Fx}{E:XK}{e a b c:Expr}{f fa fb fc:VF D}{L La Lb Lc:List Nat}{md ma mb mc:Md}{pos:Pos}
theorem join_some {o:Option Nv}{d:D}(h:dat o=some d):o=some (.da d):=by
 cases o with
 |none=>cases h
 |some o=>cases o with
  |da x=>cases h;rfl
  |_=>cases h
def SR.letIn {B:Option Addr}{G H:Hp}{σ:St}{env:En}{β:Int}(I:SR Γ B G H σ env β){p:Addr}{d:D}(h0:Γ.H0 p=none)(hg:G p=none)(hb:B≠some p)(hn:∀(j:Nat) (d':D),env[j]? =some (.ow d')->σ[j]?≠some (some (.ref p)))(h:Own Γ.K G H p d) :
  ∃G',SR Γ B G' H σ env β/\av G G'/\Rp Γ.K G' (.ref p) d:=by
 obtain⟨o,ho⟩:=h.obj
 have sG:av G (upd G p o):=av.new hg
 refine⟨upd G p o,⟨λb u q=>?_,I.old.trans sG,λb n1 n2=>?_,I.keep,I.pin,I.fix,λb q=>?_,I.len,λj s q=>?_,I.sep⟩,sG,h.rp hg sG λo' q=>by rw[ho] at q;cases q;exact ay⟩
 ·by_cases z:b=p
  ·subst z;rw[ay] at q;cases q;exact ho
  ·rw[az z] at q;exact I.sub b u q
 ·rw[az (λz=>n1.1 (by rw[z];exact h0))];exact I.new b n1 n2
 ·obtain⟨k1,k2,k3⟩:=I.box b q
  exact⟨k1,by rw[az (λz=>hb (by rw[<-z];exact q))];exact k2,k3⟩
 ·have w:=I.slot j s q
  cases s with
  |no=>trivial
  |fz d'=>obtain⟨v,w1,w2⟩:=w;exact⟨v,w1,w2.mono sG⟩
  |ow d'=>
   obtain⟨c,w1,w2,w3,w4,w5⟩:=w
   have ca:c≠p:=λz2=>hn j d' q (by rw[<-z2];exact w1)
   exact⟨c,w1,w2,by rw[az ca];exact w3,w4,w5.mono sG λo q=>q⟩
  |bx=>exact w
  |br d'=>obtain⟨b1,c,w1,w4,wp,w5⟩:=w;exact⟨b1,c,w1,w4,wp,w5.mono sG λo q=>q⟩
def yN {env:En}{i j:Nat}{d:D}(h:(jE env i)[j]? =some (.ow d)):env[j]? =some (.ow d):=by
 unfold jE at h
 split at h
 ·rename_i d' e
  by_cases z:i=j
  ·subst z
   rw[M7 (M9.mp e).1] at h;cases h
  ·rw[M1 z] at h;exact h
 ·exact h
theorem tm {L:List Nat}{env:En}{j:Nat}{d:D}(h:(bg L env)[j]? =some (.ow d)):env[j]? =some (.ow d):=by
 unfold bg at h
 induction L generalizing env with
 |nil=>exact h
 |cons i L ih=>exact yN (ih h)
def SR.letW {B:Option Addr}{G H G' H':Hp}{σ:St}{env:En}{β β':Int}{L:List Nat}{d:D}{v:V}(I:SR Γ B G H σ env β)(I':SR Γ B G' H' σ (L2.bg L env) β')(h:VO Γ.K B H G' H' .w d v):∃G2,SR Γ B G2 H' σ (L2.bg L env) β'/\av G' G2/\Rp Γ.K G2 v d:=by
 obtain⟨p,rfl,h1,h2,h3⟩:=h
 obtain⟨q1,q2,q3,q4⟩:=I.fresh h1
 exact I'.letIn q1 h2 q3 (λj d' e=>q4 j d' (tm e)) h3
def SE.wv (h:SE X Γ E e f L .w):SE X Γ E e f L .v:=by
 refine PE.post' h λσ H Q ⟨env,G,B,β,I,o⟩=>⟨env,G,B,β,I,o.imp λd β' k v G' H' I' s m vo=>?_⟩
 obtain⟨G2,I2,s2,r⟩:=I.letW I' vo
 exact k v G2 H' I2 (s.trans s2) m r
theorem VO.brw {B:Option Addr}{H G' H':Hp}{d:D}{v:V}{K:Frag}(h:VO K B H G' H' md d v)(hB:∀x,B=some x->H x≠none):kQ K B G' H' v d:=by
 cases md with
 |b=>exact h
 |v=>exact .inl h
 |w=>
  obtain⟨p,rfl,h1,h2,h3⟩:=h
  exact .inr ⟨p,rfl,λz=>hB p z h1,h3⟩
def SR.boxThere {B:Option Addr}{G H:Hp}{σ:St}{env:En}{β:Int}(I:SR Γ B G H σ env β):∀x,B=some x->H x≠none:=λx e=>by rw[(I.box x e).1];simp
def ag (i:Nat){x:Str}(hN:X.N[i]? =some x:=by rfl)(hv:wO X.env.scope x:=by first |exact Or.inl rfl |exact Or.inr (Or.inl rfl) |exact Or.inr (Or.inr rfl))(hd:(x == ("__debug__":Str))=false:=by decide)
  (hcd:(x == ("__classdict__":Str))=false:=by decide):SE X Γ E (.Name x pos) (gv i) [] .b:=by
 refine PE.post' (iS hN hv hd hcd) λσ H Q ⟨env,G,B,β,I,o⟩=>?_
 obtain⟨d,e,k⟩:=o.of
 have e:=join_some e
 rcases G6 e with q |q |q
 ·obtain⟨v,h1,h2⟩:=I.slot i _ q
  exact⟨v,h1,k v G H I (av.refl _) (iX.refl _ _) (.inl h2)⟩
 ·obtain⟨p,h1,h2,h3,h4,h5⟩:=I.slot i _ q
  exact⟨.ref p,h1,k _ G H I (av.refl _) (iX.refl _ _) (.inr ⟨p,rfl,h4,h5⟩)⟩
 ·obtain⟨_,p,h1,h4,_,h5⟩:=I.slot i _ q
  exact⟨.ref p,h1,k _ G H I (av.refl _) (iX.refl _ _) (.inr ⟨p,rfl,h4,h5⟩)⟩
def ax (i:Nat)(hb:Γ.br i=false){x:Str}(hN:X.N[i]? =some x:=by rfl)(hv:wO X.env.scope x:=by first |exact Or.inl rfl |exact Or.inr (Or.inl rfl) |exact Or.inr (Or.inr rfl))(hd:(x == ("__debug__":Str))=false:=by decide)
  (hcd:(x == ("__classdict__":Str))=false:=by decide):SE X Γ E (.Name x pos) (gv i) [i] .v:=by
 refine PE.post' (iS hN hv hd hcd) λσ H Q ⟨env,G,B,β,I,o⟩=>?_
 obtain⟨d,e,k⟩:=o.of
 obtain⟨G',v,I',s,h1,h2⟩:=I.freeze i hb (join_some e)
 exact⟨v,h1,k v G' H I' s (iX.refl _ _) h2⟩
def Dw {v:V}{d:D}(h:PE X e (tC v))(r:∀G,Rp Γ.K G v d):SE X Γ E e (cst d) [] .v:=by
 refine PE.post' h λσ H Q ⟨env,G,B,β,I,o⟩=>?_
 exact o v G H I (av.refl _) (iX.refl _ _) (r G)
def au {i:Int}{j}:SE X Γ E (.Constant (.int i) j pos) (cst (.int i)) [] .v:=Dw me λ_=>.int i
def kz {i:Bool}{j}:SE X Γ E (.Constant (.bool i) j pos) (cst (.bool i)) [] .v:=Dw zg λ_=>.bl i
def HC {j}:SE X Γ E (.Constant .none j pos) (cst .none) [] .v:=Dw DM λ_=>.non
def CU {x:Str}{j}:SE X Γ E (.Constant (.str x) j pos) (cst (.str x)) [] .v:=Dw CW λ_=>.str x
def Fi {x:Str}{i:Int}{t:Tok}(hg:Gl X x)(hm:X.mg x=some (.int i t))(hd:(x == ("__debug__":Str))=false:=by decide):SE X Γ E (.Name x pos) (cst (.int i)) [] .v:=Dw (FX hg hm (show RelV (.int i) _ from⟨_,rfl⟩) hd) λ_=>.int i
def two {W:V->V->Hp->Prop}{B:Option Addr}{G H:Hp}{σ:St}{env:En}{β:Int}(I:SR Γ B G H σ env β)
  (h:Out Γ E (fa (vl env) β) λd1 β1=>Out Γ E (fb (vl env) β1) λd2 β2=>∀x y G2 H2,SR Γ B G2 H2 σ (bg (La ++ Lb) env) β2->av G G2->iX B H H2->kQ Γ.K B G2 H2 x d1->kQ Γ.K B G2 H2 y d2->W x y H2) :
  pT Γ E fa La ma σ H λx H1=>pT Γ E fb Lb mb σ H1 λy H2=>W x y H2:=by
 refine⟨env,G,B,β,I,h.imp λd1 β1 h x G1 H1 I1 s1 m1 vx=>⟨bg La env,G1,B,β1,I1,?_⟩⟩
 rw[gQ]
 refine h.imp λd2 β2 k y G2 H2 I2 s2 m2 vy=>?_
 refine k x y G2 H2 (by rw[cL];exact I2) (s1.trans s2) (m1.trans m2) ((vx.brw I.boxThere).mono s2 m2) (vy.brw I1.boxThere)
def nH (K:Frag)(r:R2)(g:D->D->Option D)(md:Md):Prop:=∀(B:Option Addr) (G H:Hp) (x y:V) (dx dy d:D) (Q:VK),av G H->(∀x,B=some x->H x≠none)->kQ K B G H x dx->kQ K B G H y dy->g dx dy=some d->
 (∀v G' H',Ext G H G' H'->VO K B H G' H' md d v->Q v H')->r x y H Q
def f2 (fa fb:VF D)(g:D->D->Option D):VF D:=λvs β=>(fa vs β).bnd λx β1=>(fb vs β1).bnd λy β2=>R.of (g x y) β2
theorem gm {B:Option Addr}{H H2:Hp}(m:iX B H H2)(hB:∀x,B=some x->H2 x≠none){p:Addr}(h:H2 p=none):H p=none:=by
 cases e:H p with
 |none=>rfl
 |some o=>rw[m p o e λz=>hB p z h] at h;cases h
theorem VO.back {K:Frag}{B:Option Addr}{H H2 G' H':Hp}{d:D}{v:V}(h:VO K B H2 G' H' md d v)(m:iX B H H2)(hB:∀x,B=some x->H2 x≠none):VO K B H G' H' md d v:=by
 cases md with
 |b=>exact h
 |v=>exact h
 |w=>obtain⟨p,e,h1,h2,h3⟩:=h;exact⟨p,e,gm m hB h1,h2,h3⟩
def nh {r:R2}{g:D->D->Option D}{Q:VK}(pr:nH Γ.K r g md){B:Option Addr}{G H:Hp}{σ:St}{env:En}{β:Int}(I:SR Γ B G H σ env β)
  (h:Out Γ E (f2 fa fb g (vl env) β) λd β'=>∀v G' H',SR Γ B G' H' σ (bg (La ++ Lb) env) β'->av G G'->iX B H H'->VO Γ.K B H G' H' md d v->Q v H') :
  pT Γ E fa La ma σ H λx H1=>pT Γ E fb Lb mb σ H1 λy H2=>r x y H2 Q:=by
 refine two I (h.bnd.imp λd1 β1 h=>h.bnd.imp λd2 β2 h x y G2 H2 I2 s2 m2 bx by'=>?_)
 obtain⟨d,e,k⟩:=h.of
 refine pr B G2 H2 x y d1 d2 d Q I2.sub I2.boxThere bx by' e λv G' H' x' vo=>?_
 exact k v G' H' (I2.ext x') (s2.trans x'.gg) (m2.trans (x'.hh.mov B)) (vo.back m2 I2.boxThere)
def bh {op:Operator}{r:R2}{g:D->D->Option D}(ho:lX X (binaryOp op) r)(pr:nH Γ.K r g md)(ha:SE X Γ E a fa La ma)(hb:SE X Γ E b fb Lb mb):SE X Γ E (.BinOp a op b pos) (f2 fa fb g) (La ++ Lb) md:=
 PE.post' (wN ho ha hb) λσ H Q ⟨env,G,B,β,I,o⟩=>nh pr I o
def fq {op:CmpOp}{r:R2}{g:D->D->Option D}(ho:lX X (compareOp op) r)(pr:nH Γ.K r g md)(ha:SE X Γ E a fa La ma)(hb:SE X Γ E b fb Lb mb)(hm:behindInMarks op b=false):SE X Γ E (.Compare a [op] [b] pos) (f2 fa fb g) (La ++ Lb) md:=
 PE.post' (E6 ho ha hb hm) λσ H Q ⟨env,G,B,β,I,o⟩=>nh pr I o
def bo {r:R2}{g:D->D->Option D}(hr:B6 X r)(pr:nH Γ.K r g md)(ha:SE X Γ E a fa La ma)(hb:SE X Γ E b fb Lb mb)(hs:yW b):SE X Γ E (.Subscript a b pos) (f2 fa fb g) (La ++ Lb) md:=
 PE.post' (lZ hr ha hb hs) λσ H Q ⟨env,G,B,β,I,o⟩=>nh pr I o
def AW (K:Frag)(r:V->Hp->VK->Prop)(g:D->Option D)(md:Md):Prop:=∀(B:Option Addr) (G H:Hp) (x:V) (dx d:D) (Q:VK),av G H->(∀x,B=some x->H x≠none)->kQ K B G H x dx->g dx=some d->
 (∀v G' H',Ext G H G' H'->VO K B H G' H' md d v->Q v H')->r x H Q
def f1 (fa:VF D)(g:D->Option D):VF D:=λvs β=>(fa vs β).bnd λx β1=>R.of (g x) β1
def km {r:V->Hp->VK->Prop}{g:D->Option D}{Q:VK}(pr:AW Γ.K r g md){B:Option Addr}{G H:Hp}{σ:St}{env:En}{β:Int}(I:SR Γ B G H σ env β)
  (h:Out Γ E (f1 fa g (vl env) β) λd β'=>∀v G' H',SR Γ B G' H' σ (bg La env) β'->av G G'->iX B H H'->VO Γ.K B H G' H' md d v->Q v H') :
  pT Γ E fa La ma σ H λx H1=>r x H1 Q:=by
 refine⟨env,G,B,β,I,h.bnd.imp λd1 β1 h x G1 H1 I1 s1 m1 vx=>?_⟩
 obtain⟨d,e,k⟩:=h.of
 refine pr B G1 H1 x d1 d Q I1.sub I1.boxThere (vx.brw I.boxThere) e λv G' H' x' vo=>?_
 exact k v G' H' (I1.ext x') (s1.trans x'.gg) (m1.trans (x'.hh.mov B)) (vo.back m1 I1.boxThere)
def wu {op:UnaryOp}{r:V->Hp->VK->Prop}{g:D->Option D}(ho:K2 X (unaryOp op) r)(pr:AW Γ.K r g md)(ha:SE X Γ E a fa La ma):SE X Γ E (.UnaryOp op a pos) (f1 fa g) La md:=
 PE.post' (CG ho ha) λσ H Q ⟨env,G,B,β,I,o⟩=>km pr I o
def aV {id:String}{r:List V->Hp->VK->Prop}{g:D->Option D}{x:Str}{p:Pos}(hc:c8 X (.builtin id) r)(pr:AW Γ.K (λx=>r [x]) g md)(hg:Gl X x)(hm:X.mg x=none)(hv:bootBuiltins x=some (.builtin id))(ha:SE X Γ E a fa La ma)(hn:x≠"__name__":=by decide)(hdb:(x == ("__debug__":Str))=false:=by decide)
  (he:starEach [a] X.env=(false,eval a X.env) :: starEach [] X.env:=by rfl):SE X Γ E (.Call (.Name x p) [a] [] pos) (f1 fa g) La md:=
 PE.post' (kI hc hg hm hv (aU ha bO he) hn hdb he) λσ H Q ⟨env,G,B,β,I,o⟩=>km (r:=λx=>r [x]) pr I o
def iD {id:String}{r:List V->Hp->VK->Prop}{g:D->Option D}{x:Str}{p:Pos}(hc:c8 X (.type id) r)(pr:AW Γ.K (λx=>r [x]) g md)(hg:Gl X x)(hm:X.mg x=none)(hv:bootBuiltins x=some (.type id))(ha:SE X Γ E a fa La ma)(hn:x≠"__name__":=by decide)(hdb:(x == ("__debug__":Str))=false:=by decide)
  (he:starEach [a] X.env=(false,eval a X.env) :: starEach [] X.env:=by rfl):SE X Γ E (.Call (.Name x p) [a] [] pos) (f1 fa g) La md:=
 PE.post' (jA hc hg hm hv (aU ha bO he) hn hdb he) λσ H Q ⟨env,G,B,β,I,o⟩=>km (r:=λx=>r [x]) pr I o
def vB {id:String}{r:List V->Hp->VK->Prop}{g:D->D->Option D}{x:Str}{p:Pos}(hc:c8 X (.builtin id) r)(pr:nH Γ.K (λx y=>r [x,y]) g md)(hg:Gl X x)(hm:X.mg x=none)(hv:bootBuiltins x=some (.builtin id))(ha:SE X Γ E a fa La ma)(hb:SE X Γ E b fb Lb mb)(hn:x≠"__name__":=by decide)(hdb:(x == ("__debug__":Str))=false:=by decide)
  (he:starEach [a,b] X.env=(false,eval a X.env) :: starEach [b] X.env:=by rfl) (he2:starEach [b] X.env=(false,eval b X.env) :: starEach [] X.env:=by rfl) (hpl:(backTo pos (starEach [b] X.env)).any (·.1)=false:=by rfl):SE X Γ E (.Call (.Name x p) [a,b] [] pos) (f2 fa fb g) (La ++ Lb) md:=
 PE.post' (kI hc hg hm hv (aU ha (aU hb bO he2) he) hn hdb he hpl) λσ H Q ⟨env,G,B,β,I,o⟩=>nh (r:=λx y=>r [x,y]) pr I o
def dA (fa fb:VF D):VF D:=λvs β=>(fa vs β).bnd λx β1=>match x with
 | .bool true=>fb vs β1
 | .bool false=>.ok (.bool false) β1
 |_=>.bad
def gP {op}(h:SE X Γ E a fa La md):SE X Γ E (.BoolOp op [a] pos) fa La md:=IP h
theorem eB {rest:List Expr}(ha:SE X Γ E a fa La ma)(hb:SE X Γ E (.BoolOp .And (b :: rest) pos) fb Lb .v)(hbr:∀i,i∈Lb->Γ.br i=false):SE X Γ E (.BoolOp .And (a :: b :: rest) pos) (dA fa fb) (La ++ Lb) .v:=by
 refine PE.post' (HH ha hb) λσ H Q ⟨env,G,B,β,I,o⟩=>?_
 refine⟨env,G,B,β,I,o.bnd.imp λd1 β1 h x G1 H1 I1 s1 m1 vx=>?_⟩
 have bx:=vx.brw I.boxThere
 cases d1 with
 |bool c=>
  obtain rfl:=bx.bool
  refine⟨c,rfl,?_⟩
  cases c with
  |true=>exact w8 ⟨_,G1,B,β1,I1,by rw[gQ];exact h.imp λd β' k v G' H' I' s' m' vo=>k v G' H' (by rw[cL];exact I') (s1.trans s') (m1.trans m') vo⟩
  |false=>
   obtain⟨G2,I2,s2⟩:=I1.bg Lb hbr
   exact wc (h _ G2 H1 (by rw[cL];exact I2) (s1.trans s2) m1 (.bl false))
 |_=>exact h.elim
def rm:D->Option D
 | .bool c=>some (.bool (!c))
 |_=>none
theorem qj (ha:SE X Γ E a fa La ma):SE X Γ E (.UnaryOp .Not a pos) (f1 fa rm) La .v:=by
 refine PE.post' (IS ha) λσ H Q ⟨env,G,B,β,I,o⟩=>?_
 refine km (r:=λx H1 Q=>∃c,x=.bl c/\Q (.bl (!c)) H1) ?_ I o
 intro B G H x dx d Q s hB bx e k
 cases dx with
 |bool c=>
  obtain rfl:=bx.bool
  cases e
  exact⟨c,rfl,k _ G H (Ext.refl s) (.bl _)⟩
 |_=>cases e
def Ho:D->Option Bool
 | .none=>some false
 | .bool b=>some b
 | .int i=>some (i != 0)
 | .str y=>if y.length<=sizeLine then some ((y.length:Int) != 0) else none
 | .list ds=>some (!ds.isEmpty)
 | .tuple ds=>some (!ds.isEmpty)
 | .dict _=>none
def mZ (fa:VF D):VF Bool:=λvs β=>(fa vs β).bnd λx β1=>R.of (Ho x) β1
def oy {K:Frag}{G:Hp}{xs:List V}{ds:List D}(r:cC K G xs ds):(!ds.isEmpty)= !xs.isEmpty:=by cases r <;> rfl
theorem dR (hK:X.K=Γ.K)(ha:SE X Γ E a fa La ma)(he:∀whole,isTrue a X.env whole=(do let v <-whole;standAt a.pos;holding [v] (truthy v)):=by intro _;rfl):A1 X Γ E a (mZ fa) La:=by
 refine PT.post (CT ha he) λσ H Q ⟨env,G,B,β,I,o⟩=>?_
 refine⟨env,G,B,β,I,o.bnd.imp λd1 β1 h x G1 H1 I1 s1 m1 vx=>?_⟩
 obtain⟨c,e,k⟩:=h.of
 have bx:=vx.brw I.boxThere
 refine⟨c,?_,k G1 H1 I1 s1 m1⟩
 rw[hK]
 cases d1 with
 |none=>obtain rfl:=bx.none;cases e;rfl
 |bool b=>obtain rfl:=bx.bool;cases e;rfl
 |int i=>obtain rfl:=bx.int;cases e;rfl
 |str y=>
  obtain rfl:=bx.str
  simp only[Ho] at e
  split at e
  ·cases e;exact⟨by assumption,rfl⟩
  ·cases e
 |list ds=>obtain⟨p,xs,rfl,hq,r⟩:=bx.list I1.sub;cases e;exact .inl ⟨xs,.inl hq,oy r⟩
 |tuple ds=>obtain⟨p,xs,rfl,hq,r⟩:=bx.tuple I1.sub;cases e;exact .inr (.inl ⟨xs,hq,oy r⟩)
 |dict ds=>cases e
def cJ (fa:VF D):VF Bool:=λvs β=>(fa vs β).bnd λx β1=>match x with
 | .bool c=>.ok c β1
 |_=>.bad
theorem bp {op:CmpOp}{r:R2}{g:D->D->Option D}(ho:lX X (compareOp op) r)(pr:nH Γ.K r g .v)(ha:SE X Γ E a fa La ma)(hb:SE X Γ E b fb Lb mb)(hm:behindInMarks op b=false):A1 X Γ E (.Compare a [op] [b] pos) (cJ (f2 fa fb g)) (La ++ Lb):=by
 refine PT.post (EN ho ha hb hm) λσ H Q ⟨env,G,B,β,I,o⟩=>?_
 refine nh pr I (o.bnd.imp λd β' h v G' H' I' s' m' vo=>?_)
 cases d with
 |bool c=>cases vo;exact⟨c,rfl,h G' H' I' s' m'⟩
 |_=>exact h.elim
def uZ (t:VF Bool):VF Bool:=λvs β=>(t vs β).bnd λc β1=>.ok (!c) β1
def A3 (t u:VF Bool):VF Bool:=λvs β=>(t vs β).bnd λc β1=>if c=true then u vs β1 else .ok false β1
def mf (t u:VF Bool):VF Bool:=λvs β=>(t vs β).bnd λc β1=>if c=true then .ok true β1 else u vs β1
variable {ta tb tc:VF Bool}
def gR (ha:A1 X Γ E a ta La):A1 X Γ E (.UnaryOp .Not a pos) (uZ ta) La:=by
 refine PT.post (IQ ha) λσ H Q ⟨env,G,B,β,I,o⟩=>?_
 exact⟨env,G,B,β,I,o.bnd.imp λc β1 h=>h⟩
def rQ.t (h:rQ X Γ E e ta La):A1 X Γ E e ta La:=PW.pt h
def nv (ha:A1 X Γ E a ta La):rQ X Γ E (.BoolOp .And [a] pos) ta La:=yL ha
def mE (ha:A1 X Γ E a ta La):rQ X Γ E (.BoolOp .Or [a] pos) ta La:=HX ha
theorem pX {rest:List Expr}(ha:A1 X Γ E a ta La)(hb:rQ X Γ E (.BoolOp .And (b :: rest) pos) tb Lb)(hbr:∀i,i∈Lb->Γ.br i=false):rQ X Γ E (.BoolOp .And (a :: b :: rest) pos) (A3 ta tb) (La ++ Lb):=by
 refine PW.post (C2 ha hb) λσ H Q ⟨env,G,B,β,I,o⟩=>?_
 refine⟨env,G,B,β,I,o.bnd.imp λc β1 h G1 H1 I1 s1 m1=>?_⟩
 cases c with
 |true=>exact w8 ⟨_,G1,B,β1,I1,by rw[gQ];exact Out.imp h λd β' k G' H' I' s' m'=>k G' H' (by rw[cL];exact I') (s1.trans s') (m1.trans m')⟩
 |false=>
  obtain⟨G2,I2,s2⟩:=I1.bg Lb hbr
  exact wc (h G2 H1 (by rw[cL];exact I2) (s1.trans s2) m1)
theorem lP {rest:List Expr}(ha:A1 X Γ E a ta La)(hb:rQ X Γ E (.BoolOp .Or (b :: rest) pos) tb Lb)(hbr:∀i,i∈Lb->Γ.br i=false):rQ X Γ E (.BoolOp .Or (a :: b :: rest) pos) (mf ta tb) (La ++ Lb):=by
 refine PW.post (J5 ha hb) λσ H Q ⟨env,G,B,β,I,o⟩=>?_
 refine⟨env,G,B,β,I,o.bnd.imp λc β1 h G1 H1 I1 s1 m1=>?_⟩
 cases c with
 |true=>
  obtain⟨G2,I2,s2⟩:=I1.bg Lb hbr
  exact w8 (h G2 H1 (by rw[cL];exact I2) (s1.trans s2) m1)
 |false=>exact wc ⟨_,G1,B,β1,I1,by rw[gQ];exact Out.imp h λd β' k G' H' I' s' m'=>k G' H' (by rw[cL];exact I') (s1.trans s') (m1.trans m')⟩
def MC (t:VF Bool)(fa fb:VF D):VF D:=λvs β=>(t vs β).bnd λc β1=>if c=true then fa vs β1 else fb vs β1
def ah:VF (List D):=λ_ β=>.ok [] β
def ae (fa:VF D)(fr:VF (List D)):VF (List D):=λvs β=>(fa vs β).bnd λx β1=>(fr vs β1).bnd λxs β2=>.ok (x :: xs) β2
variable {fr:VF (List D)}{es:List Expr}
def ak:SA X Γ E [] ah []:=PA.post bO λσ H Q ⟨env,G,B,β,I,o⟩=>o [] G H I (av.refl _) (iX.refl _ _) .nil
def af (ha:SE X Γ E a fa La .v)(hr:SA X Γ E es fr Lb)(hs:starEach (a :: es) X.env=(false,eval a X.env) :: starEach es X.env:=by rfl):SA X Γ E (a :: es) (ae fa fr) (La ++ Lb):=by
 refine PA.post (aU ha hr hs) λσ H Q ⟨env,G,B,β,I,o⟩=>?_
 refine⟨env,G,B,β,I,o.bnd.imp λd1 β1 h x G1 H1 I1 s1 m1 vx=>⟨bg La env,G1,B,β1,I1,?_⟩⟩
 rw[gQ]
 refine h.bnd.imp λds β2 k xs G2 H2 I2 s2 m2 r=>?_
 exact k (x :: xs) G2 H2 (by rw[cL];exact I2) (s1.trans s2) (m1.trans m2) (.cons (vx.mono s2) r)
def aW (fr:VF (List D)):VF D:=λvs β=>(fr vs β).bnd λds β1=>if ds.length<=sizeLine then .ok (.tuple ds) β1 else .bad
def ba (fr:VF (List D)):VF D:=λvs β=>(fr vs β).bnd λds β1=>if ds.length<=sizeLine then .ok (.list ds) β1 else .bad
def bE {x1}(h:SA X Γ E es fr L):SE X Γ E (.Tuple es x1 pos) (aW fr) L .v:=by
 refine PE.post' (xw h) λσ H Q ⟨env,G,B,β,I,o⟩=>?_
 refine⟨env,G,B,β,I,o.bnd.imp λds β1 k xs G1 H1 I1 s1 m1 r=>?_⟩
 by_cases hz:ds.length<=sizeLine
 ·rw[MJ hz] at k
  refine⟨by rw[r.len];exact hz,λp hp=>?_⟩
  have x:=Ext.new I1.sub (o:=.tup xs) hp
  exact k _ _ _ (I1.ext x) (s1.trans x.gg) (m1.trans (x.hh.mov B)) (.tup (.inl (.inl ay)) (r.mono x.gg))
 ·rw[MO hz] at k;exact k.elim
def aZ (h:SA X Γ E es fr L):SE X Γ E (.List es pos) (ba fr) L .w:=by
 refine PE.post' (Cy h) λσ H Q ⟨env,G,B,β,I,o⟩=>?_
 refine⟨env,G,B,β,I,o.bnd.imp λds β1 k xs G1 H1 I1 s1 m1 r=>?_⟩
 by_cases hz:ds.length<=sizeLine
 ·rw[MJ hz] at k
  refine⟨by rw[r.len];exact hz,λp hp=>?_⟩
  have x:=Ext.own I1.sub (o:=.lst xs) hp
  exact k _ _ _ (I1.ext x) s1 (m1.trans (x.hh.mov B)) ⟨p,rfl,gm m1 I1.boxThere hp,I1.sub.free hp,xs,ay,r⟩
 ·rw[MO hz] at k;exact k.elim
inductive FR where
 |ok (d:D) (fresh:Bool)
 |exc (c:Str)
 |bad
def FV (K:Frag)(H G' H':Hp)(fr:Bool)(d:D)(v:V):Prop:=if fr=true then ∃a,v=.ref a/\H a=none/\G' a=none/\Own K G' H' a d else Rp K G' v d
def Ei (K:Frag)(ca:Str->Addr)(n:Nat)(F:List D->FR):Sp:=λvs H Q E=>∃G ds,av G H/\ds.length=n/\cC K G vs ds/\match F ds with
 | .ok d fr=>∀v G' H',av H H'->av G G'->av G' H'->(∀b,Mx H b->G b=none->G' b=none)->FV K H G' H' fr d v->Q v H'
 | .exc c=>∀H',av H H'->E (.ref (ca c)) none H'
 | .bad=>False
structure df (P:Program)(w:World)(K:Frag)(mg:Str->Option Value)(base:Heap)(ca:Str->Addr)(x:Str)(ps:List Str)(k:Nat)(F:List D->FR):Prop where
 ex:∃f fd,mg x=some (.ref f)/\PySem.W.keepIn K (.ref f)=true/\Binds K fd ps []/\gB P w K mg base (oS P w) k f fd ps (Ei K ca ps.length F)
 len:∀ds,F ds≠.bad->ds.length=ps.length
def aF (F:List D->FR)(fr:VF (List D)):VF D:=λvs β=>(fr vs β).bnd λds β1=>match F ds with
 | .ok d _=>.ok d β1
 | .exc c=>.exc c
 | .bad=>.bad
def wG (F:List D->FR)(fr:VF (List D)):VF D:=λvs β=>(fr vs β).bnd λds β1=>match F ds with
 | .ok d true=>.ok d β1
 | .ok _ false=>.bad
 | .exc c=>.exc c
 | .bad=>.bad
def SR.called {B:Option Addr}{G1 H1 G2 H2:Hp}{σ:St}{env:En}{β:Int}(I1:SR Γ B G1 H1 σ env β)(h:av H1 H2)(g:av G1 G2)(s:av G2 H2)(n:∀b,Mx H1 b->G1 b=none->G2 b=none):SR Γ B G2 H2 σ env β/\iX B H1 H2:=by
 refine⟨⟨s,I1.old.trans g,λb n1 n2=>?_,λb o e np=>h b o (I1.keep b o e np),λb hb=>?_,I1.fix,λb e=>?_,I1.len,λi t e=>?_,I1.sep⟩,h.mov B⟩
 ·exact n b (I1.thereM n1) (I1.new b n1 n2)
 ·exact (I1.pin b hb).same λo e=>h b o e
 ·obtain⟨h1,h2,h3⟩:=I1.box b e
  exact⟨h b _ h1,n b (Mx.lst h1) h2,h3⟩
 ·have q:=I1.slot i t e
  cases t with
  |no=>trivial
  |fz d=>obtain⟨v,h1,h2⟩:=q;exact⟨v,h1,h2.mono g⟩
  |ow d=>
   obtain⟨p,h1,h2,h3,h4,h5⟩:=q
   exact⟨p,h1,h2,n p h5.mx h3,h4,h5.mono g λo q=>h p o q⟩
  |bx=>exact q
  |br d=>obtain⟨b1,p,h1,h4,hp,h5⟩:=q;exact⟨b1,p,h1,h4,hp,h5.mono g λo q=>h p o q⟩
def SR.kp {B:Option Addr}{G H H':Hp}{σ:St}{env:En}{β:Int}(I:SR Γ B G H σ env β)(h:av H H'):Kp Γ H':=λb o e n=>h b o (I.keep b o e n)
theorem rR {F:List D->FR}{ps:List Str}{Q:VK}{B:Option Addr}{G H:Hp}{σ:St}{env:En}{β:Int}(I:SR Γ B G H σ env β)(hK:X.K=Γ.K){wv:Bool}
  (h:Out Γ E (if wv=true then wG F fr (vl env) β else aF F fr (vl env) β) λd β'=>∀v G' H',SR Γ B G' H' σ (bg L env) β'->av G G'->iX B H H'->VO Γ.K B H G' H' (if wv=true then .w else .v) d v->Q v H') (hl:∀ds,F ds≠.bad->ds.length=ps.length) :
  aT Γ E fr L σ H λvs H1=>Ei X.K Γ.ca ps.length F vs H1 Q E:=by
 refine⟨env,G,B,β,I,?_⟩
 have h:Out Γ E (fr (vl env) β) λds β1=>Out Γ E (match F ds with
   | .ok d true=>.ok d β1
   | .ok d false=>if wv=true then .bad else .ok d β1
   | .exc c=>.exc c
   | .bad=>.bad) λd β'=>∀v G' H',SR Γ B G' H' σ (bg L env) β'->av G G'->iX B H H'->VO Γ.K B H G' H' (if wv=true then .w else .v) d v->Q v H':=by
  cases wv with
  |true=>
   simp only[NN] at h ⊢
   refine h.bnd.imp λds β1 h=>?_
   cases q:F ds with
   |ok d b=>rw[q] at h;cases b <;> exact h
   |exc c=>rw[q] at h;exact h
   |bad=>rw[q] at h;exact h
  |false=>
   simp only[MZ,Nx] at h ⊢
   refine h.bnd.imp λds β1 h=>?_
   cases q:F ds with
   |ok d b=>rw[q] at h;cases b <;> exact h
   |exc c=>rw[q] at h;exact h
   |bad=>rw[q] at h;exact h
 refine h.imp λds β1 k vs G1 H1 I1 s1 m1 r=>?_
 refine⟨G1,ds,I1.sub,?_,by rw[hK];exact r,?_⟩
 ·exact hl ds λz=>by rw[z] at k;exact k
 cases q:F ds with
 |bad=>rw[q] at k;exact k
 |exc c=>rw[q] at k;exact λH' s=>k H' (I1.kp s)
 |ok d b=>
  rw[q] at k
  intro v G' H' hh hg hs hn fv
  obtain⟨I2,m2⟩:=I1.called hh hg hs hn
  cases b with
  |true=>
   obtain⟨p,rfl,p1,p2,p3⟩:∃a,v=.ref a/\H1 a=none/\G' a=none/\Own X.K G' H' a d:=fv
   rw[hK] at p3
   have hp:=gm m1 I1.boxThere p1
   cases wv with
   |true=>exact k _ G' H' I2 (s1.trans hg) (m1.trans m2) ⟨p,rfl,hp,p2,p3⟩
   |false=>
    obtain⟨q1,q2,q3,q4⟩:=I1.fresh p1
    obtain⟨G3,I3,s3,r3⟩:=I2.letIn q1 p2 q3 q4 p3
    exact k _ G3 H' I3 ((s1.trans hg).trans s3) (m1.trans m2) r3
  |false=>
   cases wv with
   |true=>exact k.elim
   |false=>
    have fv:Rp X.K G' v d:=fv
    rw[hK] at fv
    exact k _ G' H' I2 (s1.trans hg) (m1.trans m2) fv
def aN {x:Str}{ps:List Str}{k:Nat}{F:List D->FR}{p:Pos}(hf:df X.prog X.w X.K X.mg X.base Γ.ca x ps k F)(hr:fJ k X.A)(hx:Passes (oS X.prog X.w) X E)(hK:X.K=Γ.K)(hg:Gl X x)(ha:SA X Γ E (a :: es) fr L)(hdb:(x == ("__debug__":Str))=false:=by decide)
  (he:starEach (a :: es) X.env=(false,eval a X.env) :: starEach es X.env:=by rfl) (hpl:(backTo pos (starEach es X.env)).any (·.1)=false:=by rfl):SE X Γ E (.Call (.Name x p) (a :: es) [] pos) (aF F fr) L .v:=by
 obtain⟨f,fd,hm,hk,hb,hF⟩:=hf.ex
 refine PE.post' (pB (dvs:=[]) hF hr hg hm hk hb .nil hx ha hdb he hpl) λσ H Q ⟨env,G,B,β,I,o⟩=>?_
 show aT Γ E fr L σ H λvs H1=>Ei X.K Γ.ca ps.length F (vs ++ []) H1 Q E
 have:=rR (Q:=Q) (wv:=false) (ps:=ps) I hK o hf.len
 simpa using this
def BP {x:Str}{ps:List Str}{k:Nat}{F:List D->FR}{p:Pos}(hf:df X.prog X.w X.K X.mg X.base Γ.ca x ps k F)(hr:fJ k X.A)(hx:Passes (oS X.prog X.w) X E)(hK:X.K=Γ.K)(hg:Gl X x)(ha:SA X Γ E (a :: es) fr L)(hdb:(x == ("__debug__":Str))=false:=by decide)
  (he:starEach (a :: es) X.env=(false,eval a X.env) :: starEach es X.env:=by rfl) (hpl:(backTo pos (starEach es X.env)).any (·.1)=false:=by rfl):SE X Γ E (.Call (.Name x p) (a :: es) [] pos) (wG F fr) L .w:=by
 obtain⟨f,fd,hm,hk,hb,hF⟩:=hf.ex
 refine PE.post' (pB (dvs:=[]) hF hr hg hm hk hb .nil hx ha hdb he hpl) λσ H Q ⟨env,G,B,β,I,o⟩=>?_
 show aT Γ E fr L σ H λvs H1=>Ei X.K Γ.ca ps.length F (vs ++ []) H1 Q E
 have:=rR (Q:=Q) (wv:=true) (ps:=ps) I hK o hf.len
 simpa using this
end
inductive SO where
 |nx (env:En) (β:Int)
 |bk (env:En) (β:Int)
 |ct (env:En) (β:Int)
 |rt (d:D) (fr:Bool) (β:Int)
 |exc (c:Str)
 |bad
abbrev SF:=En->Int->SO
def RV (Γ:Fx)(G' H':Hp)(fr:Bool)(d:D)(v:V):Prop:=if fr=true then ∃a,v=.ref a/\Γ.H0 a=none/\G' a=none/\Own Γ.K G' H' a d else Rp Γ.K G' v d
def rH (Γ:Fx)(E:XK)(G:Hp)(N:Ends):SO->Prop
 | .nx env β=>∀B G' H' σ,SR Γ B G' H' σ env β->av G G'->N.nx σ H'
 | .bk env β=>∀B G' H' σ,SR Γ B G' H' σ env β->av G G'->N.bk σ H'
 | .ct env β=>∀B G' H' σ,SR Γ B G' H' σ env β->av G G'->N.ct σ H'
 | .rt d fr β=>∀B G' H' σ env v,SR Γ B G' H' σ env β->av G G'->RV Γ G' H' fr d v->N.rt v H'
 | .exc c=>∀H',Kp Γ H'->E (.ref (Γ.ca c)) none H'
 | .bad=>False
def sT (Γ:Fx)(E:XK)(m:SF):TS:=λN σ H=>∃env G B β,SR Γ B G H σ env β/\rH Γ E G N (m env β)
def SS (X:Cx)(Γ:Fx)(E:XK)(st:Stmt)(m:SF):Prop:=PS X st (sT Γ E m)
def Ee (X:Cx)(Γ:Fx)(E:XK)(st:List Stmt)(m:SF):Prop:=sg X st (sT Γ E m)
def sg.post {X:Cx}{st:List Stmt}{t u:TS}(h:sg X st t)(m:∀D σ H,u D σ H->t D σ H):sg X st u:=λpins s σ H D I q=>h pins s σ H D I (m D σ H q)
def aH (m m':SF):SF:=λenv β=>match m env β with
 | .nx env' β'=>m' env' β'
 |r=>r
def mj:SF:=λenv β=>.nx env β
section
variable {X:Cx}{Γ:Fx}{E:XK}{e a b c:Expr}{f fa fb:VF D}{L La Lb:List Nat}{md ma mb:Md}{pos:Pos}{st:Stmt}{sts:List Stmt}{m m':SF}{ta:VF Bool}
theorem rH.weak {G G1:Hp}{N:Ends}{r:SO}(h:rH Γ E G N r)(s:av G G1):rH Γ E G1 N r:=by
 cases r with
 |nx env β=>exact λB G' H' σ I s'=>h B G' H' σ I (s.trans s')
 |bk env β=>exact λB G' H' σ I s'=>h B G' H' σ I (s.trans s')
 |ct env β=>exact λB G' H' σ I s'=>h B G' H' σ I (s.trans s')
 |rt d fr β=>exact λB G' H' σ env v I s'=>h B G' H' σ env v I (s.trans s')
 |exc c=>exact h
 |bad=>exact h
def b8:Ee X Γ E [] mj:=sg.post zx λN σ H ⟨env,G,B,β,I,o⟩=>o B G H σ I (av.refl _)
theorem aq (h:SS X Γ E st m)(h':Ee X Γ E sts m'):Ee X Γ E (st :: sts) (aH m m'):=by
 refine sg.post (iQ h h') λN σ H ⟨env,G,B,β,I,o⟩=>?_
 refine⟨env,G,B,β,I,?_⟩
 unfold aH at o
 cases q:m env β with
 |nx env' β'=>rw[q] at o;exact λB' G' H' σ' I' s'=>⟨env',G',B',β',I',o.weak s'⟩
 |bk env' β'=>rw[q] at o;exact o
 |ct env' β'=>rw[q] at o;exact o
 |rt d fr β'=>rw[q] at o;exact o
 |exc c=>rw[q] at o;exact o
 |bad=>rw[q] at o;exact o
def aB (h:SS X Γ E st m):Ee X Γ E [st] m:=jf h
def toS {α:Type}(r:R α)(k:α->Int->SO):SO:=match r with
 | .ok x β=>k x β
 | .exc c=>.exc c
 | .bad=>.bad
theorem cx {α:Type}{G:Hp}{N:Ends}{r:R α}{k:α->Int->SO}{P:α->Int->Prop}(h:rH Γ E G N (toS r k))(i:∀x β,rH Γ E G N (k x β)->P x β):Out Γ E r P:=by
 cases r with
 |ok x β=>exact i x β h
 |exc c=>exact h
 |bad=>exact h
def SR.set' {B:Option Addr}{G H:Hp}{σ:St}{env:En}{β:Int}(I:SR Γ B G H σ env β)(i:Nat){v:V}{d:D}(h:Rp Γ.K G v d):SR Γ B G H (σ.set i (some v)) (env.set i (.fz d)) β:=by
 by_cases hi:i < env.length
 ·exact I.set hi h
 ·have h1:env.set i (.fz d)=env:=Oj (by omega)
  have h2:σ.set i (some v)=σ:=Oj (by rw[I.len];omega)
  rw[h1,h2];exact I
def SR.setOw' {B:Option Addr}{G H:Hp}{σ:St}{env:En}{β:Int}(I:SR Γ B G H σ env β)(i:Nat){a:Addr}{d:D}(h0:Γ.H0 a=none)(hg:G a=none)(hb:B≠some a)(h:Own Γ.K G H a d)(hn:∀(j:Nat) (d':D),env[j]? =some (.ow d')->σ[j]?≠some (some (.ref a))):SR Γ B G H (σ.set i (some (.ref a))) (env.set i (.ow d)) β:=by
 by_cases hi:i < env.length
 ·exact I.setOw hi h0 hg hb h λj d' e _=>hn j d' e
 ·have h1:env.set i (.ow d)=env:=Oj (by omega)
  have h2:σ.set i (some (.ref a))=σ:=Oj (by rw[I.len];omega)
  rw[h1,h2];exact I
def bc (i:Nat)(L:List Nat)(f:VF D):SF:=λenv β=>toS (f (vl env) β) λd β'=>.nx ((bg L env).set i (.fz d)) β'
def aP {i:Nat}{x:Str}{pos':Pos}(he:SE X Γ E e f L .v)(hN:X.N.Nodup)(hi:X.N[i]? =some x:=by rfl)(hx:Loc X.env.scope x:=by first |exact Or.inl rfl |exact Or.inr rfl)(hs:swapsWith e (some (.Name x pos')) pos.line X.env=pure false:=by rfl)(hf:X.fn x=true\/X.env.scope.names.lookup x=some .local:=by first |exact .inl rfl |exact .inr rfl |assumption) :
  SS X Γ E (.Assign [.Name x pos'] e pos) (bc i L f):=by
 refine PS.post (pO hN hi hx he hs hf) λN σ H ⟨env,G,B,β,I,o⟩=>?_
 refine⟨env,G,B,β,I,cx o λd β' k v G' H' I' s' m' vo=>?_⟩
 exact k B G' H' _ (I'.set' i vo) s'
def kx (i:Nat)(L:List Nat)(f:VF D):SF:=λenv β=>toS (f (vl env) β) λd β'=>.nx ((bg L env).set i (.ow d)) β'
def i4 {i:Nat}{x:Str}{pos':Pos}(he:SE X Γ E e f L .w)(hN:X.N.Nodup)(hi:X.N[i]? =some x:=by rfl)(hx:Loc X.env.scope x:=by first |exact Or.inl rfl |exact Or.inr rfl)(hs:swapsWith e (some (.Name x pos')) pos.line X.env=pure false:=by rfl)(hf:X.fn x=true\/X.env.scope.names.lookup x=some .local:=by first |exact .inl rfl |exact .inr rfl |assumption) :
  SS X Γ E (.Assign [.Name x pos'] e pos) (kx i L f):=by
 refine PS.post (pO hN hi hx he hs hf) λN σ H ⟨env,G,B,β,I,o⟩=>?_
 refine⟨env,G,B,β,I,cx o λd β' k v G' H' I' s' m' vo=>?_⟩
 obtain⟨p,rfl,h1,h2,h3⟩:=vo
 obtain⟨q1,q2,q3,q4⟩:=I.fresh h1
 exact k B G' H' _ (I'.setOw' i q1 h2 q3 h3 λj d' z=>q4 j d' (tm z)) s'
def rV (L:List Nat)(f:VF D):SF:=λenv β=>toS (f (vl env) β) λ_ β'=>.nx (bg L env) β'
def zz (he:SE X Γ E e f L md)(hs:swapsWith e none pos.line X.env=pure false:=by rfl):SS X Γ E (.Expr e pos) (rV L f):=by
 refine PS.post (pk he hs) λN σ H ⟨env,G,B,β,I,o⟩=>?_
 exact⟨env,G,B,β,I,cx o λd β' k v G' H' I' s' m' vo=>k B G' H' _ I' s'⟩
def bI (f:VF D):SF:=λenv β=>toS (f (vl env) β) λd β'=>.rt d false β'
def aS (he:SE X Γ E e f L .v):SS X Γ E (.Return (some e) pos) (bI f):=by
 refine PS.post (nV he) λN σ H ⟨env,G,B,β,I,o⟩=>?_
 exact⟨env,G,B,β,I,cx o λd β' k v G' H' I' s' m' vo=>k B G' H' σ _ v I' s' vo⟩
def kJ (f:VF D):SF:=λenv β=>toS (f (vl env) β) λd β'=>.rt d true β'
def kf (he:SE X Γ E e f L .w):SS X Γ E (.Return (some e) pos) (kJ f):=by
 refine PS.post (nV he) λN σ H ⟨env,G,B,β,I,o⟩=>?_
 refine⟨env,G,B,β,I,cx o λd β' k v G' H' I' s' m' vo=>?_⟩
 obtain⟨p,rfl,h1,h2,h3⟩:=vo
 obtain⟨q1,_⟩:=I.fresh h1
 exact k B G' H' σ _ _ I' s' ⟨p,rfl,q1,h2,h3⟩
def vG (i:Nat):SF:=λenv β=>match env[i]? with
 |some (.fz d)=>.rt d false β
 |some (.ow d)=>.rt d true β
 |_=>.bad
theorem sV (i:Nat){x:Str}{p:Pos}(hN:X.N[i]? =some x:=by rfl)(hv:wO X.env.scope x:=by first |exact Or.inl rfl |exact Or.inr (Or.inl rfl) |exact Or.inr (Or.inr rfl))(hd:(x == ("__debug__":Str))=false:=by decide)
  (hcd:(x == ("__classdict__":Str))=false:=by decide):SS X Γ E (.Return (some (.Name x p)) pos) (vG i):=by
 refine PS.post (nV (iS hN hv hd hcd)) λN σ H ⟨env,G,B,β,I,o⟩=>?_
 unfold vG at o
 cases q:env[i]? with
 |none=>rw[q] at o;exact o.elim
 |some s=>
  rw[q] at o
  cases s with
  |no=>exact o.elim
  |bx=>exact o.elim
  |br d=>exact o.elim
  |fz d=>
   obtain⟨v,h1,h2⟩:=I.slot i _ q
   exact⟨v,h1,o B G H σ env v I (av.refl _) h2⟩
  |ow d=>
   obtain⟨p,h1,h2,h3,h4,h5⟩:=I.slot i _ q
   exact⟨_,h1,o B G H σ env _ I (av.refl _) ⟨p,rfl,h2,h3,h5⟩⟩
def kA (L:List Nat)(t:VF Bool)(m m':SF):SF:=λenv β=>toS (t (vl env) β) λc β'=>if c=true then m (bg L env) β' else m' (bg L env) β'
theorem dF {x y:List Stmt}(hc:A1 X Γ E c ta L)(ha:Ee X Γ E x m)(hb:Ee X Γ E y m'):SS X Γ E (.If c x y pos) (kA L ta m m'):=by
 refine PS.post (GY hc ha hb) λN σ H ⟨env,G,B,β,I,o⟩=>?_
 refine⟨env,G,B,β,I,cx o λd β' k G' H' I' s' m'=>?_⟩
 cases d with
 |true=>exact w8 ⟨_,G',B,β',I',rH.weak k s'⟩
 |false=>exact wc ⟨_,G',B,β',I',rH.weak k s'⟩
def gV (L:List Nat)(t:VF Bool)(m:SF):Nat->SF
 | 0=>λ_ _=>.bad
 |n + 1=>λenv β=>toS (t (vl env) β) λc β'=>if c=true then (match m (bg L env) β' with
   | .nx env2 β2=>gV L t m n env2 β2
   | .ct env2 β2=>gV L t m n env2 β2
   | .bk env2 β2=>.nx env2 β2
   |r=>r) else .nx (bg L env) β'
theorem m9 {x:List Stmt}(n:Nat)(hp:PassesOwn (model X.prog X.w) X.A X.env X.xe)(hc:A1 X Γ E c ta L)(hb:Ee X Γ E x m):SS X Γ E (.While c x [] pos) (gV L ta m n):=by
 refine PS.post (Ci hp hc hb) λN σ H ⟨env,G,B,β,I,o⟩=>?_
 refine⟨λk σ H=>∃env G1 B β,SR Γ B G1 H σ env β/\av G G1/\rH Γ E G1 N (gV L ta m k env β),⟨n,env,G,B,β,I,av.refl _,o⟩,?_⟩
 rintro k σ H ⟨env,G1,B,β,I,sG,o⟩
 cases k with
 |zero=>exact o.elim
 |succ k=>
  refine⟨env,G1,B,β,I,cx o λd β' q G' H' I' s' m'=>?_⟩
  cases d with
  |false=>exact wc (q B G' H' σ I' s')
  |true=>
   refine w8 ⟨λσ H=>∃env G1 B β,SR Γ B G1 H σ env β/\av G G1/\rH Γ E G1 N (gV L ta m k env β),λσ' H' h=>⟨k,Nat.lt_succ_self k,h⟩,bg L env,G',B,β',I',?_⟩
   rw[MJ rfl] at q
   cases r:m (bg L env) β' with
   |nx env2 β2=>rw[r] at q;exact λB2 G2 H2 σ2 I2 s2=>⟨env2,G2,B2,β2,I2,(sG.trans s').trans s2,rH.weak q (s'.trans s2)⟩
   |ct env2 β2=>rw[r] at q;exact λB2 G2 H2 σ2 I2 s2=>⟨env2,G2,B2,β2,I2,(sG.trans s').trans s2,rH.weak q (s'.trans s2)⟩
   |bk env2 β2=>rw[r] at q;exact λB2 G2 H2 σ2 I2 s2=>q B2 G2 H2 σ2 I2 (s'.trans s2)
   |rt d fr β2=>rw[r] at q;exact rH.weak q s'
   |exc c=>rw[r] at q;exact q
   |bad=>rw[r] at q;exact q
def Walk (K:Frag)(B:Option Addr)(G H1:Hp)(ds:List D)(J:It):Prop:=∀Gc H (i:Nat),av G Gc->av Gc H->iX B H1 H->
 (i < ds.length->J.go i H/\∀x H',J.yld i H x H'->∃G' d,Ext Gc H G' H'/\ds[i]? =some d/\Rp K G' x d)/\(ds.length<=i->J.stop i H)
def iT (Γ:Fx)(E:XK)(f:VF (List D))(L:List Nat)(md:Md):TI:=λσ H Rr=>∃env G B β,SR Γ B G H σ env β/\
 Out Γ E (f (vl env) β) λds β'=>∀J G' H',SR Γ B G' H' σ (bg L env) β'->av G G'->iX B H H'->Walk Γ.K B G' (match md with | .b=>H' |_=>λ_=>none) ds J->Rr J H'
def SI (X:Cx)(Γ:Fx)(E:XK)(tg e:Expr)(f:VF (List D))(L:List Nat)(md:Md):Prop:=PI X tg e (iT Γ E f L md)
def PI.post {X:Cx}{tg e:Expr}{t u:TI}(h:PI X tg e t)(m:∀σ H Q,u σ H Q->t σ H Q):PI X tg e u:=λpins s σ H Q I q=>h pins s σ H Q I (m σ H Q q)
variable {tg:Expr}
def mM:D->Option (List D)
 | .list ds=>some ds
 | .tuple ds=>some ds
 |_=>none
def bQ (fa:VF D):VF (List D):=λvs β=>(fa vs β).bnd λx β1=>R.of (mM x) β1
end
def Mv (K:Frag)(tl:TE):TI:=λσ H R=>tl σ H λx H1=>∃a xs,x=.ref a/\((gG K H1 a xs/\R (Bb K a) H1)\/(fL K H1 a xs/\R (GS K a) H1))
section
variable {X:Cx}{tg l:Expr}{tl:TE}
def GQ (hl:PE X l tl):PI X tg l (Mv X.K tl):=by
 intro pins s σ H R I h
 refine b5 (hl pins s σ H _ I h) λv s1 ⟨x,H1,I1,r1,q1⟩=>?_
 obtain⟨a,xs,e,q⟩:=q1
 subst e
 cases r1
 rcases q with⟨hq,q⟩ | ⟨hq,q⟩
 ·obtain⟨its,rv,p,hz⟩:=I1.list hq
  refine OD p.isList ?_
  refine⟨s1.heap.objs.size,[s1.heap.objs.size],_,_,H1,rfl,I1.kept (t':=s1.toks) λb o e=>MH _ e,nZ a _,⟨_,MX _ rfl,rfl,rfl⟩,λb hb=>?_,q⟩
  have e:b=s1.heap.objs.size:=by simpa using hb
  subst e
  exact I1.fpOk (MK _) (I1.hok.fresh (MK _))
 ·obtain⟨its,rv,p,hz⟩:=I1.tuple hq
  refine wpAny_pyIter_tuple (show s1.heap.IsTuple a its.toArray from p) ?_
  refine⟨s1.heap.objs.size,[s1.heap.objs.size],_,_,H1,rfl,I1.kept (t':=s1.toks) λb o e=>MH _ e,pW a _,⟨_,MX _ rfl,rfl,rfl⟩,λb hb=>?_,q⟩
  have e:b=s1.heap.objs.size:=by simpa using hb
  subst e
  exact I1.fpOk (MK _) (I1.hok.fresh (MK _))
end
section
variable {X:Cx}{Γ:Fx}{E:XK}{e a b c:Expr}{f fa fb:VF D}{L La Lb:List Nat}{md ma mb:Md}{pos:Pos}{st:Stmt}{sts:List Stmt}{m m':SF}{ta:VF Bool}{tg:Expr}
def nK {K:Frag}{B:Option Addr}{G H1:Hp}{p:Addr}{xs:List V}{ds:List D}(h:∀Gc H,av G Gc->av Gc H->iX B H1 H->gG K H p xs)(r:cC K G xs ds):Walk K B G H1 ds (Bb K p):=λGc H i s1 s2 m=>by
 have hq:=h Gc H s1 s2 m
 refine⟨λhi=>⟨?_,λx H' y=>?_⟩,λhi=>⟨xs,hq,by rw[r.len];exact hi⟩⟩
 ·have hi':i < xs.length:=by rw[r.len];exact hi
  exact⟨xs,xs[i],hq,by simp[hi']⟩
 ·obtain⟨rfl,y⟩:=y
  obtain⟨d,e,q⟩:=r.at' (y xs hq)
  exact⟨Gc,d,Ext.refl s2,e,q.mono s1⟩
def vY {K:Frag}{B:Option Addr}{G H1:Hp}{p:Addr}{xs:List V}{ds:List D}(h:∀Gc H,av G Gc->av Gc H->iX B H1 H->fL K H p xs)(r:cC K G xs ds):Walk K B G H1 ds (GS K p):=λGc H i s1 s2 m=>by
 have hq:=h Gc H s1 s2 m
 refine⟨λhi=>⟨?_,λx H' y=>?_⟩,λhi=>⟨xs,hq,by rw[r.len];exact hi⟩⟩
 ·have hi':i < xs.length:=by rw[r.len];exact hi
  exact⟨xs,xs[i],hq,by simp[hi']⟩
 ·obtain⟨rfl,y⟩:=y
  obtain⟨d,e,q⟩:=r.at' (y xs hq)
  exact⟨Gc,d,Ext.refl s2,e,q.mono s1⟩
theorem Hr (hK:X.K=Γ.K)(ha:SE X Γ E a fa La .v):SI X Γ E tg a (bQ fa) La .v:=by
 refine PI.post (GQ ha) λσ H Q ⟨env,G,B,β,I,o⟩=>?_
 refine⟨env,G,B,β,I,o.bnd.imp λd1 β1 h x G1 H1 I1 s1 m1 vx=>?_⟩
 obtain⟨ds,e,k⟩:=h.of
 rw[hK]
 have vx:Rp Γ.K G1 x d1:=vx
 cases d1 with
 |list l=>
  cases e
  cases vx with
  | @lst p xs _ hq r=>exact⟨p,xs,rfl,.inl ⟨.inl (Rd.mono (.inl hq) I1.sub),k _ G1 H1 I1 s1 m1 (nK (λGc H t1 t2 _=>.inl (Rd.mono (.inl hq) (t1.trans t2))) r)⟩⟩
 |tuple l=>
  cases e
  cases vx with
  | @tup p xs _ hq r=>exact⟨p,xs,rfl,.inr ⟨hq.grow I1.sub.grow,k _ G1 H1 I1 s1 m1 (vY (λGc H t1 t2 _=>hq.grow (t1.trans t2).grow) r)⟩⟩
 |_=>cases e
theorem mU (hK:X.K=Γ.K)(ha:SE X Γ E a fa La ma):SI X Γ E tg a (bQ fa) La .b:=by
 refine PI.post (GQ ha) λσ H Q ⟨env,G,B,β,I,o⟩=>?_
 refine⟨env,G,B,β,I,o.bnd.imp λd1 β1 h x G1 H1 I1 s1 m1 vx=>?_⟩
 obtain⟨ds,e,k⟩:=h.of
 rw[hK]
 have vx:=vx.brw I.boxThere
 cases d1 with
 |list l=>
  cases e
  rcases vx with vx | ⟨p,rfl,hb,xs,q,r⟩
  ·cases vx with
   | @lst p xs _ hq r=>exact⟨p,xs,rfl,.inl ⟨.inl (Rd.mono (.inl hq) I1.sub),k _ G1 H1 I1 s1 m1 (nK (λGc H t1 t2 _=>.inl (Rd.mono (.inl hq) (t1.trans t2))) r)⟩⟩
  ·exact⟨p,xs,rfl,.inl ⟨.inl (.inl q),k _ G1 H1 I1 s1 m1 (nK (λGc H t1 t2 mv=>.inl (.inl (mv p _ q hb))) r)⟩⟩
 |tuple l=>
  cases e
  rcases vx with vx | ⟨p,rfl,hb,q⟩
  ·cases vx with
   | @tup p xs _ hq r=>exact⟨p,xs,rfl,.inr ⟨hq.grow I1.sub.grow,k _ G1 H1 I1 s1 m1 (vY (λGc H t1 t2 _=>hq.grow (t1.trans t2).grow) r)⟩⟩
  ·exact q.elim
 |_=>cases e
def cB (lo:Int)(n:Nat):List D:=(List.range n).map λ(k:Nat)=>int (lo + k)
def fY (lo:Int)(n:Nat):(cB lo n).length=n:=by unfold cB;simp
def vI {K:Frag}{B:Option Addr}{G H1:Hp}(lo:Int)(n:Nat):Walk K B G H1 (cB lo n) (Bc lo n):=λGc H i s1 s2 m=>by
 rw[fY]
 refine⟨λhi=>⟨hi,λx H' y=>?_⟩,λhi=>hi⟩
 obtain⟨rfl,rfl⟩:=y
 refine⟨Gc,.int (lo + i),Ext.refl s2,?_,.int _⟩
 unfold cB
 rw[MV,List.getElem?_range hi];rfl
def Bx (j:Int):Bool:=Nat.ble j.natAbs 1000000
def n0 {j:Int}(h:Bx j=true): -(2 ^ 62)<=j/\j < 2 ^ 62:=by
 have:=Nat.le_of_ble_eq_true h
 omega
def n6 {j:Int}(h: -1000<=j)(h2:j<=10000):Bx j=true:=Nat.ble_eq_true_of_le (by omega)
def bJ (fa:VF D):VF (List D):=λvs β=>(fa vs β).bnd λx β1=>match x with
 | .int j=>if Bx j=true then .ok (cB 0 j.toNat) β1 else .bad
 |_=>.bad
def m6 (fa fb:VF D):VF (List D):=λvs β=>(fa vs β).bnd λx β1=>(fb vs β1).bnd λy β2=>match x,y with
 | .int i,.int j=>if (Bx i && Bx j)=true then .ok (cB i (j - i).toNat) β2 else .bad
 |_,_=>.bad
theorem iM {p:Pos}(hg:Gl X "range")(hm:X.mg "range"=none)(ha:SE X Γ E a fa La ma)(hs:starEach [a] X.env= [(false,eval a X.env)]:=by rfl)(hs':starEach [a] X.env=(false,eval a X.env) :: starEach [] X.env:=by rfl):SI X Γ E tg (.Call (.Name "range" p) [a] [] pos) (bJ fa) La md:=by
 refine PI.post (lz hg hm (aU ha bO hs') hs) λσ H Q ⟨env,G,B,β,I,o⟩=>?_
 refine⟨env,G,B,β,I,o.bnd.imp λd1 β1 h x G1 H1 I1 s1 m1 vx=>?_⟩
 have vx:=vx.brw I.boxThere
 cases d1 with
 |int j=>
  obtain rfl:=vx.int
  dsimp only at h
  by_cases hj:Bx j=true
  ·rw[MJ hj] at h
   exact⟨j,rfl,(n0 hj).1,(n0 hj).2,h _ G1 H1 I1 s1 m1 (vI 0 _)⟩
  ·rw[MO hj] at h;exact h.elim
 |_=>exact h.elim
def GB {p:Pos}(hg:Gl X "range")(hm:X.mg "range"=none)(ha:SE X Γ E a fa La ma)(hb:SE X Γ E b fb Lb mb)(hs:starEach [a,b] X.env= [(false,eval a X.env),(false,eval b X.env)]:=by rfl)(hs2:starEach [b] X.env= [(false,eval b X.env)]:=by rfl)(hs':starEach [a,b] X.env=(false,eval a X.env) :: starEach [b] X.env:=by rfl)(hs3:starEach [b] X.env=(false,eval b X.env) :: starEach [] X.env:=by rfl):SI X Γ E tg (.Call (.Name "range" p) [a,b] [] pos) (m6 fa fb) (La ++ Lb) md:=by
 refine PI.post (Ay hg hm (aU ha (aU hb bO hs3) hs') hs hs2) λσ H Q ⟨env,G,B,β,I,o⟩=>?_
 refine two (W:=λx y H2=>∃i j:Int,[x,y]= [.int i,.int j]/\(-(2 ^ 62)<=i/\i < 2 ^ 62/\ -(2 ^ 62)<=j/\j < 2 ^ 62)/\Q (Bc i (j - i).toNat) H2) I (o.bnd.imp λd1 β1 h=>h.bnd.imp λd2 β2 h x y G2 H2 I2 s2 m2 bx by'=>?_)
 obtain⟨i,j,rfl,rfl⟩:∃i j,d1=.int i/\d2=.int j:=by
  cases d1 <;> cases d2 <;> first |exact h.elim |exact⟨_,_,rfl,rfl⟩
 obtain rfl:=bx.int
 obtain rfl:=by'.int
 dsimp only at h
 by_cases hj:(Bx i && Bx j)=true
 ·rw[MJ hj] at h
  rw[MS] at hj
  exact⟨i,j,rfl,⟨(n0 hj.1).1,(n0 hj.1).2,(n0 hj.2).1,(n0 hj.2).2⟩,h _ G2 H2 I2 s2 m2 (vI i _)⟩
 ·rw[MO hj] at h;exact h.elim
inductive Tg where
 |nm (i:Nat)
 |two (i j:Nat)
def pairD:D->Option (D×D)
 | .tuple [x,y]=>some (x,y)
 |_=>none
def DD {d x y:D}(h:pairD d=some (x,y)):d=.tuple [x,y]:=by
 unfold pairD at h
 split at h
 ·cases h;rfl
 ·cases h
def fO:Tg->D->En->Option En
 | .nm i,d,env=>some (env.set i (.fz d))
 | .two i j,d,env=>(pairD d).map λp=>(env.set i (.fz p.1)).set j (.fz p.2)
def lO:Tg->D->List Nv->Option (List Nv)
 | .nm i,d,vs=>some (vs.set i (.da d))
 | .two i j,d,vs=>(pairD d).map λp=>(vs.set i (.da p.1)).set j (.da p.2)
def yw (env:En)(i:Nat)(s:Sl):vl (env.set i s)=(vl env).set i s.val:=by unfold vl;rw[List.map_set]
theorem Fl (t:Tg)(d:D)(env:En):(fO t d env).map vl=lO t d (vl env):=by
 cases t with
 |nm i=>show some (vl _)=some _;rw[yw];rfl
 |two i j=>
  show ((pairD d).map _).map vl=(pairD d).map _
  cases pairD d with
  |none=>rfl
  |some p=>show some (vl _)=some _;rw[yw,yw];rfl
def gT (Γ:Fx)(t:Tg):TG:=λv σ H Q=>∃env G B β d env',SR Γ B G H σ env β/\Rp Γ.K G v d/\fO t d env=some env'/\∀σ',SR Γ B G H σ' env' β->Q σ' H
def SG (X:Cx)(Γ:Fx)(tg:Expr)(t:Tg):Prop:=PG X tg (gT Γ t)
def PG.post {X:Cx}{tg:Expr}{t u:TG}(h:PG X tg t)(m:∀v σ H Q,u v σ H Q->t v σ H Q):PG X tg u:=λpins s σ H v uu Q I r q=>h pins s σ H v uu Q I r (m v σ H Q q)
def b6 {i:Nat}{x:Str}(hN:X.N.Nodup)(hi:X.N[i]? =some x:=by rfl)(hx:Loc X.env.scope x:=by first |exact Or.inl rfl |exact Or.inr rfl)(hf:X.fn x=true\/X.env.scope.names.lookup x=some .local:=by first |exact .inl rfl |exact .inr rfl |assumption):SG X Γ (.Name x pos) (.nm i):=by
 refine PG.post (cW hN hi hx hf) λv σ H Q ⟨env,G,B,β,d,env',I,r,e,k⟩=>?_
 cases e
 exact k _ (I.set' i r)
theorem l9 {i j:Nat}{x y:Str}{px py:Pos}{n:Nat}(hN:X.N.Nodup)(hc:X.calm=true:=by rfl)(hK:X.K=Γ.K:=by rfl)(hi:X.N[i]? =some x:=by rfl)(hj:X.N[j]? =some y:=by rfl)(hx:Loc X.env.scope x:=by first |exact Or.inl rfl |exact Or.inr rfl)(hy:Loc X.env.scope y:=by first |exact Or.inl rfl |exact Or.inr rfl)
  (hf:X.fn x=true\/X.env.scope.names.lookup x=some .local:=by first |exact .inl rfl |exact .inr rfl |assumption) (hf':X.fn y=true\/X.env.scope.names.lookup y=some .local:=by first |exact .inl rfl |exact .inr rfl |assumption):SG X Γ (.Tuple [.Name x px,.Name y py] n pos) (.two i j):=by
 refine PG.post (ql (n:=2) hc (dM (cW hN hi hx hf) (dM (cW hN hj hy hf') nF))) λv σ H Q ⟨env,G,B,β,d,env',I,r,e,k⟩=>?_
 rw[hK]
 have e:(pairD d).map (λp=>(env.set i (.fz p.1)).set j (.fz p.2))=some env':=e
 cases q:pairD d with
 |none=>rw[q] at e;cases e
 |some p=>
  obtain⟨dx,dy⟩:=p
  rw[q] at e
  cases e
  obtain rfl:=DD q
  cases r with
  | @tup p xs _ hq r=>
   cases r with
   |cons r1 r=>
    cases r with
    |cons r2 r=>
     cases r
     exact⟨p,_,rfl,hq.grow I.sub.grow,rfl,_,_,rfl,_,_,rfl,rfl,k _ ((I.set' i r1).set' j r2)⟩
def uE (t:Tg)(m:SF):List D->SF
 | []=>λenv β=>.nx env β
 |d :: ds=>λenv β=>match fO t d env with
  |none=>.bad
  |some env1=>match m env1 β with
   | .nx env2 β2=>uE t m ds env2 β2
   | .ct env2 β2=>uE t m ds env2 β2
   | .bk env2 β2=>.nx env2 β2
   |r=>r
def eN (t:Tg)(L:List Nat)(fi:VF (List D))(m:SF):SF:=λenv β=>toS (fi (vl env) β) λds β'=>uE t m ds (bg L env) β'
def gX {t:Tg}{fi:VF (List D)}{x:List Stmt}(hp:PassesOwn (model X.prog X.w) X.A X.env X.xe)(hc:X.calm=true)(hi:SI X Γ E tg e fi L .v)(hg:SG X Γ tg t)(hb:Ee X Γ E x m)(hs:∀x,foldedSetIterable e X.env x=pure x:=by intro _;rfl):SS X Γ E (.For tg e x [] pos) (eN t L fi m):=by
 refine PS.post (uM hp hc hi hg hb hs) λN σ H ⟨env,G,B,β,I,o⟩=>?_
 refine⟨env,G,B,β,I,cx o λds β' q J G' H' I' s' m' w=>?_⟩
 have w:Walk Γ.K B G' (λ_=>none) ds J:=w
 refine⟨λi n σ H=>n=ds.length - i/\i<=ds.length/\∃env G1 B β,SR Γ B G1 H σ env β/\av G' G1/\rH Γ E G1 N (uE t m (ds.drop i) env β),⟨ds.length,by simp,Nm _,bg L env,G',B,β',I',av.refl _,by rw[List.drop_zero];exact rH.weak q s'⟩,?_⟩
 rintro i n σ H ⟨rfl,hi,env,G1,B1,β1,I1,s1,q⟩
 obtain⟨w1,w2⟩:=w G1 H i s1 I1.sub λb o e=>by cases e
 by_cases hlt:i < ds.length
 ·obtain⟨go,yl⟩:=w1 hlt
  refine .inr ⟨go,λσ H=>∃env G2 B β,SR Γ B G2 H σ env β/\av G' G2/\rH Γ E G2 N (uE t m (ds.drop (i + 1)) env β),λσ2 H2 h=>⟨ds.length - (i + 1),by omega,rfl,hlt,h⟩,λx H2 y=>?_⟩
  obtain⟨G2,d,x2,ed,rd⟩:=yl x H2 y
  have I2:=I1.ext x2
  have q:=rH.weak q x2.gg
  rw[List.drop_eq_getElem_cons hlt] at q
  have ed':ds[i]=d:=by rw[MG hlt] at ed;exact Option.some.inj ed
  rw[ed'] at q
  unfold uE at q
  cases eb:fO t d env with
  |none=>rw[eb] at q;exact q.elim
  |some env1=>
   rw[eb] at q
   refine⟨env,G2,B1,β1,d,env1,I2,rd,eb,λσ3 I3=>⟨env1,G2,B1,β1,I3,?_⟩⟩
   have s2:=s1.trans x2.gg
   dsimp only at q
   cases r:m env1 β1 with
   |nx env2 β2=>rw[r] at q;exact λB2 G3 H3 σ2 I2 s3=>⟨env2,G3,B2,β2,I2,s2.trans s3,rH.weak q s3⟩
   |ct env2 β2=>rw[r] at q;exact λB2 G3 H3 σ2 I2 s3=>⟨env2,G3,B2,β2,I2,s2.trans s3,rH.weak q s3⟩
   |bk env2 β2=>rw[r] at q;exact λB2 G3 H3 σ2 I2 s3=>q B2 G3 H3 σ2 I2 s3
   |rt d fr β2=>rw[r] at q;exact q
   |exc c=>rw[r] at q;exact q
   |bad=>rw[r] at q;exact q
 ·have e:i=ds.length:=by omega
  subst e
  rw[List.drop_length] at q
  exact .inl ⟨w2 (MK _),q B1 G1 H σ I1 (av.refl _)⟩
end
abbrev Fx.jt (Γ:Fx)(H0 G0:Hp)(par:List Addr)(br:Nat->Bool)(bx:Option Addr):Fx:=⟨Γ.K,H0,G0,par,Γ.ca,br,bx⟩
def fM (own:Nat)(ixs:List Nat)(vs:List Nv):List Nv:=List.replicate own .no ++ ixs.map λi=>(vs[i]?).getD .no
def Kf:Option Sl->Sl
 |some (.ow d)=>.br d
 |some s=>s
 |none=>.no
def benv (own:Nat)(ixs:List Nat)(env:En):En:=List.replicate own .no ++ ixs.map λi=>Kf env[i]?
theorem ET (o:Option Sl):(Kf o).val=(o.map Sl.val).getD .no:=by
 cases o with
 |none=>rfl
 |some s=>cases s <;> rfl
def FI (own:Nat)(ixs:List Nat)(env:En):vl (benv own ixs env)=fM own ixs (vl env):=by
 unfold vl benv fM
 rw[Nz,List.map_replicate,NQ]
 congr 1
 refine Ot λi _=>?_
 show (Kf env[i]?).val=_
 rw[ET,MV]
def yG (env:En):Prop:=∀(i:Nat) (d:D),env[i]?≠some (.ow d)
theorem qA {env:En}(h:yG env)(L:List Nat):bg L env=env:=by
 unfold bg
 induction L with
 |nil=>rfl
 |cons i L ih=>
  rw[OA]
  have:jE env i=env:=by
   unfold jE
   split
   ·rename_i d e;exact absurd e (h i d)
   ·rfl
  rw[this];exact ih
def rW (own:Nat)(ixs:List Nat)(env:En):yG (benv own ixs env):=λi d e=>by
 unfold benv at e
 have hm:=MU e
 rcases M6.mp hm with h |h
 ·have:=Pe h;cases this
 ·obtain⟨k,_,hk⟩:=MQ.mp h
  cases q:env[k]? with
  |none=>rw[q] at hk;cases hk
  |some s=>rw[q] at hk;cases s <;> cases hk
def p8 {env:En}(h:yG env)(i:Nat)(d:D):yG (env.set i (.fz d)):=λj d' e=>by
 by_cases z:i=j
 ·subst z
  by_cases hi:i < env.length
  ·rw[M7 hi] at e;cases e
  ·rw[Oj (by omega)] at e;exact h _ _ e
 ·rw[M1 z] at e;exact h _ _ e
theorem Bo {env env1:En}{t:Tg}{d:D}(h:yG env)(e:fO t d env=some env1):yG env1:=by
 cases t with
 |nm i=>cases e;exact p8 h i d
 |two i j=>
  have e:(pairD d).map _=some env1:=e
  cases q:pairD d with
  |none=>rw[q] at e;cases e
  |some p=>rw[q] at e;cases e;exact p8 (p8 h _ _) _ _
theorem AF {env env1:En}{t:Tg}{d:D}(e:fO t d env=some env1)(d':D):fO t d' env1=fO t d' env:=by
 cases t with
 |nm i=>cases e;show some _=some _;rw[set_set]
 |two i j=>
  have e:(pairD d).map _=some env1:=e
  cases q:pairD d with
  |none=>rw[q] at e;cases e
  |some p=>
   rw[q] at e;cases e
   show (pairD d').map _=(pairD d').map _
   cases pairD d' with
   |none=>rfl
   |some p'=>
    show some _=some _
    congr 1
    dsimp only
    by_cases z:i=j
    ·subst z;simp[set_set]
    ·rw[List.set_comm _ _ (Ne.symm z),set_set,set_set]
def Ext.mov {G H G' H':Hp}(x:Ext G H G' H')(B:Option Addr):iX B H H':=x.hh.mov B
section
variable {Γ:Fx}{B:Option Addr}{G H G1 H1 Gc Hc:Hp}{σ σ':St}{env envb:En}{β β':Int}{own:Nat}{ixs:List Nat}{Da:Addr}{acc:List V}
def xZ (envb:En):Nat->Bool:=λj=>match envb[j]? with
 |some (.br _)=>true
 |_=>false
def SR.block (I:SR Γ B G H σ env β)(own:Nat)(ixs:List Nat)(hD:H Da=none):SR (Γ.jt (upd H Da (.lst [])) G (Da :: B.toList) (xZ (benv own ixs env)) B) B G (upd H Da (.lst [])) (uG own ixs σ) (benv own ixs env) β:=by
 obtain⟨q1,q2,q3,q4⟩:=I.fresh hD
 have nB:∀b,B=some b->b≠Da:=λb e z=>q3 (by rw[<-z];exact e)
 refine⟨I.sub.trans (av.new hD),av.refl _,λb _ h=>h,λb o h _=>h,λb hb=>?_,λb e=>e,λb e=>?_,?_,λi s e=>?_,λi j c d d' e=>absurd e (rW own ixs env i d)⟩
 ·rcases MN.mp hb with z |z
  ·subst z;exact Mx.lst ay
  ·have z':B=some b:=by simpa using z
   exact Mx.lst (by rw[az (nB b z')];exact (I.box b z').1)
 ·obtain⟨h1,h2,_⟩:=I.box b e
  exact⟨by rw[az (nB b e)];exact h1,h2,.inl (MM _ (by simpa using e))⟩
 ·unfold uG benv;simp
 ·by_cases hi:i < own
  ·unfold benv at e
   rw[Nh (by simpa using hi),N7,MJ hi] at e
   cases e;trivial
  ·have e0:=e
   unfold benv at e
   rw[Np (by simpa using hi),Oz,MV] at e
   cases ek:ixs[i - own]? with
   |none=>rw[ek] at e;cases e
   |some k=>
    rw[ek] at e
    have e:Kf env[k]? =s:=Option.some.inj e
    have es:(uG own ixs σ)[i]? =some ((σ[k]?).join):=by
     unfold uG
     rw[Np (by simpa using hi),Oz,MV,ek];rfl
    rw[es]
    cases q:env[k]? with
    |none=>rw[q] at e;subst e;trivial
    |some t=>
     rw[q] at e
     have w:=I.slot k t q
     cases t with
     |no=>subst e;trivial
     |fz d=>subst e;obtain⟨v,h1,h2⟩:=w;exact⟨v,by rw[h1];rfl,h2⟩
     |bx=>subst e;obtain⟨a,h1,h2⟩:=w;exact⟨a,by rw[h1];rfl,h2⟩
     |ow d=>
      subst e
      obtain⟨a,h1,h2,h3,h4,h5⟩:=w
      obtain⟨o,ho⟩:=h5.obj
      have aD:a≠Da:=aL ho hD
      refine⟨by show xZ _ i=true;unfold xZ;rw[e0];rfl,a,by rw[h1];rfl,h4,?_,h5.mono (av.refl _) λo q=>by rw[az aD];exact q⟩
      intro hm
      rcases MN.mp hm with z |z
      ·exact aD z
      ·exact h4 (by simpa using z)
     |br d=>
      subst e
      obtain⟨b1,a,h1,h4,hp,h5⟩:=w
      obtain⟨o,ho⟩:=h5.obj
      have aD:a≠Da:=aL ho hD
      refine⟨by show xZ _ i=true;unfold xZ;rw[e0];rfl,a,by rw[h1];rfl,h4,?_,h5.mono (av.refl _) λo q=>by rw[az aD];exact q⟩
      intro hm
      rcases MN.mp hm with z |z
      ·exact aD z
      ·exact h4 (by simpa using z)
def SR.unblock (I:SR Γ B G H σ env β){br:Nat->Bool}(hD:H Da=none)(J:SR (Γ.jt (upd H Da (.lst [])) G (Da :: B.toList) br B) B Gc Hc σ' envb β'):SR Γ B Gc Hc σ env β'/\iX B H Hc/\Gc Da=none:=by
 obtain⟨q1,q2,q3,q4⟩:=I.fresh hD
 have up:∀{b:Addr},Mx H b->Mx (upd H Da (.lst [])) b:=λ{b} h=>h.same λo e=>by rw[az (aL e hD)];exact e
 have mv:iX B H Hc:=λb o e n=>J.keep b o (show upd H Da (.lst []) b=some o by rw[az (aL e hD)];exact e) λhm=>by
  rcases MN.mp hm with z |z
  ·rw[z,hD] at e;cases e
  ·exact n (by simpa using z)
 refine⟨⟨J.sub,I.old.trans J.old,λb h1 h2=>J.new b (up (I.thereM h1)) (I.new b h1 h2),λb o h1 h2=>mv b o (I.keep b o h1 h2) λz=>?_,λb hb=>J.thereM (up (I.pin b hb)),I.fix,λb e=>?_,I.len,λi s e=>?_,I.sep⟩,mv,J.new Da (Mx.lst (show upd H Da (.lst []) Da=some (.lst []) from ay)) q2⟩
 ·obtain⟨_,_,h3⟩:=I.box b z
  rcases h3 with h3 |h3
  ·exact h2 h3
  ·rw[h1] at h3;cases h3
 ·obtain⟨j1,j2,_⟩:=J.box b e
  exact⟨j1,j2,(I.box b e).2.2⟩
 ·have w:=I.slot i s e
  cases s with
  |no=>trivial
  |fz d=>obtain⟨v,h1,h2⟩:=w;exact⟨v,h1,h2.mono J.old⟩
  |bx=>exact w
  |ow d=>
   obtain⟨a,h1,h2,h3,h4,h5⟩:=w
   exact⟨a,h1,h2,J.new a (up h5.mx) h3,h4,h5.mono J.old λo q=>mv a o q h4⟩
  |br d=>
   obtain⟨b1,a,h1,h4,hp,h5⟩:=w
   exact⟨b1,a,h1,h4,hp,h5.mono J.old λo q=>mv a o q h4⟩
def SR.updD {ys:List V}(J:SR Γ B G H σ env β)(hp:Da∈Γ.par)(h0:Mx Γ.H0 Da)(g0:Γ.G0 Da=none)(hB:B≠some Da):SR Γ B G (upd H Da (.lst ys)) σ env β:=by
 have gD:=J.new Da h0 g0
 refine⟨λb u q=>by rw[az (λz=>by rw[z,gD] at q;cases q)];exact J.sub b u q,J.old,J.new,λb u q n=>by rw[az (λz=>n (by rw[z];exact hp))];exact J.keep b u q n,λb hb=>?_,J.fix,λb e=>?_,J.len,λi s e=>?_,J.sep⟩
 ·by_cases z:b=Da
  ·subst z;exact Mx.lst ay
  ·exact (J.pin b hb).same λo e=>by rw[az z];exact e
 ·obtain⟨h1,h2⟩:=J.box b e
  exact⟨by rw[az (λz=>hB (by rw[<-z];exact e))];exact h1,h2⟩
 ·have w:=J.slot i s e
  cases s with
  |no=>trivial
  |fz d=>exact w
  |bx=>exact w
  |ow d=>
   obtain⟨a,h1,h2,h3,h4,h5⟩:=w
   have aD:a≠Da:=λz=>h0.1 (by rw[<-z];exact h2)
   exact⟨a,h1,h2,h3,h4,h5.mono (av.refl _) λo q=>by rw[az aD];exact q⟩
  |br d=>
   obtain⟨b1,a,h1,h4,hpa,h5⟩:=w
   have aD:a≠Da:=λz=>hpa (by rw[z];exact hp)
   exact⟨b1,a,h1,h4,hpa,h5.mono (av.refl _) λo q=>by rw[az aD];exact q⟩
end
def R.okb {α γ:Type}(r:R α)(k:α->Int->R γ):R γ:=match r with
 | .ok a β=>k a β
 |_=>.bad
def fw (t:Tg)(ft:VF Bool)(fe:VF D)(vs:List Nv):List D->Int->R (List D)
 | [],β=>.ok [] β
 |d :: ds,β=>match lO t d vs with
  |none=>.bad
  |some vs1=>(ft vs1 β).okb λc β1=>if c=true then (fe vs1 β1).okb λx β2=>(fw t ft fe vs ds β2).okb λxs β3=>.ok (x :: xs) β3 else fw t ft fe vs ds β1
def aM (own:Nat)(ixs:List Nat)(t:Tg)(fi:VF (List D))(ft:VF Bool)(fe:VF D):VF D:=λvs β=>(fi vs β).bnd λds β1=>if ds.length<=sizeLine then (fw t ft fe (fM own ixs vs) ds β1).okb λxs β2=>.ok (.list xs) β2 else .bad
def kG:VF Bool:=λ_ β=>.ok true β
def GA (own:Nat)(ixs Lc:List Nat)(j:Nat):Bool:=decide (j < own) || (match ixs[j - own]? with
 |some i=>Lc.contains i
 |none=>false)
theorem EY {α γ:Type}{Γ:Fx}{E:XK}{r:R α}{k:α->Int->R γ}{P:γ->Int->Prop}(h:Out Γ E (r.okb k) P):∃a β,r=.ok a β/\Out Γ E (k a β) P:=by
 cases r with
 |ok a β=>exact⟨a,β,rfl,h⟩
 |exc c=>exact h.elim
 |bad=>exact h.elim
section
variable {X:Cx}{Γ:Fx}{E:XK}{tg iter elt:Expr}{ifs:List Expr}{scope:Scope}{NB:List Str}{own:Nat}{ixs Li Lc Lt Le:List Nat}{t:Tg}{fi:VF (List D)}{ft:VF Bool}{fe:VF D}{pos:Pos}
def c7 {X:Cx}{Γ:Fx}{E:XK}:BJ X [] (qT Γ E kG []):=λpins s σ H Q I ⟨env,G,B,β,J,o⟩=>tR pins s σ H Q I (o G H J (av.refl _) (iX.refl _ _))
def jk {X:Cx}{Γ:Fx}{E:XK}{c:Expr}{ta:VF Bool}{L:List Nat}(h:A1 X Γ E c ta L):BJ X [c] (qT Γ E ta L):=zN h
def nD {NB:List Str}{scope:Scope}{C:Addr}{ex:List Addr}{s3:Shared}{H3:Hp}{pn:List (Addr×Obj)}{P:Program}{w:World}:Passes (oS P w) (jt X NB scope C ex s3 H3 pn) E0:=λpins σ H s e s' I h=>by
 obtain⟨_,_,_,_,_,_,_,_,_,q⟩:=h
 exact q.elim
abbrev gU (Γ:Fx)(t:Tg):TG:=λv σ H Q=>∃H0 G0 par br bx,gT (Γ.jt H0 G0 par br bx) t v σ H Q
abbrev tU (Γ:Fx)(own:Nat)(ixs Lc:List Nat)(ft:VF Bool)(Lt:List Nat):TT:=λσ H Q=>∃H0 G0 par br bx,(∀j,GA own ixs Lc j=true->br j=false)/\qT (Γ.jt H0 G0 par br bx) E0 ft Lt σ H Q
abbrev eU (Γ:Fx)(own:Nat)(ixs Lc:List Nat)(fe:VF D)(Le:List Nat):TE:=λσ H Q=>∃H0 G0 par br bx,(∀j,GA own ixs Lc j=true->br j=false)/\pT (Γ.jt H0 G0 par br bx) E0 fe Le .v σ H Q
def GX {σ:St}{H:Hp}{Q:VK}(hLc:∀i,i∈Lc->Γ.br i=false)(h:pT Γ E (aM own ixs t fi ft fe) (Li ++ Lc) .w σ H Q):yC own ixs (iT Γ E fi Li .b) (gU Γ t) (tU Γ own ixs Lc ft Lt) (eU Γ own ixs Lc fe Le) σ H Q:=by
 obtain⟨env,G,B,β,I,o⟩:=h
 refine⟨env,G,B,β,I,o.bnd.imp λds β1 h J G1 H1 I1 s1 m1 wk Da hD=>?_⟩
 have wk:Walk Γ.K B G1 H1 ds J:=wk
 by_cases hz:ds.length<=sizeLine
 case neg=>rw[MO hz] at h;exact h.elim
 rw[MJ hz] at h
 obtain⟨xs0,β0,e0,h⟩:=EY h
 have h:∀v G' H',SR Γ B G' H' σ (bg (Li ++ Lc) env) β0->av G G'->iX B H H'->VO Γ.K B H G' H' .w (.list xs0) v->Q v H':=h
 obtain⟨G2,I2,s2⟩:=I1.bg Lc hLc
 rw[<-cL] at I2
 obtain⟨q1,q2,q3,q4⟩:=I2.fresh hD
 have Ib0:=I2.block own ixs hD
 generalize hbr:xZ (benv own ixs (bg (Li ++ Lc) env))=br at Ib0
 have hbo:∀j,GA own ixs Lc j=true->br j=false:=by
  intro j hj
  rw[<-hbr]
  unfold xZ
  split
  ·rename_i d e
   exfalso
   unfold benv at e
   by_cases hjo:j < own
   ·rw[Nh (by simpa using hjo),N7,MJ hjo] at e;cases e
   ·rw[Np (by simpa using hjo),Oz,MV] at e
    unfold GA at hj
    rw[MW hjo,Bool.false_or] at hj
    cases ek:ixs[j - own]? with
    |none=>rw[ek] at hj;cases hj
    |some k=>
     rw[ek] at hj e
     have hk:k∈Lc:=by simpa using hj
     have e:Kf (bg (Li ++ Lc) env)[k]? =.br d:=Option.some.inj e
     cases q:(bg (Li ++ Lc) env)[k]? with
     |none=>rw[q] at e;cases e
     |some s=>
      rw[q] at e
      cases s with
      |no=>cases e
      |fz _=>cases e
      |bx=>cases e
      |br d'=>
       obtain⟨b1,_⟩:=I2.slot k _ q
       rw[hLc k hk] at b1;cases b1
      |ow d'=>
       rw[cL] at q
       have key:∀(M:List Nat) (en:En),k∈M->∀d',(bg M en)[k]?≠some (.ow d'):=by
        intro M
        induction M with
        |nil=>intro en hm;cases hm
        |cons i M ih=>
         intro en hm d' z
         rcases MN.mp hm with y |y
         ·subst y
          have z1:(jE en k)[k]? =some (.ow d'):=tm (L:=M) z
          have z2:=yN z1
          unfold jE at z1
          rw[z2] at z1
          dsimp only at z1
          rw[M7 (M9.mp z2).1] at z1;cases z1
         ·exact ih (jE en i) y d' z
       exact key Lc _ hk d' q
  ·rfl
 have evb:vl (benv own ixs (bg (Li ++ Lc) env))=fM own ixs (vl env):=by rw[FI,gQ]
 refine⟨λi n σ' H'=>n=ds.length - i/\i<=ds.length/\∃envb Gc β' acc accd,SR (Γ.jt (upd H1 Da (.lst [])) G2 (Da :: B.toList) br B) B Gc H' σ' envb β'/\(envb=benv own ixs (bg (Li ++ Lc) env)\/∃d,fO t d (benv own ixs (bg (Li ++ Lc) env))=some envb)/\
   H' Da=some (.lst acc)/\cC Γ.K Gc acc accd/\accd.length<=i/\∃xs,fw t ft fe (fM own ixs (vl env)) (ds.drop i) β'=.ok xs β0/\accd ++ xs=xs0,
  ⟨ds.length,by simp,Nm _,_,G2,β1,[],[],Ib0,.inl rfl,ay,.nil,Nm _,xs0,by rw[List.drop_zero];exact e0,rfl⟩,?_⟩
 rintro i n σ' H' ⟨rfl,hi',envb,Gc,β',acc,accd,Ib,eb,hacc,racc,lacc,xs,ec,exs⟩
 obtain⟨Io,mv,gD⟩:=I2.unblock hD Ib
 obtain⟨w1,w2⟩:=wk Gc H' i (s2.trans Ib.old) Ib.sub mv
 by_cases hlt:i < ds.length
 ·obtain⟨go,yl⟩:=w1 hlt
  refine .inr ⟨go,λσ' H'=>∃envb Gc β' acc accd,SR (Γ.jt (upd H1 Da (.lst [])) G2 (Da :: B.toList) br B) B Gc H' σ' envb β'/\(envb=benv own ixs (bg (Li ++ Lc) env)\/∃d,fO t d (benv own ixs (bg (Li ++ Lc) env))=some envb)/\
   H' Da=some (.lst acc)/\cC Γ.K Gc acc accd/\accd.length<=i + 1/\∃xs,fw t ft fe (fM own ixs (vl env)) (ds.drop (i + 1)) β'=.ok xs β0/\accd ++ xs=xs0,λσ2 H2 hh=>⟨ds.length - (i + 1),by omega,rfl,hlt,hh⟩,λx H2 y=>?_⟩
  obtain⟨G3,d,x3,ed,rd⟩:=yl x H2 y
  have I3:=Ib.ext x3
  have ed':ds[i]=d:=by rw[MG hlt] at ed;exact Option.some.inj ed
  rw[List.drop_eq_getElem_cons hlt,ed'] at ec
  unfold fw at ec
  cases ebv:lO t d (fM own ixs (vl env)) with
  |none=>rw[ebv] at ec;cases ec
  |some vs1=>
   rw[ebv] at ec
   dsimp only at ec
   obtain⟨env1,eb1,ev1⟩:∃env1,fO t d (benv own ixs (bg (Li ++ Lc) env))=some env1/\vl env1=vs1:=by
    have:=Fl t d (benv own ixs (bg (Li ++ Lc) env))
    rw[evb,ebv] at this
    cases q:fO t d (benv own ixs (bg (Li ++ Lc) env)) with
    |none=>rw[q] at this;cases this
    |some env1=>rw[q] at this;exact⟨env1,rfl,Option.some.inj this⟩
   have eb2:fO t d envb=some env1:=by
    rcases eb with rfl | ⟨d0,eb⟩
    ·exact eb1
    ·rw[AF eb];exact eb1
   have no1:yG env1:=Bo (rW _ _ _) eb1
   have a2:H2 Da=some (.lst acc):=x3.hh _ _ hacc
   refine⟨_,_,_,_,_,envb,G3,B,β',d,env1,I3,rd,eb2,λσ3 I4=>?_⟩
   refine⟨_,_,_,_,_,hbo,env1,G3,B,β',I4,?_⟩
   rw[ev1]
   cases et:ft vs1 β' with
   |exc c=>rw[et] at ec;cases ec
   |bad=>rw[et] at ec;cases ec
   |ok c β2=>
    rw[et] at ec
    intro G4 H4 I5 s4 m4
    rw[qA no1] at I5
    have a4:H4 Da=some (.lst acc):=m4 _ _ a2 q3
    cases c with
    |false=>
     refine wc ⟨env1,G4,β2,acc,accd,I5,.inr ⟨d,eb1⟩,a4,racc.mono (x3.gg.trans s4),by omega,xs,?_,exs⟩
     exact ec
    |true=>
     refine w8 ⟨_,_,_,_,_,hbo,env1,G4,B,β2,I5,?_⟩
     rw[ev1]
     have ec:((fe vs1 β2).okb λx β3=>(fw t ft fe (fM own ixs (vl env)) (ds.drop (i + 1)) β3).okb λxs β4=>R.ok (x :: xs) β4)=R.ok xs β0:=ec
     cases ee:fe vs1 β2 with
     |exc c=>rw[ee] at ec;cases ec
     |bad=>rw[ee] at ec;cases ec
     |ok dx β3=>
      rw[ee] at ec
      intro v G5 H5 I6 s5 m5 vo
      rw[qA no1] at I6
      have a5:H5 Da=some (.lst acc):=m5 _ _ a4 q3
      have ec:((fw t ft fe (fM own ixs (vl env)) (ds.drop (i + 1)) β3).okb λxs β4=>R.ok (dx :: xs) β4)=R.ok xs β0:=ec
      cases er:fw t ft fe (fM own ixs (vl env)) (ds.drop (i + 1)) β3 with
      |exc c=>rw[er] at ec;cases ec
      |bad=>rw[er] at ec;cases ec
      |ok ys β4=>
       rw[er] at ec
       cases ec
       refine⟨acc,a5,by rw[racc.len];omega,env1,G5,β3,acc ++ [v],accd ++ [dx],?_,.inr ⟨d,eb1⟩,ay,(racc.mono ((x3.gg.trans s4).trans s5)).snoc vo,by rw[Nf];simp;omega,ys,er,by rw[<-exs,N9];rfl⟩
       refine I6.updD (MP ..) (Mx.lst (show upd H1 Da (.lst []) Da=some (.lst []) from ay)) (I2.sub.free hD) q3
 ·have e:i=ds.length:=by omega
  subst e
  rw[List.drop_length] at ec
  cases ec
  rw[Oh] at exs
  subst exs
  refine .inl ⟨w2 (MK _),⟨acc,hacc⟩,h _ Gc H' Io ((s1.trans s2).trans Ib.old) (m1.trans mv) ⟨Da,rfl,gm m1 I1.boxThere hD,gD,acc,hacc,racc⟩⟩
def bU (hg:∀H0 G0 par br bx C ex s3 H3 pn,SG (jt X NB scope C ex s3 H3 pn) (Γ.jt H0 G0 par br bx) tg t)(C:Addr)(ex:List Addr)(s3:Shared)(H3:Hp)(pn:List (Addr×Obj)):PG (jt X NB scope C ex s3 H3 pn) tg (gU Γ t):=by
 rintro pins s σ H v u Q I r ⟨H0,G0,par,br,bx,q⟩
 exact hg H0 G0 par br bx C ex s3 H3 pn pins s σ H v u Q I r q
def cw (Lc:List Nat)(hc:X.calm=true)(S:dz X NB own ixs scope)(hLc:∀i,i∈Lc->Γ.br i=false)(hi:SI X Γ E tg iter fi Li .b)
  (hg:∀H0 G0 par br bx C ex s3 H3 pn,SG (jt X NB scope C ex s3 H3 pn) (Γ.jt H0 G0 par br bx) tg t)
  (ht:∀H0 G0 par br bx C ex s3 H3 pn,(∀j,GA own ixs Lc j=true->br j=false)->BJ (jt X NB scope C ex s3 H3 pn) ifs (qT (Γ.jt H0 G0 par br bx) E0 ft Lt))
  (he:∀H0 G0 par br bx C ex s3 H3 pn,(∀j,GA own ixs Lc j=true->br j=false)->SE (jt X NB scope C ex s3 H3 pn) (Γ.jt H0 G0 par br bx) E0 elt fe Le .v)
  (hs:∀x,foldedSetIterable iter X.env x=pure x:=by intro _;rfl) :
  SE X Γ E (.ListComp elt [⟨tg,iter,ifs,0⟩] scope pos) (aM own ixs t fi ft fe) (Li ++ Lc) .w:=by
 refine PE.post' (vN (g:=gU Γ t) (tt:=tU Γ own ixs Lc ft Lt) (te:=eU Γ own ixs Lc fe Le) hc S hi (bU hg) (λC ex s3 H3 pn=>?_) (λC ex s3 H3 pn=>?_) hs) λσ H Q h=>GX hLc h
 ·rintro pins s σ H Q I ⟨H0,G0,par,br,bx,b,q⟩
  exact ht H0 G0 par br bx C ex s3 H3 pn b pins s σ H Q I q
 ·rintro pins s σ H Q I ⟨H0,G0,par,br,bx,b,q⟩
  exact he H0 G0 par br bx C ex s3 H3 pn b pins s σ H Q I q
def mP {i:Nat}{y:Str}{py spos:Pos}(Lc:List Nat)(hc:X.calm=true)(S:dz X NB own ixs scope)(hLc:∀i,i∈Lc->Γ.br i=false)(hi:SI X Γ E tg iter fi Li .b)
  (hg:∀H0 G0 par br bx C ex s3 H3 pn,SG (jt X NB scope C ex s3 H3 pn) (Γ.jt H0 G0 par br bx) tg t)
  (ht:∀H0 G0 par br bx C ex s3 H3 pn,(∀j,GA own ixs Lc j=true->br j=false)->BJ (jt X NB scope C ex s3 H3 pn) ifs (qT (Γ.jt H0 G0 par br bx) E0 ft Lt))
  (he:∀H0 G0 par br bx C ex s3 H3 pn,(∀j,GA own ixs Lc j=true->br j=false)->SE (jt X NB scope C ex s3 H3 pn) (Γ.jt H0 G0 par br bx) E0 elt fe Le .v)
  (hN:X.N.Nodup) (hy:X.N[i]? =some y:=by rfl) (hl:X.env.scope.names.lookup y=some .local:=by rfl)
  (hsw:swapsWith (.ListComp elt [⟨tg,iter,ifs,0⟩] scope pos) (some (.Name y py)) spos.line X.env=pure true:=by rfl)
  (hs:∀x,foldedSetIterable iter X.env x=pure x:=by intro _;rfl) :
  SS X Γ E (.Assign [.Name y py] (.ListComp elt [⟨tg,iter,ifs,0⟩] scope pos) spos) (bc i (Li ++ Lc) (aM own ixs t fi ft fe)):=by
 refine PS.post (Dr (g:=gU Γ t) (tt:=tU Γ own ixs Lc ft Lt) (te:=eU Γ own ixs Lc fe Le) hc S hi (bU hg) (λC ex s3 H3 pn=>?_) (λC ex s3 H3 pn=>?_) hN hy hl hsw hs) λN σ H ⟨env,G,B,β,I,o⟩=>?_
 ·rintro pins s σ H Q I ⟨H0,G0,par,br,bx,b,q⟩
  exact ht H0 G0 par br bx C ex s3 H3 pn b pins s σ H Q I q
 ·rintro pins s σ H Q I ⟨H0,G0,par,br,bx,b,q⟩
  exact he H0 G0 par br bx C ex s3 H3 pn b pins s σ H Q I q
 refine GX hLc ⟨env,G,B,β,I,cx o λd β' k v G' H' I' s' m' vo=>?_⟩
 obtain⟨G2,I2,s2,r⟩:=I.letW I' vo
 exact k B G2 H' _ (I2.set' i r) (s'.trans s2)
end
def fin:SO->FR
 | .nx _ _=>.ok .none false
 | .rt d fr _=>.ok d fr
 | .exc c=>.exc c
 |_=>.bad
def Bu (n:Nat)(ds:List D):En:=ds.map Sl.fz ++ List.replicate (n - ds.length) .no
def bq (n p:Nat)(m:SF):List D->FR:=λds=>if ds.length=p then fin (m (Bu n ds) 0) else .bad
abbrev Fx.fn (K:Frag)(H G:Hp)(ca:Str->Addr):Fx:=⟨K,H,G,[],ca,λ_=>false,none⟩
def SR.start {K:Frag}{H G:Hp}{ca:Str->Addr}{N:List Str}{vs:List V}{ds:List D}(s:av G H)(r:cC K G vs ds)(hn:ds.length<=N.length):SR (Fx.fn K H G ca) none G H (start N vs) (Bu N.length ds) 0:=by
 have hl:=r.len
 refine⟨s,av.refl _,λb _ h=>h,λb o h _=>h,λb h=>(by cases h),λb h=>(by cases h),λb h=>(by cases h),?_,λi t e=>?_,λi j a d e h=>?_⟩
 ·unfold L2.start Bu;simp;omega
 ·unfold Bu at e
  by_cases hi:i < ds.length
  ·rw[Nh (by simpa using hi),MV,MG hi] at e
   cases e
   obtain⟨x,hx,rx⟩:=r.at (MG hi)
   refine⟨x,?_,rx⟩
   unfold L2.start
   rw[Nh (by simpa[hl] using hi),MV,hx];rfl
  ·rw[Np (by simpa using hi),N7] at e
   split at e
   ·cases e;trivial
   ·cases e
 ·unfold Bu at h
  have hm:=MU h
  rcases M6.mp hm with z |z
  ·obtain⟨_,_,z⟩:=MQ.mp z;cases z
  ·have:=Pe z;cases this
section
variable {P:Program}{w:World}{K:Frag}{mg:Str->Option Value}{base:Heap}{ca:Str->Addr}
def a8 {x qual:Str}{st:Stmt}{f:Addr}{fd:FuncData}{N ps:List Str}{k:Nat}{m:SF}(F:Ef K x qual st f fd)(S:aJ N ps (aw st))
  (hbody:∀(cdv:Value) (A:Around) (outer:List Env) (s:Shared) (H G:Hp) (E:XK),fJ k (A.deeper (envOfC qual (aw st) s.heap.objs.size f cdv))->Ee (lM (oS P w) P w K mg base N qual (aw st) f cdv A outer s H E) (Fx.fn K H G ca) E (cZ st) m) :
  gB P w K mg base (oS P w) (k + 1) f fd ps (Ei K ca ps.length (bq N.length ps.length m)):=by
 have hpn:ps.length<=N.length:=by have:=congrArg List.length S.pre;rw[Nu] at this;omega
 refine F.Bx S (λvs H Q E h=>?_) (λcdv A outer s H vs Q E hr h=>?_)
 ·obtain⟨G,ds,sG,hl,r,_⟩:=h
  rw[r.len];exact hl
 ·obtain⟨G,ds,sG,hl,r,h⟩:=h
  refine⟨_,hbody cdv A outer s H G E hr,?_⟩
  have I:=SR.start (ca:=ca) (N:=N) sG r (by omega)
  refine⟨_,G,none,0,I,?_⟩
  unfold bq at h
  rw[MJ hl] at h
  have fin':∀{B G' H' σ env β},SR (Fx.fn K H G ca) B G' H' σ env β->av H H':=λJ b o e=>J.keep b o e (λz=>by cases z)
  cases q:m (Bu N.length ds) 0 with
  |nx env β=>rw[q] at h;exact λB G' H' σ J s'=>h .non G' H' (fin' J) s' J.sub (λb h1 h2=>J.new b h1 h2) Rp.non
  |bk env β=>rw[q] at h;exact h.elim
  |ct env β=>rw[q] at h;exact h.elim
  |rt d fr β=>
   rw[q] at h
   refine λB G' H' σ env v J s' rv=>h v G' H' (fin' J) s' J.sub (λb h1 h2=>J.new b h1 h2) ?_
   cases fr with
   |true=>exact rv
   |false=>exact rv
  |exc c=>rw[q] at h;exact λH' kp=>h H' λb o e=>kp b o e (λz=>by cases z)
  |bad=>rw[q] at h;exact h.elim
def FQ {n:Nat}{F F':List D->FR}(h:∀ds,ds.length=n->F' ds≠.bad->F ds=F' ds){vs:List V}{H:Hp}{Q:VK}{E:XK}(q:Ei K ca n F' vs H Q E):Ei K ca n F vs H Q E:=by
 obtain⟨G,ds,s,hl,r,q⟩:=q
 refine⟨G,ds,s,hl,r,?_⟩
 by_cases hb:F' ds=.bad
 ·rw[hb] at q;exact q.elim
 ·rw[h ds hl hb];exact q
def df.imp {x:Str}{ps:List Str}{k:Nat}{F F':List D->FR}(h:df P w K mg base ca x ps k F)(i:∀ds,F' ds≠.bad->F ds=F' ds):df P w K mg base ca x ps k F':=by
 obtain⟨f,fd,a,b,c,d⟩:=h.ex
 exact⟨⟨f,fd,a,b,c,d.imp λvs H Q E q=>FQ (λds _=>i ds) q⟩,λds hn=>h.len ds (by rw[i ds hn];exact hn)⟩
def aR {n p:Nat}{m:SF}(ds:List D)(h:bq n p m ds≠.bad):ds.length=p:=by
 unfold bq at h
 by_cases hl:ds.length=p
 ·exact hl
 ·rw[MO hl] at h;exact absurd rfl h
def CP {N:List Str}{qual:Str}{scope:Scope}{f:Addr}{cd:Value}{A:Around}{outer:List Env}{s0:Shared}{H0:Hp}{E:XK}{Γ:Fx}{x:Str}{C:Addr}{np cpos pos:Pos}{e0:Expr}{es:List Expr}{fr:VF (List D)}{L:List Nat}(q:PySem.W.excIn K C [.type "ValueError",.type "Exception",.type "BaseException",.type "object"] "ValueError.__new__"=true)(hca:Γ.ca x=C)
  (hg:Gl (lM (oS P w) P w K mg base N qual scope f cd A outer s0 H0 E) x) (hm:mg x=some (.ref C)) (ha:SA (lM (oS P w) P w K mg base N qual scope f cd A outer s0 H0 E) Γ E (e0 :: es) fr L)
  (he:starEach (e0 :: es) (envOfC qual scope s0.heap.objs.size f cd)=(false,eval e0 (envOfC qual scope s0.heap.objs.size f cd)) :: starEach es (envOfC qual scope s0.heap.objs.size f cd):=by rfl)
  (hpl:(backTo cpos (starEach es (envOfC qual scope s0.heap.objs.size f cd))).any (·.1)=false:=by rfl) (hdb:(x == ("__debug__":Str))=false:=by decide) :
  SS (lM (oS P w) P w K mg base N qual scope f cd A outer s0 H0 E) Γ E (.Raise (some (.Call (.Name x np) (e0 :: es) [] cpos)) none pos) (λenv β=>toS (fr (vl env) β) λds _=>if ds.length<=sizeLine then .exc x else .bad):=by
 refine PS.post (C3 PySem.F.excBase_ValueError (by decide +kernel) q hg hm ha he hpl hdb) λD σ H ⟨env,G,B,β,I,o⟩=>?_
 refine⟨env,G,B,β,I,cx o λds β' k vs G' H' I' s' m' r=>?_⟩
 by_cases hz:ds.length<=sizeLine
 ·rw[MJ hz] at k
  refine⟨by rw[r.len];exact hz,?_⟩
  have:=k H' (I'.kp (av.refl _))
  rw[hca] at this
  exact this
 ·rw[MO hz] at k;exact k.elim
end
section
variable {X:Cx}{Γ:Fx}{E:XK}{e a b c:Expr}{f fa fb:VF D}{L La Lb:List Nat}{md ma mb:Md}{pos apos cpos np:Pos}
def uS:Option Sl->Bool
 |some (.ow (.list _))=>true
 |_=>false
theorem o6 {o:Option Sl}(h:uS o=true):∃ds,o=some (.ow (.list ds)):=by
 cases o with
 |none=>cases h
 |some s=>
  cases s with
  |ow d=>cases d with
   |list ds=>exact⟨ds,rfl⟩
   |_=>cases h
  |_=>cases h
def HB (i:Nat)(env:En)(β:Int)(g:List D->Option (List D)):SO:=match env[i]? with
 |some (.ow (.list ds))=>(match g ds with
  |some es=>.nx (env.set i (.ow (.list es))) β
  |none=>.bad)
 |_=>.bad
def oo (i:Nat)(L:List Nat)(f:VF D):SF:=λenv β=>if uS env[i]? =true then toS (f (vl env) β) λd β'=>HB i (bg L env) β' λds=>if ds.length < sizeLine then some (ds ++ [d]) else none else .bad
def uT {Γ:Fx}{E:XK}{G:Hp}{N:Ends}{i:Nat}{env:En}{β:Int}{g:List D->Option (List D)}(h:rH Γ E G N (HB i env β g)):∃ds es,env[i]? =some (.ow (.list ds))/\g ds=some es/\rH Γ E G N (.nx (env.set i (.ow (.list es))) β):=by
 unfold HB at h
 split at h
 ·rename_i ds q
  cases e:g ds with
  |none=>rw[e] at h;exact h.elim
  |some es=>rw[e] at h;exact⟨ds,es,q,e,h⟩
 ·exact h.elim
def lD (i:Nat){x:Str}(hb:∀j,Γ.br j=false)(he:SE X Γ E e f L .v)(hN:X.N[i]? =some x:=by rfl)(hv:wO X.env.scope x:=by first |exact Or.inl rfl |exact Or.inr (Or.inl rfl) |exact Or.inr (Or.inr rfl))(hd:(x == ("__debug__":Str))=false:=by decide)
  (hcd:(x == ("__classdict__":Str))=false:=by decide)
  (hbase:attributeBase (.Name x np) "append" X.env (eval (.Name x np) X.env)=eval (.Name x np) X.env:=by rfl)
  (hfew:((backTo cpos (starEach [e] X.env)).all (λx=> !x.1) && (backToKw cpos (keywordEach [] X.env)).all (λx=>x.1.isSome)
   && decide ([e].length + ([]:List Keyword).length + (if ([]:List Keyword).isEmpty then 0 else 1) < 30))=true:=by rfl)
  (hline:(apos.endLine == cpos.line)=true:=by rfl) (hs:starEach [e] X.env=(false,eval e X.env) :: starEach [] X.env:=by rfl)
  (hsw:swapsWith (.Call (.Attribute (.Name x np) "append" apos) [e] [] cpos) none pos.line X.env=pure false:=by rfl) :
  SS X Γ E (.Expr (.Call (.Attribute (.Name x np) "append" apos) [e] [] cpos) pos) (oo i L f):=by
 refine PS.post (pk (zY OV PySem.F.slot_list_append PySem.F.type_list_append ou (iS hN hv hd hcd) (aU he bO hs) hbase hfew hline hs rfl) hsw) λN σ H ⟨env,G,B,β,I,o⟩=>?_
 unfold oo at o
 by_cases hO:uS env[i]? =true
 case neg=>rw[MO hO] at o;exact o.elim
 rw[MJ hO] at o
 obtain⟨ds0,q0⟩:=o6 hO
 obtain⟨p,h1,_,_,_,xs,h5,_⟩:=I.slot i _ q0
 refine⟨_,h1,.inl ⟨rfl,xs,.inl (.inl h5)⟩,?_⟩
 refine⟨env,G,B,β,I,cx o λd β' k v G' H' I' s' m' vo=>?_⟩
 obtain⟨ds,es,q,eg,k⟩:=uT k
 by_cases hz:ds.length < sizeLine
 case neg=>rw[MO hz] at eg;cases eg
 rw[MJ hz] at eg
 cases eg
 obtain⟨p',g1,_,_,_,ys,g5,g6⟩:=I'.slot i _ q
 rw[h1] at g1;cases g1
 refine⟨p,ys,v,rfl,rfl,g5,by rw[g6.len];exact hz,?_⟩
 exact k B G' _ σ (I'.write hb q h1 λH2 e2 s2=>⟨_,e2,g6.snoc vo⟩) s'
def Inv.lstR {pins:List (Addr×Obj)}{σ:St}{H:Hp}{s:Shared}{l:Addr}{xs:List V}(I:Inv X pins σ H s)(hH:Rd H l (.lst xs)):xs.length<=sizeLine/\∃(its:List Value) (n:Nat),Vals xs its/\xs.length=its.length/\s.heap.get? l=some {cls:=.type "list",data:=.seq its.toArray n}:=by
 obtain⟨z,its,n,r,e⟩:=hH.ok I.hok
 exact⟨z,its,n,r,r.length,e⟩
end
section
variable {K:Frag}{X:Cx}
def vS {g:Int->Int->V}{gd:D->D->Option D}(h:∀dx dy d,gd dx dy=some d->∃i j,dx=.int i/\dy=.int j/\∀G,Rp K G (g i j) d):nH K (Bk g) gd .v:=by
 intro B G H x y dx dy d Q s hB bx by' e k
 obtain⟨i,j,rfl,rfl,r⟩:=h _ _ _ e
 obtain rfl:=bx.int
 obtain rfl:=by'.int
 exact⟨i,j,rfl,rfl,k _ G H (Ext.refl s) (r G)⟩
def zf {C:Int->Int->Prop}{g:Int->Int->V}{gd:D->D->Option D}(h:∀dx dy d,gd dx dy=some d->∃i j,dx=.int i/\dy=.int j/\C i j/\∀G,Rp K G (g i j) d):nH K (rI C g) gd .v:=by
 intro B G H x y dx dy d Q s hB bx by' e k
 obtain⟨i,j,rfl,rfl,c,r⟩:=h _ _ _ e
 obtain rfl:=bx.int
 obtain rfl:=by'.int
 exact⟨i,j,rfl,rfl,c,k _ G H (Ext.refl s) (r G)⟩
def gI (c:Int->Int->Bool)(g:Int->Int->D):D->D->Option D
 | .int i,.int j=>if c i j=true then some (g i j) else none
 |_,_=>none
def x6 (g:Int->Int->D):D->D->Option D
 | .int i,.int j=>some (g i j)
 |_,_=>none
def zw {c:Int->Int->Bool}{g:Int->Int->D}{dx dy d:D}(h:gI c g dx dy=some d):∃i j,dx=.int i/\dy=.int j/\c i j=true/\d=g i j:=by
 unfold gI at h
 split at h
 ·split at h
  ·cases h;exact⟨_,_,rfl,rfl,by assumption,rfl⟩
  ·cases h
 ·cases h
def mr {g:Int->Int->D}{dx dy d:D}(h:x6 g dx dy=some d):∃i j,dx=.int i/\dy=.int j/\d=g i j:=by
 unfold x6 at h
 split at h
 ·cases h;exact⟨_,_,rfl,rfl,rfl⟩
 ·cases h
def lW:D->D->Option D:=x6 λi j=>.int (i - j)
def zF:nH K (Bk λi j=>.int (i - j)) lW .v:=vS λdx dy d h=>by obtain⟨i,j,rfl,rfl,rfl⟩:=mr h;exact⟨i,j,rfl,rfl,λ_=>.int _⟩
def Bw:D->D->Option D:=gI (λ_ j=>decide (0 < j) && decide (j < 1073741824)) λi j=>.int (i / j)
def ER:nH K (rI Gu λi j=>.int (i / j)) Bw .v:=zf λdx dy d h=>by obtain⟨i,j,rfl,rfl,c,rfl⟩:=zw h;exact⟨i,j,rfl,rfl,by simpa[Gu] using c,λ_=>.int _⟩
def mC:D->D->Option D:=gI (λ_ j=>decide (0 < j)) λi j=>.int (i % j)
def rS:nH K (rI (λ_ j=>0 < j) λi j=>.int (i % j)) mC .v:=zf λdx dy d h=>by obtain⟨i,j,rfl,rfl,c,rfl⟩:=zw h;exact⟨i,j,rfl,rfl,by simpa using c,λ_=>.int _⟩
def Hw (i j:Int):Bool:=decide (0<=j) && decide (j<=1000000) && decide (i.natAbs < 2 ^ 64)
def BV:D->D->Option D:=gI Hw λi j=>.int (i ^ j.toNat)
def EB {i j:Int}(h:Hw i j=true):ID i j:=by
 unfold Hw at h
 simp only[MS,M4] at h
 exact⟨h.1.1,h.1.2,h.2⟩
def Jy:nH K (rI ID λi j=>.int (i ^ j.toNat)) BV .v:=zf λdx dy d h=>by obtain⟨i,j,rfl,rfl,c,rfl⟩:=zw h;exact⟨i,j,rfl,rfl,EB c,λ_=>.int _⟩
def Ek:D->D->Option D:=x6 λi j=>.bool (decide (i < j))
def Cf:D->D->Option D:=x6 λi j=>.bool (decide (i<=j))
def Je:D->D->Option D:=x6 λi j=>.bool (decide (j < i))
def Gf:nH K (Bk λi j=>.bl (decide (i < j))) Ek .v:=vS λdx dy d h=>by obtain⟨i,j,rfl,rfl,rfl⟩:=mr h;exact⟨i,j,rfl,rfl,λ_=>.bl _⟩
def Hi:nH K (Bk λi j=>.bl (decide (i<=j))) Cf .v:=vS λdx dy d h=>by obtain⟨i,j,rfl,rfl,rfl⟩:=mr h;exact⟨i,j,rfl,rfl,λ_=>.bl _⟩
def LV:nH K (Bk λi j=>.bl (decide (j < i))) Je .v:=vS λdx dy d h=>by obtain⟨i,j,rfl,rfl,rfl⟩:=mr h;exact⟨i,j,rfl,rfl,λ_=>.bl _⟩
mutual
theorem yT:∀d:D,d.canLay0=true->By d=true
 | .none,_=>rfl
 | .bool _,_=>rfl
 | .int _,_=>rfl
 | .str _,_=>rfl
 | .list ds,h=>by simp only[PyData.canLay0] at h;simp only[By];exact qx ds h
 | .tuple ds,h=>by simp only[PyData.canLay0] at h;simp only[By];exact qx ds h
 | .dict _,h=>by simp[PyData.canLay0] at h
theorem qx:∀ds:List D,PyData.canLayAll0 ds=true->rl ds=true
 | [],_=>rfl
 |d :: ds,h=>by
  simp only[PyData.canLayAll0,MS] at h
  simp only[rl,MS]
  exact⟨yT d h.1,qx ds h.2⟩
end
def sY {d:D}(h:SeqAt.shaped d=true):By d=true:=yT d (Ob h)
theorem zR:∀{ds:List D},(ds.all SeqAt.shaped)=true->rl ds=true
 | [],_=>rfl
 |d :: ds,h=>by
  rw[all_cons,MS] at h
  simp only[rl,MS]
  exact⟨sY h.1,zR h.2⟩
def cO (neg:Bool)(x y:D):Option D:=if (SeqAt.shaped x && SeqAt.shaped y)=true then some (.bool (if neg then !PyData.eqv x y else PyData.eqv x y)) else none
def eZ {neg:Bool}:nH K (Hv K neg) (cO neg) .v:=by
 intro B G H x y dx dy d Q s hB bx by' e k
 unfold cO at e
 split at e
 ·rename_i h
  rw[MS] at h
  cases e
  exact⟨dx,dy,(bx.rpH s).rep (sY h.1),(by'.rpH s).rep (sY h.2),h.1,h.2,k _ G H (Ext.refl s) (.bl _)⟩
 ·cases e
def xf (neg:Bool)(x y:D):Option D:=match mM y with
 |some ds=>if (SeqAt.shaped x && ds.all SeqAt.shaped)=true then some (.bool (if neg then !(ds.any λe=>PyData.eqv e x) else ds.any λe=>PyData.eqv e x)) else none
 |none=>none
theorem kQ.seq {B:Option Addr}{G H:Hp}{v:V}{d:D}{ds:List D}(h:kQ K B G H v d)(e:mM d=some ds)(s:av G H):∃a xs,v=.ref a/\(gG K H a xs\/fL K H a xs)/\cC K G xs ds:=by
 cases d with
 |list l=>cases e;obtain⟨a,xs,e,q,r⟩:=h.list s;exact⟨a,xs,e,.inl (.inl q),r⟩
 |tuple l=>cases e;obtain⟨a,xs,e,q,r⟩:=h.tuple s;exact⟨a,xs,e,.inr q,r⟩
 |_=>cases e
theorem Ax {neg:Bool}:nH K (Il K neg) (xf neg) .v:=by
 intro B G H x y dx dy d Q s hB bx by' e k
 unfold xf at e
 cases q:mM dy with
 |none=>rw[q] at e;cases e
 |some ds=>
  rw[q] at e
  dsimp only at e
  split at e
  ·rename_i h
   rw[MS] at h
   cases e
   obtain⟨a,xs,rfl,hq,r⟩:=by'.seq q s
   refine⟨a,xs,dx,ds,rfl,hq,(r.mono s).reps (zR h.2),(bx.rpH s).rep (sY h.1),h.1,λe he=>NW.mp h.2 e he,k _ G H (Ext.refl s) (.bl _)⟩
  ·cases e
def xX:D->Bool
 | .none=>true
 |_=>false
theorem cC.ints {G:Hp}:∀ns:List Int,cC K G (ns.map V.int) (ns.map int)
 | []=>.nil
 |n :: ns=>.cons (.int n) (cC.ints ns)
theorem xi.noNone {G:Hp}{kvs:List (Key×V)}{d:D}{r:List (D×D)}(h:xi K G kvs ((.none,d) :: r)):False:=by
 generalize e:(PyData.none,d) :: r=l at h
 cases h with
 |nil=>cases e
 | @cons k x xs d' ds _ _=>
  injection e with e1 _
  injection e1 with e2 _
  cases k <;> cases e2
theorem sx.noNone {G:Hp}{kvs:List (List Key×V)}{d:D}{r:List (D×D)}(h:sx K G kvs ((.none,d) :: r)):False:=by
 generalize e:(PyData.none,d) :: r=l at h
 cases h with
 |nil=>cases e
 | @cons k x xs d' ds _ _=>
  injection e with e1 _
  injection e1 with e2 _
  cases e2
def kQ.scr {B:Option Addr}{G H:Hp}{v:V}{ds:List D}(h:kQ K B G H v (.dict [(.none,.list ds)]))(s:av G H):∃a xs,v=.ref a/\gG K H a xs/\cC K G xs ds:=by
 rcases h with h | ⟨a,rfl,n,h⟩
 ·cases h with
  | @scr a ns q=>exact⟨a,_,rfl,s.seq q,cC.ints ns⟩
  |dK _ r=>exact r.noNone.elim
  |dT _ r=>exact r.noNone.elim
 ·rcases h with⟨_,_,r⟩ | ⟨_,_,r⟩
  ·exact r.noNone.elim
  ·exact r.noNone.elim
def bN:D->D->Option D
 | .list ds,.int i=>jv ds i
 | .tuple ds,.int i=>jv ds i
 | .str z,.int i=>if z.length<=sizeLine then (jv z.cps.toList i).map λc=>.str ⟨#[c]⟩ else none
 | .dict [(.none,.list ds)],.int i=>jv ds i
 |_,_=>none
theorem uI {G:Hp}{xs:List V}{ds:List D}{i:Int}{d:D}(r:cC K G xs ds)(h:jv ds i=some d):∃x,jv xs i=some x/\Rp K G x d:=by
 unfold jv at h ⊢
 rw[r.len]
 cases e:AL ds.length i with
 |none=>rw[e] at h;cases h
 |some j=>rw[e] at h;exact r.at h
theorem b4:nH K (Mm K) bN .v:=by
 intro B G H x y dx dy d Q s hB bx by' e k
 cases dx with
 |list ds=>
  cases dy with
  |int i=>
   obtain rfl:=by'.int
   obtain⟨a,xs,rfl,q,r⟩:=bx.list s
   obtain⟨v,ev,rv⟩:=uI r e
   exact .inl ⟨a,xs,i,v,rfl,rfl,.inl q,ev,k _ G H (Ext.refl s) rv⟩
  |_=>cases e
 |tuple ds=>
  cases dy with
  |int i=>
   obtain rfl:=by'.int
   obtain⟨a,xs,rfl,q,r⟩:=bx.tuple s
   obtain⟨v,ev,rv⟩:=uI r e
   exact .inr (.inl ⟨a,xs,i,v,rfl,rfl,q,ev,k _ G H (Ext.refl s) rv⟩)
  |_=>cases e
 |str z=>
  cases dy with
  |int i=>
   obtain rfl:=by'.int
   obtain rfl:=bx.str
   simp only[bN] at e
   split at e
   ·rename_i hz
    cases q:jv z.cps.toList i with
    |none=>rw[q] at e;cases e
    |some c=>rw[q] at e;cases e;exact .inr (.inr ⟨z,i,c,rfl,rfl,hz,q,k _ G H (Ext.refl s) (.str _)⟩)
   ·cases e
  |_=>cases e
 |none=>cases dy <;> cases e
 |bool b=>cases dy <;> cases e
 |int b=>cases dy <;> cases e
 |dict b=>
  obtain⟨ds,i,rfl,rfl,e⟩:∃ds i,b= [(.none,.list ds)]/\dy=.int i/\jv ds i=some d:=by
   unfold bN at e
   split at e
   ·contradiction
   ·contradiction
   ·contradiction
   ·rename_i h;cases h;exact⟨_,_,rfl,rfl,e⟩
   ·cases e
  obtain rfl:=by'.int
  obtain⟨a,xs,rfl,q,r⟩:=bx.scr s
  obtain⟨v,ev,rv⟩:=uI r e
  exact .inl ⟨a,xs,i,v,rfl,rfl,q,ev,k _ G H (Ext.refl s) rv⟩
def dB:D->Option D
 | .list ds=>some (.int ds.length)
 | .tuple ds=>some (.int ds.length)
 | .str z=>if z.length<=sizeLine then some (.int z.length) else none
 | .dict [(.none,.list ds)]=>some (.int ds.length)
 |_=>none
def Lq (K:Frag):List V->Hp->VK->Prop:=λxs H Q=>∃x n,xs= [x]/\JC K x H n/\Q (.int n) H
def ja:AW K (λx=>Lq K [x]) dB .v:=by
 intro B G H x dx d Q s hB bx e k
 unfold dB at e
 split at e
 ·cases e;obtain⟨a,xs,rfl,q,r⟩:=bx.list s;exact⟨_,_,rfl,.inl ⟨xs,.inl q,r.len.symm⟩,k _ G H (Ext.refl s) (.int _)⟩
 ·cases e;obtain⟨a,xs,rfl,q,r⟩:=bx.tuple s;exact⟨_,_,rfl,.inr ⟨xs,q,r.len.symm⟩,k _ G H (Ext.refl s) (.int _)⟩
 ·obtain rfl:=bx.str
  split at e
  ·rename_i hz;cases e;exact⟨_,_,rfl,⟨hz,rfl⟩,k _ G H (Ext.refl s) (.int _)⟩
  ·cases e
 ·cases e;obtain⟨a,xs,rfl,q,r⟩:=bx.scr s;exact⟨_,_,rfl,.inl ⟨xs,q,r.len.symm⟩,k _ G H (Ext.refl s) (.int _)⟩
 ·cases e
def gS:D->Option D
 | .list ds=>some (.tuple ds)
 | .tuple ds=>some (.tuple ds)
 |_=>none
theorem mF:AW K (λx H Q=>∃p ys,[x]= [.ref p]/\((gG K H p ys/\∀l,H l=none->Q (.ref l) (upd H l (.tup ys)))\/(fL K H p ys/\Q (.ref p) H))) gS .v:=by
 intro B G H x dx d Q s hB bx e k
 cases dx with
 |list ds=>
  cases e
  obtain⟨a,xs,rfl,q,r⟩:=bx.list s
  refine⟨a,xs,rfl,.inl ⟨.inl q,λl hl=>?_⟩⟩
  have x:=Ext.new s (o:=.tup xs) hl
  exact k _ _ _ x (.tup (.inl (.inl ay)) (r.mono x.gg))
 |tuple ds=>
  cases e
  rcases bx with bx | ⟨_,_,_,z⟩
  ·cases bx with
   | @tup a xs _ hq r=>exact⟨a,xs,rfl,.inr ⟨hq.grow s.grow,k _ G H (Ext.refl s) (.tup hq r)⟩⟩
  ·exact z.elim
 |_=>cases e
def Gw:D->Option D
 | .list ds=>some (.list ds)
 | .tuple ds=>some (.list ds)
 |_=>none
def HQ:AW K (λx H Q=>∃p ys,[x]= [.ref p]/\(gG K H p ys\/fL K H p ys)/\∀l,H l=none->Q (.ref l) (upd H l (.lst ys))) Gw .w:=by
 intro B G H x dx d Q s hB bx e k
 obtain⟨ds,e1,rfl⟩:∃ds,mM dx=some ds/\d=.list ds:=by
  cases dx <;> cases e <;> exact⟨_,rfl,rfl⟩
 obtain⟨a,xs,rfl,hq,r⟩:=bx.seq e1 s
 refine⟨a,xs,rfl,hq,λl hl=>?_⟩
 exact k _ _ _ (Ext.own s (o:=.lst xs) hl) ⟨l,rfl,hl,s.free hl,xs,ay,r⟩
def lh:List D->Option (List Bool)
 | []=>some []
 | .bool b :: ds=>(lh ds).map (b :: ·)
 |_=>none
theorem sH {G:Hp}:∀{ds:List D} {bs:List Bool} {xs:List V},lh ds=some bs->cC K G xs ds->xs=bs.map V.bl
 | [],bs,xs,e,r=>by cases e;cases r;rfl
 | .bool b :: ds,bs,xs,e,r=>by
  cases r with
  |cons r1 r2=>
   cases r1
   simp only[lh] at e
   cases q:lh ds with
   |none=>rw[q] at e;cases e
   |some cs=>rw[q] at e;cases e;rw[sH q r2];rfl
 | .none :: _,_,_,e,_=>by cases e
 | .int _ :: _,_,_,e,_=>by cases e
 | .str _ :: _,_,_,e,_=>by cases e
 | .list _ :: _,_,_,e,_=>by cases e
 | .tuple _ :: _,_,_,e,_=>by cases e
 | .dict _ :: _,_,_,e,_=>by cases e
def dc (f:List Bool->Bool):D->Option D
 | .list ds=>(lh ds).map λbs=>.bool (f bs)
 |_=>none
theorem j7 {f:List Bool->Bool}:AW K (λx=>yf K f [x]) (dc f) .v:=by
 intro B G H x dx d Q s hB bx e k
 cases dx with
 |list ds=>
  simp only[dc] at e
  cases q:lh ds with
  |none=>rw[q] at e;cases e
  |some bs=>
   rw[q] at e
   cases e
   obtain⟨a,xs,rfl,hq,r⟩:=bx.list s
   obtain rfl:=sH q r
   exact⟨a,bs,rfl,.inl hq,k _ G H (Ext.refl s) (.bl _)⟩
 |_=>cases e
def GW:R2:=λx y H Q=>∃l b xs zs,x=.ref l/\y=.ref b/\Rd H l (.lst xs)/\Rd H b (.lst zs)/\xs.length + zs.length<=sizeLine/\∀p,H p=none->Q (.ref p) (upd H p (.lst (xs ++ zs)))
def iq:lX X (binaryOp .Add) GW:=by
 intro pins s σ H x y v u Q I rx ry h
 obtain⟨l,b,xs,zs,rfl,rfl,hH,hB,hz,q⟩:=h
 cases rx
 cases ry
 obtain⟨z,its,n,r,hl,e⟩:=I.lstR hH
 obtain⟨z2,its2,n2,r2,hl2,e2⟩:=I.lstR hB
 refine PySem.P.add_list e e2 ?_ (by rw[MY,MY];omega)
 have ea:its.toArray ++ its2.toArray=(its ++ its2).toArray:=by simp
 rw[ea]
 exact⟨.ref _,_,I.lnew (t':=s.toks) (r.append r2) (by rw[Nf];omega),rfl,q _ I.fresh⟩
def eY:D->D->Option D
 | .list a,.list b=>if a.length + b.length<=sizeLine then some (.list (a ++ b)) else none
 |_,_=>none
def mO:nH K GW eY .w:=by
 intro B G H x y dx dy d Q s hB bx by' e k
 cases dx <;> cases dy <;> first | (cases e;done) |skip
 rename_i a b
 simp only[eY] at e
 split at e
 ·rename_i hz
  cases e
  obtain⟨p,xs,rfl,q1,r1⟩:=bx.list s
  obtain⟨p2,ys,rfl,q2,r2⟩:=by'.list s
  refine⟨p,p2,xs,ys,rfl,rfl,q1,q2,by rw[r1.len,r2.len];exact hz,λl hl=>?_⟩
  exact k _ _ _ (Ext.own s (o:=.lst (xs ++ ys)) hl) ⟨l,rfl,hl,s.free hl,_,ay,r1.append r2⟩
 ·cases e
def bM:D->D->Option D:=x6 λi j=>.int (i + j)
def gk:nH K (Bk λi j=>.int (i + j)) bM .v:=vS λdx dy d h=>by obtain⟨i,j,rfl,rfl,rfl⟩:=mr h;exact⟨i,j,rfl,rfl,λ_=>.int _⟩
def cK:D->D->Option D:=gI (λi j=>(decide (-(2 ^ 64) < i) && decide (i < 2 ^ 64)) || (decide (-(2 ^ 64) < j) && decide (j < 2 ^ 64))) λi j=>.int (i * j)
def jT:nH K (rI DF λi j=>.int (i * j)) cK .v:=zf λdx dy d h=>by obtain⟨i,j,rfl,rfl,c,rfl⟩:=zw h;exact⟨i,j,rfl,rfl,by simpa[DF] using c,λ_=>.int _⟩
def xJ:D->Option D
 | .int i=>some (.int (-i))
 |_=>none
theorem vX:AW K (rU λi=>.int (-i)) xJ .v:=by
 intro B G H x dx d Q s hB bx e k
 cases dx with
 |int i=>cases e;obtain rfl:=bx.int;exact⟨i,rfl,k _ G H (Ext.refl s) (.int _)⟩
 |_=>cases e
def Kh:D->String
 | .none=>"NoneType"
 | .bool _=>"bool"
 | .int _=>"int"
 | .str _=>"str"
 | .list _=>"list"
 | .tuple _=>"tuple"
 | .dict _=>"dict"
def DG (d:D)(T:String):Bool:=Kh d == T || (T == "int" && Kh d == "bool")
def cP:D->Bool
 | .dict ((.none,_) :: _)=>true
 |_=>false
def gO (T:String)(d:D):Option D:=if cP d=true then none else some (.bool (DG d T))
def Mh (K:Frag)(H:Hp)(x:V)(t:String):Prop:=Ga K H x t\/(t="dict"/\∃a kvs,x=.ref a/\H a=some (.dT kvs))
def Jz (K:Frag):List V->Hp->VK->Prop:=λxs H Q=>∃x T t b,xs= [x,.ty T]/\Mh K H x t/\PySem.W.kitOne K (.type t) (.type T)=some b/\Q (.bl b) H
def Cg:c8 X (.builtin "isinstance") (Jz X.K):=by
 intro pins s σ H xs us Q I r h
 obtain⟨x,T,t,b,rfl,ty,e,q⟩:=h
 rcases ty with ty | ⟨rfl,a,kvs,rfl,hk⟩
 ·exact D7 pins s σ H _ us Q I r ⟨x,T,t,b,rfl,ty,e,q⟩
 ·obtain⟨u,c,rfl,rx,rc⟩:=vals2 r
  cases rc
  cases rx
  obtain⟨_,_,_,_,o,_,_,e2,ex,_⟩:=I.hok a _ hk
  exact NF PySem.W.kitx_dict I.kIn ⟨o,e2,ex.1⟩ e (λz=>nomatch z) λtk=>⟨.bl b,H,I.tok tk,rfl,q⟩
theorem kQ.ty {B:Option Addr}{G H:Hp}{v:V}{d:D}(h:kQ K B G H v d)(s:av G H)(n:cP d=false):Mh K H v (Kh d):=by
 cases d with
 |none=>obtain rfl:=h.none;exact .inl .non
 |bool b=>obtain rfl:=h.bool;exact .inl (.bl b)
 |int b=>obtain rfl:=h.int;exact .inl (.int b)
 |str b=>obtain rfl:=h.str;exact .inl (.str b)
 |list b=>obtain⟨a,xs,rfl,q,_⟩:=h.list s;exact .inl (.lst (.inl q))
 |tuple b=>obtain⟨a,xs,rfl,q,_⟩:=h.tuple s;exact .inl (.tup q)
 |dict b=>
  rcases h with h | ⟨a,rfl,_,h⟩
  ·cases h with
   |scr _=>cases n
   |dK q _=>exact .inl (.dic (s _ _ q))
   |dT q _=>exact .inr ⟨rfl,_,_,rfl,s _ _ q⟩
  ·rcases h with⟨_,q,_⟩ | ⟨_,q,_⟩
   ·exact .inl (.dic q)
   ·exact .inr ⟨rfl,_,_,rfl,q⟩
theorem Kl {d:D}{T:String}(hT:T∈ ["int","bool","str","list","tuple","dict"]):PySem.W.kitOne K (.type (Kh d)) (.type T)=some (DG d T):=by
 simp only[MN,Od,or_false] at hT
 cases d with
 |dict l=>rcases hT with rfl |rfl |rfl |rfl |rfl |rfl <;> rfl
 |none=>rcases hT with rfl |rfl |rfl |rfl |rfl |rfl <;> rfl
 |bool _=>rcases hT with rfl |rfl |rfl |rfl |rfl |rfl <;> rfl
 |int _=>rcases hT with rfl |rfl |rfl |rfl |rfl |rfl <;> rfl
 |str _=>rcases hT with rfl |rfl |rfl |rfl |rfl |rfl <;> rfl
 |list _=>rcases hT with rfl |rfl |rfl |rfl |rfl |rfl <;> rfl
 |tuple _=>rcases hT with rfl |rfl |rfl |rfl |rfl |rfl <;> rfl
def iU {a:Expr}{fa:VF D}{La:List Nat}{ma:Md}{Γ:Fx}{E:XK}{pos p p2:Pos}(T:String){y:Str}(hT:T∈ ["int","bool","str","list","tuple","dict"])(hK:X.K=Γ.K)(hg:Gl X "isinstance")(hm:X.mg "isinstance"=none)(hgT:Gl X y)(hmT:X.mg y=none)(hvT:bootBuiltins y=some (.type T))(ha:SE X Γ E a fa La ma)
  (hnT:y≠"__name__":=by decide) (hdT:(y == ("__debug__":Str))=false:=by decide)
  (he:starEach [a,.Name y p2] X.env=(false,eval a X.env) :: starEach [.Name y p2] X.env:=by rfl) (he2:starEach [.Name y p2] X.env=(false,eval (.Name y p2) X.env) :: starEach [] X.env:=by rfl) (hpl:(backTo pos (starEach [.Name y p2] X.env)).any (·.1)=false:=by rfl) :
  SE X Γ E (.Call (.Name "isinstance" p) [a,.Name y p2] [] pos) (f1 fa (gO T)) La .v:=by
 refine PE.post' (kI Cg hg hm (by decide +kernel) (aU ha (aU (Gi hgT hmT hvT (show RelV (.ty T) _ from rfl) hnT hdT) bO he2) he) (by decide) (by decide) he hpl) λσ H Q ⟨env,G,B,β,I,o⟩=>?_
 refine km (r:=λx H1 Q=>Jz X.K [x,.ty T] H1 Q) ?_ I o
 intro B G H x dx d Q s hB bx e k
 unfold gO at e
 split at e
 ·cases e
 ·rename_i hn
  cases e
  rw[hK]
  exact⟨x,T,Kh dx,DG dx T,rfl,bx.ty s (by simpa using hn),Kl hT,k _ G H (Ext.refl s) (.bl _)⟩
def jV (fa fb fc:VF D)(g g':D->D->Option D):VF D:=λvs β=>(fa vs β).bnd λx β1=>(fb vs β1).bnd λy β2=>match g x y with
 |some (.bool true)=>(fc vs β2).bnd λz β3=>R.of (g' y z) β3
 |some (.bool false)=>.ok (.bool false) β2
 |_=>.bad
theorem vR {a b c:Expr}{fa fb fc:VF D}{ma mb mc:Md}{Γ:Fx}{E:XK}{pos:Pos}{op op':CmpOp}{r r':R2}{g g':D->D->Option D}(ho:lX X (compareOp op) r)(ho':lX X (compareOp op') r')(pr:nH Γ.K r g .v)(pr':nH Γ.K r' g' .v)(ha:SE X Γ E a fa [] ma)(hb:SE X Γ E b fb [] mb)(hc:SE X Γ E c fc [] mc)
  (hm:lastMarks [op,op'] [b,c]=false:=by with_unfolding_all rfl):SE X Γ E (.Compare a [op,op'] [b,c] pos) (jV fa fb fc g g') [] .v:=by
 refine PE.post' (DK ho ho' ha hb hc hm) λσ H Q ⟨env,G,B,β,I,o⟩=>?_
 refine two (W:=λx y H2=>r x y H2 λz H3=>∃k,z=.bl k/\(if k=true then pT Γ E fc [] mc σ H3 λw' H4=>r' y w' H4 Q else Q (.bl false) H3)) I (o.bnd.imp λd1 β1 h=>h.bnd.imp λd2 β2 h x y G2 H2 I2 s2 m2 bx by'=>?_)
 obtain⟨cb,ec,h⟩:∃cb,g d1 d2=some (.bool cb)/\Out Γ E (if cb=true then (fc (vl env) β2).bnd λz β3=>R.of (g' d2 z) β3 else .ok (.bool false) β2) λd β'=>∀v G' H',SR Γ B G' H' σ (bg [] env) β'->av G G'->iX B H H'->VO Γ.K B H G' H' .v d v->Q v H':=by
  split at h
  ·rename_i q;exact⟨true,q,by rw[MJ rfl];exact h⟩
  ·rename_i q;exact⟨false,q,by rw[MO Nb];exact h⟩
  ·exact h.elim
 refine pr B G2 H2 x y d1 d2 _ _ I2.sub I2.boxThere bx by' ec λv G' H' x' vo=>?_
 cases vo
 refine⟨cb,rfl,?_⟩
 have I3:=I2.ext x'
 cases cb with
 |false=>rw[MO Nb] at h;exact wc (h _ G' H' I3 (s2.trans x'.gg) (m2.trans (x'.mov B)) (.bl false))
 |true=>
  rw[MJ rfl] at h
  refine w8 ⟨env,G',B,β2,I3,h.bnd.imp λd3 β3 h z G4 H4 I4 s4 m4 vz=>?_⟩
  obtain⟨d,e,k⟩:=h.of
  refine pr' B G4 H4 y z d2 d3 d Q I4.sub I4.boxThere (by'.mono (x'.gg.trans s4) ((x'.mov B).trans m4)) (vz.brw I3.boxThere) e λv G5 H5 x5 vo=>?_
  exact k v G5 H5 (I4.ext x5) (((s2.trans x'.gg).trans s4).trans x5.gg) (((m2.trans (x'.mov B)).trans m4).trans (x5.mov B)) vo
end
def fJ.u1 {k:Nat}{A:Around}(r:fJ k A):A.units + 100 < cLine:=by have:=r.un;omega
def Mp (N:List Str)(sc:Scope)(NB:List Str)(own:Nat)(ixs:List Nat)(scope:Scope):Bool:=
 decide (scope.kind=.function) && (scope.names.all λy=>decide (y.2≠.cell)) && (scope.names.all λy=>decide (scope.names.lookup y.1=some y.2)) &&
 (scope.names.all λy=>decide (y.2=.free->(sc.names.lookup y.1=some .cell\/sc.names.lookup y.1=some .free))) && decide NB.Nodup && decide (NB.length=own + ixs.length) &&
 ((List.range ixs.length).all λk=>decide (NB[own + k]? =N[ixs.getD k 0]?) && (match NB[own + k]? with |some x=>decide ((x,NameKind.free)∈scope.names) |none=>true))
def b7 {X:Cx}{NB:List Str}{own:Nat}{ixs:List Nat}{scope:Scope}(h:Mp X.N X.env.scope NB own ixs scope=true):dz X NB own ixs scope:=by
 unfold Mp at h
 simp only[MS,NW,M4,M5] at h
 obtain⟨⟨⟨⟨⟨⟨h1,h2⟩,h3⟩,h4⟩,h5⟩,h6⟩,h7⟩:=h
 refine⟨h1,h2,h3,h4,h5,h6,λk hk=>⟨(h7 k hk).1,λx hx=>?_⟩⟩
 have:=(h7 k hk).2
 rw[hx] at this
 simpa using this
section
variable {X:Cx}{Γ:Fx}{E:XK}{e a b c:Expr}{f fa fb fc:VF D}{L La Lb:List Nat}{md ma mb mc:Md}{pos:Pos}{K:Frag}
theorem IJ {B:Option Addr}{G H:Hp}{x:V}{dx:D}(bx:kQ K B G H x dx)(s:av G H):decide (x=.non)=xX dx:=by
 cases dx with
 |none=>obtain rfl:=bx.none;rfl
 |bool b=>obtain rfl:=bx.bool;rfl
 |int b=>obtain rfl:=bx.int;rfl
 |str b=>obtain rfl:=bx.str;rfl
 |list b=>obtain⟨a,xs,rfl,_⟩:=bx.list s;rfl
 |tuple b=>obtain⟨a,xs,rfl,_⟩:=bx.tuple s;rfl
 |dict b=>
  rcases bx with bx | ⟨a,rfl,_⟩
  ·cases bx <;> rfl
  ·rfl
def tN (fa:VF D)(neg:Bool):VF Bool:=λvs β=>(fa vs β).bnd λx β1=>.ok (if neg then !xX x else xX x) β1
def Gm {j pos'}(ha:SE X Γ E a fa La ma):A1 X Γ E (.Compare a [.IsNot] [.Constant .none j pos'] pos) (tN fa true) La:=by
 refine PT.post (IK (FY ha)) λσ H Q ⟨env,G,B,β,I,o⟩=>?_
 refine⟨env,G,B,β,I,o.bnd.imp λd1 β1 h x G1 H1 I1 s1 m1 vx=>?_⟩
 refine⟨!xX d1,?_,h G1 H1 I1 s1 m1⟩
 rw[IJ (vx.brw I.boxThere) I1.sub]
def oT (Γ:Fx)(E:XK)(f:VF (Option Int))(L:List Nat):TO:=λσ H Q=>∃env G B β,SR Γ B G H σ env β/\
 Out Γ E (f (vl env) β) λd β'=>∀G' H',SR Γ B G' H' σ (bg L env) β'->av G G'->iX B H H'->Q d H'
def KL (X:Cx)(Γ:Fx)(E:XK)(e:Option Expr)(f:VF (Option Int))(L:List Nat):Prop:=PO X e (oT Γ E f L)
def ny:KL X Γ E none (λ_ β=>.ok none β) []:=λpins s σ H Q I ⟨env,G,B,β,J,o⟩=>FW pins s σ H Q I (o G H J (av.refl _) (iX.refl _ _))
def Ai (fa:VF D):VF (Option Int):=λvs β=>(fa vs β).bnd λx β1=>match x with
 | .int i=>.ok (some i) β1
 |_=>.bad
theorem nj (ha:SE X Γ E a fa La ma):KL X Γ E (some a) (Ai fa) La:=λpins s σ H Q I ⟨env,G,B,β,J,o⟩=>by
 refine uF ha pins s σ H Q I ⟨env,G,B,β,J,o.bnd.imp λd1 β1 h x G1 H1 I1 s1 m1 vx=>?_⟩
 cases d1 with
 |int i=>exact⟨i,(vx.brw J.boxThere).int,h G1 H1 I1 s1 m1⟩
 |_=>exact h.elim
def cutD (xs:List D)(lo hi:Option Int):List D:=(xs.drop (HT.sN xs.length 0 lo)).take (HT.sN xs.length xs.length hi - HT.sN xs.length 0 lo)
def Fy {G:Hp}{xs:List V}{ds:List D}(r:cC K G xs ds)(lo hi:Option Int):cC K G (yu xs lo hi) (cutD ds lo hi):=by
 unfold yu cutD
 rw[r.len]
 exact (r.drop _).take _
def AU (fa:VF D)(fl fh:VF (Option Int)):VF D:=λvs β=>(fa vs β).bnd λx β1=>(fl vs β1).bnd λl β2=>(fh vs β2).bnd λh β3=>match x with
 | .list ds=>.ok (.list (cutD ds l h)) β3
 |_=>.bad
theorem kM {lo hi:Option Expr}{fl fh:VF (Option Int)}{Ll Lh:List Nat}{p2:Pos}(hK:X.K=Γ.K)(ha:SE X Γ E a fa La ma)(hl:KL X Γ E lo fl Ll)(hh:KL X Γ E hi fh Lh):SE X Γ E (.Subscript a (.Slice lo hi none p2) pos) (AU fa fl fh) (La ++ Ll ++ Lh) .w:=by
 refine PE.post' (CN Gk ha hl hh) λσ H Q ⟨env,G,B,β,I,o⟩=>?_
 refine⟨env,G,B,β,I,o.bnd.imp λd1 β1 h x G1 H1 I1 s1 m1 vx=>⟨bg La env,G1,B,β1,I1,?_⟩⟩
 rw[gQ]
 refine h.bnd.imp λl β2 h G2 H2 I2 s2 m2=>⟨bg Ll (bg La env),G2,B,β2,I2,?_⟩
 rw[gQ,gQ]
 refine h.bnd.imp λu β3 h G3 H3 I3 s3 m3=>?_
 rw[<-cL,<-cL,<-N9] at I3
 have bx:=((vx.brw I.boxThere).mono s2 m2).mono s3 m3
 cases d1 with
 |list ds=>
  obtain⟨p,xs,rfl,hq,r⟩:=bx.list I3.sub
  rw[hK]
  refine⟨p,xs,rfl,.inl hq,λq hn=>?_⟩
  have x:=Ext.own I3.sub (o:=.lst (yu xs l u)) hn
  exact h _ _ _ (I3.ext x) ((s1.trans s2).trans s3) (((m1.trans m2).trans m3).trans (x.mov B)) ⟨q,rfl,gm ((m1.trans m2).trans m3) I3.boxThere hn,I3.sub.free hn,_,ay,Fy r l u⟩
 |_=>exact h.elim
def Ja:nH K (λx y H Q=>∃i j,[x,y]= [.int i,.int j]/\Q (.int (if j > i then j else i)) H) (x6 λi j=>.int (if j > i then j else i)) .v:=by
 intro B G H x y dx dy d Q s hB bx by' e k
 obtain⟨i,j,rfl,rfl,rfl⟩:=mr e
 obtain rfl:=bx.int
 obtain rfl:=by'.int
 exact⟨i,j,rfl,k _ G H (Ext.refl s) (.int _)⟩
def Iz:nH K (λx y H Q=>∃i j,[x,y]= [.int i,.int j]/\Q (.int (if j < i then j else i)) H) (x6 λi j=>.int (if j < i then j else i)) .v:=by
 intro B G H x y dx dy d Q s hB bx by' e k
 obtain⟨i,j,rfl,rfl,rfl⟩:=mr e
 obtain rfl:=bx.int
 obtain rfl:=by'.int
 exact⟨i,j,rfl,k _ G H (Ext.refl s) (.int _)⟩
end
structure jw (K:Frag)(mg:Str->Option Value)(x:Str)(st:Stmt)(ps:List Str)(f:Addr)(fd:FuncData):Prop where
 mg:mg x=some (.ref f)
 F:Ef K x x st f fd
 b:Binds K fd ps []
structure Exc (K:Frag)(mg:Str->Option Value)(ca:Str->Addr)(x:Str):Prop where
 mg:mg x=some (.ref (ca x))
 ex:PySem.W.excIn K (ca x) [.type "ValueError",.type "Exception",.type "BaseException",.type "object"] "ValueError.__new__"=true
def Exc.ca {K:Frag}{mg:Str->Option Value}{ca:Str->Addr}{x:Str}(h:Exc K mg ca x):ca x=ca x:=rfl
structure jy (mg:Str->Option Value):Prop where
 len:mg "len"=none
 range:mg "range"=none
 enumerate:mg "enumerate"=none
 zip:mg "zip"=none
 min:mg "min"=none
 max:mg "max"=none
 sum:mg "sum"=none
 abs:mg "abs"=none
 sorted:mg "sorted"=none
 reversed:mg "reversed"=none
 int:mg "int"=none
 str:mg "str"=none
 bool:mg "bool"=none
 list:mg "list"=none
 tuple:mg "tuple"=none
 dict:mg "dict"=none
 set:mg "set"=none
 isinstance:mg "isinstance"=none
 repr:mg "repr"=none
 any:mg "any"=none
 all:mg "all"=none
 divmod:mg "divmod"=none
inductive FB where
 |ok (d:D) (fresh:Bool) (β:Int)
 |bad
def Kn (K:Frag)(n:Nat)(F:List D->Int->FB):Sp:=λvs H Q _=>∃b rest G ds β,vs=.ref b :: rest/\H b=some (.lst [.int β])/\G b=none/\av G H/\ds.length=n/\cC K G rest ds/\match F ds β with
 | .ok d fr β'=>∀v G' H',iX (some b) H H'->H' b=some (.lst [.int β'])->av G G'->av G' H'->(∀c,Mx H c->G c=none->G' c=none)->FV K H G' H' fr d v->Q v H'
 | .bad=>False
structure gW (P:Program)(w:World)(K:Frag)(mg:Str->Option Value)(base:Heap)(x:Str)(ps:List Str)(k:Nat)(F:List D->Int->FB):Prop where
 ex:∃f fd,mg x=some (.ref f)/\PySem.W.keepIn K (.ref f)=true/\Binds K fd ps []/\gB P w K mg base (oS P w) k f fd ps (Kn K (ps.length - 1) F)
 len:∀ds β,F ds β≠.bad->ds.length=ps.length - 1
def xR (vs:List Nv)(i:Nat):Bool:=match vs[i]? with
 |some .bx=>true
 |_=>false
def fU (i:Nat)(F:List D->Int->FB)(fr:VF (List D)):VF D:=λvs β=>if xR vs i=true then (fr vs β).bnd λds β1=>match F ds β1 with
 | .ok d _ β2=>.ok d β2
 | .bad=>.bad else .bad
def LY (i:Nat)(F:List D->Int->FB)(fr:VF (List D)):VF D:=λvs β=>if xR vs i=true then (fr vs β).bnd λds β1=>match F ds β1 with
 | .ok d true β2=>.ok d β2
 |_=>.bad else .bad
section
variable {X:Cx}{Γ:Fx}{E:XK}{e a b c:Expr}{f fa fb fc:VF D}{L La Lb:List Nat}{md ma mb mc:Md}{pos:Pos}{K:Frag}{es:List Expr}{fr:VF (List D)}
def Eo {env:En}{i:Nat}(h:xR (vl env) i=true):env[i]? =some .bx:=by
 unfold xR at h
 split at h
 ·exact JL (by assumption)
 ·cases h
def Ey {env:En}{i j:Nat}{d:D}(h:(jE env i)[j]? =some (.br d)):env[j]? =some (.br d):=by
 unfold jE at h
 split at h
 ·rename_i d' e
  by_cases z:i=j
  ·subst z
   rw[M7 (M9.mp e).1] at h;cases h
  ·rw[M1 z] at h;exact h
 ·exact h
theorem HF {L:List Nat}{env:En}{j:Nat}{d:D}(h:(bg L env)[j]? =some (.br d)):env[j]? =some (.br d):=by
 unfold bg at h
 induction L generalizing env with
 |nil=>exact h
 |cons i L ih=>exact Ey (ih h)
def SR.calledB {p:Addr}{β β':Int}{G1 H1 G2 H2:Hp}{σ:St}{env:En}(I1:SR Γ (some p) G1 H1 σ env β)(h:iX (some p) H1 H2)(hp:H2 p=some (.lst [.int β']))(g:av G1 G2)(s:av G2 H2)(n:∀b,Mx H1 b->G1 b=none->G2 b=none):SR Γ (some p) G2 H2 σ env β':=by
 obtain⟨b1,b2,b3⟩:=I1.box p rfl
 refine⟨s,I1.old.trans g,λb n1 n2=>n b (I1.thereM n1) (I1.new b n1 n2),λb o e np=>h b o (I1.keep b o e np) λz=>?_,λb hb=>?_,I1.fix,λb e=>?_,I1.len,λi t e=>?_,I1.sep⟩
 ·cases z
  rcases b3 with b3 |b3
  ·exact np b3
  ·rw[e] at b3;cases b3
 ·by_cases z:p=b
  ·subst z;exact Mx.lst hp
  ·exact (I1.pin b hb).same λo q=>h b o q λy=>z (Option.some.inj y)
 ·cases e
  exact⟨hp,n p (Mx.lst b1) b2,b3⟩
 ·have q:=I1.slot i t e
  cases t with
  |no=>trivial
  |fz d=>obtain⟨v,h1,h2⟩:=q;exact⟨v,h1,h2.mono g⟩
  |ow d=>
   obtain⟨c,h1,h2,h3,h4,h5⟩:=q
   exact⟨c,h1,h2,n c h5.mx h3,h4,h5.mono g λo q=>h c o q h4⟩
  |bx=>exact q
  |br d=>obtain⟨b1,c,h1,h4,hpp,h5⟩:=q;exact⟨b1,c,h1,h4,hpp,h5.mono g λo q=>h c o q h4⟩
theorem EF {F:List D->Int->FB}{ps:List Str}{Q:VK}{B:Option Addr}{G H:Hp}{σ:St}{env:En}{β:Int}{i:Nat}{p:Addr}(I:SR Γ B G H σ env β)(hK:X.K=Γ.K)(hp:B=some p){wv:Bool}
  (h:Out Γ E (fr (vl env) β) λds β1=>Out Γ E (match F ds β1 with
   | .ok d true β2=>.ok d β2
   | .ok d false β2=>if wv=true then .bad else .ok d β2
   | .bad=>.bad) λd β'=>∀v G' H',SR Γ B G' H' σ (bg L env) β'->av G G'->iX B H H'->VO Γ.K B H G' H' (if wv=true then .w else .v) d v->Q v H') (hl:∀ds β,F ds β≠.bad->ds.length=ps.length - 1) :
  aT Γ E fr L σ H λvs H1=>Kn X.K (ps.length - 1) F (.ref p :: vs) H1 Q E:=by
 subst hp
 refine⟨env,G,_,β,I,h.imp λds β1 k vs G1 H1 I1 s1 m1 r=>?_⟩
 obtain⟨b1,b2,b3⟩:=I1.box p rfl
 refine⟨p,vs,G1,ds,β1,rfl,b1,b2,I1.sub,hl ds β1 λz=>by rw[z] at k;exact k,by rw[hK];exact r,?_⟩
 cases q:F ds β1 with
 |bad=>rw[q] at k;exact k
 |ok d fr' β2=>
  rw[q] at k
  intro v G' H' hh hb hg hs hn fv
  have I2:=I1.calledB hh hb hg hs hn
  cases fr' with
  |true=>
   obtain⟨c,rfl,p1,p2,p3⟩:∃a,v=.ref a/\H1 a=none/\G' a=none/\Own X.K G' H' a d:=fv
   rw[hK] at p3
   have hp:=gm m1 I1.boxThere p1
   cases wv with
   |true=>exact k _ G' H' I2 (s1.trans hg) (m1.trans hh) ⟨c,rfl,hp,p2,p3⟩
   |false=>
    obtain⟨q1,q2,q3,q4⟩:=I1.fresh p1
    obtain⟨G3,I3,s3,r3⟩:=I2.letIn q1 p2 q3 q4 p3
    exact k _ G3 H' I3 ((s1.trans hg).trans s3) (m1.trans hh) r3
  |false=>
   cases wv with
   |true=>exact k.elim
   |false=>
    have fv:Rp X.K G' v d:=fv
    rw[hK] at fv
    exact k _ G' H' I2 (s1.trans hg) (m1.trans hh) fv
theorem HR {F:List D->Int->FB}{ps:List Str}{Q:VK}{i:Nat}{σ:St}{H:Hp}(hK:X.K=Γ.K){wv:Bool}(hl:∀ds β,F ds β≠.bad->ds.length=ps.length - 1)(h:pT Γ E (if wv=true then LY i F fr else fU i F fr) L (if wv=true then .w else .v) σ H Q) :
  EJ i σ H λx H1=>aT Γ E fr L σ H1 λvs H2=>Kn X.K (ps.length - 1) F (x :: vs) H2 Q E:=by
 obtain⟨env,G,B,β,I,o⟩:=h
 have hi:xR (vl env) i=true:=by
  by_cases hi:xR (vl env) i=true
  ·exact hi
  ·exfalso
   cases wv with
   |true=>simp only[NN] at o;unfold LY at o;rw[MO hi] at o;exact o
   |false=>simp only[MZ,Nx] at o;unfold fU at o;rw[MO hi] at o;exact o
 obtain⟨p,e1,e2⟩:=I.slot i _ (Eo hi)
 refine⟨.ref p,e1,EF (i:=i) (ps:=ps) I hK e2 (wv:=wv) ?_ hl⟩
 cases wv with
 |true=>
  simp only[NN] at o ⊢
  unfold LY at o
  rw[MJ hi] at o
  refine o.bnd.imp λds β1 h=>?_
  cases q:F ds β1 with
  |bad=>rw[q] at h;exact h
  |ok d b β2=>rw[q] at h;cases b <;> exact h
 |false=>
  simp only[MZ,Nx] at o ⊢
  unfold fU at o
  rw[MJ hi] at o
  refine o.bnd.imp λds β1 h=>?_
  cases q:F ds β1 with
  |bad=>rw[q] at h;exact h
  |ok d b β2=>rw[q] at h;cases b <;> exact h
def c9 {x y:Str}{ps:List Str}{k:Nat}{F:List D->Int->FB}{p np:Pos}(i:Nat)(hf:gW X.prog X.w X.K X.mg X.base x ps k F)(hr:fJ k X.A)(hx:Passes (oS X.prog X.w) X E)(hK:X.K=Γ.K)(hg:Gl X x)(ha:SA X Γ E es fr L)(hN:X.N[i]? =some y:=by rfl)(hv:wO X.env.scope y:=by first |exact Or.inl rfl |exact Or.inr (Or.inl rfl) |exact Or.inr (Or.inr rfl))(hd:(y == ("__debug__":Str))=false:=by decide)
  (hcd:(y == ("__classdict__":Str))=false:=by decide) (hdb:(x == ("__debug__":Str))=false:=by decide)
  (he:starEach (.Name y np :: es) X.env=(false,eval (.Name y np) X.env) :: starEach es X.env:=by rfl) (hpl:(backTo pos (starEach es X.env)).any (·.1)=false:=by rfl):SE X Γ E (.Call (.Name x p) (.Name y np :: es) [] pos) (fU i F fr) L .v:=by
 obtain⟨f,fd,hm,hk,hb,hF⟩:=hf.ex
 refine PE.post' (pB (dvs:=[]) hF hr hg hm hk hb .nil hx (aU (iS hN hv hd hcd) ha he) hdb he hpl) λσ H Q h=>?_
 have:=HR (Q:=Q) (wv:=false) (ps:=ps) hK hf.len (by simpa using h)
 show EJ i σ H λx H1=>aT Γ E fr L σ H1 λvs H2=>Kn X.K (ps.length - 1) F ((x :: vs) ++ []) H2 Q E
 simpa using this
def DO:D->Option Int
 | .list [.int z]=>some z
 |_=>none
def Ep {d:D}{z:Int}(h:DO d=some z):d=.list [.int z]:=by
 unfold DO at h
 split at h
 ·cases h;rfl
 ·cases h
def ME (f0:VF D)(F:List D->Int->FB)(n:Int):VF D:=λvs β=>(f0 vs β).bnd λd0 β1=>match DO d0 with
 |some z=>(match F [.int n] z with
  | .ok d _ _=>.ok d β1
  | .bad=>.bad)
 |none=>.bad
def rF (env:En):En:=env.map λs=>match s with
 | .bx=>.no
 |s=>s
theorem DW {env:En}{i:Nat}{s:Sl}(h:(rF env)[i]? =some s)(n:s≠.no):env[i]? =some s/\s≠.bx:=by
 unfold rF at h
 rw[MV] at h
 cases e:env[i]? with
 |none=>rw[e] at h;cases h
 |some t=>
  rw[e] at h
  have h:=Option.some.inj h
  cases t with
  |bx=>exact absurd h.symm n
  |no=>exact absurd h.symm n
  |fz d=>subst h;exact⟨rfl,λz=>by cases z⟩
  |ow d=>subst h;exact⟨rfl,λz=>by cases z⟩
  |br d=>subst h;exact⟨rfl,λz=>by cases z⟩
def zD (i:Nat)(L:List Nat)(f:VF D):SF:=λenv β=>toS (f (vl env) β) λd _=>match DO d with
 |some z=>.nx ((rF (bg L env)).set i .bx) z
 |none=>.bad
theorem FZ {i:Nat}{x:Str}{pos':Pos}(hbx:Γ.bx=none)(he:SE X Γ E e f L .w)(hN:X.N.Nodup)(hi:X.N[i]? =some x:=by rfl)(hx:Loc X.env.scope x:=by first |exact Or.inl rfl |exact Or.inr rfl)(hs:swapsWith e (some (.Name x pos')) pos.line X.env=pure false:=by rfl)(hf:X.fn x=true\/X.env.scope.names.lookup x=some .local:=by first |exact .inl rfl |exact .inr rfl |assumption) :
  SS X Γ E (.Assign [.Name x pos'] e pos) (zD i L f):=by
 refine PS.post (pO hN hi hx he hs hf) λN σ H ⟨env,G,B,β,I,o⟩=>?_
 refine⟨env,G,B,β,I,cx o λd β' k v G' H' I' s' m' vo=>?_⟩
 cases q:DO d with
 |none=>rw[q] at k;exact k.elim
 |some z=>
  rw[q] at k
  obtain rfl:=Ep q
  obtain⟨p,rfl,h1,h2,xs,h3,r⟩:=vo
  have hx2:H' p=some (.lst [.int z]):=by
   cases r with
   |cons r1 r2=>
    cases r1
    cases r2
    exact h3
  obtain⟨q1,q2,q3,q4⟩:=I.fresh h1
  refine k (some p) G' H' _ ⟨I'.sub,I'.old,I'.new,I'.keep,I'.pin,λb e=>(by rw[hbx] at e;cases e),λb e=>?_,?_,λj t e=>?_,λj j' c d1 d2 e1 e2 e3 e4=>?_⟩ s'
  ·cases e;exact⟨hx2,h2,.inr q1⟩
  ·rw[NY,NY];unfold rF;rw[ML];exact I'.len
  ·by_cases hj:j=i
   ·subst hj
    by_cases hl:j < (rF (bg L env)).length
    ·rw[M7 hl] at e
     cases e
     refine⟨p,?_,rfl⟩
     rw[M7]
     rw[I'.len];unfold rF at hl;simpa using hl
    ·rw[OB (by rw[NY];omega)] at e;cases e
   ·rw[M1 (Ne.symm hj)] at e ⊢
    by_cases hn:t=.no
    ·subst hn;trivial
    ·obtain⟨e1,nb⟩:=DW e hn
     have w:=I'.slot j t e1
     cases t with
     |no=>trivial
     |fz d=>exact w
     |bx=>exact absurd rfl nb
     |ow d=>
      obtain⟨a',g1,g2,g3,g4,g5⟩:=w
      exact⟨a',g1,g2,g3,λy=>q4 j d (tm e1) (by cases y;exact g1),g5⟩
     |br d=>
      obtain⟨b1,a',g1,g4,hpp,g5⟩:=w
      have e0:env[j]? =some (.br d):=HF e1
      obtain⟨_,a2,f1,_,_,f5⟩:=I.slot j _ e0
      rw[g1] at f1;cases f1
      obtain⟨o,ho⟩:=f5.obj
      exact⟨b1,a',g1,λy=>(by cases y;rw[h1] at ho;cases ho),hpp,g5⟩
  ·have back:∀{j:Nat} {d1:D},((rF (bg L env)).set i Sl.bx)[j]? =some (.ow d1)->j≠i/\(bg L env)[j]? =some (.ow d1):=λ{j d1} e=>by
    by_cases hj:j=i
    ·subst hj
     by_cases hl:j < (rF (bg L env)).length
     ·rw[M7 hl] at e;cases e
     ·rw[OB (by rw[NY];omega)] at e;cases e
    ·rw[M1 (Ne.symm hj)] at e
     exact⟨hj,(DW e (λy=>by cases y)).1⟩
   obtain⟨n1,w1⟩:=back e1
   obtain⟨n2,w2⟩:=back e2
   rw[M1 (Ne.symm n1)] at e3
   rw[M1 (Ne.symm n2)] at e4
   exact I'.sep j j' c d1 d2 w1 w2 e3 e4
end
section
variable {P:Program}{w:World}{K:Frag}{mg:Str->Option Value}{base:Heap}{ca:Str->Addr}
def oW:SO->FB
 | .nx _ β=>.ok .none false β
 | .rt d fr β=>.ok d fr β
 |_=>.bad
def xA (n:Nat)(ds:List D):En:=.bx :: ds.map Sl.fz ++ List.replicate (n - 1 - ds.length) .no
def kF (n p:Nat)(m:SF):List D->Int->FB:=λds β=>if ds.length=p then oW (m (xA n ds) β) else .bad
abbrev Fx.fb (K:Frag)(H G:Hp)(ca:Str->Addr)(b:Addr):Fx:=⟨K,H,G,[b],ca,λ_=>false,some b⟩
def SR.startB {H G:Hp}{N:List Str}{b:Addr}{vs:List V}{ds:List D}{β:Int}(s:av G H)(hb:H b=some (.lst [.int β]))(gb:G b=none)(r:cC K G vs ds)(hn:ds.length + 1<=N.length):SR (Fx.fb K H G ca b) (some b) G H (L2.start N (.ref b :: vs)) (xA N.length ds) β:=by
 have hl:=r.len
 refine⟨s,av.refl _,λc _ h=>h,λc o h _=>h,λc h=>?_,λc h=>h,λc h=>?_,?_,λi t e=>?_,λi j a d e h=>?_⟩
 ·have:c=b:=by simpa using h
  subst this;exact Mx.lst hb
 ·cases h;exact⟨hb,gb,.inl (by simp)⟩
 ·unfold L2.start xA;simp;omega
 ·cases i with
  |zero=>
   unfold xA at e
   cases e
   exact⟨b,rfl,rfl⟩
  |succ i=>
   unfold xA at e
   have e:(ds.map Sl.fz ++ List.replicate (N.length - 1 - ds.length) Sl.no)[i]? =some t:=by simpa using e
   by_cases hi:i < ds.length
   ·rw[Nh (by simpa using hi),MV,MG hi] at e
    cases e
    obtain⟨x,hx,rx⟩:=r.at (MG hi)
    refine⟨x,?_,rx⟩
    unfold L2.start
    have hi':i < vs.length:=by rw[hl];exact hi
    rw[Nh (by simp;exact hi'),MV,List.getElem?_cons_succ,hx];rfl
   ·rw[Np (by simpa using hi),N7] at e
    split at e
    ·cases e;trivial
    ·cases e
 ·unfold xA at h
  have hm:=MU h
  rcases MN.mp hm with z |hm
  ·cases z
  rcases M6.mp hm with z |z
  ·obtain⟨_,_,z⟩:=MQ.mp z;cases z
  ·have:=Pe z;cases this
def iK {x qual:Str}{st:Stmt}{f:Addr}{fd:FuncData}{N:List Str}{ps:List Str}{k:Nat}{m:SF}(F:Ef K x qual st f fd)(S:aJ N ps (aw st))(hp:1<=ps.length)
  (hbody:∀(cdv:Value) (A:Around) (outer:List Env) (s:Shared) (H G:Hp) (b:Addr) (E:XK),fJ k (A.deeper (envOfC qual (aw st) s.heap.objs.size f cdv))->Ee (lM (oS P w) P w K mg base N qual (aw st) f cdv A outer s H E) (Fx.fb K H G ca b) E (cZ st) m) :
  gB P w K mg base (oS P w) (k + 1) f fd ps (Kn K (ps.length - 1) (kF N.length (ps.length - 1) m)):=by
 have hpn:ps.length<=N.length:=by have:=congrArg List.length S.pre;rw[Nu] at this;omega
 refine F.Bx S (λvs H Q E h=>?_) (λcdv A outer s H vs Q E hr h=>?_)
 ·obtain⟨b,rest,G,ds,β,rfl,hb,gb,sG,hl,r,_⟩:=h
  rw[Na,r.len];omega
 ·obtain⟨b,rest,G,ds,β,rfl,hb,gb,sG,hl,r,h⟩:=h
  refine⟨_,hbody cdv A outer s H G b E hr,?_⟩
  have I:=SR.startB (ca:=ca) (N:=N) sG hb gb r (by omega)
  refine⟨_,G,some b,β,I,?_⟩
  unfold kF at h
  rw[MJ hl] at h
  have fin':∀{B G' H' σ env β},SR (Fx.fb K H G ca b) B G' H' σ env β->iX (some b) H H'/\H' b=some (.lst [.int β]):=λJ=>by
   have e:=J.fix b rfl
   refine⟨λc o ec n=>J.keep c o ec λz=>n ?_,(J.box b e).1⟩
   have:c=b:=by simpa using z
   rw[this]
  cases q:m (xA N.length ds) β with
  |nx env β'=>rw[q] at h;exact λB G' H' σ J s'=>h .non G' H' (fin' J).1 (fin' J).2 s' J.sub (λc h1 h2=>J.new c h1 h2) Rp.non
  |bk env β'=>rw[q] at h;exact h.elim
  |ct env β'=>rw[q] at h;exact h.elim
  |rt d fr β'=>
   rw[q] at h
   refine λB G' H' σ env v J s' rv=>h v G' H' (fin' J).1 (fin' J).2 s' J.sub (λc h1 h2=>J.new c h1 h2) ?_
   cases fr with
   |true=>exact rv
   |false=>exact rv
  |exc c=>rw[q] at h;exact h.elim
  |bad=>rw[q] at h;exact h.elim
def iW {n p:Nat}{m:SF}(ds:List D)(β:Int)(h:kF n p m ds β≠.bad):ds.length=p:=by
 unfold kF at h
 by_cases hl:ds.length=p
 ·exact hl
 ·rw[MO hl] at h;exact absurd rfl h
end
def ao (p:Pr):D:=.tuple [.int p.1,.int p.2]
def qU:D->Option Pr
 | .tuple [.int a,.int b]=>some (a,b)
 |_=>none
def vA {d:D}{p:Pr}(h:qU d=some p):d=ao p:=by
 unfold qU at h
 split at h
 ·cases h;rfl
 ·cases h
def Ak (p:Pr):qU (ao p)=some p:=rfl
def gn:List D->Option (List Pr)
 | []=>some []
 |d :: ds=>match qU d,gn ds with
  |some p,some ps=>some (p :: ps)
  |_,_=>none
theorem jL:∀{ds:List D} {ps:List Pr},gn ds=some ps->ds=ps.map ao
 | [],ps,h=>by cases h;rfl
 |d :: ds,ps,h=>by
  unfold gn at h
  split at h
  ·rename_i p qs h1 h2;cases h;rw[vA h1,jL h2];rfl
  ·cases h
theorem dU:∀ps:List Pr,gn (ps.map ao)=some ps
 | []=>rfl
 |p :: ps=>by
  show (match qU (ao p),gn (ps.map ao) with
   |some p,some ps=>some (p :: ps)
   |_,_=>none)=_
  rw[Ak,dU ps]
section
variable {K:Frag}{X:Cx}{G H:Hp}
theorem cC.pairs:∀{ps:List Pr} {xs:List V},cC K G xs (ps.map ao)->aQ K G xs ps
 | [],_,.nil=>.nil
 |p :: ps,_,.cons r t=>by
  cases r with
  |tup hq r=>
   cases r with
   |cons r1 r=>
    cases r with
    |cons r2 r=>cases r;cases r1;cases r2;exact .cons ⟨_,rfl,hq⟩ (cC.pairs t)
theorem aQ.rps:∀{ps:List Pr} {xs:List V},aQ K G xs ps->cC K G xs (ps.map ao)
 | [],_,.nil=>.nil
 |p :: ps,_,.cons r t=>by
  obtain⟨a,rfl,q⟩:=r
  exact .cons (.tup q (.cons (.int _) (.cons (.int _) .nil))) (aQ.rps t)
def Hg (p:Pr):Bool:=decide (0<=p.1) && decide (p.1 < 8) && decide (0<=p.2) && decide (p.2 < 8)
def CD {p:Pr}(h:Hg p=true):Sm p:=by
 unfold Hg at h
 simp only[MS,M4] at h
 exact⟨⟨h.1.1.1,h.1.1.2⟩,h.1.2,h.2⟩
noncomputable def cR (d:D):Option D:=match mM d with
 |some ds=>(match gn ds with
  |some ps=>if ps.all Hg=true/\(OM.bR 8 (OM.Mem ps)).length < 64 then some (.list ((OM.bR 8 (OM.Mem ps)).map ao)) else none
  |none=>none)
 |none=>none
variable {Γ:Fx}{E:XK}{e a b c:Expr}{f fa fb fc:VF D}{L La Lb:List Nat}{md ma mb mc:Md}{pos:Pos}
theorem qt {p1 p2 pos2:Pos}(hc:X.calm=true)(hu:X.A.units + 64 < cLine)(hK:X.K=Γ.K)(hg:Gl X "sorted")(hm:X.mg "sorted"=none)(hg2:Gl X "set")(hm2:X.mg "set"=none)(ha:SE X Γ E a fa La ma)
  (he:starEach [a] X.env=(false,eval a X.env) :: starEach [] X.env:=by rfl)
  (he2:starEach [.Call (.Name "set" p2) [a] [] pos2] X.env=(false,eval (.Call (.Name "set" p2) [a] [] pos2) X.env) :: starEach [] X.env:=by rfl) :
  SE X Γ E (.Call (.Name "sorted" p1) [.Call (.Name "set" p2) [a] [] pos2] [] pos) (f1 fa cR) La .w:=by
 refine PE.post' (kI (tG hc) hg hm (by decide +kernel) (aU (jA (CB hc hu) hg2 hm2 (by decide +kernel) (aU ha bO he) (by decide) (by decide) he) bO he2) (by decide) (by decide) he2) λσ H Q ⟨env,G,B,β,I,o⟩=>?_
 refine km (r:=λx H1 Q=>Kz X.prog X.w X.K [x] H1 λy H2=>vZ X.prog X.w X.K [y] H2 Q) ?_ I o
 intro B G H x dx d Q s hB bx e k
 rw[hK]
 unfold cR at e
 cases q:mM dx with
 |none=>rw[q] at e;cases e
 |some ds=>
  rw[q] at e
  dsimp only at e
  cases q2:gn ds with
  |none=>rw[q2] at e;cases e
  |some ps=>
   rw[q2] at e
   dsimp only at e
   split at e
   ·rename_i hh
    obtain⟨h1,h2⟩:=hh
    cases e
    obtain⟨p,xs,rfl,hq,r⟩:=bx.seq q s
    rw[jL q2] at r
    have pv:=(r.mono s).pairs
    have sm:∀p,p∈ps->Sm p:=λp hp=>CD (NW.mp h1 p hp)
    refine⟨p,xs,ps,rfl,hq,pv,sm,λS qs hS hpv nd hm=>?_⟩
    have qsl:qs.length < 64:=by
     have:(pq qs).length<=(OM.bR 8 (OM.Mem ps)).length:=OM.qL nd λx hx=>by
      have hx':=(hm x).mp hx
      have hs:=sm x hx'
      exact OM.aX.mpr ⟨⟨⟨hs.1.1,hs.1.2⟩,hs.2.1,hs.2.2⟩,hx'⟩
     simp only[ML] at this
     omega
    have xS:=Ext.own s (o:=Bj X.prog X.w S qs) hS
    refine⟨S,qs,rfl,ay,hpv.grow (iR.new hS),λp hp=>sm p ((hm p).mp hp),nd,qsl,λl ws rs hl hpw hr hmem=>?_⟩
    have ers:rs=OM.bR 8 (OM.Mem ps):=OM.fC hr (OM.cH _ _) λx=>by
     rw[hmem x,hm x,OM.aX]
     constructor
     ·intro hx;have hs:=sm x hx;exact⟨⟨⟨hs.1.1,hs.1.2⟩,hs.2.1,hs.2.2⟩,hx⟩
     ·intro hx;exact hx.2
    subst ers
    have hlH:H l=none:=by
     by_cases z:l=S
     ·subst z;exact hS
     ·rw[az z] at hl;exact hl
    have lS:l≠S:=λz=>by subst z;rw[ay] at hl;cases hl
    have hh:av H (upd (upd H S (Bj X.prog X.w S qs)) l (.lst ws)):=(av.new hS).trans (av.new hl)
    have xx:=Ext.tups s hh
    refine k _ _ _ xx ⟨l,rfl,hlH,?_,ws,ay,?_⟩
    ·unfold nu
     rw[s.free hlH,ay]
     exact MO λy=>y
    ·refine aQ.rps (Paired.mapP hpw λv p ⟨a,ea,qa⟩=>⟨a,ea,mV (s.trans hh) ?_⟩)
     exact qa.grow (iR.new hl)
   ·cases e
end
section
variable {K:Frag}{X:Cx}{G H:Hp}{Γ:Fx}{E:XK}{e a b c:Expr}{f fa fb fc:VF D}{L La Lb:List Nat}{md ma mb mc:Md}{pos apos cpos np:Pos}
def cu:D->Option D
 | .int n=>if 0<=n/\n<=1000 then some (.list (cB 0 n.toNat)) else none
 |_=>none
def AV (n:Nat):cC K G ((List.range n).map λ(i:Nat)=>V.int (i:Int)) (cB 0 n):=by
 have key:∀l:List Nat,cC K G (l.map λ(i:Nat)=>V.int (i:Int)) (l.map λ(k:Nat)=>int (0 + k)):=by
  intro l
  induction l with
  |nil=>exact .nil
  |cons x l ih=>exact .cons (by show Rp K G (.int (x:Int)) (.int (0 + (x:Int)));rw[N2];exact .int _) ih
 exact key _
theorem mw {p1 p2 pos2:Pos}(hc:X.calm=true)(hg:Gl X "list")(hm:X.mg "list"=none)(hg2:Gl X "range")(hm2:X.mg "range"=none)(ha:SE X Γ E a fa La ma)
  (he:starEach [a] X.env=(false,eval a X.env) :: starEach [] X.env:=by rfl)
  (he2:starEach [.Call (.Name "range" p2) [a] [] pos2] X.env=(false,eval (.Call (.Name "range" p2) [a] [] pos2) X.env) :: starEach [] X.env:=by rfl) :
  SE X Γ E (.Call (.Name "list" p1) [.Call (.Name "range" p2) [a] [] pos2] [] pos) (f1 fa cu) La .w:=by
 refine PE.post' (jA (rn hc) hg hm (by decide +kernel) (aU (jA BF hg2 hm2 (by decide +kernel) (aU ha bO he) (by decide) (by decide) he) bO he2) (by decide) (by decide) he2) λσ H Q ⟨env,G,B,β,I,o⟩=>?_
 refine km (r:=λx H1 Q=>∃n:Int,[x]= [.int n]/\∀p,H1 p=none->(λ(y:V) (H2:Hp)=>∃(p:Addr) (n:Int),[y]= [V.ref p]/\H2 p=some (.iY 0 n)/\0<=n/\n<=1000/\∀l,H2 l=none->Q (.ref l) (upd H2 l (.lst ((List.range n.toNat).map λ(i:Nat)=>V.int (i:Int))))) (V.ref p) (upd H1 p (.iY 0 n))) ?_ I o
 intro B G H x dx d Q s hB bx e k
 cases dx with
 |int n=>
  obtain rfl:=bx.int
  simp only[cu] at e
  split at e
  ·rename_i hh
   cases e
   refine⟨n,rfl,λp hp=>⟨p,n,rfl,ay,hh.1,hh.2,λl hl=>?_⟩⟩
   have hlp:l≠p:=λz=>by subst z;rw[ay] at hl;cases hl
   have hlH:H l=none:=by rw[az hlp] at hl;exact hl
   have x1:=Ext.own s (o:=.iY 0 n) hp
   have x2:=Ext.own x1.gh (o:=.lst ((List.range n.toNat).map λ(i:Nat)=>V.int (i:Int))) hl
   exact k _ _ _ (x1.trans x2) ⟨l,rfl,hlH,s.free hlH,_,ay,AV _⟩
  ·cases e
 |_=>cases e
def Fc:D->Option D
 | .int i=>some (.int (if i < 0 then -i else i))
 |_=>none
theorem Jr:AW K (λx H Q=>∃i,[x]= [.int i]/\Q (.int (if i < 0 then -i else i)) H) Fc .v:=by
 intro B G H x dx d Q s hB bx e k
 cases dx with
 |int i=>cases e;obtain rfl:=bx.int;exact⟨i,rfl,k _ G H (Ext.refl s) (.int _)⟩
 |_=>cases e
noncomputable def iH (d:D):Option D:=match d with
 | .list ds=>(match gn ds with
  |some ps=>if ps.all Hg=true/\ps.Nodup/\ps.length < 64 then some (.list ((OM.bR 8 (OM.Mem ps)).map ao)) else none
  |none=>none)
 |_=>none
theorem yM:AW K (λx=>zK K [x]) iH .w:=by
 intro B G H x dx d Q s hB bx e k
 cases dx with
 |list ds=>
  simp only[iH] at e
  cases q2:gn ds with
  |none=>rw[q2] at e;cases e
  |some ps=>
   rw[q2] at e
   dsimp only at e
   split at e
   ·rename_i hh
    obtain⟨h1,h2,h3⟩:=hh
    cases e
    obtain⟨p,xs,rfl,hq,r⟩:=bx.list s
    rw[jL q2] at r
    have pv:=(r.mono s).pairs
    have sm:∀p,p∈ps->Sm p:=λp hp=>CD (NW.mp h1 p hp)
    refine⟨p,xs,ps,rfl,.inl hq,pv,sm,h2,h3,λl ws rs hl hpw hr hmem=>?_⟩
    have ers:rs=OM.bR 8 (OM.Mem ps):=OM.fC hr (OM.cH _ _) λx=>by
     rw[hmem x,OM.aX]
     constructor
     ·intro hx;have hs:=sm x hx;exact⟨⟨⟨hs.1.1,hs.1.2⟩,hs.2.1,hs.2.2⟩,hx⟩
     ·intro hx;exact hx.2
    subst ers
    have hh:av H (upd H l (.lst ws)):=av.new hl
    refine k _ _ _ (Ext.tups s hh) ⟨l,rfl,hl,?_,ws,ay,?_⟩
    ·unfold nu
     rw[s.free hl,ay]
     exact MO λy=>y
    ·refine aQ.rps (Paired.mapP hpw λv p ⟨a,ea,qa⟩=>⟨a,ea,mV (s.trans hh) ?_⟩)
     exact qa.grow (iR.new hl)
   ·cases e
 |_=>cases e
def A5 (ds:List D)(k:D):Option (D×List D):=match k with
 | .int i=>if -(2 ^ 63)<=i/\i < 2 ^ 63 then (match seqIndex? i ds.length with
  |some n=>(match ds[n]? with
   |some d=>some (d,ds.eraseIdx n)
   |none=>none)
  |none=>none) else none
 |_=>none
def kn (i j:Nat)(L:List Nat)(f:VF D):SF:=λenv β=>if uS env[i]? =true/\uS env[j]? =true/\i≠j then toS (f (vl env) β) λk β'=>match (bg L env)[j]? with
 |some (.ow (.list es))=>(match A5 es k with
  |some (d,es')=>HB i ((bg L env).set j (.ow (.list es'))) β' λds=>if ds.length < sizeLine then some (ds ++ [d]) else none
  |none=>.bad)
 |_=>.bad else .bad
theorem cC.eraseIdx:∀{xs:List V} {ds:List D} (i:Nat),cC K G xs ds->cC K G (xs.eraseIdx i) (ds.eraseIdx i)
 |_,_,_,.nil=>.nil
 |_,_,0,.cons _ t=>t
 |_,_,i + 1,.cons r t=>.cons r (cC.eraseIdx i t)
theorem Ab (i j:Nat){x y:Str}{np2 apos2 cpos2:Pos}(hb:∀j,Γ.br j=false)(he:SE X Γ E e f L md)(hN:X.N[i]? =some x:=by rfl)(hv:wO X.env.scope x:=by first |exact Or.inl rfl |exact Or.inr (Or.inl rfl) |exact Or.inr (Or.inr rfl))(hd:(x == ("__debug__":Str))=false:=by decide)
  (hcd:(x == ("__classdict__":Str))=false:=by decide)
  (hN2:X.N[j]? =some y:=by rfl) (hv2:wO X.env.scope y:=by first |exact Or.inl rfl |exact Or.inr (Or.inl rfl) |exact Or.inr (Or.inr rfl)) (hd2:(y == ("__debug__":Str))=false:=by decide)
  (hcd2:(y == ("__classdict__":Str))=false:=by decide)
  (hbase:attributeBase (.Name x np) "append" X.env (eval (.Name x np) X.env)=eval (.Name x np) X.env:=by rfl)
  (hfew:((backTo cpos (starEach [.Call (.Attribute (.Name y np2) "pop" apos2) [e] [] cpos2] X.env)).all (λx=> !x.1) && (backToKw cpos (keywordEach [] X.env)).all (λx=>x.1.isSome)
   && decide ([Expr.Call (.Attribute (.Name y np2) "pop" apos2) [e] [] cpos2].length + ([]:List Keyword).length + (if ([]:List Keyword).isEmpty then 0 else 1) < 30))=true:=by rfl)
  (hline:(apos.endLine == cpos.line)=true:=by rfl) (hs:starEach [.Call (.Attribute (.Name y np2) "pop" apos2) [e] [] cpos2] X.env=(false,eval (.Call (.Attribute (.Name y np2) "pop" apos2) [e] [] cpos2) X.env) :: starEach [] X.env:=by rfl)
  (hbase2:attributeBase (.Name y np2) "pop" X.env (eval (.Name y np2) X.env)=eval (.Name y np2) X.env:=by rfl)
  (hfew2:((backTo cpos2 (starEach [e] X.env)).all (λx=> !x.1) && (backToKw cpos2 (keywordEach [] X.env)).all (λx=>x.1.isSome)
   && decide ([e].length + ([]:List Keyword).length + (if ([]:List Keyword).isEmpty then 0 else 1) < 30))=true:=by rfl)
  (hline2:(apos2.endLine == cpos2.line)=true:=by rfl) (hs2:starEach [e] X.env=(false,eval e X.env) :: starEach [] X.env:=by rfl)
  (hsw:swapsWith (.Call (.Attribute (.Name x np) "append" apos) [.Call (.Attribute (.Name y np2) "pop" apos2) [e] [] cpos2] [] cpos) none pos.line X.env=pure false:=by rfl) :
  SS X Γ E (.Expr (.Call (.Attribute (.Name x np) "append" apos) [.Call (.Attribute (.Name y np2) "pop" apos2) [e] [] cpos2] [] cpos) pos) (kn i j L f):=by
 refine PS.post (pk (zY OV PySem.F.slot_list_append PySem.F.type_list_append ou (iS hN hv hd hcd)
  (aU (zY OV PySem.F.slot_list_pop PySem.F.type_list_pop C5 (iS hN2 hv2 hd2 hcd2) (aU he bO hs2) hbase2 hfew2 hline2 hs2 rfl) bO hs) hbase hfew hline hs rfl) hsw) λN σ H ⟨env,G,B,β,I,o⟩=>?_
 unfold kn at o
 by_cases hO:uS env[i]? =true/\uS env[j]? =true/\i≠j
 case neg=>rw[MO hO] at o;exact o.elim
 rw[MJ hO] at o
 obtain⟨hO1,hO2,hij⟩:=hO
 obtain⟨ds0,q0⟩:=o6 hO1
 obtain⟨es0,w0⟩:=o6 hO2
 obtain⟨p,h1,_,_,_,xs,h5,_⟩:=I.slot i _ q0
 obtain⟨q,k1,_,_,_,ys,k5,_⟩:=I.slot j _ w0
 refine⟨_,h1,.inl ⟨rfl,xs,.inl (.inl h5)⟩,?_⟩
 refine⟨_,k1,.inl ⟨rfl,ys,.inl (.inl k5)⟩,?_⟩
 refine⟨env,G,B,β,I,cx o λkd β' k v G' H' I' s' m' vo=>?_⟩
 cases ej:(bg L env)[j]? with
 |none=>rw[ej] at k;exact k.elim
 |some sj=>
  rw[ej] at k
  cases sj with
  |ow dj=>
   cases dj with
   |list es=>
    dsimp only at k
    cases ep:A5 es kd with
    |none=>rw[ep] at k;exact k.elim
    |some pr=>
     obtain⟨d,es'⟩:=pr
     rw[ep] at k
     dsimp only at k
     unfold A5 at ep
     cases kd <;> first | (cases ep;done) |skip
     rename_i ii
     dsimp only at ep
     split at ep
     ·rename_i hr
      cases eI:seqIndex? ii es.length with
      |none=>rw[eI] at ep;cases ep
      |some n=>
       rw[eI] at ep
       dsimp only at ep
       cases eD:es[n]? with
       |none=>rw[eD] at ep;cases ep
       |some d0=>
        rw[eD] at ep
        cases ep
        obtain rfl:=(vo.brw I.boxThere).int
        obtain⟨q',g1,_,_,_,zs,g5,g6⟩:=I'.slot j _ ej
        rw[k1] at g1;cases g1
        obtain⟨xv,ex,rx⟩:=g6.at eD
        refine⟨q,zs,ii,n,xv,rfl,rfl,g5,hr.1,hr.2,by rw[g6.len];exact eI,ex,?_⟩
        have I2:=I'.write hb ej k1 (o:=.lst (zs.eraseIdx n)) (d':=.list (es.eraseIdx n)) λH2 e2 s2=>⟨_,e2,g6.eraseIdx n⟩
        obtain⟨ds,fs,eq,eg,k⟩:=uT k
        by_cases hz:ds.length < sizeLine
        case neg=>rw[MO hz] at eg;cases eg
        rw[MJ hz] at eg
        cases eg
        obtain⟨p',f1,_,_,_,us,f5,f6⟩:=I2.slot i _ eq
        rw[h1] at f1;cases f1
        refine⟨p,us,xv,rfl,rfl,f5,by rw[f6.len];exact hz,?_⟩
        exact k B G' _ σ (I2.write hb eq h1 λH2 e2 s2=>⟨_,e2,f6.snoc rx⟩) s'
     ·cases ep
   |_=>exact k.elim
  |_=>exact k.elim
end
def bG:List D->Int->FB
 | [.int m],β=>if 0 < m/\m < 1073741824 then .ok (.int (β % m)) false (β / m) else .bad
 |_,_=>.bad
def zH {ds:List D}{β:Int}(h:bG ds β≠.bad):∃m,ds= [.int m]/\0 < m/\m < 1073741824:=by
 unfold bG at h
 split at h
 ·rename_i m
  by_cases hh:0 < m/\m < 1073741824
  ·exact⟨m,rfl,hh.1,hh.2⟩
  ·rw[MO hh] at h;exact absurd rfl h
 ·exact absurd rfl h
def ua {m β:Int}(h0:0 < m)(h1:m < 1073741824):bG [.int m] β=.ok (.int (β % m)) false (β / m):=MJ ⟨h0,h1⟩
def constsOf:List Expr->Option (List Int)
 | []=>some []
 | .Constant (.int i) _ _ :: es=>(constsOf es).map λr=>i :: r
 |_=>none
def Me (ns:List Int):VF (List D):=λ_ β=>.ok (ns.map int) β
theorem sC {X:Cx}{Γ:Fx}{E:XK}:∀{es:List Expr} {ns:List Int},constsOf es=some ns->SA X Γ E es (Me ns) []
 | [],ns,h=>by
  have e:ns= []:=by unfold constsOf at h;exact (Option.some.inj h).symm
  subst e
  exact ak
 |e :: es,ns,h=>by
  unfold constsOf at h
  split at h
  ·cases ‹_ :: _= []›
  ·next i a b es' heq=>
   cases heq
   cases q:constsOf es with
   |none=>rw[q] at h;cases h
   |some r=>
    rw[q] at h
    have e2:i :: r=ns:=Option.some.inj h
    subst e2
    exact af au (sC q) rfl
  ·cases h
section
variable {P:Program}{w:World}{K:Frag}{mg:Str->Option Value}{base:Heap}
def E4 {X:Cx}{i j:Nat}{x y:Str}{px py pos:Pos}{k:Nat}(hN:X.N.Nodup)(hi:X.N[i]? =some x)(hj:X.N[j]? =some y)(hx:X.env.scope.names.lookup x=some .local)(hy:X.env.scope.names.lookup y=some .local)(hc:X.calm=true) :
  PG X (.Tuple [.Name x px,.Name y py] k pos) (FC X.K 2 (pU (lQ i) (pU (lQ j) FT))):=
 ql hc (dM (cW hN hi (Or.inl hx) (Or.inr hx)) (dM (cW hN hj (Or.inl hy) (Or.inr hy)) nF))
def BR {b:Addr}{β m:Int}{H:Hp}{Q:VK}{G:Hp}(hb:H b=some (.lst [.int β]))(s:av G H){p:Addr}(hp:H p=none)
  (kk:∀v G' H',iX (some b) H H'->H' b=some (.lst [.int (β / m)])->av G G'->av G' H'->(∀c,Mx H c->G c=none->G' c=none)->FV K H G' H' false (.int (β % m)) v->Q v H') (gb:G b=none) :
  Q (.int (β % m)) (upd (upd H p (.tup [.int (β / m),.int (β % m)])) b (.lst [.int (β / m)])):=by
 have hbp:b≠p:=aL hb hp
 refine kk _ G _ (λc o e n=>?_) ay (av.refl _) (λc o e=>?_) (λc _ h=>h) (.int _)
 ·rw[az (λz=>n (by rw[z])),az (aL e hp)];exact e
 ·rw[az (λz=>by rw[z,gb] at e;cases e),az (aL (s c o e) hp)];exact s c o e
end
end L2
namespace L2
open PySem PySem.SeqAt PySem.Spec PyProof.Rows
def sZ {M:Model}{A:Around}{E:Value->Shared->Prop}{s:Shared}{β:Type}{b:Nat}(f:Nat->β->Sem (ForInStep β))(I:List Nat->β->Shared->Prop)(Q:β->Shared->Prop)
  (turn:∀x rest b s,I (x :: rest) b s->wpAny M A (f x b) (λr s'=>match r with | .yield b'=>I rest b' s' | .done b'=>Q b' s') E s)
  (fin:∀b s,I [] b s->Q b s) (c:β) (h:I (List.range' 0 b) c s):wpAny M A (forIn [0:b] c f) Q E s:=by
 rw[Std.Legacy.Range.forIn_eq_forIn_range']
 simp only[Std.Legacy.Range.size,Nat.sub_zero,Nat.add_sub_cancel,Nat.div_one]
 exact wpAny_forIn_list f I Q turn fin _ c h
def rA (l:Addr)(items:Array Value)(n:Nat)(dd:Option Addr)(sl:Array (Option Value))(x:Value)(e:Value->Bool)(j:Nat)(hj:j < items.size)
  (hit:e items[j]=true) (hno:∀m (hm:m < items.size),m < j->e items[m]=false) :
  Meets (Builtin.«tuple.index» ⟨[.ref l,x],[]⟩)
   (λA R s=>s.heap.get? l=some {cls:=.type "tuple",dict:=dd,data:=.seq items n,slots:=sl}/\(∀y,y∈items->EqAt A.in1 s y x (e y))/\R (.ok (.ret (.int j s.toks))) {s with toks:=s.toks + 1}):=
 .of_wp λprog w A R s h=>by
  obtain⟨hp,g,d,tk,os⟩:=s;obtain⟨hl,he,h⟩:=h
  wp_walk using wpAny_loadPart' hl,sZ _ (λrest b s'=>b.1=none/\s'=⟨hp,g,d,tk,os⟩/\∃i,i<=j/\rest=List.range' i (items.size - i)) _
  case turn=>
   rintro y rest b s' ⟨hb,rfl,i,hi,hr⟩
   obtain⟨m,hm⟩:∃m,items.size - i=m + 1:=⟨items.size - i - 1,by omega⟩
   rw[hm,List.range'_succ] at hr
   obtain⟨rfl,rfl⟩:=List.cons.inj hr
   have hlt:y < items.size:=by omega
   have e1:items[y]? =some items[y]:=by simp[hlt]
   simp only[e1]
   refine MF (he _ (Pk hlt) prog w _ _ ?_)
   by_cases z:y=j
   ·subst z
    rw[hit]
    wp_walk
    exact⟨_,rfl,h⟩
   ·rw[hno y hlt (by omega)]
    wp_walk
    exact⟨rfl,rfl,y + 1,by omega,by congr 1;omega⟩
  case fin=>
   rintro b s' ⟨hb,rfl,i,hi,hr⟩
   obtain⟨m,hm⟩:∃m,items.size - i=m + 1:=⟨items.size - i - 1,by omega⟩
   rw[hm,List.range'_succ] at hr
   cases hr
  case h=>
   exact⟨rfl,rfl,0,Nm _,by rw[Nat.min_self];rfl⟩
section
variable {K:Frag}{X:Cx}{G H:Hp}{Γ:Fx}{E:XK}{e a b c:Expr}{f fa fb fc:VF D}{L La Lb:List Nat}{md ma mb mc:Md}{pos apos cpos np:Pos}
def xq (k:Int):Value->Bool
 | .int i _=>i == k
 |_=>false
theorem l0 {k:Int}:∀{ns:List Int} {us:List Value} (i:Nat) (h:i < us.length) (h2:i < ns.length),Vals (ns.map V.int) us->xq k us[i]=(ns[i] == k)
 | [],_,_,_,h2,_=>absurd h2 (Nat.not_lt_zero _)
 |n :: ns,_,0,_,_,.cons r _=>by obtain⟨t,rfl⟩:=r;rfl
 |n :: ns,_,i + 1,h,h2,.cons _ rs=>l0 i (Nat.lt_of_succ_lt_succ h) (Nat.lt_of_succ_lt_succ h2) rs
theorem va {k:Int}{t:Tok}(A:Around)(s:Shared):∀{ns:List Int} {us:List Value},Vals (ns.map V.int) us->∀y∈us,EqAt A s y (.int k t) (xq k y)
 | [],_,.nil,y,hy=>by cases hy
 |n :: ns,_,.cons r rs,y,hy=>by
  rcases MN.mp hy with z |z
  ·subst z;obtain⟨t',rfl⟩:=r;exact EqAt.int_int n t' k t
  ·exact va A s rs y z
def Gh (K:Frag):V->List V->Hp->VK->Prop:=λx vs H Q=>∃(a:Addr) (ns:List Int) (k:Int),x=.ref a/\vs= [.int k]/\fL K H a (ns.map V.int)/\k∈ns/\Q (.int (ns.idxOf k:Nat)) H
def A2:JW X "tuple.index" (Gh X.K):=by
 intro pins s σ H x vs v us Q I rx rv h
 obtain⟨a,ns,k,rfl,rfl,hq,hk,q⟩:=h
 cases rx
 obtain⟨u,rfl,ru⟩:=vals1 rv
 obtain⟨t,rfl⟩:=ru
 obtain⟨its,rs,pl,hz⟩:=I.tuple hq
 obtain⟨⟨cls,dd,data,sl⟩,ho,hc,n,hd⟩:=id pl
 simp only at hc hd
 subst hc hd
 have hj:ns.idxOf k < ns.length:=OP.mpr hk
 have hlen:its.length=ns.length:=by rw[<-rs.length,ML]
 refine call_meets PySem.F.slot_tuple_index ⟨_,ho,rfl⟩ PySem.F.entry_tuple_index (PySem.F.args_tuple_index_2 _ _)
  (rA a its.toArray n dd sl (.int k t) (xq k) (ns.idxOf k) (by simpa[hlen] using hj) ?_ ?_) ⟨ho,λy hy=>va _ _ rs y (by simpa using hy),?_⟩
 ·have:=l0 (k:=k) (ns.idxOf k) (by omega) hj rs
  simpa[List.getElem_idxOf hj] using this
 ·intro m hm hlt
  have hm':m < ns.length:=by simpa[hlen] using hm
  have hne:ns[m]≠k:=λz=>by
   have:=List.not_of_lt_findIdx (p:=(· == k)) hlt
   simp[z] at this
  have:=l0 (k:=k) m (by omega) hm' rs
  rw[OR.mpr hne] at this;simpa using this
 ·exact⟨.int (ns.idxOf k:Nat),H,I.tok _,⟨_,rfl⟩,q⟩
def Inv.tupleP {pins:List (Addr×Obj)}{σ:St}{s:Shared}{p:Addr}{xs:List V}(I:Inv X pins σ H s)(h:fL X.K H p xs):s.TypeIs (.ref p) "tuple"/\∀a,Value.ref p=.ref a->∃ob,s.heap.get? a=some ob/\ob.dict=none:=by
 rcases h with h | ⟨o,its,n,hk,hc,hs,hz,r,hd⟩
 ·obtain⟨_,_,_,o,e,c,n,d,hd⟩:=h.ok I.hok
  exact⟨⟨o,e,c⟩,λa z=>by cases z;exact⟨o,e,hd⟩⟩
 ·exact⟨⟨o,I.kIn p o hk,hc⟩,λa z=>by cases z;exact⟨o,I.kIn p o hk,hd⟩⟩
def LO (K:Frag)(r:V->List V->Hp->VK->Prop)(to:TE)(t:TA):TE:=λσ H Q=>to σ H λx H1=>(∃p xs,x=.ref p/\fL K H1 p xs)/\t σ H1 λxs H2=>r x xs H2 Q
def HP {o e:Expr}{es:List Expr}{to:TE}{t:TA}{name:Str}{apos cpos:Pos}{id:String}{r:V->List V->Hp->VK->Prop}(slot:Slot "tuple" name id)(hty:typeOf (.builtin id)=pure (.type "method_descriptor"))(hm:JW X id r)(ho:PE X o to)(ha:PA X (e :: es) t)
  (hbase:attributeBase o name X.env (eval o X.env)=eval o X.env:=by rfl)
  (hfew:((backTo cpos (starEach (e :: es) X.env)).all (λx=> !x.1) && (backToKw cpos (keywordEach [] X.env)).all (λx=>x.1.isSome)
   && decide ((e :: es).length + ([]:List Keyword).length + (if ([]:List Keyword).isEmpty then 0 else 1) < 30))=true:=by rfl)
  (hline:(apos.endLine == cpos.line)=true:=by rfl) (hs:starEach (e :: es) X.env=(false,eval e X.env) :: starEach es X.env:=by rfl) (hplain:(backTo cpos (starEach es X.env)).any (·.1)=false:=by rfl) :
  PE X (.Call (.Attribute o name apos) (e :: es) [] cpos) (LO X.K r to t):=by
 intro pins s σ H Q I h
 refine wpAny_Call_method_late hbase hfew hline rfl (b5 (ho pins s σ H _ I h) λv s1 ⟨x,H1,I1,r1,⟨p,ys,ex,hr⟩,q1⟩=>?_)
 subst ex
 cases r1
 obtain⟨h1,h2⟩:=I1.tupleP hr
 refine⟨"tuple",id,PySem.F.plainAttrs_tuple,slot,hty,h1,h2,?_⟩
 have hA:=ha cpos pins s1 σ H1 _ I1 q1
 rw[hs] at hA ⊢
 refine Calls.callWith_builtin (by show (false || (backTo cpos (starEach es X.env)).any (·.1))=false;rw[hplain] <;> rfl) (Calls.evalArgs_plain ?_)
 exact b5 hA λus s2 ⟨vs,H2,I2,r2,q2⟩=>hm pins s2 σ H2 (.ref p) vs (.ref p) us Q I2 rfl r2 q2
def lV:List D->Option (List Int)
 | []=>some []
 | .int i :: ds=>(lV ds).map (i :: ·)
 |_=>none
theorem vH:∀{ds:List D} {ns:List Int},lV ds=some ns->ds=ns.map int
 | [],ns,h=>by cases h;rfl
 | .int i :: ds,ns,h=>by
  unfold lV at h
  cases q:lV ds with
  |none=>rw[q] at h;cases h
  |some ms=>rw[q] at h;cases h;rw[vH q];rfl
 | .none :: _,_,h=>by cases h
 | .bool _ :: _,_,h=>by cases h
 | .str _ :: _,_,h=>by cases h
 | .list _ :: _,_,h=>by cases h
 | .tuple _ :: _,_,h=>by cases h
 | .dict _ :: _,_,h=>by cases h
theorem lK:∀ns:List Int,lV (ns.map int)=some ns
 | []=>rfl
 |n :: ns=>by show (lV (ns.map int)).map (n :: ·)=_;rw[lK ns];rfl
theorem qS:∀{ns:List Int} {xs:List V},cC K G xs (ns.map int)->xs=ns.map V.int
 | [],_,.nil=>rfl
 |n :: ns,_,.cons r t=>by cases r;rw[qS t];rfl
def EE (d y:D):Option D:=match d,y with
 | .tuple ds,.int k=>(match lV ds with
  |some ns=>if k∈ns then some (.int (ns.idxOf k:Nat)) else none
  |none=>none)
 |_,_=>none
def zZ:D->Bool
 | .tuple _=>true
 |_=>false
def oh (fa fb:VF D):VF D:=λvs β=>(fa vs β).bnd λx β1=>if zZ x=true then (fb vs β1).bnd λy β2=>R.of (EE x y) β2 else .bad
theorem wI (hK:X.K=Γ.K)(ha:SE X Γ E a fa La ma)(hb:SE X Γ E b fb Lb mb)
  (hbase:attributeBase a "index" X.env (eval a X.env)=eval a X.env:=by rfl)
  (hfew:((backTo cpos (starEach [b] X.env)).all (λx=> !x.1) && (backToKw cpos (keywordEach [] X.env)).all (λx=>x.1.isSome)
   && decide ([b].length + ([]:List Keyword).length + (if ([]:List Keyword).isEmpty then 0 else 1) < 30))=true:=by rfl)
  (hline:(apos.endLine == cpos.line)=true:=by rfl) (hs:starEach [b] X.env=(false,eval b X.env) :: starEach [] X.env:=by rfl) :
  SE X Γ E (.Call (.Attribute a "index" apos) [b] [] cpos) (oh fa fb) (La ++ Lb) .v:=by
 refine PE.post' (HP PySem.F.slot_tuple_index PySem.F.type_tuple_index A2 ha (aU hb bO hs) hbase hfew hline hs rfl) λσ H Q ⟨env,G,B,β,I,o⟩=>?_
 refine⟨env,G,B,β,I,o.bnd.imp λd1 β1 h x G1 H1 I1 s1 m1 vx=>?_⟩
 have vx:=vx.brw I.boxThere
 cases d1 with
 |tuple ds=>
  rw[MJ (show zZ (.tuple ds)=true from rfl)] at h
  obtain⟨p,xs,rfl,hq,r⟩:=vx.tuple I1.sub
  refine⟨⟨p,xs,rfl,by rw[hK];exact hq⟩,?_⟩
  refine⟨bg La env,G1,B,β1,I1,?_⟩
  rw[gQ]
  refine h.bnd.imp λd2 β2 h y G2 H2 I2 s2 m2 vy=>?_
  obtain⟨d,e,k⟩:=h.of
  have vy:=vy.brw I1.boxThere
  cases d2 with
  |int kk=>
   obtain rfl:=vy.int
   simp only[EE] at e
   cases q:lV ds with
   |none=>rw[q] at e;cases e
   |some ns=>
    rw[q] at e
    dsimp only at e
    split at e
    ·rename_i hk
     cases e
     have eds:=vH q
     subst eds
     have exs:=qS r
     subst exs
     have hq2:fL X.K H2 p (ns.map V.int):=by
      rw[hK]
      rcases hq with hq |hq
      ·rcases vx with vx | ⟨_,_,_,vx⟩
       ·cases vx with
        |tup g1 r9=>have z9:=qS r9;subst z9;exact (g1.grow (s2.trans I2.sub).grow)
       ·exact vx.elim
      ·exact .inr hq
     exact⟨p,ns,kk,rfl,rfl,hq2,hk,k _ G2 H2 (by rw[cL];exact I2) (s1.trans s2) (m1.trans m2) (.int _)⟩
    ·cases e
  |_=>simp only[EE] at e;cases e
 |_=>exact h.elim
def qH (t:Tg)(L:List Nat)(f:VF D):SF:=λenv β=>toS (f (vl env) β) λd β'=>match fO t d (bg L env) with
 |some env'=>.nx env' β'
 |none=>.bad
theorem yv {t:Tg}{tg:Expr}(he:SE X Γ E e f L .v)(hg:SG X Γ tg t)(hs:swapsWithSole [tg] e pos.line X.env=pure false:=by rfl)(hw:swappedStores [tg] e X.env=pure none:=by rfl)
  (h1:(assignEach [tg] X.env).map (·.2)= [assign tg X.env]:=by rfl):SS X Γ E (.Assign [tg] e pos) (qH t L f):=by
 refine PS.post (qE he hg hs hw h1) λN σ H ⟨env,G,B,β,I,o⟩=>?_
 refine⟨env,G,B,β,I,cx o λd β' k v G' H' I' s' m' vo=>?_⟩
 cases q:fO t d (bg L env) with
 |none=>rw[q] at k;exact k.elim
 |some env'=>
  rw[q] at k
  exact⟨_,G',B,β',d,env',I',vo,q,λσ' J=>k B G' H' σ' J s'⟩
abbrev Fx.at (Γ:Fx)(H0:Hp):Fx:=⟨Γ.K,H0,Γ.G0,Γ.par,Γ.ca,Γ.br,Γ.bx⟩
end
end L2
namespace L2
open PySem PySem.Spec PyProof.Rows
section
variable {K:Frag}{X:Cx}{G H:Hp}
def Hu (neg:Bool):D->D->Option D
 | .str x,.str y=>some (.bool (if neg then !decide (x=y) else decide (x=y)))
 |_,_=>none
def BX (x y:Str):decide (V.str x=V.str y)=decide (x=y):=by
 rw[ND];simp
def Ky:nH K Mf (Hu true) .v:=by
 intro B G H x y dx dy d Q s hB bx by' e k
 cases dx <;> cases dy <;> first | (cases e;done) |skip
 cases e
 obtain rfl:=bx.str
 obtain rfl:=by'.str
 refine⟨rfl,?_⟩
 rw[BX]
 exact k _ G H (Ext.refl s) (.bl _)
end
end L2
namespace L2
open PySem
section
variable {α γ:Type}
@[simp] theorem l5 (a:α)(β:Int)(k:α->Int->R γ):(R.ok a β).bnd k=k a β:=rfl
@[simp] theorem KH (c:Str)(k:α->Int->R γ):(R.exc c:R α).bnd k=.exc c:=rfl
@[simp] theorem KQ (k:α->Int->R γ):(R.bad:R α).bnd k=.bad:=rfl
@[simp] theorem L0 (a:α)(β:Int)(k:α->Int->R γ):(R.ok a β).okb k=k a β:=rfl
@[simp] theorem uH (a:α)(β:Int):R.of (some a) β=.ok a β:=rfl
@[simp] theorem of_none (β:Int):(R.of none β:R α)=.bad:=rfl
@[simp] theorem LJ (a:α)(β:Int)(k:α->Int->SO):toS (.ok a β) k=k a β:=rfl
@[simp] theorem KJ (c:Str)(k:α->Int->SO):toS (.exc c:R α) k=.exc c:=rfl
@[simp] theorem KI (k:α->Int->SO):toS (.bad:R α) k=.bad:=rfl
end
section
variable (f fa fb fc:VF D)(t u:VF Bool)(m m':SF)(vs:List Nv)(β:Int)(env:En)(i j:Nat)(L:List Nat)
@[simp] theorem GI:gv i vs β=R.of (dat vs[i]?) β:=rfl
@[simp] theorem ye (d:D):dat (some (.da d))=some d:=rfl
@[simp] theorem LP (d:D):cst d vs β=.ok d β:=rfl
@[simp] theorem Mc (g:D->Option D):f1 fa g vs β=(fa vs β).bnd λx β1=>R.of (g x) β1:=rfl
@[simp] theorem L8 (g:D->D->Option D):f2 fa fb g vs β=(fa vs β).bnd λx β1=>(fb vs β1).bnd λy β2=>R.of (g x y) β2:=rfl
@[simp] theorem zb:ah vs β=.ok [] β:=rfl
@[simp] theorem bD (fr:VF (List D)):ae fa fr vs β=(fa vs β).bnd λx β1=>(fr vs β1).bnd λxs β2=>.ok (x :: xs) β2:=rfl
@[simp] theorem tD:mZ fa vs β=(fa vs β).bnd λx β1=>R.of (Ho x) β1:=rfl
@[simp] theorem tZ:uZ t vs β=(t vs β).bnd λc β1=>.ok (!c) β1:=rfl
@[simp] theorem IF:A3 t u vs β=(t vs β).bnd λc β1=>if c=true then u vs β1 else .ok false β1:=rfl
@[simp] theorem tL:mf t u vs β=(t vs β).bnd λc β1=>if c=true then .ok true β1 else u vs β1:=rfl
@[simp] theorem Ku (n:Bool):tN fa n vs β=(fa vs β).bnd λx β1=>.ok (if n then !xX x else xX x) β1:=rfl
@[simp] theorem LM:MC t fa fb vs β=(t vs β).bnd λc β1=>if c=true then fa vs β1 else fb vs β1:=rfl
@[simp] theorem dG (c:Bool){β1:Int}(h:fa vs β=.ok (.bool c) β1):cJ fa vs β=.ok c β1:=by unfold cJ;rw[h];rfl
@[simp] theorem yD:vl []= []:=rfl
@[simp] theorem uk (s:Sl):vl (s :: env)=s.val :: vl env:=rfl
@[simp] theorem yt (d:D):(Sl.fz d).val=.da d:=rfl
@[simp] theorem Ld (d:D):(Sl.ow d).val=.da d:=rfl
@[simp] theorem LZ:Sl.no.val=.no:=rfl
@[simp] theorem LQ:Sl.bx.val=.bx:=rfl
@[simp] theorem KO:bg [] env=env:=rfl
@[simp] theorem J3:bg (i :: L) env=bg L (jE env i):=rfl
@[simp] theorem KR:aH m m' env β=(match m env β with
 | .nx env' β'=>m' env' β'
 |r=>r):=rfl
@[simp] theorem Lj:kA L t m m' env β=toS (t (vl env) β) λc β'=>if c=true then m (bg L env) β' else m' (bg L env) β':=rfl
@[simp] theorem dN:bI f env β=toS (f (vl env) β) λd β'=>.rt d false β':=rfl
@[simp] theorem wD:kJ f env β=toS (f (vl env) β) λd β'=>.rt d true β':=rfl
@[simp] theorem Lu:mj env β=.nx env β:=rfl
@[simp] theorem c6:bc i L f env β=toS (f (vl env) β) λd β'=>.nx ((bg L env).set i (.fz d)) β':=rfl
@[simp] theorem Co:kx i L f env β=toS (f (vl env) β) λd β'=>.nx ((bg L env).set i (.ow d)) β':=rfl
@[simp] theorem J2:rV L f env β=toS (f (vl env) β) λ_ β'=>.nx (bg L env) β':=rfl
end
def aE {m m':SF}{env env':En}{β β':Int}(h:m env β=.nx env' β'):aH m m' env β=m' env' β':=by unfold aH;rw[h]
def fo {m m':SF}{env:En}{β β':Int}{d:D}{b:Bool}(h:m env β=.rt d b β'):aH m m' env β=.rt d b β':=by unfold aH;rw[h]
def gZ {L:List Nat}{t:VF Bool}{m m':SF}{env:En}{β β':Int}(h:t (vl env) β=.ok true β'):kA L t m m' env β=m (bg L env) β':=by unfold kA;rw[h];rfl
def gY {L:List Nat}{t:VF Bool}{m m':SF}{env:En}{β β':Int}(h:t (vl env) β=.ok false β'):kA L t m m' env β=m' (bg L env) β':=by unfold kA;rw[h];rfl
def aI {F:List D->FR}{fr:VF (List D)}{vs:List Nv}{β β1:Int}{ds:List D}{d:D}{b:Bool}(h:fr vs β=.ok ds β1)(e:F ds=.ok d b):aF F fr vs β=.ok d β1:=by unfold aF;rw[h];dsimp only[R.bnd];rw[e]
def CY {F:List D->FR}{fr:VF (List D)}{vs:List Nv}{β β1:Int}{ds:List D}{d:D}(h:fr vs β=.ok ds β1)(e:F ds=.ok d true):wG F fr vs β=.ok d β1:=by unfold wG;rw[h];dsimp only[R.bnd];rw[e]
def bX {fa:VF D}{g:D->Option D}{vs:List Nv}{β β1:Int}{x d:D}(h:fa vs β=.ok x β1)(e:g x=some d):f1 fa g vs β=.ok d β1:=by unfold f1;rw[h];dsimp only[R.bnd];rw[e];rfl
def aA {fa fb:VF D}{g:D->D->Option D}{vs:List Nv}{β β1 β2:Int}{x y d:D}(h:fa vs β=.ok x β1)(h':fb vs β1=.ok y β2)(e:g x y=some d):f2 fa fb g vs β=.ok d β2:=by unfold f2;rw[h];dsimp only[R.bnd];rw[h'];dsimp only[R.bnd];rw[e];rfl
def bY {i:Nat}{F:List D->Int->FB}{fr:VF (List D)}{vs:List Nv}{β β1 β2:Int}{ds:List D}{d:D}{b:Bool}(hi:xR vs i=true)(h:fr vs β=.ok ds β1)(e:F ds β1=.ok d b β2):fU i F fr vs β=.ok d β2:=by unfold fU;rw[MJ hi,h];dsimp only[R.bnd];rw[e]
def sz (n:Nat)(h:n<=1000):n<=sizeLine:=by rw[Ni];omega
def J9 (n:Nat)(h:n<=1000):n < sizeLine:=by rw[Ni];omega
def jd {fr:VF (List D)}{vs:List Nv}{β β1:Int}{ds:List D}(h:fr vs β=.ok ds β1)(hz:ds.length<=1000):aW fr vs β=.ok (.tuple ds) β1:=by unfold aW;rw[h];exact MJ (sz _ hz)
def dO {fr:VF (List D)}{vs:List Nv}{β β1:Int}{ds:List D}(h:fr vs β=.ok ds β1)(hz:ds.length<=1000):ba fr vs β=.ok (.list ds) β1:=by unfold ba;rw[h];exact MJ (sz _ hz)
def Df {i:Nat}{env:En}{β:Int}{g:List D->Option (List D)}{ds es:List D}(h:env[i]? =some (.ow (.list ds)))(e:g ds=some es):HB i env β g=.nx (env.set i (.ow (.list es))) β:=by unfold HB;rw[h];dsimp only;rw[e]
def tY {i:Nat}{L:List Nat}{f:VF D}{env:En}{β β':Int}{ds:List D}{d:D}(hi:env[i]? =some (.ow (.list ds)))(hf:f (vl env) β=.ok d β')(hL:(bg L env)[i]? =some (.ow (.list ds)))(hz:ds.length<=1000):oo i L f env β=.nx ((bg L env).set i (.ow (.list (ds ++ [d])))) β':=by
 unfold oo
 rw[MJ (by rw[hi];rfl),hf]
 exact Df hL (MJ (J9 _ hz))
def yd {i j:Nat}{L:List Nat}{f:VF D}{env:En}{β β':Int}{ds es es':List D}{k d:D}(hi:env[i]? =some (.ow (.list ds)))(hj:env[j]? =some (.ow (.list es)))(hij:i≠j)(hf:f (vl env) β=.ok k β')(hL:bg L env=env)(hp:A5 es k=some (d,es'))(hz:ds.length<=1000):kn i j L f env β=.nx ((env.set j (.ow (.list es'))).set i (.ow (.list (ds ++ [d])))) β':=by
 unfold kn
 rw[MJ ⟨by rw[hi];rfl,by rw[hj];rfl,hij⟩,hf,hL]
 dsimp only[toS]
 rw[hj]
 dsimp only
 rw[hp]
 exact Df (by rw[M1 (Ne.symm hij)];exact hi) (MJ (J9 _ hz))
theorem pV {t:Tg}{ft:VF Bool}{fe:VF D}{vs:List Nv}(g:D->Bool)(h:D->D):∀{ds:List D} {β:Int},(∀d,d∈ds->∃vs1,lO t d vs=some vs1/\ft vs1 β=.ok (g d) β/\(g d=true->fe vs1 β=.ok (h d) β))->fw t ft fe vs ds β=.ok ((ds.filter g).map h) β
 | [],β,_=>rfl
 |d :: ds,β,hh=>by
  obtain⟨vs1,e1,e2,e3⟩:=hh d (MP ..)
  have ih:=pV (t:=t) (ft:=ft) (fe:=fe) (vs:=vs) g h (ds:=ds) (β:=β) λd' hd=>hh d' (MM _ hd)
  unfold fw
  rw[e1]
  dsimp only
  rw[e2]
  dsimp only[R.okb]
  cases q:g d with
  |true=>
   rw[MJ rfl,e3 q]
   dsimp only
   rw[ih,List.filter_cons_of_pos q];rfl
  |false=>
   rw[MO Nb,ih,List.filter_cons_of_neg (by rw[q];exact Nb)]
def xK {own:Nat}{ixs:List Nat}{t:Tg}{fi:VF (List D)}{ft:VF Bool}{fe:VF D}{vs:List Nv}{β β1:Int}{ds:List D}(g:D->Bool)(h:D->D)(hi:fi vs β=.ok ds β1)(hz:ds.length<=1000)
  (hh:∀d,d∈ds->∃vs1,lO t d (fM own ixs vs)=some vs1/\ft vs1 β1=.ok (g d) β1/\(g d=true->fe vs1 β1=.ok (h d) β1)):aM own ixs t fi ft fe vs β=.ok (.list ((ds.filter g).map h)) β1:=by
 unfold aM
 rw[hi]
 dsimp only[R.bnd]
 rw[MJ (sz _ hz),pV g h hh];rfl
def lL {own:Nat}{ixs:List Nat}{t:Tg}{fi:VF (List D)}{fe:VF D}{vs:List Nv}{β β1:Int}{ds:List D}(h:D->D)(hi:fi vs β=.ok ds β1)(hz:ds.length<=1000)
  (hh:∀d,d∈ds->∃vs1,lO t d (fM own ixs vs)=some vs1/\fe vs1 β1=.ok (h d) β1):aM own ixs t fi kG fe vs β=.ok (.list (ds.map h)) β1:=by
 rw[xK (ft:=kG) (λ_=>true) h hi hz λd hd=>let ⟨vs1,e1,e2⟩:=hh d hd;⟨vs1,e1,rfl,λ_=>e2⟩]
 rw[List.filter_eq_self.mpr (λ_ _=>rfl)]
def cy {α:Type}{own:Nat}{ixs:List Nat}{t:Tg}{fi:VF (List D)}{fe:VF D}{vs:List Nv}{β β1:Int}{l:List α}{e:α->D}(h:α->D)(hi:fi vs β=.ok (l.map e) β1)(hz:l.length<=1000)
  (hh:∀x,x∈l->∃vs1,lO t (e x) (fM own ixs vs)=some vs1/\fe vs1 β1=.ok (h x) β1):aM own ixs t fi kG fe vs β=.ok (.list (l.map h)) β1:=by
 unfold aM
 rw[hi]
 dsimp only[R.bnd]
 rw[MJ (sz _ (by rw[ML];exact hz))]
 have key:∀m:List α,(∀x,x∈m->x∈l)->fw t kG fe (fM own ixs vs) (m.map e) β1=.ok (m.map h) β1:=by
  intro m
  induction m with
  |nil=>intro _;rfl
  |cons x m ih=>
   intro hm
   obtain⟨vs1,e1,e2⟩:=hh x (hm x (MP ..))
   rw[Ng]
   unfold fw
   rw[e1]
   dsimp only
   show (R.ok true β1).okb _=_
   dsimp only[R.okb]
   rw[MJ rfl,e2]
   dsimp only
   rw[ih λy hy=>hm y (MM _ hy)];rfl
 rw[key l λ_ h=>h];rfl
def dS {α:Type}{own:Nat}{ixs:List Nat}{t:Tg}{fi:VF (List D)}{ft:VF Bool}{fe:VF D}{vs:List Nv}{β β1:Int}{l:List α}{e:α->D}(g:α->Bool)(h:α->D)(hi:fi vs β=.ok (l.map e) β1)(hz:l.length<=1000)
  (hh:∀x,x∈l->∃vs1,lO t (e x) (fM own ixs vs)=some vs1/\ft vs1 β1=.ok (g x) β1/\(g x=true->fe vs1 β1=.ok (h x) β1)):aM own ixs t fi ft fe vs β=.ok (.list ((l.filter g).map h)) β1:=by
 unfold aM
 rw[hi]
 dsimp only[R.bnd]
 rw[MJ (sz _ (by rw[ML];exact hz))]
 have key:∀m:List α,(∀x,x∈m->x∈l)->fw t ft fe (fM own ixs vs) (m.map e) β1=.ok ((m.filter g).map h) β1:=by
  intro m
  induction m with
  |nil=>intro _;rfl
  |cons x m ih=>
   intro hm
   obtain⟨vs1,e1,e2,e3⟩:=hh x (hm x (MP ..))
   have ih:=ih λy hy=>hm y (MM _ hy)
   rw[Ng]
   unfold fw
   rw[e1]
   dsimp only
   rw[e2]
   dsimp only[R.okb]
   cases q:g x with
   |true=>
    rw[MJ rfl,e3 q]
    dsimp only
    rw[ih,List.filter_cons_of_pos q];rfl
   |false=>
    rw[MO Nb,ih,List.filter_cons_of_neg (by rw[q];exact Nb)]
 rw[key l λ_ h=>h];rfl
theorem dJ {t:Tg}{m:SF}(Pv:Nat->En->Int->Prop):∀{ds:List D} {k:Nat} {env:En} {β:Int},Pv k env β->
  (∀i d env β,ds[i]? =some d->Pv (k + i) env β->∃env1,fO t d env=some env1/\∃env2 β2,m env1 β=.nx env2 β2/\Pv (k + i + 1) env2 β2)->∃env' β',uE t m ds env β=.nx env' β'/\Pv (k + ds.length) env' β'
 | [],k,env,β,h0,_=>⟨env,β,rfl,h0⟩
 |d :: ds,k,env,β,h0,hs=>by
  obtain⟨env1,e1,env2,β2,e2,h1⟩:=hs 0 d env β rfl h0
  obtain⟨env',β',e3,h2⟩:=dJ Pv (t:=t) (m:=m) (ds:=ds) (k:=k + 1) h1 λi d' en be hi hp=>by
   have:=hs (i + 1) d' en be (by simpa using hi) (by rw[show k + (i + 1)=k + 1 + i by omega];exact hp)
   rw[show k + (i + 1) + 1=k + 1 + i + 1 by omega] at this
   exact this
  refine⟨env',β',?_,by rw[Na,show k + (ds.length + 1)=k + 1 + ds.length by omega];exact h2⟩
  unfold uE
  rw[e1]
  dsimp only
  rw[e2]
  exact e3
theorem j9 {L:List Nat}{t:VF Bool}{m:SF}(Pv:Nat->En->Int->Prop)(Dn:En->Int->Prop):∀{n k:Nat} {env:En} {β:Int},k < n->Pv k env β->
  (∀k env β,Pv k env β->∃c β1,t (vl env) β=.ok c β1/\((c=false/\Dn (bg L env) β1)\/(c=true/\∃env2 β2 k',m (bg L env) β1=.nx env2 β2/\k' < k/\Pv k' env2 β2)))->∃env' β',gV L t m n env β=.nx env' β'/\Dn env' β'
 | 0,k,env,β,hk,_,_=>by omega
 |n + 1,k,env,β,hk,h0,hs=>by
  obtain⟨c,β1,e1,hc⟩:=hs k env β h0
  unfold gV
  rw[e1]
  dsimp only[toS]
  rcases hc with⟨rfl,hd⟩ | ⟨rfl,env2,β2,k',e2,hl,h1⟩
  ·exact⟨_,_,rfl,hd⟩
  ·rw[MJ rfl,e2]
   exact j9 Pv Dn (n:=n) (k:=k') (by omega) h1 hs
end L2
namespace RM
open PySem L2
def qB:SF:=(bI (dA (f1 (gv 0) (gO "int")) (f1 (f1 (gv 0) (gO "bool")) rm)))
def p6 (bZ:List D->FR):SF:=(bI (dA (aF bZ (ae (gv 0) ah)) (jV (cst (.int 0)) (gv 0) (gv 1) Cf Ek)))
def sJ (bZ:List D->FR):SF:=(bI (dA (aF bZ (ae (gv 0) ah)) (jV (cst (.int 1)) (gv 0) (cst (.int 8)) Cf Cf)))
def jD (dX:List D->FR):SF:=(aH (kA ([] ++ ([] ++ [])) (mf (uZ (mZ (f1 (gv 0) (gO "tuple")))) (cJ (f2 (f1 (gv 0) dB) (cst (.int 2)) (cO true))))
 (bI (cst (.bool false)))
 mj)
 (bI (dA (aF dX (ae (f2 (gv 0) (cst (.int 0)) bN) (ae (gv 1) ah))) (aF dX (ae (f2 (gv 0) (cst (.int 1)) bN) (ae (gv 1) ah))))))
def hU:SF:=(kJ (aM 1 [0] (.nm 0) (bJ (f2 (gv 0) (gv 0) cK)) kG (aW (ae (f2 (gv 0) (gv 1) Bw) (ae (f2 (gv 0) (gv 1) mC) ah)))))
def qQ:SF:=(bI (f1 (aM 2 [] (.two 0 1) (bQ (gv 0)) kG (f2 (gv 0) (gv 1) (cO false))) (dc λbs=>bs.any id)))
def iF (iz cg jG fR:List D->FR):SF:=(aH (kA ([] ++ ([] ++ [])) (mf (uZ (mZ (f1 (gv 0) (gO "tuple")))) (cJ (f2 (f1 (gv 0) dB) (cst (.int 2)) (cO true))))
 (bI (cst (.bool false)))
 mj)
 (aH (bc 1 ([] ++ []) (f2 (gv 0) (cst (.int 0)) bN))
 (aH (bc 2 ([] ++ []) (f2 (gv 0) (cst (.int 1)) bN))
 (aH (kA (([1] ++ []) ++ []) (mf (uZ (mZ (aF iz (ae (gv 1) ah)))) (uZ (mZ (f1 (gv 2) (gO "tuple")))))
 (bI (cst (.bool false)))
 mj)
 (aH (kA ([] ++ [1]) (uZ (mZ (f1 (aM 1 [1] (.nm 0) (bQ (gv 2)) kG (aF cg (ae (gv 0) (ae (gv 1) ah)))) (dc λbs=>bs.all id))))
 (bI (cst (.bool false)))
 mj)
 (bI (dA (f2 (gv 2) (aF jG (ae (gv 1) (ae (gv 2) ah))) (cO false)) (f1 (aF fR (ae (gv 2) ah)) rm))))))))
def ig (fQ:List D->FR):SF:=(kA ([0] ++ []) (uZ (mZ (aF fQ (ae (gv 0) ah))))
 (λenv β=>toS ((ae (cst (.str "this is no order")) ah) (vl env) β) λds _=>if ds.length<=sizeLine then .exc "NoOrder" else .bad)
 mj)
def oC:SF:=(bI (dA (f2 (gv 1) (gv 2) (cO true)) (dA (f2 (aW (ae (gv 1) (ae (gv 2) ah))) (f2 (gv 0) (cst (.int 1)) bN) (xf true)) (f2 (aW (ae (gv 2) (ae (gv 1) ah))) (f2 (gv 0) (cst (.int 1)) bN) (xf true)))))
def gL:SF:=(aH (kA ([] ++ []) (cJ (f2 (gv 1) (f1 (gv 0) dB) Ek))
 (bI (f2 (gv 0) (gv 1) bN))
 mj)
 (bI (cst (.int 0))))
def j5:SF:=(aH (bc 2 [] (ba (Me [48271,69621,16807,39373,30269,40014,40692,50021,61687,71993,83869,95561,30307]))) (aH (bc 3 ((((([] ++ []) ++ []) ++ ([] ++ ([] ++ []))) ++ ([] ++ [])) ++ ([] ++ ([] ++ []))) (f2 (f2 (f2 (f2 (f2 (gv 0) (cst (.int 2147483647)) mC) (cst (.int 12345)) bM) (f2 (gv 2) (f2 (gv 1) (cst (.int 13)) mC) bN) cK) (f2 (cst (.int 977)) (gv 1) cK) bM) (f2 (cst (.int 7919)) (f2 (gv 1) (cst (.int 13)) Bw) cK) bM))
 (aH (bc 3 ([] ++ []) (f2 (gv 3) (cst (.int 1000000007)) mC))
 (bI (f2 (f2 (f2 (f2 (gv 3) (gv 3) cK) (f2 (cst (.int 48271)) (gv 1) cK) bM) (cst (.int 1000000007)) mC) (cst (.int 7)) Bw)))))
def j3 (eR fT:List D->FR):SF:=(aH (bc 2 ([0] ++ ([1] ++ [])) (aF eR (ae (gv 0) (ae (gv 1) ah))))
 (aH (kA (([] ++ []) ++ []) (cJ (f2 (f2 (gv 2) (cst (.int 2)) mC) (cst (.int 0)) (cO false)))
 (kJ (ba (ae (f2 (f1 (gv 2) Fc) (cst (.int 2)) Bw) ah)))
 mj)
 (aH (bc 3 [] (cst (.int 0)))
 (aH (eN (.nm 4) [] (bJ (cst (.int 40)))
 (bc 3 (([] ++ []) ++ ([2] ++ ([4] ++ []))) (f2 (f2 (gv 3) (cst (.int 142857143)) cK) (aF fT (ae (gv 2) (ae (gv 4) ah))) bM)))
 (kJ (ba (ae (gv 3) ah)))))))
def dQ (ar:List D->Int->FB):SF:=(aH (kx 2 [] (f1 (gv 1) Gw))
 (aH (kx 3 [] (ba ah))
 (aH (gV ([] ++ []) (cJ (f2 (gv 2) (ba ah) (cO true)))
 (kn 3 2 ([] ++ []) (fU 0 ar (ae (f1 (gv 2) dB) ah))) 1000)
 (vG 3))))
noncomputable def gA:SF:=(aH (bc 1 [] (f1 (gv 0) cR))
 (aH (bc 2 [] (f1 (cst (.int 1)) xJ))
 (aH (gV ([] ++ []) (cJ (f2 (gv 2) (f1 (gv 1) dB) (cO true)))
 (aH (bc 2 [] (f1 (gv 1) dB))
 (aH (bc 3 [] (ba ah))
 (aH (eN (.two 4 5) [1] (bQ (gv 1))
 (bc 3 ([] ++ ([] ++ [4])) (f2 (gv 3) (aM 2 [5,4] (.two 0 1) (bQ (gv 1)) (cJ (f2 (gv 0) (gv 2) (cO false))) (aW (ae (gv 3) (ae (gv 1) ah)))) eY)))
 (bc 1 ([] ++ []) (f1 (f2 (gv 1) (gv 3) eY) cR))))) 1000)
 (bI (f1 (gv 1) gS)))))
def h9 (cT:List D->FR)(ar aK:List D->Int->FB):SF:=(aH (bc 2 ([] ++ ([1] ++ [])) (f2 (cst (.int 1)) (fU 0 ar (ae (gv 1) ah)) bM))
 (aH (bc 3 ([] ++ []) (fU 0 aK (ae (f1 (gv 2) cu) ah)))
 (aH (bc 4 (([] ++ ([] ++ ([] ++ ([] ++ [])))) ++ ([] ++ [])) (f2 (ba (ae (cst (.int 2)) (ae (cst (.int 3)) (ae (cst (.int 4)) (ae (cst (.int 7)) ah))))) (fU 0 ar (ae (cst (.int 4)) ah)) bN))
 (aH (kx 5 [] (ba ah))
 (aH (eN (.nm 6) [] (bJ (gv 2))
 (eN (.nm 7) (([] ++ []) ++ []) (m6 (f2 (gv 6) (cst (.int 1)) bM) (gv 2))
 (kA (([4] ++ []) ++ []) (cJ (f2 (fU 0 ar (ae (gv 4) ah)) (cst (.int 0)) (cO false)))
 (oo 5 (([] ++ []) ++ (([] ++ []) ++ [])) (aW (ae (f2 (gv 3) (gv 6) bN) (ae (f2 (gv 3) (gv 7) bN) ah))))
 mj)))
 (bI (aW (ae (gv 2) (ae (aF cT (ae (gv 5) ah)) ah)))))))))
def mQ:SF:=(bI (dA (f2 (gv 1) (gv 2) (cO true)) (dA (f2 (aW (ae (gv 1) (ae (gv 2) ah))) (f2 (gv 0) (cst (.int 1)) bN) (xf true)) (f2 (aW (ae (gv 2) (ae (gv 1) ah))) (f2 (gv 0) (cst (.int 1)) bN) (xf true)))))
def ph (bA cM bK:List D->FR):SF:=(aH (rV ([0] ++ []) (aF bA (ae (gv 0) ah)))
 (kJ (aM 2 [0] (.two 0 1) (bQ (aF cM (ae (f2 (gv 0) (cst (.int 0)) bN) ah))) (mZ (aF bK (ae (gv 2) (ae (gv 0) (ae (gv 1) ah))))) (aW (ae (gv 0) (ae (gv 1) ah))))))
def oV:D->Bool
 | .int _=>true
 |_=>false
def lb:List D->FR
 | [d]=>if cP d=true then .bad else .ok (.bool (oV d)) false
 |_=>.bad
def mL {d:D}(h:cP d=false):lb [d]=.ok (.bool (oV d)) false:=MO (by rw[h];exact Nb)
def zS (ds:List D)(h:lb ds≠.bad):bq 1 1 qB ds=lb ds:=by
 unfold lb at h
 split at h
 ·rename_i d
  cases q:cP d with
  |true=>rw[q] at h;exact absurd rfl h
  |false=>
   rw[mL q]
   have e1:gO "int" d=some (.bool (DG d "int")):=by unfold gO;rw[q];rfl
   have e2:gO "bool" d=some (.bool (DG d "bool")):=by unfold gO;rw[q];rfl
   show fin (bI (dA (f1 (gv 0) (gO "int")) (f1 (f1 (gv 0) (gO "bool")) rm)) [.fz d] 0)=_
   unfold bI dA f1 gv
   simp only[uk,yD,yt,List.getElem?_cons_zero,ye,uH,l5,e1,e2]
   cases d <;> rfl
 ·exact absurd rfl h
def kX (d:D)(n:Int):Bool:=match d with
 | .int i=>decide (0<=i/\i < n)
 |_=>false
def gj:List D->FR
 | [d,.int n]=>if cP d=true then .bad else .ok (.bool (kX d n)) false
 |_=>.bad
def sW {d:D}{n:Int}(h:cP d=false):gj [d,.int n]=.ok (.bool (kX d n)) false:=MO (by rw[h];exact Nb)
def vk {i lo n:Int}{vs:List Nv}{β:Int}{fa fb fc:VF D}{g':D->D->Option D}{q:Bool}(ha:fa vs β=.ok (.int lo) β)(hb:fb vs β=.ok (.int i) β)(hc:fc vs β=.ok (.int n) β)(hq:g' (.int i) (.int n)=some (.bool q)):jV fa fb fc Cf g' vs β=.ok (.bool (decide (lo<=i) && q)) β:=by
 unfold jV
 rw[ha];dsimp only[R.bnd];rw[hb];dsimp only[R.bnd]
 show (match (some (PyData.bool (decide (lo<=i))):Option D) with
  |some (.bool true)=>_
  |some (.bool false)=>_
  |_=>_)=_
 by_cases h:lo<=i
 ·rw[MR h]
  dsimp only
  rw[hc]
  dsimp only[R.bnd]
  rw[hq];rfl
 ·rw[MW h];rfl
def EA (ds:List D)(h:gj ds≠.bad):bq 2 2 (p6 lb) ds=gj ds:=by
 unfold gj at h
 split at h
 ·rename_i d n
  cases q:cP d with
  |true=>rw[q] at h;exact absurd rfl h
  |false=>
   rw[sW q]
   show fin (bI (dA (aF lb (ae (gv 0) ah)) (jV (cst (.int 0)) (gv 0) (gv 1) Cf Ek)) [.fz d,.fz (.int n)] 0)=_
   unfold bI dA aF
   simp only[uk,yD,yt,bD,zb,GI,List.getElem?_cons_zero,ye,uH,l5,mL q]
   cases d with
   |int i=>
    show fin (toS (jV (cst (.int 0)) (gv 0) (gv 1) Cf Ek [.da (.int i),.da (.int n)] 0) _)=_
    rw[vk (lo:=0) (i:=i) (n:=n) rfl rfl rfl rfl]
    show FR.ok (.bool (decide (0<=i) && decide (i < n))) false=.ok (.bool (decide (0<=i/\i < n))) false
    rw[Bool.decide_and]
   |_=>rfl
 ·exact absurd rfl h
def Gv (d:D):Bool:=match d with
 | .int i=>decide (1<=i/\i<=8)
 |_=>false
def lU:List D->FR
 | [d]=>if cP d=true then .bad else .ok (.bool (Gv d)) false
 |_=>.bad
def B9 {d:D}(h:cP d=false):lU [d]=.ok (.bool (Gv d)) false:=MO (by rw[h];exact Nb)
def IZ (ds:List D)(h:lU ds≠.bad):bq 1 1 (sJ lb) ds=lU ds:=by
 unfold lU at h
 split at h
 ·rename_i d
  cases q:cP d with
  |true=>rw[q] at h;exact absurd rfl h
  |false=>
   rw[B9 q]
   show fin (bI (dA (aF lb (ae (gv 0) ah)) (jV (cst (.int 1)) (gv 0) (cst (.int 8)) Cf Cf)) [.fz d] 0)=_
   unfold bI dA aF
   simp only[uk,yD,yt,bD,zb,GI,List.getElem?_cons_zero,ye,uH,l5,mL q]
   cases d with
   |int i=>
    show fin (toS (jV (cst (.int 1)) (gv 0) (cst (.int 8)) Cf Cf [.da (.int i)] 0) _)=_
    rw[vk (lo:=1) (i:=i) (n:=8) rfl rfl rfl rfl]
    show FR.ok (.bool (decide (1<=i) && decide (i<=8))) false=.ok (.bool (decide (1<=i/\i<=8))) false
    rw[Bool.decide_and]
   |_=>rfl
 ·exact absurd rfl h
def pairF:List D->FR
 | [d,.int n]=>(match qU d with
  |some p=>.ok (.bool (decide ((0<=p.1/\p.1 < n)/\(0<=p.2/\p.2 < n)))) false
  |none=>.bad)
 |_=>.bad
def DS (p:Pr)(n:Int):pairF [ao p,.int n]=.ok (.bool (decide ((0<=p.1/\p.1 < n)/\(0<=p.2/\p.2 < n)))) false:=rfl
def Hy (ds:List D)(h:pairF ds≠.bad):bq 2 2 (jD gj) ds=pairF ds:=by
 unfold pairF at h
 split at h
 ·rename_i d n
  cases q:qU d with
  |none=>rw[q] at h;exact absurd rfl h
  |some p=>
   obtain rfl:=vA q
   rw[DS]
   obtain⟨a,b⟩:=p
   show fin (toS (dA (aF gj (ae (f2 (gv 0) (cst (.int 0)) bN) (ae (gv 1) ah))) (aF gj (ae (f2 (gv 0) (cst (.int 1)) bN) (ae (gv 1) ah))) [.da (.tuple [.int a,.int b]),.da (.int n)] 0) λd β'=>.rt d false β')=_
   have e1:aF gj (ae (f2 (gv 0) (cst (.int 0)) bN) (ae (gv 1) ah)) [.da (.tuple [.int a,.int b]),.da (.int n)] 0=.ok (.bool (decide (0<=a/\a < n))) 0:=rfl
   have e2:aF gj (ae (f2 (gv 0) (cst (.int 1)) bN) (ae (gv 1) ah)) [.da (.tuple [.int a,.int b]),.da (.int n)] 0=.ok (.bool (decide (0<=b/\b < n))) 0:=rfl
   unfold dA
   rw[e1]
   dsimp only[R.bnd]
   by_cases c:0<=a/\a < n
   ·rw[MR c,e2]
    show FR.ok (.bool (decide (0<=b/\b < n))) false=.ok (.bool (decide ((0<=a/\a < n)/\(0<=b/\b < n)))) false
    simp[c]
   ·rw[MW c]
    show FR.ok (.bool false) false=.ok (.bool (decide ((0<=a/\a < n)/\(0<=b/\b < n)))) false
    simp[c]
 ·exact absurd rfl h
def aC (n:Nat)(l:List Pr):D:=.tuple [.int n,.tuple (l.map ao)]
open Classical in
noncomputable def sO (f:Nat->List Pr->FR):D->FR:=λd=>if h:∃nl:Nat×List Pr,d=aC nl.1 nl.2/\OM.Ord nl.1 nl.2 then f (Classical.choose h).1 (Classical.choose h).2 else .bad
def tQ {p q:Pr}(h:ao p=ao q):p=q:=by
 obtain⟨a,b⟩:=p
 obtain⟨c,d⟩:=q
 unfold ao at h
 simp at h
 rw[h.1,h.2]
theorem oI:∀{l m:List Pr},l.map ao=m.map ao->l=m
 | [],[],_=>rfl
 | [],_ :: _,h=>by cases h
 |_ :: _,[],h=>by cases h
 |p :: l,q :: m,h=>by
  simp only[Ng,List.cons.injEq] at h
  rw[tQ h.1,oI h.2]
def BU {n m:Nat}{l k:List Pr}(h:aC n l=aC m k):n=m/\l=k:=by
 unfold aC at h
 simp only[PyData.tuple.injEq,List.cons.injEq,int.injEq,and_true] at h
 exact⟨by omega,oI h.2⟩
def v7 {f:Nat->List Pr->FR}{n:Nat}{l:List Pr}(O:OM.Ord n l):sO f (aC n l)=f n l:=by
 unfold sO
 have h:∃nl:Nat×List Pr,aC n l=aC nl.1 nl.2/\OM.Ord nl.1 nl.2:=⟨(n,l),rfl,O⟩
 rw[dif_pos h]
 obtain⟨e,_⟩:=Classical.choose_spec h
 obtain⟨e1,e2⟩:=BU e
 rw[<-e1,<-e2]
def wt {f:Nat->List Pr->FR}{d:D}(h:sO f d≠.bad):∃n l,d=aC n l/\OM.Ord n l:=by
 unfold sO at h
 by_cases q:∃nl:Nat×List Pr,d=aC nl.1 nl.2/\OM.Ord nl.1 nl.2
 ·obtain⟨nl,e,O⟩:=q;exact⟨nl.1,nl.2,e,O⟩
 ·rw[dif_neg q] at h;exact absurd rfl h
noncomputable def dw:List D->FR
 | [.int n,d]=>(match mM d with
  |some ds=>(match gn ds with
   |some ps=>(open Classical in if 1<=n/\n<=8/\OM.Wn n.toNat ps then .ok (.tuple ((OM.bR n.toNat (OM.Tr (OM.Mem ps))).map ao)) false else .bad)
   |none=>.bad)
  |none=>.bad)
 |_=>.bad
def BM {n:Nat}{ps:List Pr}(h1:1<=n)(h8:n<=8)(w:OM.Wn n ps):dw [.int n,.tuple (ps.map ao)]=.ok (.tuple ((OM.bR n (OM.Tr (OM.Mem ps))).map ao)) false:=by
 unfold dw
 simp only[mM,dU]
 rw[MJ ⟨by omega,by omega,by rw[NJ];exact w⟩,NJ]
def kr:List D->FR
 | [.tuple ds]=>(match gn ds with
  |some ps=>if ps.length<=1000 then .ok (.bool (ps.any λp=>decide (p.1=p.2))) false else .bad
  |none=>.bad)
 |_=>.bad
theorem jz {α:Type}(f:α->Bool):∀l:List α,lh (l.map λx=>PyData.bool (f x))=some (l.map f)
 | []=>rfl
 |x :: l=>by
  show (lh (l.map λx=>PyData.bool (f x))).map (f x :: ·)=_
  rw[jz f l];rfl
def He (ds:List D)(h:kr ds≠.bad):bq 1 1 qQ ds=kr ds:=by
 unfold kr at h
 split at h
 ·rename_i ds
  cases q:gn ds with
  |none=>rw[q] at h;exact absurd rfl h
  |some ps=>
   rw[q] at h
   dsimp only at h
   by_cases hz:ps.length<=1000
   case neg=>rw[MO hz] at h;exact absurd rfl h
   obtain rfl:=jL q
   have e:kr [.tuple (ps.map ao)]=.ok (.bool (ps.any λp=>decide (p.1=p.2))) false:=by
    unfold kr;simp only[dU];rw[MJ hz]
   rw[e]
   have ec:aM 2 [] (.two 0 1) (bQ (gv 0)) kG (f2 (gv 0) (gv 1) (cO false)) [.da (.tuple (ps.map ao))] 0=.ok (.list (ps.map λp=>PyData.bool (decide (p.1=p.2)))) 0:=by
    exact cy (l:=ps) (e:=ao) (λp=>PyData.bool (decide (p.1=p.2))) rfl hz λp hp=>⟨_,rfl,rfl⟩
   show fin (toS ((aM 2 [] (.two 0 1) (bQ (gv 0)) kG (f2 (gv 0) (gv 1) (cO false)) [.da (.tuple (ps.map ao))] 0).bnd λx β1=>R.of (dc (λbs=>bs.any id) x) β1) λd β'=>.rt d false β')=_
   rw[ec]
   simp only[l5,dc]
   rw[jz]
   simp[fin,List.any_map]
 ·exact absurd rfl h
def jK (p:Pr):SeqAt.shaped (ao p)=true:=rfl
theorem uv:∀l:List Pr,PyData.canLayAll0 (l.map ao)=true
 | []=>rfl
 |p :: l=>by
  show ((ao p).canLay0 && PyData.canLayAll0 (l.map ao))=true
  rw[uv l];rfl
theorem tP:∀l:List Pr,PyData.depthAll (l.map ao)<=1
 | []=>by show (0:Nat)<=1;omega
 |p :: l=>by
  show max (ao p).depth (PyData.depthAll (l.map ao))<=1
  have h1:(ao p).depth=1:=by simp[ao,PyData.depth,PyData.depthAll]
  have h2:=tP l
  omega
def qc (l:List Pr):SeqAt.shaped (.tuple (l.map ao))=true:=by
 unfold SeqAt.shaped
 have h1:(PyData.tuple (l.map ao)).canLay0=true:=by simp only[PyData.canLay0];exact uv l
 have h2:(PyData.tuple (l.map ao)).depth<=64:=by simp only[PyData.depth];have:=tP l;omega
 rw[h1,MR h2];rfl
def qY (l:List Pr):SeqAt.shaped (.list (l.map ao))=true:=by
 unfold SeqAt.shaped
 have h1:(PyData.list (l.map ao)).canLay0=true:=by simp only[PyData.canLay0];exact uv l
 have h2:(PyData.list (l.map ao)).depth<=64:=by simp only[PyData.depth];have:=tP l;omega
 rw[h1,MR h2];rfl
def xU (p q:Pr):PyData.eqv (ao p) (ao q)=decide (p=q):=by
 obtain⟨a,b⟩:=p
 obtain⟨c,d⟩:=q
 simp only[ao,PyData.eqv,PyData.eqvAll,Bool.and_true]
 rw[ND]
 simp
theorem tJ:∀l m:List Pr,PyData.eqvAll (l.map ao) (m.map ao)=decide (l=m)
 | [],[]=>rfl
 | [],_ :: _=>rfl
 |_ :: _,[]=>rfl
 |p :: l,q :: m=>by
  show (PyData.eqv (ao p) (ao q) && PyData.eqvAll (l.map ao) (m.map ao))=_
  rw[xU,tJ l m,ND]
  simp
def zv {n:Nat}{l:List Pr}(O:OM.Ord n l):l.length < 64:=by
 have h8:=O.hi
 have e:=O.closed
 by_cases h:l.length < 64
 ·exact h
 ·exfalso
  have h1:l.length<=n * n:=by rw[<-e];exact OM.Cz _ _
  have h2:n * n<=64:=N4 h8 h8
  have hn:n=8:=by
   by_cases h7:n<=7
   ·have:n * n<=7 * 7:=N4 h7 h7
    omega
   ·omega
  have hlen:l.length=n * n:=by subst hn;omega
  have hg:l=OM.cq n:=by
   refine OM.sub_eq O.ris (OM.gF n) (λx hx=>OM.bC.mpr (O.wn x hx)) ?_
   rw[hlen];unfold OM.cq;simp
  have:((0:Int),(0:Int))∈l:=by rw[hg];exact OM.bC.mpr ⟨⟨by omega,by omega⟩,by omega,by omega⟩
  exact O.irr 0 this
def C8 {n:Nat}(h1:1<=n)(h8:n<=8):lU [.int n]=.ok (.bool true) false:=by
 rw[B9 rfl]
 show FR.ok (.bool (decide (1<=(n:Int)/\(n:Int)<=8))) false=_
 rw[MR (by omega)]
def Dh (neg:Bool)(l m:List Pr):cO neg (.tuple (l.map ao)) (.tuple (m.map ao))=some (.bool (if neg then !decide (l=m) else decide (l=m))):=by
 unfold cO
 rw[qc,qc]
 simp only[OC,NN,PyData.eqv,tJ]
def u5 (neg:Bool)(l m:List Pr):cO neg (.list (l.map ao)) (.list (m.map ao))=some (.bool (if neg then !decide (l=m) else decide (l=m))):=by
 unfold cO
 rw[qY,qY]
 simp only[OC,NN,PyData.eqv,tJ]
def FG {n:Nat}{l:List Pr}(O:OM.Ord n l):kr [.tuple (l.map ao)]=.ok (.bool false) false:=by
 have hl:=zv O
 unfold kr
 simp only[dU]
 rw[MJ (by omega)]
 have:(l.any λp=>decide (p.1=p.2))=false:=by
  rw[List.any_eq_false]
  intro p hp
  simp only[M4]
  intro e
  obtain⟨a,b⟩:=p
  simp only at e
  subst e
  exact O.irr a hp
 rw[this]
def Bm {n:Nat}{l:List Pr}(O:OM.Ord n l):bq 3 1 (iF lU pairF dw kr) [aC n l]=.ok (.bool true) false:=by
 have hl:=zv O
 show fin (iF lU pairF dw kr [.fz (aC n l),.no,.no] 0)=_
 unfold iF
 rw[aE (env':=[.fz (aC n l),.no,.no]) (β':=0) (by rfl)]
 rw[aE (env':=[.fz (aC n l),.fz (.int n),.no]) (β':=0) (by rfl)]
 rw[aE (env':=[.fz (aC n l),.fz (.int n),.fz (.tuple (l.map ao))]) (β':=0) (by rfl)]
 have e4:aF lU (ae (gv 1) ah) [.da (aC n l),.da (.int n),.da (.tuple (l.map ao))] 0=.ok (.bool true) 0:=aI rfl (C8 O.lo O.hi)
 rw[aE (env':=[.fz (aC n l),.fz (.int n),.fz (.tuple (l.map ao))]) (β':=0) ?h4]
 case h4=>
  refine gY ?_
  show mf (uZ (mZ (aF lU (ae (gv 1) ah)))) _ [.da (aC n l),.da (.int n),.da (.tuple (l.map ao))] 0=_
  rw[tL,tZ,tD,e4]
  rfl
 have e5:aM 1 [1] (.nm 0) (bQ (gv 2)) kG (aF pairF (ae (gv 0) (ae (gv 1) ah))) [.da (aC n l),.da (.int n),.da (.tuple (l.map ao))] 0=.ok (.list (l.map λ_=>PyData.bool true)) 0:=by
  refine cy (l:=l) (e:=ao) (λ_=>PyData.bool true) rfl (by omega) λp hp=>⟨_,rfl,?_⟩
  refine aI (b:=false) (ds:=[ao p,.int n]) rfl ?_
  rw[DS,MR (by have:=O.wn p hp;exact this)]
 rw[aE (env':=[.fz (aC n l),.fz (.int n),.fz (.tuple (l.map ao))]) (β':=0) ?h5]
 case h5=>
  refine gY ?_
  show uZ (mZ (f1 (aM 1 [1] (.nm 0) (bQ (gv 2)) kG (aF pairF (ae (gv 0) (ae (gv 1) ah)))) (dc λbs=>bs.all id))) [.da (aC n l),.da (.int n),.da (.tuple (l.map ao))] 0=_
  rw[tZ,tD,bX (d:=.bool true) e5 (by simp only[dc];rw[jz];simp)]
  rfl
 have e6:aF dw (ae (gv 1) (ae (gv 2) ah)) [.da (aC n l),.da (.int n),.da (.tuple (l.map ao))] 0=.ok (.tuple (l.map ao)) 0:=aI rfl (by rw[BM O.lo O.hi O.wn,O.closed])
 have e7:aF kr (ae (gv 2) ah) [.da (aC n l),.da (.int n),.da (.tuple (l.map ao))] 0=.ok (.bool false) 0:=aI rfl (FG O)
 show fin (toS (dA (f2 (gv 2) (aF dw (ae (gv 1) (ae (gv 2) ah))) (cO false)) (f1 (aF kr (ae (gv 2) ah)) rm) [.da (aC n l),.da (.int n),.da (.tuple (l.map ao))] 0) _)=_
 unfold dA
 rw[aA (d:=.bool true) (x:=.tuple (l.map ao)) rfl e6 (by rw[Dh];simp)]
 dsimp only[R.bnd]
 rw[bX (d:=.bool true) e7 rfl]
 rfl
noncomputable def fK:List D->FR
 | [d]=>sO (λ_ _=>.ok (.bool true) false) d
 |_=>.bad
def sM {n:Nat}{l:List Pr}(O:OM.Ord n l):fK [aC n l]=.ok (.bool true) false:=by simp only[fK];exact v7 O
def xB (ds:List D)(h:fK ds≠.bad):bq 3 1 (iF lU pairF dw kr) ds=fK ds:=by
 unfold fK at h
 split at h
 ·obtain⟨n,l,rfl,O⟩:=wt h
  rw[Bm O,sM O]
 ·exact absurd rfl h
noncomputable def kW:List D->FR
 | [d]=>sO (λ_ _=>.ok .none false) d
 |_=>.bad
def uz {n:Nat}{l:List Pr}(O:OM.Ord n l):kW [aC n l]=.ok .none false:=by simp only[kW];exact v7 O
def Fh (ds:List D)(h:kW ds≠.bad):bq 1 1 (ig fK) ds=kW ds:=by
 unfold kW at h
 split at h
 ·obtain⟨n,l,rfl,O⟩:=wt h
  rw[uz O]
  have e:aF fK (ae (gv 0) ah) [.da (aC n l)] 0=.ok (.bool true) 0:=aI (ds:=[aC n l]) rfl (sM O)
  show fin (ig fK [.fz (aC n l)] 0)=_
  unfold ig
  rw[gY (β':=0)]
  ·rfl
  ·show uZ (mZ (aF fK (ae (gv 0) ah))) [.da (aC n l)] 0=_
   rw[tZ,tD,e];rfl
 ·exact absurd rfl h
abbrev dv (ns:List Int):D:=.dict [(.none,.list (ns.map int))]
def ml {i j:Int}(h: -(2 ^ 64) < i/\i < 2 ^ 64):cK (.int i) (.int j)=some (.int (i * j)):=MJ (by dsimp only;rw[MR h.1,MR h.2];rfl)
def HK {i j:Int}(h: -(2 ^ 64) < j/\j < 2 ^ 64):cK (.int i) (.int j)=some (.int (i * j)):=MJ (by dsimp only;rw[MR h.1,MR h.2,OC,Bool.or_true])
def oq {i j:Int}(h:0 < j):mC (.int i) (.int j)=some (.int (i % j)):=MJ (MR h)
def yU {i j:Int}(h:0 < j)(h2:j < 1073741824):Bw (.int i) (.int j)=some (.int (i / j)):=MJ (by dsimp only;rw[MR h,MR h2];rfl)
theorem cX {α β:Type}(f:α->β)(l:List α)(i:Int):jv (l.map f) i=(jv l i).map f:=by
 unfold jv
 rw[ML]
 cases AL l.length i with
 |none=>rfl
 |some j=>simp
def n5 {α:Type}{l:List α}{k:Nat}(h:k < l.length):jv l (k:Int)=some l[k]:=fH (MG h)
def CH {fa fb:VF D}{vs:List Nv}{β β1 β2:Int}{i j:Int}(h:fa vs β=.ok (.int i) β1)(h':fb vs β1=.ok (.int j) β2):cJ (f2 fa fb Ek) vs β=.ok (decide (i < j)) β2:=dG _ _ _ _ (aA h h' rfl)
def du {neg:Bool}{fa fb:VF D}{vs:List Nv}{β β1 β2:Int}{i j:Int}(h:fa vs β=.ok (.int i) β1)(h':fb vs β1=.ok (.int j) β2):cJ (f2 fa fb (cO neg)) vs β=.ok (if neg then !decide (i=j) else decide (i=j)) β2:=by
 refine dG _ _ _ _ (aA h h' ?_)
 cases neg <;> rfl
def Hd (ns:List Int)(k:Nat):∃z,bq 2 2 gL [dv ns,.int k]=.ok (.int z) false:=by
 show ∃z,fin (gL [.fz (dv ns),.fz (.int k)] 0)=.ok (.int z) false
 unfold gL
 have e:cJ (f2 (gv 1) (f1 (gv 0) dB) Ek) [.da (dv ns),.da (.int k)] 0=.ok (decide ((k:Int) < (ns.map int).length)) 0:=CH rfl rfl
 by_cases h:k < ns.length
 ·refine⟨ns[k],?_⟩
  rw[MR (by simp;exact h)] at e
  rw[fo (d:=.int ns[k]) (b:=false) (β':=0)]
  ·rfl
  ·rw[gZ e]
   show toS (f2 (gv 0) (gv 1) bN [.da (dv ns),.da (.int k)] 0) _=_
   rw[aA (x:=dv ns) (y:=.int k) (d:=.int ns[k]) (β1:=0) (β2:=0) rfl rfl]
   ·rfl
   ·show jv (ns.map int) (k:Int)=_
    rw[cX,n5 h];rfl
 ·refine⟨0,?_⟩
  rw[MW (by simp;omega)] at e
  rw[aE (env':=[.fz (dv ns),.fz (.int k)]) (β':=0)]
  ·rfl
  ·rw[gY e];rfl
noncomputable def zy:List D->FR:=bq 2 2 gL
noncomputable def BW:List D->FR:=bq 4 2 j5
abbrev yz:List Int:=[48271,69621,16807,39373,30269,40014,40692,50021,61687,71993,83869,95561,30307]
def JQ (c k:Int):∃z,BW [.int c,.int k]=.ok (.int z) false:=by
 show ∃z,fin (j5 [.fz (.int c),.fz (.int k),.no,.no] 0)=.ok (.int z) false
 unfold j5
 rw[aE (env':=[.fz (.int c),.fz (.int k),.fz (.list (yz.map int)),.no]) (β':=0) (by rfl)]
 obtain⟨j,hj⟩:∃j:Nat,k % 13=j:=⟨(k % 13).toNat,by omega⟩
 have hj13:j < yz.length:=by show j < 13;omega
 have e1:f2 (f2 (f2 (f2 (f2 (gv 0) (cst (.int 2147483647)) mC) (cst (.int 12345)) bM) (f2 (gv 2) (f2 (gv 1) (cst (.int 13)) mC) bN) cK) (f2 (cst (.int 977)) (gv 1) cK) bM) (f2 (cst (.int 7919)) (f2 (gv 1) (cst (.int 13)) Bw) cK) bM [.da (.int c),.da (.int k),.da (.list (yz.map int)),.no] 0
   =.ok (.int ((c % 2147483647 + 12345) * yz[j] + 977 * k + 7919 * (k / 13))) 0:=by
  refine aA (aA (aA (aA (aA (x:=.int c) (y:=.int 2147483647) rfl rfl (oq (by omega))) rfl rfl) (aA (x:=.list (yz.map int)) rfl (aA (x:=.int k) (y:=.int 13) rfl rfl (oq (by omega))) (d:=.int yz[j]) ?_) (ml ⟨by omega,by omega⟩)) (aA (x:=.int 977) (y:=.int k) rfl rfl (ml ⟨by omega,by omega⟩)) rfl) (aA (x:=.int 7919) rfl (aA (x:=.int k) (y:=.int 13) rfl rfl (yU (by omega) (by omega))) (ml ⟨by omega,by omega⟩)) rfl
  show jv (yz.map int) (k % 13)=_
  rw[hj,cX,n5 hj13];rfl
 generalize ((c % 2147483647 + 12345) * yz[j] + 977 * k + 7919 * (k / 13))=st at e1
 rw[aE (env':=[.fz (.int c),.fz (.int k),.fz (.list (yz.map int)),.fz (.int st)]) (β':=0) ?h]
 case h=>
  show toS (f2 _ _ bM [.da (.int c),.da (.int k),.da (.list (yz.map int)),.no] 0) _=_
  rw[e1];rfl
 have e2:f2 (gv 3) (cst (.int 1000000007)) mC [.da (.int c),.da (.int k),.da (.list (yz.map int)),.da (.int st)] 0=.ok (.int (st % 1000000007)) 0:=aA rfl rfl (oq (by omega))
 rw[aE (env':=[.fz (.int c),.fz (.int k),.fz (.list (yz.map int)),.fz (.int (st % 1000000007))]) (β':=0) ?h2]
 case h2=>
  show toS (f2 (gv 3) (cst (.int 1000000007)) mC [.da (.int c),.da (.int k),.da (.list (yz.map int)),.da (.int st)] 0) _=_
  rw[e2];rfl
 have hb: -(2 ^ 64) < st % 1000000007/\st % 1000000007 < 2 ^ 64:=⟨by omega,by omega⟩
 generalize st % 1000000007=u at hb
 have e3:f2 (f2 (f2 (f2 (gv 3) (gv 3) cK) (f2 (cst (.int 48271)) (gv 1) cK) bM) (cst (.int 1000000007)) mC) (cst (.int 7)) Bw [.da (.int c),.da (.int k),.da (.list (yz.map int)),.da (.int u)] 0=.ok (.int ((u * u + 48271 * k) % 1000000007 / 7)) 0:=
  aA (aA (aA (aA (x:=.int u) (y:=.int u) rfl rfl (ml hb)) (aA (x:=.int 48271) (y:=.int k) rfl rfl (ml ⟨by omega,by omega⟩)) rfl) rfl (oq (by omega))) rfl (yU (by omega) (by omega))
 refine⟨(u * u + 48271 * k) % 1000000007 / 7,?_⟩
 show fin (toS (f2 _ (cst (.int 7)) Bw [.da (.int c),.da (.int k),.da (.list (yz.map int)),.da (.int u)] 0) _)=_
 rw[e3];rfl
noncomputable def IG:List D->FR:=bq 5 2 (j3 zy BW)
def J0 (ns:List Int)(k:Nat):∃z,IG [dv ns,.int k]=.ok (.list [.int z]) true:=by
 obtain⟨c,hc⟩:=Hd ns k
 show ∃z,fin (j3 zy BW [.fz (dv ns),.fz (.int k),.no,.no,.no] 0)=.ok (.list [.int z]) true
 unfold j3
 have e0:aF zy (ae (gv 0) (ae (gv 1) ah)) [.da (dv ns),.da (.int k),.no,.no,.no] 0=.ok (.int c) 0:=aI rfl hc
 rw[aE (env':=[.fz (dv ns),.fz (.int k),.fz (.int c),.no,.no]) (β':=0) ?h]
 case h=>
  show toS (aF zy _ [.da (dv ns),.da (.int k),.no,.no,.no] 0) _=_
  rw[e0];rfl
 have e1:cJ (f2 (f2 (gv 2) (cst (.int 2)) mC) (cst (.int 0)) (cO false)) [.da (dv ns),.da (.int k),.da (.int c),.no,.no] 0=.ok (decide (c % 2=0)) 0:=du (neg:=false) (aA rfl rfl (oq (by omega))) rfl
 by_cases h:c % 2=0
 ·rw[MR h] at e1
  refine⟨(if c < 0 then -c else c) / 2,?_⟩
  rw[fo (d:=.list [.int ((if c < 0 then -c else c) / 2)]) (b:=true) (β':=0)]
  ·rfl
  ·rw[gZ e1]
   show toS (ba (ae (f2 (f1 (gv 2) Fc) (cst (.int 2)) Bw) ah) [.da (dv ns),.da (.int k),.da (.int c),.no,.no] 0) _=_
   rw[dO (ds:=[.int ((if c < 0 then -c else c) / 2)]) (β1:=0)]
   ·rfl
   ·have e2:f2 (f1 (gv 2) Fc) (cst (.int 2)) Bw [.da (dv ns),.da (.int k),.da (.int c),.no,.no] 0=.ok (.int ((if c < 0 then -c else c) / 2)) 0:=aA (bX (x:=.int c) rfl rfl) rfl (yU (by omega) (by omega))
    rw[bD,e2];rfl
   ·simp
 ·rw[MW h] at e1
  rw[aE (env':=[.fz (dv ns),.fz (.int k),.fz (.int c),.no,.no]) (β':=0) (by rw[gY e1];rfl)]
  rw[aE (env':=[.fz (dv ns),.fz (.int k),.fz (.int c),.fz (.int 0),.no]) (β':=0) (by rfl)]
  obtain⟨env',β',el,z,x,rfl,rfl⟩:=dJ (t:=.nm 4) (m:=bc 3 (([] ++ []) ++ ([2] ++ ([4] ++ []))) (f2 (f2 (gv 3) (cst (.int 142857143)) cK) (aF BW (ae (gv 2) (ae (gv 4) ah))) bM)) (ds:=cB 0 40) (k:=0)
   (λ_ env β=>∃(z:Int) (x:Sl),env= [.fz (dv ns),.fz (.int k),.fz (.int c),.fz (.int z),x]/\β=0) (env:=[.fz (dv ns),.fz (.int k),.fz (.int c),.fz (.int 0),.no]) (β:=0) ⟨0,.no,rfl,rfl⟩ (by
    rintro i d env β hi ⟨z,x,rfl,rfl⟩
    obtain⟨j,rfl⟩:∃j:Int,d=.int j:=by
     unfold cB at hi
     rw[MV] at hi
     cases q:(List.range 40)[i]? with
     |none=>rw[q] at hi;cases hi
     |some j=>rw[q] at hi;cases hi;exact⟨_,rfl⟩
    obtain⟨y,hy⟩:=JQ c j
    refine⟨_,rfl,_,_,?_,z * 142857143 + y,.fz (.int j),rfl,rfl⟩
    show toS (f2 (f2 (gv 3) (cst (.int 142857143)) cK) (aF BW (ae (gv 2) (ae (gv 4) ah))) bM [.da (dv ns),.da (.int k),.da (.int c),.da (.int z),.da (.int j)] 0) _=_
    rw[aA (d:=.int (z * 142857143 + y)) (aA (x:=.int z) (y:=.int 142857143) (β1:=0) (β2:=0) rfl rfl (HK ⟨by omega,by omega⟩)) (aI (ds:=[.int c,.int j]) (β1:=0) rfl hy) rfl]
    rfl)
  refine⟨z,?_⟩
  rw[aE (env':=[.fz (dv ns),.fz (.int k),.fz (.int c),.fz (.int z),x]) (β':=0) ?h2]
  case h2=>exact el
  show fin (toS (ba (ae (gv 3) ah) [.da (dv ns),.da (.int k),.da (.int c),.da (.int z),x.val] 0) _)=_
  rw[dO (ds:=[.int z]) (β1:=0) rfl (by simp)]
  rfl
noncomputable def eJ:List D->Int->FB:=kF 4 1 (dQ bG)
theorem lay_ints:∀ns:List Int,PyData.canLayAll0 (ns.map int)=true
 | []=>rfl
 |n :: ns=>by
  show ((int n).canLay0 && PyData.canLayAll0 (ns.map int))=true
  rw[lay_ints ns];rfl
theorem v9:∀ns:List Int,PyData.depthAll (ns.map int)=0
 | []=>rfl
 |n :: ns=>by
  show max (int n).depth (PyData.depthAll (ns.map int))=0
  rw[v9 ns];rfl
def shaped_ints (ns:List Int):SeqAt.shaped (.list (ns.map int))=true:=by
 unfold SeqAt.shaped
 have h1:(PyData.list (ns.map int)).canLay0=true:=by simp only[PyData.canLay0];exact lay_ints ns
 have h2:(PyData.list (ns.map int)).depth<=64:=by simp only[PyData.depth];rw[v9];omega
 rw[h1,MR h2];rfl
theorem wL:∀l m:List Int,PyData.eqvAll (l.map int) (m.map int)=decide (l=m)
 | [],[]=>rfl
 | [],_ :: _=>rfl
 |_ :: _,[]=>rfl
 |p :: l,q :: m=>by
  show ((p == q) && PyData.eqvAll (l.map int) (m.map int))=_
  rw[wL l m,ND]
  simp
def u6 (neg:Bool)(l m:List Int):cO neg (.list (l.map int)) (.list (m.map int))=some (.bool (if neg then !decide (l=m) else decide (l=m))):=by
 unfold cO
 rw[shaped_ints,shaped_ints]
 simp only[OC,NN,PyData.eqv,wL]
theorem iP {α:Type}:∀{l:List α} {k:Nat} {x:α},l[k]? =some x->(x :: l.eraseIdx k).Perm l
 | [],_,_,h=>by simp at h
 |y :: l,0,x,h=>by simp at h;subst h;exact List.Perm.refl _
 |y :: l,k + 1,x,h=>by
  have h:l[k]? =some x:=by simpa using h
  have ih:=iP h
  show (x :: y :: l.eraseIdx k).Perm (y :: l)
  exact (List.Perm.swap y x _).trans (ih.cons y)
theorem si {α β:Type}(f:α->β):∀(l:List α) (k:Nat),(l.map f).eraseIdx k=(l.eraseIdx k).map f
 | [],_=>rfl
 |_ :: _,0=>rfl
 |x :: l,k + 1=>by simp[si f l k]
def pw (ns:List Int)(hz:ns.length<=100)(β:Int):∃(ms:List Int) (β':Int),eJ [.list (ns.map int)] β=.ok (.list (ms.map int)) true β'/\ms.Perm ns:=by
 show ∃(ms:List Int) (β':Int),oW (dQ bG [.bx,.fz (.list (ns.map int)),.no,.no] β)=.ok (.list (ms.map int)) true β'/\ms.Perm ns
 unfold dQ
 rw[aE (env':=[.bx,.fz (.list (ns.map int)),.ow (.list (ns.map int)),.no]) (β':=β) (by rfl)]
 have ez:ba ah [Nv.bx,.da (.list (ns.map int)),.da (.list (ns.map int)),.no] β=.ok (.list []) β:=dO rfl (by simp)
 rw[aE (env':=[.bx,.fz (.list (ns.map int)),.ow (.list (ns.map int)),.ow (.list [])]) (β':=β) ?h]
 case h=>
  show toS (ba ah [Nv.bx,.da (.list (ns.map int)),.da (.list (ns.map int)),.no] β) _=_
  rw[ez];rfl
 obtain⟨env',β',ew,ms,rfl,hp⟩:=j9 (L:=[] ++ []) (t:=cJ (f2 (gv 2) (ba ah) (cO true))) (m:=kn 3 2 ([] ++ []) (fU 0 bG (ae (f1 (gv 2) dB) ah)))
  (λk env β=>∃ls ms:List Int,env= [.bx,.fz (.list (ns.map int)),.ow (.list (ls.map int)),.ow (.list (ms.map int))]/\(ms ++ ls).Perm ns/\k=ls.length)
  (λenv β=>∃ms:List Int,env= [.bx,.fz (.list (ns.map int)),.ow (.list []),.ow (.list (ms.map int))]/\ms.Perm ns) (n:=1000) (k:=ns.length) (env:=[.bx,.fz (.list (ns.map int)),.ow (.list (ns.map int)),.ow (.list [])]) (β:=β) (by omega) ⟨ns,[],rfl,by simp,rfl⟩ (by
   rintro k env β ⟨ls,ms,rfl,hp,rfl⟩
   have e1:ba ah [Nv.bx,.da (.list (ns.map int)),.da (.list (ls.map int)),.da (.list (ms.map int))] β=.ok (.list (([]:List Int).map int)) β:=dO rfl (by simp)
   have et:cJ (f2 (gv 2) (ba ah) (cO true)) [Nv.bx,.da (.list (ns.map int)),.da (.list (ls.map int)),.da (.list (ms.map int))] β=.ok (!decide (ls= [])) β:=
    dG _ _ _ _ (aA (x:=.list (ls.map int)) rfl e1 (by rw[u6];rfl))
   refine⟨_,_,et,?_⟩
   have hlen:=hp.length_eq
   rw[Nf] at hlen
   cases ls with
   |nil=>exact .inl ⟨rfl,ms,rfl,by simpa using hp⟩
   |cons y ys=>
    refine .inr ⟨rfl,?_⟩
    have hm:(0:Int) < ((y :: ys).length:Nat)/\(((y :: ys).length:Nat):Int) < 1073741824:=by
     have:(y :: ys).length<=100:=by omega
     constructor
     ·simp
     ·omega
    obtain⟨j,hj⟩:∃j:Nat,β % (((y :: ys).length:Nat):Int)=j:=⟨(β % (((y :: ys).length:Nat):Int)).toNat,by have:=Int.emod_nonneg β (b:=(((y :: ys).length:Nat):Int)) (by omega);omega⟩
    have hj2:j < (y :: ys).length:=by have:=Int.emod_lt_of_pos β hm.1;omega
    have ef:fU 0 bG (ae (f1 (gv 2) dB) ah) [Nv.bx,.da (.list (ns.map int)),.da (.list ((y :: ys).map int)),.da (.list (ms.map int))] β=.ok (.int (j:Int)) (β / (((y :: ys).length:Nat):Int)):=by
     refine bY (ds:=[.int (((y :: ys).length:Nat):Int)]) (b:=false) (by rfl) ?_ (by rw[ua hm.1 hm.2,hj])
     show R.ok [int ((((y :: ys).map int).length:Nat):Int)] β=_
     rw[ML]
    have hpop:A5 ((y :: ys).map int) (.int (j:Int))=some (.int (y :: ys)[j],((y :: ys).eraseIdx j).map int):=by
     unfold A5
     dsimp only
     rw[MJ ⟨by omega,by omega⟩]
     have es:seqIndex? (j:Int) ((y :: ys).map int).length=some j:=by
      rw[ML]
      exact PySem.StrLaws.seqIndex_nonneg (by omega) (by omega)
     rw[es]
     dsimp only
     rw[MV,MG hj2,si];rfl
    refine⟨[.bx,.fz (.list (ns.map int)),.ow (.list (((y :: ys).eraseIdx j).map int)),.ow (.list ((ms ++ [(y :: ys)[j]]).map int))],β / (((y :: ys).length:Nat):Int),((y :: ys).eraseIdx j).length,?_,?_,(y :: ys).eraseIdx j,ms ++ [(y :: ys)[j]],rfl,?_,rfl⟩
    ·show kn 3 2 ([] ++ []) (fU 0 bG (ae (f1 (gv 2) dB) ah)) [.bx,.fz (.list (ns.map int)),.ow (.list ((y :: ys).map int)),.ow (.list (ms.map int))] β=_
     rw[yd (ds:=ms.map int) (es:=(y :: ys).map int) (by rfl) (by rfl) (by decide) ef (by rfl) hpop (by rw[ML];omega),Nz]
     rfl
    ·rw[List.length_eraseIdx]
     rw[MJ hj2]
     show (y :: ys).length - 1 < (y :: ys).length
     simp
    ·rw[N9]
     exact (List.Perm.append_left ms (iP (MG hj2))).trans hp)
 refine⟨ms,β',?_,hp⟩
 rw[aE ew]
 rfl
def GH {n:Nat}{l:List Pr}(h8:n<=8)(w:OM.Wn n l):OM.bR 8 (OM.Mem l)=OM.bR n (OM.Mem l):=by
 refine OM.fC (OM.cH _ _) (OM.cH _ _) λx=>?_
 rw[OM.aX,OM.aX]
 constructor
 ·rintro⟨_,h⟩;exact⟨w x h,h⟩
 ·rintro⟨h1,h⟩;exact⟨⟨⟨h1.1.1,by omega⟩,h1.2.1,by omega⟩,h⟩
def z6 {n:Nat}{l:List Pr}(h1:1<=n)(h8:n<=8)(w:OM.Wn n l)(nd:l.Nodup)(irr:∀a,(a,a)∉l):l.length < 64:=by
 have:=OM.qL (l:=(0,0) :: l) (m:=OM.cq n) (Nq.mpr ⟨irr 0,nd⟩) (λx hx=>by
  rcases MN.mp hx with e |e
  ·subst e;exact OM.bC.mpr ⟨⟨by simp,by simp;omega⟩,by simp,by simp;omega⟩
  ·exact OM.bC.mpr (w x e))
 have hg:(OM.cq n).length=n * n:=by unfold OM.cq;simp
 have hn:n * n<=64:=N4 h8 h8
 rw[hg,Na] at this
 omega
def yy {n:Nat}{l:List Pr}(h8:n<=8)(w:OM.Wn n l):l.all Hg=true:=by
 rw[NW]
 intro p hp
 have:=w p hp
 unfold Hg
 rw[MR this.1.1,MR (by omega:p.1 < 8),MR this.2.1,MR (by omega:p.2 < 8)];rfl
def oE {n:Nat}{l:List Pr}{d:D}(h8:n<=8)(w:OM.Wn n l)(hl:(OM.bR n (OM.Mem l)).length < 64)(hd:mM d=some (l.map ao)):cR d=some (.list ((OM.bR n (OM.Mem l)).map ao)):=by
 unfold cR
 rw[hd]
 simp only[dU]
 rw[GH h8 w,MJ ⟨yy h8 w,hl⟩]
def xh (l:List Pr)(p:Pr):List Pr:=(l.filter λq=>decide (q.1=p.2)).map λq=>(p.1,q.2)
def zQ (l:List Pr)(p:Pr):(xh l p).length<=l.length:=by unfold xh;rw[ML];exact NR ..
theorem vp (l m:List Pr):(m.flatMap (xh l)).length<=m.length * l.length:=by
 induction m with
 |nil=>simp
 |cons p m ih=>
  rw[List.flatMap_cons,Nf,Na,Nat.succ_mul]
  have:=zQ l p
  omega
def i8 {a b:List D}(h:a.length + b.length<=10000):eY (.list a) (.list b)=some (.list (a ++ b)):=MJ (by rw[Ni];omega)
noncomputable def jM:List D->FR:=bq 6 1 gA
def AX {n:Nat}{ps:List Pr}(h1:1<=n)(h8:n<=8)(w:OM.Wn n ps)(irr:∀a,¬OM.Tr (OM.Mem ps) a a):jM [.list (ps.map ao)]=.ok (.tuple ((OM.bR n (OM.Tr (OM.Mem ps))).map ao)) false:=by
 have blen:∀{l:List Pr},OM.Gx n ps l->l.length < 64:=λ{l} B=>z6 h1 h8 B.wn (OM.iB B.ris) λa ha=>irr a (B.sup _ ha)
 show fin (gA [.fz (.list (ps.map ao)),.no,.no,.no,.no,.no] 0)=_
 unfold gA
 have B0:=OM.AE (ps:=ps) w
 have e0:f1 (gv 0) cR [.da (.list (ps.map ao)),.no,.no,.no,.no,.no] 0=.ok (.list ((OM.bR n (OM.Mem ps)).map ao)) 0:=bX rfl (oE h8 w (blen B0) rfl)
 rw[aE (env':=[.fz (.list (ps.map ao)),.fz (.list ((OM.bR n (OM.Mem ps)).map ao)),.no,.no,.no,.no]) (β':=0) ?h0]
 case h0=>
  show toS (f1 (gv 0) cR [.da (.list (ps.map ao)),.no,.no,.no,.no,.no] 0) _=_
  rw[e0];rfl
 rw[aE (env':=[.fz (.list (ps.map ao)),.fz (.list ((OM.bR n (OM.Mem ps)).map ao)),.fz (.int (-1)),.no,.no,.no]) (β':=0) (by rfl)]
 obtain⟨env',β',ew,rfl,x,sz,a,b,rfl⟩:=j9 (L:=[] ++ []) (t:=cJ (f2 (gv 2) (f1 (gv 1) dB) (cO true)))
  (m:=aH (bc 2 [] (f1 (gv 1) dB)) (aH (bc 3 [] (ba ah)) (aH (eN (.two 4 5) [1] (bQ (gv 1)) (bc 3 ([] ++ ([] ++ [4])) (f2 (gv 3) (aM 2 [5,4] (.two 0 1) (bQ (gv 1)) (cJ (f2 (gv 0) (gv 2) (cO false))) (aW (ae (gv 3) (ae (gv 1) ah)))) eY))) (bc 1 ([] ++ []) (f1 (f2 (gv 1) (gv 3) eY) cR)))))
  (λk env β=>β=0/\∃(l:List Pr) (sz:Int) (x a b:Sl),env= [.fz (.list (ps.map ao)),.fz (.list (l.map ao)),.fz (.int sz),x,a,b]/\OM.Gx n ps l/\(sz= -1\/∃lp,OM.Gx n ps lp/\l=OM.kS n lp/\sz=lp.length)/\k=2 * (64 - l.length) + (if sz=l.length then 0 else 1))
  (λenv β=>β=0/\∃(x sz a b:Sl),env= [.fz (.list (ps.map ao)),.fz (.list ((OM.bR n (OM.Tr (OM.Mem ps))).map ao)),sz,x,a,b])
  (n:=1000) (k:=2 * (64 - (OM.bR n (OM.Mem ps)).length) + (if (-1:Int)=(OM.bR n (OM.Mem ps)).length then 0 else 1)) (env:=[.fz (.list (ps.map ao)),.fz (.list ((OM.bR n (OM.Mem ps)).map ao)),.fz (.int (-1)),.no,.no,.no]) (β:=0)
  (by split <;> omega) ⟨rfl,_,_,_,_,_,rfl,B0,.inl rfl,rfl⟩ (by
   rintro k env β ⟨rfl,l,sz,x,a,b,rfl,B,hsz,rfl⟩
   have hl:=blen B
   have et:cJ (f2 (gv 2) (f1 (gv 1) dB) (cO true)) [.da (.list (ps.map ao)),.da (.list (l.map ao)),.da (.int sz),x.val,a.val,b.val] 0=.ok (!decide (sz=((l.map ao).length:Nat))) 0:=du (neg:=true) rfl rfl
   rw[ML] at et
   refine⟨_,_,et,?_⟩
   by_cases c:sz=(l.length:Nat)
   ·refine .inl ⟨by rw[MR c];rfl,rfl,x,.fz (.int sz),a,b,?_⟩
    rcases hsz with h | ⟨lp,Bp,rfl,h⟩
    ·omega
    ·show [Sl.fz (.list (ps.map ao)),.fz (.list ((OM.kS n lp).map ao)),.fz (.int sz),x,a,b]=_
     rw[OM.BB Bp (by omega)]
   ·refine .inr ⟨by rw[MW c];rfl,?_⟩
    obtain⟨B2,hs⟩:=OM.vt B
    have hl2:=blen B2
    have hge:l.length<=(OM.kS n l).length:=OM.qL (OM.iB B.ris) hs
    have eturn:∃x' a' b':Sl,aH (bc 2 [] (f1 (gv 1) dB)) (aH (bc 3 [] (ba ah)) (aH (eN (.two 4 5) [1] (bQ (gv 1)) (bc 3 ([] ++ ([] ++ [4])) (f2 (gv 3) (aM 2 [5,4] (.two 0 1) (bQ (gv 1)) (cJ (f2 (gv 0) (gv 2) (cO false))) (aW (ae (gv 3) (ae (gv 1) ah)))) eY))) (bc 1 ([] ++ []) (f1 (f2 (gv 1) (gv 3) eY) cR)))) [.fz (.list (ps.map ao)),.fz (.list (l.map ao)),.fz (.int sz),x,a,b] 0
      =.nx [.fz (.list (ps.map ao)),.fz (.list ((OM.kS n l).map ao)),.fz (.int (l.length:Nat)),x',a',b'] 0:=by
     rw[aE (env':=[.fz (.list (ps.map ao)),.fz (.list (l.map ao)),.fz (.int (l.length:Nat)),x,a,b]) (β':=0) ?g1]
     case g1=>
      show SO.nx [.fz (.list (ps.map ao)),.fz (.list (l.map ao)),.fz (.int ((l.map ao).length:Nat)),x,a,b] 0=_
      rw[ML]
     have e3:ba ah [.da (.list (ps.map ao)),.da (.list (l.map ao)),.da (.int (l.length:Nat)),x.val,a.val,b.val] 0=.ok (.list []) 0:=dO rfl (by simp)
     rw[aE (env':=[.fz (.list (ps.map ao)),.fz (.list (l.map ao)),.fz (.int (l.length:Nat)),.fz (.list []),a,b]) (β':=0) ?g2]
     case g2=>
      show toS (ba ah [.da (.list (ps.map ao)),.da (.list (l.map ao)),.da (.int (l.length:Nat)),x.val,a.val,b.val] 0) _=_
      rw[e3];rfl
     obtain⟨env2,β2,ef,rfl,a2,b2,rfl⟩:=dJ (t:=.two 4 5) (m:=bc 3 ([] ++ ([] ++ [4])) (f2 (gv 3) (aM 2 [5,4] (.two 0 1) (bQ (gv 1)) (cJ (f2 (gv 0) (gv 2) (cO false))) (aW (ae (gv 3) (ae (gv 1) ah)))) eY)) (ds:=l.map ao) (k:=0)
      (λi env β=>β=0/\∃a b:Sl,env= [.fz (.list (ps.map ao)),.fz (.list (l.map ao)),.fz (.int (l.length:Nat)),.fz (.list (((l.take i).flatMap (xh l)).map ao)),a,b]) (env:=[.fz (.list (ps.map ao)),.fz (.list (l.map ao)),.fz (.int (l.length:Nat)),.fz (.list []),a,b]) (β:=0) ⟨rfl,a,b,rfl⟩ (by
       rintro i d env β hi ⟨rfl,a,b,rfl⟩
       rw[MV] at hi
       cases q:l[i]? with
       |none=>rw[q] at hi;cases hi
       |some p=>
        rw[q] at hi
        cases hi
        have hil:i < l.length:=(M9.mp q).1
        refine⟨[.fz (.list (ps.map ao)),.fz (.list (l.map ao)),.fz (.int (l.length:Nat)),.fz (.list (((l.take (0 + i)).flatMap (xh l)).map ao)),.fz (.int p.1),.fz (.int p.2)],rfl,[.fz (.list (ps.map ao)),.fz (.list (l.map ao)),.fz (.int (l.length:Nat)),.fz (.list (((l.take (0 + i + 1)).flatMap (xh l)).map ao)),.fz (.int p.1),.fz (.int p.2)],0,?_,rfl,_,_,rfl⟩
        have ec:aM 2 [5,4] (.two 0 1) (bQ (gv 1)) (cJ (f2 (gv 0) (gv 2) (cO false))) (aW (ae (gv 3) (ae (gv 1) ah))) [.da (.list (ps.map ao)),.da (.list (l.map ao)),.da (.int (l.length:Nat)),.da (.list (((l.take (0 + i)).flatMap (xh l)).map ao)),.da (.int p.1),.da (.int p.2)] 0=.ok (.list ((xh l p).map ao)) 0:=by
         rw[dS (l:=l) (e:=ao) (λq=>decide (q.1=p.2)) (λq=>ao (p.1,q.2)) rfl (by omega) (β1:=0)]
         ·unfold xh;rw[NQ];rfl
         ·intro q hq
          refine⟨_,rfl,du (neg:=false) (i:=q.1) (j:=p.2) rfl rfl,λ_=>?_⟩
          exact jd (ds:=[.int p.1,.int q.2]) rfl (by simp)
        have hk:(l.take (0 + i)).length<=63:=by rw[Nu];omega
        have hfl:=vp l (l.take (0 + i))
        have hfl2:(l.take (0 + i)).length * l.length<=63 * 63:=N4 hk (by omega)
        have hm1:=zQ l p
        have e5:f2 (gv 3) (aM 2 [5,4] (.two 0 1) (bQ (gv 1)) (cJ (f2 (gv 0) (gv 2) (cO false))) (aW (ae (gv 3) (ae (gv 1) ah)))) eY [.da (.list (ps.map ao)),.da (.list (l.map ao)),.da (.int (l.length:Nat)),.da (.list (((l.take (0 + i)).flatMap (xh l)).map ao)),.da (.int p.1),.da (.int p.2)] 0=.ok (.list (((l.take (0 + i + 1)).flatMap (xh l)).map ao)) 0:=by
         refine aA rfl ec ?_
         rw[i8 (by rw[ML,ML];omega),<-Nz]
         have:l.take (0 + i + 1)=l.take (0 + i) ++ [p]:=by rw[NK,OE,q];rfl
         rw[this,List.flatMap_append,List.flatMap_cons,List.flatMap_nil,Oh]
        show toS (f2 (gv 3) (aM 2 [5,4] (.two 0 1) (bQ (gv 1)) (cJ (f2 (gv 0) (gv 2) (cO false))) (aW (ae (gv 3) (ae (gv 1) ah)))) eY [.da (.list (ps.map ao)),.da (.list (l.map ao)),.da (.int (l.length:Nat)),.da (.list (((l.take (0 + i)).flatMap (xh l)).map ao)),.da (.int p.1),.da (.int p.2)] 0) _=_
        rw[e5];rfl)
     rw[NK,ML,NV (MK _)] at ef
     rw[aE (env':=[.fz (.list (ps.map ao)),.fz (.list (l.map ao)),.fz (.int (l.length:Nat)),.fz (.list ((l.flatMap (xh l)).map ao)),a2,b2]) (β':=0) ?g3]
     case g3=>exact ef
     have hfl:=vp l l
     have hfl2:l.length * l.length<=63 * 63:=N4 (by omega) (by omega)
     have e6:f1 (f2 (gv 1) (gv 3) eY) cR [.da (.list (ps.map ao)),.da (.list (l.map ao)),.da (.int (l.length:Nat)),.da (.list ((l.flatMap (xh l)).map ao)),a2.val,b2.val] 0=.ok (.list ((OM.kS n l).map ao)) 0:=by
      refine bX (x:=.list ((l ++ OM.more l).map ao)) (aA rfl rfl ?_) (oE h8 (OM.C1 B) hl2 rfl)
      rw[i8 (by rw[ML,ML];omega),<-Nz];rfl
     refine⟨.fz (.list ((l.flatMap (xh l)).map ao)),a2,b2,?_⟩
     show toS (f1 (f2 (gv 1) (gv 3) eY) cR [.da (.list (ps.map ao)),.da (.list (l.map ao)),.da (.int (l.length:Nat)),.da (.list ((l.flatMap (xh l)).map ao)),a2.val,b2.val] 0) _=_
     rw[e6];rfl
    obtain⟨x',a',b',et2⟩:=eturn
    refine⟨_,_,_,et2,?_,rfl,_,_,_,_,_,rfl,B2,.inr ⟨l,B,rfl,rfl⟩,rfl⟩
    rw[MO c]
    split <;> omega)
 rw[aE ew]
 rfl
def vC (ms:List Int)(ps:List Pr):Prop:=∀p,p∈ps->∃i j:Nat,i < j/\ms[i]? =some p.1/\ms[j]? =some p.2
theorem iJ {α:Type}:∀{l:List α} {i j:Nat} {x:α},l.Nodup->l[i]? =some x->l[j]? =some x->i=j
 | [],_,_,_,_,h,_=>by simp at h
 |y :: l,0,0,_,_,_,_=>rfl
 |y :: l,0,j + 1,x,nd,h1,h2=>by
  simp at h1
  subst h1
  exact absurd (MU (by simpa using h2)) (Nq.mp nd).1
 |y :: l,i + 1,0,x,nd,h1,h2=>by
  simp at h2
  subst h2
  exact absurd (MU (by simpa using h1)) (Nq.mp nd).1
 |y :: l,i + 1,j + 1,x,nd,h1,h2=>by
  rw[iJ (l:=l) (i:=i) (j:=j) (Nq.mp nd).2 (by simpa using h1) (by simpa using h2)]
def DH {ms:List Int}{ps:List Pr}(nd:ms.Nodup)(h:vC ms ps){a b:Int}(t:OM.Tr (OM.Mem ps) a b):∃i j:Nat,i < j/\ms[i]? =some a/\ms[j]? =some b:=by
 refine t.least (S:=λa b=>∃i j:Nat,i < j/\ms[i]? =some a/\ms[j]? =some b) (λa b r=>h _ r) ?_
 rintro a b c ⟨i,j,hij,h1,h2⟩ ⟨k,l,hkl,h3,h4⟩
 have:=iJ nd h2 h3
 exact⟨i,l,by omega,h1,h4⟩
def AH {ms:List Int}{ps:List Pr}(nd:ms.Nodup)(h:vC ms ps)(a:Int):¬OM.Tr (OM.Mem ps) a a:=λt=>by
 obtain⟨i,j,hij,h1,h2⟩:=DH nd h t
 have:=iJ nd h1 h2
 omega
def iY (n:Nat):List Int:=(List.range n).map λ(k:Nat)=>(k:Int)
def gz (n:Nat):(iY n).length=n:=by unfold iY;simp
def fy {n:Nat}{x:Int}:x∈iY n↔0<=x/\x < n:=by
 unfold iY
 rw[MQ]
 constructor
 ·rintro⟨k,hk,rfl⟩
  have:=M5.mp hk
  omega
 ·intro h
  exact⟨x.toNat,M5.mpr (by omega),by omega⟩
def lH (n:Nat):(iY n).Nodup:=by
 unfold iY
 rw[N3,NC]
 exact (N3.mp Ou).imp λ{a b} h e=>h (by omega)
def nN (n:Nat):cB 0 n=(iY n).map int:=by
 unfold cB iY
 rw[NQ]
 refine Ot λk _=>?_
 show int (0 + (k:Int))=_
 rw[N2];rfl
theorem gE {lo:Int}{n i:Nat}{d:D}(h:(cB lo n)[i]? =some d):i < n/\d=.int (lo + i):=by
 unfold cB at h
 rw[MV] at h
 cases q:(List.range n)[i]? with
 |none=>rw[q] at h;cases h
 |some j=>
  rw[q] at h
  cases h
  obtain⟨hi,ej⟩:=M9.mp q
  rw[N5] at hi
  rw[List.getElem_range] at ej
  subst ej
  exact⟨hi,rfl⟩
def k6 {n:Nat}(h:n<=1000):cu (.int n)=some (.list ((iY n).map int)):=by
 unfold cu
 dsimp only
 rw[MJ ⟨by omega,by omega⟩,NJ,nN]
def cQ {fa:VF D}{vs:List Nv}{β β1:Int}{n:Nat}(h:fa vs β=.ok (.int n) β1)(hn:n<=1000):bJ fa vs β=.ok (cB 0 n) β1:=by
 unfold bJ
 rw[h]
 simp only[l5]
 rw[MJ (n6 (by omega) (by omega)),NJ]
def vh {fa fb:VF D}{vs:List Nv}{β β1 β2:Int}{i j:Int}(h:fa vs β=.ok (.int i) β1)(h':fb vs β1=.ok (.int j) β2)(hi:0<=i/\i<=1000)(hj:0<=j/\j<=1000):m6 fa fb vs β=.ok (cB i (j - i).toNat) β2:=by
 unfold m6
 rw[h]
 simp only[l5]
 rw[h']
 simp only[l5]
 rw[MJ (by rw[n6 (by omega) (by omega),n6 (by omega) (by omega)];rfl)]
def iO {t:Tg}{L:List Nat}{fi:VF (List D)}{m:SF}{env:En}{β β1:Int}{ds:List D}(h:fi (vl env) β=.ok ds β1):eN t L fi m env β=uE t m ds (bg L env) β1:=by unfold eN;rw[h];rfl
noncomputable def o8:List D->Int->FB:=kF 8 1 (h9 jM bG eJ)
def A4 {n:Nat}{ms:List Int}{ps:List Pr}(h1:1<=n)(h8:n<=8)(hp:ms.Perm (iY n))(ha:vC ms ps):OM.Wn n ps/\(∀a,¬OM.Tr (OM.Mem ps) a a)/\OM.Ord n (OM.bR n (OM.Tr (OM.Mem ps))):=by
 have nd:ms.Nodup:=hp.nodup_iff.mpr (lH n)
 have w:OM.Wn n ps:=λp hm=>by
  obtain⟨i,j,_,e1,e2⟩:=ha p hm
  have m1:=fy.mp (hp.mem_iff.mp (MU e1))
  have m2:=fy.mp (hp.mem_iff.mp (MU e2))
  exact⟨m1,m2⟩
 have ir:=λa=>AH nd ha a
 exact⟨w,ir,OM.Hx h1 h8 w ir⟩
def cD {m:Nat}(h:1<=m)(h2:m<=1000)(β:Int):∃j:Nat,j < m/\bG [.int m] β=.ok (.int (j:Int)) false (β / m):=by
 refine⟨(β % m).toNat,?_,?_⟩
 ·have h0:=Int.emod_nonneg β (b:=(m:Int)) (by omega)
  have h3:=Int.emod_lt_of_pos β (b:=(m:Int)) (by omega)
  omega
 ·rw[ua (by omega) (by omega)]
  have h0:=Int.emod_nonneg β (b:=(m:Int)) (by omega)
  rw[show ((β % m).toNat:Int)=β % m by omega]
def Ea {most:Nat}(hm1:1<=most)(hm8:most<=8)(β:Int):∃(n:Nat) (l:List Pr) (β':Int),o8 [.int most] β=.ok (aC n l) false β'/\OM.Ord n l/\n<=most:=by
 obtain⟨j,hj,ej⟩:=cD hm1 (by omega) β
 show ∃(n:Nat) (l:List Pr) (β':Int),oW (h9 jM bG eJ [.bx,.fz (.int most),.no,.no,.no,.no,.no,.no] β)=.ok (aC n l) false β'/\OM.Ord n l/\n<=most
 unfold h9
 generalize hβ1:β / (most:Int)=β1 at ej
 have n8:1 + j<=8:=by omega
 have e1:f2 (cst (.int 1)) (fU 0 bG (ae (gv 1) ah)) bM [Nv.bx,.da (.int most),.no,.no,.no,.no,.no,.no] β=.ok (.int ((1 + j:Nat):Int)) β1:=by
  refine aA (x:=.int 1) rfl (bY (by rfl) rfl ej) ?_
  show some (int (1 + (j:Int)))=_
  rw[show ((1 + j:Nat):Int)=1 + (j:Int) by omega]
 rw[aE (env':=[.bx,.fz (.int most),.fz (.int ((1 + j:Nat):Int)),.no,.no,.no,.no,.no]) (β':=β1) ?g1]
 case g1=>
  show toS (f2 (cst (.int 1)) (fU 0 bG (ae (gv 1) ah)) bM [Nv.bx,.da (.int most),.no,.no,.no,.no,.no,.no] β) _=_
  rw[e1];rfl
 generalize hn:1 + j=n at n8
 have n1:1<=n:=by omega
 obtain⟨ms,β2,em,hp⟩:=pw (iY n) (by rw[gz];omega) β1
 have hml:ms.length=n:=by rw[hp.length_eq,gz]
 have e2:fU 0 eJ (ae (f1 (gv 2) cu) ah) [Nv.bx,.da (.int most),.da (.int n),.no,.no,.no,.no,.no] β1=.ok (.list (ms.map int)) β2:=by
  refine bY (ds:=[.list ((iY n).map int)]) (b:=true) (β1:=β1) (by rfl) ?_ em
  rw[bD,bX (x:=.int n) (d:=.list ((iY n).map int)) (β1:=β1) rfl (k6 (by omega))];rfl
 rw[aE (env':=[.bx,.fz (.int most),.fz (.int n),.fz (.list (ms.map int)),.no,.no,.no,.no]) (β':=β2) ?g2]
 case g2=>
  show toS (fU 0 eJ (ae (f1 (gv 2) cu) ah) [Nv.bx,.da (.int most),.da (.int n),.no,.no,.no,.no,.no] β1) _=_
  rw[e2];rfl
 obtain⟨q,hq,eq⟩:=cD (m:=4) (by omega) (by omega) β2
 obtain⟨th,hth,hthv⟩:∃th:Nat,([2,3,4,7]:List Nat)[q]? =some th/\1<=th/\th<=7:=by
  rcases (show q=0\/q=1\/q=2\/q=3 by omega) with rfl |rfl |rfl |rfl
  ·exact⟨2,rfl,by omega,by omega⟩
  ·exact⟨3,rfl,by omega,by omega⟩
  ·exact⟨4,rfl,by omega,by omega⟩
  ·exact⟨7,rfl,by omega,by omega⟩
 generalize hβ3:β2 / ((4:Nat):Int)=β3 at eq
 have e3:f2 (ba (ae (cst (.int 2)) (ae (cst (.int 3)) (ae (cst (.int 4)) (ae (cst (.int 7)) ah))))) (fU 0 bG (ae (cst (.int 4)) ah)) bN [Nv.bx,.da (.int most),.da (.int n),.da (.list (ms.map int)),.no,.no,.no,.no] β2=.ok (.int th) β3:=by
  refine aA (x:=.list (([2,3,4,7]:List Nat).map λ(k:Nat)=>int (k:Int))) (y:=.int q) (dO rfl (by simp)) (bY (ds:=[.int 4]) (by rfl) rfl eq) ?_
  show jv (([2,3,4,7]:List Nat).map λ(k:Nat)=>int (k:Int)) (q:Int)=_
  rw[cX,fH hth];rfl
 rw[aE (env':=[.bx,.fz (.int most),.fz (.int n),.fz (.list (ms.map int)),.fz (.int th),.no,.no,.no]) (β':=β3) ?g3]
 case g3=>
  show toS (f2 (ba (ae (cst (.int 2)) (ae (cst (.int 3)) (ae (cst (.int 4)) (ae (cst (.int 7)) ah))))) (fU 0 bG (ae (cst (.int 4)) ah)) bN [Nv.bx,.da (.int most),.da (.int n),.da (.list (ms.map int)),.no,.no,.no,.no] β2) _=_
  rw[e3];rfl
 have e4:ba ah [Nv.bx,.da (.int most),.da (.int n),.da (.list (ms.map int)),.da (.int th),.no,.no,.no] β3=.ok (.list []) β3:=dO rfl (by simp)
 rw[aE (env':=[.bx,.fz (.int most),.fz (.int n),.fz (.list (ms.map int)),.fz (.int th),.ow (.list []),.no,.no]) (β':=β3) ?g4]
 case g4=>
  show toS (ba ah [Nv.bx,.da (.int most),.da (.int n),.da (.list (ms.map int)),.da (.int th),.no,.no,.no] β3) _=_
  rw[e4];rfl
 obtain⟨env',β',ef,ps,a,b,rfl,hal,hpl⟩:=dJ (t:=.nm 6) (m:=eN (.nm 7) (([] ++ []) ++ []) (m6 (f2 (gv 6) (cst (.int 1)) bM) (gv 2))
   (kA (([4] ++ []) ++ []) (cJ (f2 (fU 0 bG (ae (gv 4) ah)) (cst (.int 0)) (cO false)))
   (oo 5 (([] ++ []) ++ (([] ++ []) ++ [])) (aW (ae (f2 (gv 3) (gv 6) bN) (ae (f2 (gv 3) (gv 7) bN) ah)))) mj)) (ds:=cB 0 n) (k:=0)
  (λi env β=>∃(ps:List Pr) (a b:Sl),env= [.bx,.fz (.int most),.fz (.int n),.fz (.list (ms.map int)),.fz (.int th),.ow (.list (ps.map ao)),a,b]/\vC ms ps/\ps.length<=8 * i)
  (env:=[.bx,.fz (.int most),.fz (.int n),.fz (.list (ms.map int)),.fz (.int th),.ow (.list []),.no,.no]) (β:=β3) ⟨[],.no,.no,rfl,λp hp=>(by cases hp),by simp⟩ (by
   rintro i d env β hi ⟨ps,a,b,rfl,hal,hpl⟩
   obtain⟨hin,rfl⟩:=gE hi
   refine⟨[.bx,.fz (.int most),.fz (.int n),.fz (.list (ms.map int)),.fz (.int th),.ow (.list (ps.map ao)),.fz (.int (0 + (i:Int))),b],rfl,?_⟩
   have er:m6 (f2 (gv 6) (cst (.int 1)) bM) (gv 2) [Nv.bx,.da (.int most),.da (.int n),.da (.list (ms.map int)),.da (.int th),.da (.list (ps.map ao)),.da (.int (0 + (i:Int))),b.val] β=.ok (cB (0 + (i:Int) + 1) ((n:Int) - (0 + (i:Int) + 1)).toNat) β:=vh rfl rfl ⟨by omega,by omega⟩ ⟨by omega,by omega⟩
   rw[iO (env:=[.bx,.fz (.int most),.fz (.int n),.fz (.list (ms.map int)),.fz (.int th),.ow (.list (ps.map ao)),.fz (.int (0 + (i:Int))),b]) er]
   obtain⟨env',β',ef,qs,b,rfl,hal2,hql⟩:=dJ (t:=.nm 7) (m:=kA (([4] ++ []) ++ []) (cJ (f2 (fU 0 bG (ae (gv 4) ah)) (cst (.int 0)) (cO false)))
     (oo 5 (([] ++ []) ++ (([] ++ []) ++ [])) (aW (ae (f2 (gv 3) (gv 6) bN) (ae (f2 (gv 3) (gv 7) bN) ah)))) mj) (ds:=cB (0 + (i:Int) + 1) ((n:Int) - (0 + (i:Int) + 1)).toNat) (k:=0)
    (λk env β=>∃(qs:List Pr) (b:Sl),env= [.bx,.fz (.int most),.fz (.int n),.fz (.list (ms.map int)),.fz (.int th),.ow (.list (qs.map ao)),.fz (.int (0 + (i:Int))),b]/\vC ms qs/\qs.length<=8 * i + k)
    (env:=[.bx,.fz (.int most),.fz (.int n),.fz (.list (ms.map int)),.fz (.int th),.ow (.list (ps.map ao)),.fz (.int (0 + (i:Int))),b]) (β:=β) ⟨ps,b,rfl,hal,by omega⟩ (by
     rintro k d env β hk ⟨qs,b,rfl,hal,hql⟩
     obtain⟨hkn,rfl⟩:=gE hk
     have hkn:i + 1 + k < n:=by omega
     refine⟨[.bx,.fz (.int most),.fz (.int n),.fz (.list (ms.map int)),.fz (.int th),.ow (.list (qs.map ao)),.fz (.int (0 + (i:Int))),.fz (.int (0 + (i:Int) + 1 + (k:Int)))],rfl,?_⟩
     obtain⟨z,hz,ez⟩:=cD hthv.1 (by omega) β
     have et:cJ (f2 (fU 0 bG (ae (gv 4) ah)) (cst (.int 0)) (cO false)) [Nv.bx,.da (.int most),.da (.int n),.da (.list (ms.map int)),.da (.int th),.da (.list (qs.map ao)),.da (.int (0 + (i:Int))),.da (.int (0 + (i:Int) + 1 + (k:Int)))] β=.ok (decide ((z:Int)=0)) (β / th):=du (neg:=false) (bY (ds:=[.int th]) (by rfl) rfl ez) rfl
     by_cases c:(z:Int)=0
     ·rw[MR c] at et
      have h1:i < ms.length:=by omega
      have h2:i + 1 + k < ms.length:=by omega
      refine⟨[.bx,.fz (.int most),.fz (.int n),.fz (.list (ms.map int)),.fz (.int th),.ow (.list ((qs ++ [(ms[i],ms[i + 1 + k])]).map ao)),.fz (.int (0 + (i:Int))),.fz (.int (0 + (i:Int) + 1 + (k:Int)))],β / th,?_,qs ++ [(ms[i],ms[i + 1 + k])],_,rfl,?_,?_⟩
      ·rw[gZ et]
       have ep:aW (ae (f2 (gv 3) (gv 6) bN) (ae (f2 (gv 3) (gv 7) bN) ah)) [Nv.bx,.da (.int most),.da (.int n),.da (.list (ms.map int)),.da (.int th),.da (.list (qs.map ao)),.da (.int (0 + (i:Int))),.da (.int (0 + (i:Int) + 1 + (k:Int)))] (β / th)=.ok (ao (ms[i],ms[i + 1 + k])) (β / th):=by
        refine jd (ds:=[.int ms[i],.int ms[i + 1 + k]]) ?_ (by simp)
        have a1:f2 (gv 3) (gv 6) bN [Nv.bx,.da (.int most),.da (.int n),.da (.list (ms.map int)),.da (.int th),.da (.list (qs.map ao)),.da (.int (0 + (i:Int))),.da (.int (0 + (i:Int) + 1 + (k:Int)))] (β / th)=.ok (.int ms[i]) (β / th):=by
         refine aA rfl rfl ?_
         show jv (ms.map int) (0 + (i:Int))=_
         rw[N2,cX,n5 h1];rfl
        have a2:f2 (gv 3) (gv 7) bN [Nv.bx,.da (.int most),.da (.int n),.da (.list (ms.map int)),.da (.int th),.da (.list (qs.map ao)),.da (.int (0 + (i:Int))),.da (.int (0 + (i:Int) + 1 + (k:Int)))] (β / th)=.ok (.int ms[i + 1 + k]) (β / th):=by
         refine aA rfl rfl ?_
         show jv (ms.map int) (0 + (i:Int) + 1 + (k:Int))=_
         rw[show (0 + (i:Int) + 1 + (k:Int))=((i + 1 + k:Nat):Int) by omega,cX,n5 h2];rfl
        rw[bD,a1]
        dsimp only[R.bnd]
        rw[bD,a2];rfl
       have:=tY (i:=5) (L:=([] ++ []) ++ (([] ++ []) ++ [])) (env:=[.bx,.fz (.int most),.fz (.int n),.fz (.list (ms.map int)),.fz (.int th),.ow (.list (qs.map ao)),.fz (.int (0 + (i:Int))),.fz (.int (0 + (i:Int) + 1 + (k:Int)))]) (ds:=qs.map ao) (by rfl) ep (by rfl) (by rw[ML];omega)
       rw[Nz]
       exact this
      ·intro p hp
       rcases M6.mp hp with hp |hp
       ·exact hal p hp
       ·have:p=(ms[i],ms[i + 1 + k]):=by simpa using hp
        subst this
        exact⟨i,i + 1 + k,by omega,MG h1,MG h2⟩
      ·rw[Nf];simp;omega
     ·rw[MW c] at et
      refine⟨_,_,by rw[gY et];rfl,qs,_,rfl,hal,by omega⟩)
   have hlen:(cB (0 + (i:Int) + 1) ((n:Int) - (0 + (i:Int) + 1)).toNat).length<=7:=by rw[fY];omega
   exact⟨_,_,ef,qs,_,b,rfl,hal2,by omega⟩)
 rw[aE (env':=[.bx,.fz (.int most),.fz (.int n),.fz (.list (ms.map int)),.fz (.int th),.ow (.list (ps.map ao)),a,b]) (β':=β') ?g5]
 case g5=>
  rw[iO (env:=[.bx,.fz (.int most),.fz (.int n),.fz (.list (ms.map int)),.fz (.int th),.ow (.list []),.no,.no]) (cQ (n:=n) rfl (by omega))]
  exact ef
 obtain⟨w,ir,O⟩:=A4 n1 n8 hp hal
 refine⟨n,OM.bR n (OM.Tr (OM.Mem ps)),β',?_,O,by omega⟩
 have e9:aW (ae (gv 2) (ae (aF jM (ae (gv 5) ah)) ah)) [Nv.bx,.da (.int most),.da (.int n),.da (.list (ms.map int)),.da (.int th),.da (.list (ps.map ao)),a.val,b.val] β'=.ok (aC n (OM.bR n (OM.Tr (OM.Mem ps)))) β':=by
  refine jd (ds:=[.int n,.tuple ((OM.bR n (OM.Tr (OM.Mem ps))).map ao)]) ?_ (by simp)
  have a1:aF jM (ae (gv 5) ah) [Nv.bx,.da (.int most),.da (.int n),.da (.list (ms.map int)),.da (.int th),.da (.list (ps.map ao)),a.val,b.val] β'=.ok (.tuple ((OM.bR n (OM.Tr (OM.Mem ps))).map ao)) β':=aI rfl (AX n1 n8 w ir)
  rw[bD]
  show (R.ok (int n) β').bnd _=_
  dsimp only[R.bnd]
  rw[bD,a1];rfl
 show oW (toS (aW (ae (gv 2) (ae (aF jM (ae (gv 5) ah)) ah)) [Nv.bx,.da (.int most),.da (.int n),.da (.list (ms.map int)),.da (.int th),.da (.list (ps.map ao)),a.val,b.val] β') _)=_
 rw[e9];rfl
theorem tI (p:Pr):∀l:List Pr,((l.map ao).any λe=>PyData.eqv e (ao p))=decide (p∈l)
 | []=>rfl
 |q :: l=>by
  rw[Ng,Oc,tI p l,xU,ND]
  simp only[Pb,M4,MN]
  exact⟨λh=>h.imp Eq.symm id,λh=>h.imp Eq.symm id⟩
def zc (l:List Pr):(l.map ao).all SeqAt.shaped=true:=by
 rw[NW]
 intro d hd
 obtain⟨p,_,rfl⟩:=MQ.mp hd
 exact jK p
def zG (neg:Bool)(p:Pr)(l:List Pr):xf neg (ao p) (.tuple (l.map ao))=some (.bool (if neg then !decide (p∈l) else decide (p∈l))):=by
 unfold xf
 simp only[mM,jK,zc,OC,NN,tI]
def y6 (neg:Bool)(p:Pr)(l:List Pr):xf neg (ao p) (.list (l.map ao))=some (.bool (if neg then !decide (p∈l) else decide (p∈l))):=by
 unfold xf
 simp only[mM,jK,zc,OC,NN,tI]
def pC (neg:Bool)(i j:Int):cO neg (.int i) (.int j)=some (.bool (if neg then !decide (i=j) else decide (i=j))):=rfl
theorem mW {fa fb:VF D}{vs:List Nv}{β:Int}{a b:Bool}(h:fa vs β=.ok (.bool a) β)(h':fb vs β=.ok (.bool b) β):dA fa fb vs β=.ok (.bool (a && b)) β:=by
 unfold dA
 rw[h]
 dsimp only[R.bnd]
 cases a with
 |true=>exact h'
 |false=>rfl
def dI {fa fb:VF D}{vs:List Nv}{β:Int}{a b:Int}(h:fa vs β=.ok (.int a) β)(h':fb vs β=.ok (.int b) β):aW (ae fa (ae fb ah)) vs β=.ok (ao (a,b)) β:=by
 refine jd (ds:=[.int a,.int b]) ?_ (by simp)
 rw[bD,h]
 dsimp only[R.bnd]
 rw[bD,h'];rfl
def ox (l:List Pr)(p:Pr):Bool:= !decide (p.1=p.2) && (!decide ((p.1,p.2)∈l) && !decide ((p.2,p.1)∈l))
def Mn {n:Nat}{l:List Pr}{fa:VF D}{vs:List Nv}{β:Int}(h:fa vs β=.ok (aC n l) β):f2 fa (cst (.int 1)) bN vs β=.ok (.tuple (l.map ao)) β:=aA h rfl rfl
def K4 {n:Nat}{l:List Pr}{fa:VF D}{vs:List Nv}{β:Int}(h:fa vs β=.ok (aC n l) β):f2 fa (cst (.int 0)) bN vs β=.ok (.int n) β:=aA h rfl rfl
def HN:List D->FR:=bq 3 3 oC
def ug:List D->FR:=bq 3 3 mQ
def Im (n:Nat)(l:List Pr)(a b:Int):HN [aC n l,.int a,.int b]=.ok (.bool (ox l (a,b))) false:=by
 show fin (toS (dA (f2 (gv 1) (gv 2) (cO true)) (dA (f2 (aW (ae (gv 1) (ae (gv 2) ah))) (f2 (gv 0) (cst (.int 1)) bN) (xf true)) (f2 (aW (ae (gv 2) (ae (gv 1) ah))) (f2 (gv 0) (cst (.int 1)) bN) (xf true))) [.da (aC n l),.da (.int a),.da (.int b)] 0) _)=_
 rw[mW (aA (x:=.int a) (y:=.int b) rfl rfl (pC true a b)) (mW (aA (dI (a:=a) (b:=b) rfl rfl) (Mn (n:=n) (l:=l) rfl) (zG true (a,b) l)) (aA (dI (a:=b) (b:=a) rfl rfl) (Mn (n:=n) (l:=l) rfl) (zG true (b,a) l)))]
 rfl
def CL (n:Nat)(l:List Pr)(a b:Int):ug [aC n l,.int a,.int b]=.ok (.bool (ox l (a,b))) false:=Im n l a b
def og:List D->FR:=bq 1 1 hU
def Gp {n:Nat}(h1:1<=n)(h8:n<=8):og [.int n]=.ok (.list ((OM.cq n).map ao)) true:=by
 have hm:n * n<=64:=N4 h8 h8
 have e:aM 1 [0] (.nm 0) (bJ (f2 (gv 0) (gv 0) cK)) kG (aW (ae (f2 (gv 0) (gv 1) Bw) (ae (f2 (gv 0) (gv 1) mC) ah))) [.da (.int n)] 0=.ok (.list ((OM.cq n).map ao)) 0:=by
  have hi:bJ (f2 (gv 0) (gv 0) cK) [.da (.int n)] 0=.ok ((List.range (n * n)).map λ(k:Nat)=>int (0 + (k:Int))) 0:=by
   refine cQ (n:=n * n) (aA (x:=.int n) (y:=.int n) rfl rfl ?_) (by omega)
   rw[ml ⟨by omega,by omega⟩];rfl
  rw[cy (l:=List.range (n * n)) (e:=λ(k:Nat)=>int (0 + (k:Int))) (λk=>ao (((k / n:Nat):Int),((k % n:Nat):Int))) hi (by rw[N5];omega) λk hk=>⟨_,rfl,?_⟩]
  ·unfold OM.cq;rw[NQ];rfl
  ·refine dI (aA (x:=.int (0 + (k:Int))) (y:=.int n) rfl rfl ?_) (aA (x:=.int (0 + (k:Int))) (y:=.int n) rfl rfl ?_)
   ·rw[yU (by omega) (by omega),N2];rfl
   ·rw[oq (by omega),N2];rfl
 show fin (hU [.fz (.int n)] 0)=_
 unfold hU
 rw[wD,show vl [Sl.fz (.int n)]= [.da (.int n)] from rfl,e];rfl
def c5 (n:Nat)(l:List Pr):List Pr:=(OM.cq n).filter (ox l)
def fI (n:Nat):(OM.cq n).length=n * n:=by unfold OM.cq;simp
def uN {n:Nat}{l:List Pr}(h8:n<=8):(c5 n l).length<=64:=by
 have h1:(c5 n l).length<=(OM.cq n).length:=NR _ _
 rw[fI] at h1
 have:n * n<=64:=N4 h8 h8
 omega
def z5 (n:Nat)(l:List Pr):OM.tE (c5 n l):=OM.de _ (OM.gF n)
def fA {n:Nat}{l:List Pr}{p:Pr}:p∈c5 n l↔((0<=p.1/\p.1 < n)/\(0<=p.2/\p.2 < n))/\ox l p=true:=by
 unfold c5;rw[M8,OM.bC]
noncomputable def xI:List D->FR:=bq 1 1 (ph kW og HN)
def iL {fa:VF D}{vs:List Nv}{β:Int}{c:Bool}(h:fa vs β=.ok (.bool c) β):mZ fa vs β=.ok c β:=by rw[tD,h];rfl
def FK {n:Nat}{l:List Pr}(O:OM.Ord n l):xI [aC n l]=.ok (.list ((c5 n l).map ao)) true:=by
 have hm:n * n<=64:=N4 O.hi O.hi
 show fin (ph kW og HN [.fz (aC n l)] 0)=_
 unfold ph
 rw[aE (env':=[.fz (aC n l)]) (β':=0) ?g1]
 case g1=>
  show toS (aF kW (ae (gv 0) ah) [.da (aC n l)] 0) _=_
  rw[aI (ds:=[aC n l]) rfl (uz O)];rfl
 have e:aM 2 [0] (.two 0 1) (bQ (aF og (ae (f2 (gv 0) (cst (.int 0)) bN) ah))) (mZ (aF HN (ae (gv 2) (ae (gv 0) (ae (gv 1) ah))))) (aW (ae (gv 0) (ae (gv 1) ah))) [.da (aC n l)] 0=.ok (.list ((c5 n l).map ao)) 0:=by
  have hi:bQ (aF og (ae (f2 (gv 0) (cst (.int 0)) bN) ah)) [.da (aC n l)] 0=.ok ((OM.cq n).map ao) 0:=by
   unfold bQ
   rw[aI (ds:=[.int n]) rfl (Gp O.lo O.hi)];rfl
  exact dS (l:=OM.cq n) (e:=ao) (ox l) ao hi (by rw[fI];omega) λp hp=>⟨_,rfl,iL (aI (ds:=[aC n l,.int p.1,.int p.2]) rfl (Im n l p.1 p.2)),λ_=>dI rfl rfl⟩
 show fin (toS (aM 2 [0] (.two 0 1) (bQ (aF og (ae (f2 (gv 0) (cst (.int 0)) bN) ah))) (mZ (aF HN (ae (gv 2) (ae (gv 0) (ae (gv 1) ah))))) (aW (ae (gv 0) (ae (gv 1) ah))) [.da (aC n l)] 0) _)=_
 rw[e];rfl
theorem Eb {c:Nat}:∀(ts:List Str) (k:Nat) (acc:Str),(∀t∈ts,t.length + 2<=c)->(textFrom k acc ts).length<=acc.length + c * ts.length
 | [],k,acc,_=>by show acc.length<=_;omega
 |t :: r,k,acc,h=>by
  have ih:=Eb r (k + 1) (acc ++ (if k > 0 then ", " else "":String) ++ t) λu hu=>h u (MM _ hu)
  have e:(acc ++ (if k > 0 then ", " else "":String) ++ t).length=acc.length + (if k > 0 then 2 else 0) + t.length:=by
   rw[OX,OX]
   split <;> rfl
  rw[e] at ih
  have ht:=h t (MP ..)
  show (textFrom (k + 1) _ r).length<=_
  have e2:c * (t :: r).length=c * r.length + c:=by rw[Na,Nat.mul_succ]
  rw[e2]
  have:(if k > 0 then 2 else 0:Nat)<=2:=by split <;> omega
  omega
end RM
namespace L2
open PySem PySem.Spec PyProof.Rows
section
variable {X:Cx}{pins:List (Addr×Obj)}{σ:St}{H:Hp}{s:Shared}
def Inv.turnedL {t':Nat}{ch:List Addr}{h':Heap}(I:Inv X pins σ H s)(k:∀b o,b∉ch->s.heap.get? b=some o->h'.get? b=some o)(hf:∀b∈ch,oO X pins H b):Inv X pins σ H {s with heap:=h',toks:=t'}:=by
 have nit:∀b u,H b=some u->b∉ch:=λb u e z=>by rw[(hf b z).1] at e;cases e
 have nL:X.env.locals∉ch:=λz=>(hf _ z).2.1 rfl
 refine I.step (g':=s.gens) (d':=s.drawn) (ch:=ch) (λb hb=>?_) (λb o _ _ hc e _=>k b o hc e) (λb o _ _ hc e _=>⟨o.slots,k b o hc e⟩) (λ_ _ _ _ n=>n)
  (λb o hc e=>⟨o,k b o hc e⟩) (λ_ _ e=>e) (λ_ _ _ e=>e) (λb ps e=>⟨#[],by rw[e];simp⟩) (λm hm=>?_) (λb u e=>?_) I.bare
 ·obtain⟨f0,f1,f2,f3,f4,f5⟩:=hf b hb
  exact⟨f3,f1,f4,f5⟩
 ·obtain⟨o,es,ep,ho,r⟩:=hm
  exact⟨o,es,ep,k _ o nL ho,r⟩
 ·refine (I.hok b u e).stay (λc v hc q=>k c v ?_ q) (λ_ q=>q) λ_ _ q=>q
  rcases hc with z |z
  ·rw[z];exact nit b u e
  ·exact nit c _ z
end
def EC {H:Hp}{a:Addr}{u:HO}(h:Rd H a u):H a≠none:=by
 rcases h with h | ⟨o,h⟩ <;> rw[h] <;> simp
section
variable {κ:Type}[DecidableEq κ]
def lu (kvs:List (κ×V))(k:κ):Option V:=(kvs.find? λkv=>decide (kv.1=k)).map (·.2)
def putK (kvs:List (κ×V))(k:κ)(v:V):List (κ×V):=
 if (kvs.any λkv=>decide (kv.1=k))=true then kvs.map (λkv=>if kv.1=k then (kv.1,v) else kv) else kvs ++ [(k,v)]
def kL {p:κ×V}{r:List (κ×V)}{k:κ}(e:p.1=k):lu (p :: r) k=some p.2:=by simp[lu,Ol,e]
def kH {p:κ×V}{r:List (κ×V)}{k:κ}(e:¬p.1=k):lu (p :: r) k=lu r k:=by simp[lu,Ol,e]
theorem qz (k:κ):∀kvs:List (κ×V),(kvs.any λkv=>decide (kv.1=k))=(lu kvs k).isSome
 | []=>rfl
 |p :: r=>by
  rw[Oc]
  by_cases e:p.1=k
  ·simp only[kL e,MR e,Bool.true_or,Option.isSome_some]
  ·rw[kH e,MW e,Bool.false_or];exact qz k r
def gN (kvs:List (κ×V))(k:κ)(v:V):(putK kvs k v).length<=kvs.length + 1:=by
 unfold putK
 split
 ·rw[ML];omega
 ·rw[Nf,Na,length_nil];omega
def DQ {kvs:List (κ×V)}{k:κ}(v:V)(h:lu kvs k=none):putK kvs k v=kvs ++ [(k,v)]:=by
 unfold putK
 rw[qz,h]
 exact MO (by decide)
theorem pI.isSome_eq {o:Option V}{u:Option Value}(r:pI o u):o.isSome=u.isSome:=by
 cases o with
 |none=>cases u with
  |none=>rfl
  |some _=>exact (show False from r).elim
 |some _=>cases u with
  |none=>exact (show False from r).elim
  |some _=>rfl
theorem KV.val {kvs:List (κ×V)}{vs:List (κ×Value)}(r:KV kvs vs)(k:κ):pI (lu kvs k) (valueAt vs k):=by
 unfold KV at r
 induction r with
 |nil=>exact True.intro
 | @cons p q ps qs h t ih=>
  obtain⟨h1,h2⟩:=h
  by_cases e:p.1=k
  ·have e':q.1=k:=h1.symm.trans e
   have b:valueAt (q :: qs) k=some q.2:=by simp[valueAt,Ol,e']
   rw[kL e,b];exact h2
  ·have e':¬q.1=k:=λz=>e (h1.trans z)
   have b:valueAt (q :: qs) k=valueAt qs k:=by simp[valueAt,Ol,e']
   rw[kH e,b];exact ih
theorem KV.any {kvs:List (κ×V)}{vs:List (κ×Value)}(r:KV kvs vs)(k:κ):(kvs.any λkv=>decide (kv.1=k))=vs.any λkv=>decide (kv.1=k):=by
 unfold KV at r
 induction r with
 |nil=>rfl
 |cons h t ih=>rw[Oc,Oc,ih,h.1]
theorem KV.repl {kvs:List (κ×V)}{vs:List (κ×Value)}(r:KV kvs vs)(k:κ){y:V}{u:Value}(ry:RelV y u) :
  KV (kvs.map λkv=>if kv.1=k then (kv.1,y) else kv) (vs.map λkv=>if kv.1=k then (kv.1,u) else kv):=by
 unfold KV at r ⊢
 induction r with
 |nil=>exact .nil
 | @cons p q ps qs h t ih=>
  rw[Ng,Ng]
  refine .cons ?_ ih
  obtain⟨h1,h2⟩:=h
  by_cases e:p.1=k
  ·rw[MJ e,MJ (h1.symm.trans e)];exact⟨h1,ry⟩
  ·rw[MO e,MO (λz=>e (h1.trans z))];exact⟨h1,h2⟩
def KV.put {kvs:List (κ×V)}{vs:List (κ×Value)}(r:KV kvs vs)(k:κ){y:V}{u:Value}(ry:RelV y u):KV (putK kvs k y) (stored vs k u):=by
 unfold putK stored
 rw[r.any k]
 by_cases e:(vs.any λkv=>decide (kv.1=k))=true
 ·rw[MJ e,MJ e];exact r.repl k ry
 ·rw[MO e,MO e];exact Paired.snoc r ⟨rfl,ry⟩
def KV.length {kvs:List (κ×V)}{vs:List (κ×Value)}(r:KV kvs vs):kvs.length=vs.length:=Paired.length r
end
theorem sD {P:Program}{w:World}{k:Key}{u:Value}(r:RelV (kV k) u):(bF P w).is k u=true:=by
 cases k with
 |inl i=>obtain⟨t,e⟩:=(show ∃t,u=Value.int i t from r);subst e;exact vv P w i t
 |inr x=>obtain⟨t,e⟩:=(show ∃t,u=Value.str x t from r);subst e;exact xc P w x t
theorem rX {P:Program}{w:World}:∀{ks:List Key} {us:List Value},Vals (ks.map kV) us->ItemsAre (bF P w) ks us
 | [],_,r=>by rw[List.map_nil] at r;cases r;exact .nil
 |k :: ks,_,r=>by
  rw[Ng] at r
  cases r with
  |cons h t=>exact .cons (sD h) (rX t)
abbrev KT (H:Hp):List (List Key×V)->List (List Key×Addr×Value)->Prop:=Paired λp q=>p.1=q.1/\Rd H q.2.1 (.tup (p.1.map kV))/\RelV p.2 q.2.2
theorem KT.val {H:Hp}{kvs:List (List Key×V)}{xs:List (List Key×Addr×Value)}(r:KT H kvs xs)(k:List Key):pI (lu kvs k) ((atKey xs k).map (·.2)):=by
 induction r with
 |nil=>exact True.intro
 | @cons p q ps qs h t ih=>
  obtain⟨h1,_,h2⟩:=h
  by_cases e:p.1=k
  ·have e':q.1=k:=h1.symm.trans e
   have b:atKey (q :: qs) k=some q.2:=by simp[atKey,Ol,e']
   rw[kL e,b];exact h2
  ·have e':¬q.1=k:=λz=>e (h1.trans z)
   have b:atKey (q :: qs) k=atKey qs k:=by simp[atKey,Ol,e']
   rw[kH e,b];exact ih
theorem KT.repl {H:Hp}{kvs:List (List Key×V)}{xs:List (List Key×Addr×Value)}(r:KT H kvs xs)(k:List Key){y:V}{u:Value}(ry:RelV y u) :
  KT H (kvs.map λkv=>if kv.1=k then (kv.1,y) else kv) (xs.map (putAt k u)):=by
 induction r with
 |nil=>exact .nil
 | @cons p q ps qs h t ih=>
  rw[Ng,Ng]
  refine .cons ?_ ih
  obtain⟨h1,h2,h3⟩:=h
  unfold putAt
  by_cases e:p.1=k
  ·rw[MJ e,MJ (h1.symm.trans e)];exact⟨h1,h2,ry⟩
  ·rw[MO e,MO (λz=>e (h1.trans z))];exact⟨h1,h2,h3⟩
def KT.put {H:Hp}{kvs:List (List Key×V)}{xs:List (List Key×Addr×Value)}(r:KT H kvs xs)(k:List Key){b:Addr}{y:V}{u:Value}(hb:Rd H b (.tup (k.map kV)))(ry:RelV y u) :
  KT H (putK kvs k y) (storedH xs k b u):=by
 have e:(kvs.any λkv=>decide (kv.1=k))=(atKey xs k).isSome:=by
  rw[qz,(r.val k).isSome_eq,Option.isSome_map]
 unfold putK storedH
 rw[e]
 by_cases q:(atKey xs k).isSome=true
 ·rw[MJ q,MJ q];exact r.repl k ry
 ·rw[MO q,MO q];exact Paired.snoc r ⟨rfl,hb,ry⟩
def KT.keeps {H H':Hp}{kvs:List (List Key×V)}{xs:List (List Key×Addr×Value)}(r:KT H kvs xs)(ht:∀b ys,Rd H b (.tup ys)->Rd H' b (.tup ys)):KT H' kvs xs:=
 Paired.mapP r λ_ _ z=>⟨z.1,ht _ _ z.2.1,z.2.2⟩
section
variable {P:Program}{w:World}{H:Hp}{h:Heap}{a:Addr}
def GC {u:HO}(ok:kE P w H h)(e:Rd H a u):bP P w H h a u:=e.ok ok
def qC {kvs:List (Key×V)}(ok:kE P w H h)(e:Rd H a (.dK kvs)):kvs.length<=sizeLine/\(a == sysModules)=false/\∃vs,KV kvs vs/\h.DictOf (bF P w) a vs:=
 show bP P w H h a (.dK kvs) from GC ok e
def D4 {kvs:List (Key×V)}(ok:kE P w H h)(e:H a=some (.dK kvs)):kvs.length<=sizeLine/\(a == sysModules)=false/\∃vs,KV kvs vs/\h.DictOf (bF P w) a vs:=qC ok (.inl e)
def ki {ks:List Key}(ok:kE P w H h)(e:Rd H a (.tup (ks.map kV))):(tupleKind (bF P w)).is h ks a:=by
 obtain⟨_,its,r,o,h1,h2,n,h3⟩:=(show bP P w H h a (.tup (ks.map kV)) from e.ok ok)
 exact⟨o,its.toArray,n,h1,h2,h3.1,by simpa using rX r⟩
def vd {kvs:List (List Key×V)}(ok:kE P w H h)(e:Rd H a (.dT kvs)):kvs.length<=sizeLine/\(a == sysModules)=false/\
  ∃xs,KT H kvs xs/\h.DictOfH (tupleKind (bF P w)) a xs:=by
 obtain⟨z,y,xs,r,o,es,ep,h1,h2,h3,h4,h5⟩:=(show bP P w H h a (.dT kvs) from GC ok e)
 refine⟨z,y,xs,r,o,es,ep,h1,h2,h3,h4,λx hx=>?_,h5⟩
 have all:∀{l:List (List Key×V)} {m:List (List Key×Addr×Value)},KT H l m->∀x∈m,(tupleKind (bF P w)).is h x.1 x.2.1:=by
  intro l m q
  induction q with
  |nil=>intro x hx;exact nomatch hx
  | @cons p q ps qs hq t ih=>
   intro x hx
   rcases MN.mp hx with e |hx
   ·subst e
    exact ki ok (by rw[<-hq.1];exact hq.2.1)
   ·exact ih x hx
 exact all r x hx
def Dz {kvs:List (List Key×V)}(ok:kE P w H h)(e:H a=some (.dT kvs)):kvs.length<=sizeLine/\(a == sysModules)=false/\
  ∃xs,KT H kvs xs/\h.DictOfH (tupleKind (bF P w)) a xs:=vd ok (.inl e)
end
def l6 (H:Hp)(a:Addr)(y:V)(r:Option V):Prop:=
 (∃kvs k,Rd H a (.dK kvs)/\y=kV k/\r=lu kvs k)\/∃kvs k b,Rd H a (.dT kvs)/\y=.ref b/\Rd H b (.tup (k.map kV))/\r=lu kvs k
def xG (H:Hp)(a:Addr)(y v:V)(H':Hp):Prop:=
 (∃kvs k,H a=some (.dK kvs)/\y=kV k/\kvs.length < sizeLine/\H'=upd H a (.dK (putK kvs k v)))\/
 ∃kvs k b,H a=some (.dT kvs)/\y=.ref b/\Rd H b (.tup (k.map kV))/\kvs.length < sizeLine/\H'=upd H a (.dT (putK kvs k v))
def l6.k {H:Hp}{a:Addr}{kvs:List (Key×V)}{k:Key}(e:H a=some (.dK kvs)):l6 H a (kV k) (lu kvs k):=.inl ⟨kvs,k,.inl e,rfl,rfl⟩
def l6.t {H:Hp}{a b:Addr}{kvs:List (List Key×V)}{k:List Key}(e:H a=some (.dT kvs))(eb:Rd H b (.tup (k.map kV))):l6 H a (.ref b) (lu kvs k):=.inr ⟨kvs,k,b,.inl e,rfl,eb,rfl⟩
def xG.k {H:Hp}{a:Addr}{kvs:List (Key×V)}{k:Key}{v:V}(e:H a=some (.dK kvs))(hl:kvs.length < sizeLine):xG H a (kV k) v (upd H a (.dK (putK kvs k v))):=.inl ⟨kvs,k,e,rfl,hl,rfl⟩
def xG.t {H:Hp}{a b:Addr}{kvs:List (List Key×V)}{k:List Key}{v:V}(e:H a=some (.dT kvs))(eb:Rd H b (.tup (k.map kV)))(hl:kvs.length < sizeLine) :
  xG H a (.ref b) v (upd H a (.dT (putK kvs k v))):=.inr ⟨kvs,k,b,e,rfl,eb,hl,rfl⟩
section
variable {X:Cx}{pins:List (Addr×Obj)}{σ:St}{H:Hp}{s:Shared}{a:Addr}{y v:V}{u r:Value}{o:Option V}{A:Around}{E:Value->Shared->Prop}
def Inv.big (I:Inv X pins σ H s):sysModules < s.heap.objs.size:=by
 have h:mainGlobals < s.heap.objs.size:=(I.mod.glob.keeps I.bk).lt
 exact Nat.lt_trans (by decide) h
def AI {Q:Value->Shared->Prop}(hu:A.units + 1 < cLine)(I:Inv X pins σ H s)(g:l6 H a y (some v))(ry:RelV y u)(h:∀w' s',Inv X pins σ H s'->RelV v w'->Q w' s') :
  wpAny (model X.prog X.w) A (getItem (.ref a) u) Q E s:=by
 rcases g with⟨kvs,k,e,ey,l⟩ | ⟨kvs,k,b,e,ey,eb,l⟩
 ·subst ey
  obtain⟨z,hd,vs,rel,dd⟩:=qC I.hok e
  obtain⟨w',hw,rw'⟩:=pI.some_of (v:=v) (o:=valueAt vs k) (by rw[l];exact rel.val k)
  exact wpAny_getItem_of (sD ry) dd.mapOf hw (h w' _ (I.tok _) rw')
 ·subst ey
  cases (show u=Value.ref b from ry)
  obtain⟨z,hd,xs,rel,dd⟩:=vd I.hok e
  obtain⟨w',hw,rw'⟩:=pI.some_of (v:=v) (o:=(atKey xs k).map (·.2)) (by rw[l];exact rel.val k)
  obtain⟨p,hp,hp2⟩:=Option.map_eq_some_iff.mp hw
  refine wpAny_getItem_heap (Ox hu) (ki I.hok eb) dd hp ?_
  rw[hp2]
  exact h w' _ (I.tok _) rw'
def L4 {Q:Value->Shared->Prop}(hu:A.units + 1 < cLine)(I:Inv X pins σ H s)(g:l6 H a y o)(ry:RelV y u)(h:∀s',Inv X pins σ H s'->Q (.bool o.isSome) s') :
  wpAny (model X.prog X.w) A (compareOp .In u (.ref a)) Q E s:=by
 rcases g with⟨kvs,k,e,ey,l⟩ | ⟨kvs,k,b,e,ey,eb,l⟩
 ·subst ey
  obtain⟨z,hd,vs,rel,dd⟩:=qC I.hok e
  refine wpAny_in_of (sD ry) hd dd.mapOf ?_
  rw[<-(rel.val k).isSome_eq,<-l]
  exact h _ (I.tok _)
 ·subst ey
  cases (show u=Value.ref b from ry)
  obtain⟨z,hd,xs,rel,dd⟩:=vd I.hok e
  refine wpAny_in_heap (Ox hu) (ki I.hok eb) hd dd ?_
  have q:=(rel.val k).isSome_eq
  rw[Option.isSome_map] at q
  rw[<-q,<-l]
  exact h _ (I.tok _)
def EG {Q:Value->Shared->Prop}(hu:A.units + 1 < cLine)(I:Inv X pins σ H s)(g:l6 H a y o)(ry:RelV y u)(h:∀s',Inv X pins σ H s'->Q (.bool (!o.isSome)) s') :
  wpAny (model X.prog X.w) A (compareOp .NotIn u (.ref a)) Q E s:=by
 rcases g with⟨kvs,k,e,ey,l⟩ | ⟨kvs,k,b,e,ey,eb,l⟩
 ·subst ey
  obtain⟨z,hd,vs,rel,dd⟩:=qC I.hok e
  refine wpAny_notIn_of (sD ry) hd dd.mapOf ?_
  rw[<-(rel.val k).isSome_eq,<-l]
  exact h _ (I.tok _)
 ·subst ey
  cases (show u=Value.ref b from ry)
  obtain⟨z,hd,xs,rel,dd⟩:=vd I.hok e
  refine wpAny_notIn_heap (Ox hu) (ki I.hok eb) hd dd ?_
  have q:=(rel.val k).isSome_eq
  rw[Option.isSome_map] at q
  rw[<-q,<-l]
  exact h _ (I.tok _)
def nA {h':Heap}{t':Nat}{ob:HO}(I:Inv X pins σ H s)(mu:Kw (H a))(hs:Heap.SameBut a s.heap h')(he:∃q,h'.get? a=some q)(new:bP X.prog X.w (upd H a ob) h' a ob) :
  Inv X pins σ (upd H a ob) {s with heap:=h',toks:=t'}:=
 I.write (x:=a) (e:=a) mu (.inl rfl) (λb q hb z=>(hs.2 b hb).trans z) he new
def BD {P:Program}{w:World}{H':Hp}{h':Heap}{kvs:List (Key×V)}{vs:List (Key×Value)}(z:kvs.length<=sizeLine)(hd:(a == sysModules)=false)(rel:KV kvs vs)(dd:h'.DictOf (bF P w) a vs) :
  bP P w H' h' a (.dK kvs):=⟨z,hd,vs,rel,dd⟩
def AG {H':Hp}{Q:Unit->Shared->Prop}(hu:A.units + 1 < cLine)(I:Inv X pins σ H s)(g:xG H a y v H')(ry:RelV y u)(rv:RelV v r)(h:∀s',Inv X pins σ H' s'->Q () s') :
  wpAny (model X.prog X.w) A (setItem (.ref a) u r) Q E s:=by
 rcases g with⟨kvs,k,e,ey,l,eH⟩ | ⟨kvs,k,b,e,ey,eb,l,eH⟩
 ·subst ey eH
  obtain⟨z,hd,vs,rel,dd⟩:=D4 I.hok e
  have hz:vs.length<=sizeLine:=by rw[<-rel.length];exact z
  have hl:(putK kvs k v).length<=sizeLine:=by have:=gN kvs k v;omega
  refine wpAny_setItem_pairs (hsz:=hz) (sD ry) dd λh' dd' hs=>h _ ?_
  have he:∃q,h'.get? a=some q:=let ⟨q,_,_,hq,_⟩:=dd';⟨q,hq⟩
  exact nA I (by rw[e];exact True.intro) hs he (BD hl hd (rel.put k rv) dd')
 ·subst ey eH
  cases (show u=Value.ref b from ry)
  obtain⟨z,hd,xs,rel,dd⟩:=Dz I.hok e
  have hz:xs.length<=sizeLine:=by rw[<-Paired.length rel];exact z
  have hl:(putK kvs k v).length<=sizeLine:=by have:=gN kvs k v;omega
  refine wpAny_setItem_heap (hsz:=hz) (Ox hu) (ki I.hok eb) dd λh' dd' hs=>h _ ?_
  obtain⟨q,es,ep,hq,h2,h3,h4,_,h5⟩:=dd'
  refine nA I (by rw[e];exact True.intro) hs ⟨q,hq⟩ ⟨hl,hd,_,(rel.put k eb rv).keeps λc ys ec=>?_,q,es,ep,hq,h2,h3,h4,h5⟩
  exact ec.imp (λec=>by rw[az (oD ec e (λz=>nomatch z))];exact ec) λ⟨o,ec⟩=>⟨o,by rw[az (oD ec e (λz=>nomatch z))];exact ec⟩
end
def IA (i:Expr):Prop:=∀ov iv,subscripted i false ov iv=operate [ov,iv] (getItem ov iv)
def EL {prog:Program}{w:World}{A:Around}{E:Value->Shared->Prop}{s:Shared}{env:Env}{value slice:Expr}{pos:Pos}{T id:String}{Q:Value->Shared->Prop}
  (hl:typeLookup (.type T) "__getitem__"=pure (some (.builtin id))) (hs:IA slice)
  (h:wpAny (model prog w) A (eval value env) (λo s₁=>wpAny (model prog w) A (eval slice env) (λi s₂=>s₂.TypeIs o T/\wpAny (model prog w) A (getItem o i) Q E s₂) E s₁) E s) :
  wpAny (model prog w) A (eval (.Subscript value slice pos) env) Q E s:=by
 refine Subscript_ (N0 h (λo s₁ h₁=>N0 h₁ (λi s₂ h₂=>?_) λ_ _ x=>x) λ_ _ x=>x)
 obtain⟨hT,h₂⟩:=h₂
 unfold subscriptTail
 refine MF ?_
 rw[getitemInPython_of_ne hT.not_modules]
 refine MF (wpAny_specialOf hT hl ?_)
 have fin:wpAny (model prog w) A (subscripted slice false o i) (λr s₃=>wpAny (model prog w) A (letTemporaryGo value o r >>= λ_=>pure r) Q E s₃) E s₂:=by
  rw[hs o i]
  exact wpAny_operating (N0 h₂ (λr s₃ h₃=>MF (wpAny_letTemporaryGo (MI h₃))) λ_ _ x=>x)
 first
  |exact MI (MF fin)
  |exact MF (MI (MF fin))
  |exact MF fin
def we {X:Cx}{pins:List (Addr×Obj)}{σ:St}{H:Hp}{s:Shared}{a:Addr}{y:V}{o:Option V}(I:Inv X pins σ H s)(g:l6 H a y o):s.TypeIs (.ref a) "dict":=by
 rcases g with⟨kvs,k,e,_,_⟩ | ⟨kvs,k,b,e,_,_,_⟩
 ·obtain⟨_,_,vs,_,dd⟩:=qC I.hok e
  exact dd.typeIs
 ·obtain⟨_,_,xs,_,dd⟩:=vd I.hok e
  exact dd.typeIs
def JG (td ty:TE):TE:=λσ H Q=>td σ H λx H1=>ty σ H1 λy H2=>∃a v,x=.ref a/\l6 H2 a y (some v)/\Q v H2
def JH (td ty tv:TE):TS:=λD σ H=>tv σ H λv H1=>td σ H1 λx H2=>ty σ H2 λy H3=>∃a H4,x=.ref a/\xG H3 a y v H4/\D.nx σ H4
section
variable {X:Cx}{o i e value:Expr}{pos pos' tpos:Pos}{td ty tv:TE}
def FJ (hu:X.A.units + 1 < cLine)(ho:PE X o td)(hi:PE X i ty)(hs:IA i):PE X (.Subscript o i pos) (JG td ty):=by
 intro pins s σ H Q I h
 refine EL PySem.F.slot_dict_getitem.lookup hs (b5 (ho pins s σ H _ I h) λu s1 ⟨x,H1,I1,rx,q1⟩=>b5 (hi pins s1 σ H1 _ I1 q1) λiv s2 ⟨y,H2,I2,ry,a,v,ex,g,q2⟩=>?_)
 subst ex
 obtain rfl:u=Value.ref a:=rx
 exact⟨we I2 g,AI hu I2 g ry λw' s3 I3 rw'=>⟨v,H2,I3,rw',q2⟩⟩
def EH (hu:X.A.units + 1 < cLine)(ho:PE X o td)(hi:PE X i ty)(hv:PE X value tv)(hs:swapsWith value (some (.Subscript o i pos')) pos.line X.env=pure false) :
  PS X (.Assign [.Subscript o i pos'] value pos) (JH td ty tv):=by
 intro pins s σ H D I h
 refine wpAny_Assign_Subscript (b5 (hv pins s σ H _ I h) λr s1 ⟨v,H1,I1,rv,q1⟩=>b5 (ho pins s1 σ H1 _ I1 q1) λu s2 ⟨x,H2,I2,rx,q2⟩=>b5 (hi pins s2 σ H2 _ I2 q2) λiv s3 ⟨y,H3,I3,ry,a,H4,ex,g,q3⟩=>?_) hs
 subst ex
 obtain rfl:u=Value.ref a:=rx
 exact AG hu I3 g ry rv λs4 I4=>⟨σ,H4,I4,q3⟩
end
def BY {P:Program}{w:World}{H:Hp}(h:Heap)(hb:sysModules < h.objs.size):bP P w H (h.push {cls:=.type "dict",data:=.dict #[]}) h.objs.size (.dK []):=
 ⟨Nm _,OR.mpr (Ne.symm (Nl hb)),[],.nil,Heap.DictOf.new h⟩
def B8 {P:Program}{w:World}{H:Hp}(h:Heap)(hb:sysModules < h.objs.size):bP P w H (h.push {cls:=.type "dict",data:=.dict #[]}) h.objs.size (.dT []):=
 ⟨Nm _,OR.mpr (Ne.symm (Nl hb)),[],.nil,_,#[],0,MX _ rfl,⟨rfl,rfl,rfl⟩,rfl,rfl,OH⟩
def xC:List (TE×TE)->St->Hp->(List (V×V)->Hp->Prop)->Prop
 | [],_,H,Q=>Q [] H
 | (tk,tv) :: r,σ,H,Q=>tk σ H λx H1=>tv σ H1 λy H2=>xC r σ H2 λps H3=>Q ((x,y) :: ps) H3
abbrev VV:List (V×V)->List (Value×Value)->Prop:=Paired λp q=>RelV p.1 q.1/\RelV p.2 q.2
def KW (X:Cx)(pos:Pos)(keys:List (Option Expr))(values:List Expr)(trs:List (TE×TE)):Prop:=
 ∀(pins:List (Addr×Obj)) (s:Shared) (σ:St) (H:Hp) (Q:List (V×V)->Hp->Prop),Inv X pins σ H s->xC trs σ H Q->
  wpAny (model X.prog X.w) X.A (evalPairs (pairTrees keys values X.env pos)) (λvs s'=>∃ps H',Inv X pins σ H' s'/\VV ps vs/\Q ps H') X.xe s
def ES {X:Cx}{pos:Pos}:KW X pos [] [] []:=λpins s σ H Q I h=>pairTrees_nil_walk ⟨[],H,I,.nil,h⟩
def DP {X:Cx}{pos:Pos}{k v:Expr}{ks:List (Option Expr)}{vs:List Expr}{tk tv:TE}{trs:List (TE×TE)}(hk:PE X k tk)(hv:PE X v tv)(hr:KW X pos ks vs trs) :
  KW X pos (some k :: ks) (v :: vs) ((tk,tv) :: trs):=λpins s σ H Q I h=>
 pairTrees_cons_walk (b5 (hk pins s σ H _ I h) λu s1 ⟨x,H1,I1,rx,q1⟩=>b5 (hv pins s1 σ H1 _ I1 q1) λw2 s2 ⟨y,H2,I2,ry,q2⟩=>
  b5 (hr pins s2 σ H2 _ I2 q2) λws s3 ⟨ps,H3,I3,rel,q3⟩=>⟨(x,y) :: ps,H3,I3,.cons ⟨rx,ry⟩ rel,q3⟩)
def qK (kvs more:List (Key×V)):List (Key×V):=more.foldl (λacc kv=>putK acc kv.1 kv.2) kvs
theorem KV.merge:∀{more:List (Key×V)} {rs:List (Key×Value)} {kvs:List (Key×V)} {vs:List (Key×Value)},KV more rs->KV kvs vs->KV (qK kvs more) (merged vs rs):=by
 intro more rs kvs vs r
 unfold KV at r
 induction r generalizing kvs vs with
 |nil=>intro q;exact q
 | @cons p q ps qs h t ih=>
  intro r0
  have e:KV (putK kvs p.1 p.2) (stored vs q.1 q.2):=by
   have:=r0.put p.1 h.2
   rw[<-h.1];exact this
  exact ih e
theorem lY:∀(more kvs:List (Key×V)),(qK kvs more).length<=kvs.length + more.length
 | [],kvs=>by show kvs.length<=kvs.length + 0;omega
 |p :: r,kvs=>by
  have h1:=lY r (putK kvs p.1 p.2)
  have h2:=gN kvs p.1 p.2
  show (qK (putK kvs p.1 p.2) r).length<=_
  rw[Na];omega
theorem p9 {P:Program}{w:World}:∀{kvs:List (Key×V)} {ws:List (Value×Value)},VV (kvs.map λkv=>(kV kv.1,kv.2)) ws->∃rs,Carries (bF P w) ws rs/\KV kvs rs
 | [],_,r=>by rw[List.map_nil] at r;cases r;exact⟨[],True.intro,.nil⟩
 |p :: kvs,_,r=>by
  rw[Ng] at r
  cases r with
  | @cons a b as bs h t=>
   obtain⟨rs,c,q⟩:=p9 (P:=P) (w:=w) t
   obtain⟨b1,b2⟩:=b
   exact⟨(p.1,b2) :: rs,⟨sD h.1,rfl,c⟩,.cons ⟨rfl,h.2⟩ q⟩
def Kx (trs:List (TE×TE)):TE:=λσ H Q=>∀p,H p=none->xC trs σ (upd H p (.dK [])) λps H2=>H2 p=some (.dK [])/\∃kvs:List (Key×V),ps=kvs.map (λkv=>(kV kv.1,kv.2))/\kvs.length<=15/\Q (.ref p) (upd H2 p (.dK (qK [] kvs)))
def Ex {X:Cx}{pos:Pos}{keys:List (Option Expr)}{values:List Expr}{trs:List (TE×TE)}(h:KW X pos keys values trs)(hall:keys.all (·.isSome)=true)(hl:keys.length=values.length)(h0:keys≠ [])
  (h15:keys.length<=15):PE X (.Dict keys values pos) (Kx trs):=by
 intro pins s σ H Q I q
 have hn:=I.hok.fresh (MK s.heap.objs.size)
 have I1:=I.laid (a:=s.heap.objs.size) (o:=.dK []) (h':=s.heap.push {cls:=.type "dict",data:=.dict #[]}) (t':=s.toks) (λ_ _ q=>MH _ q) (MK _) (BY s.heap I.big)
 refine wpAny_Dict_walk (knd:=bF X.prog X.w) hall hl h0 h15 (b5 (h pins _ σ _ _ I1 (q _ hn)) λws s2 ⟨ps,H2,I2,rel,e,kvs,ep,lk,q2⟩=>?_)
 subst ep
 obtain⟨rs,c,rk⟩:=p9 (P:=X.prog) (w:=X.w) rel
 obtain⟨z,hd,vs0,r0,dd⟩:=D4 I2.hok e
 cases r0
 refine⟨rs,c,dd,λh' dd' hs=>⟨.ref s.heap.objs.size,_,?_,rfl,q2⟩⟩
 have hz:(qK [] kvs).length<=sizeLine:=by
  have h1:=lY kvs []
  rw[length_nil] at h1
  rw[Ni];omega
 have he:∃q,h'.get? s.heap.objs.size=some q:=let ⟨q,_,_,hq,_⟩:=dd';⟨q,hq⟩
 exact nA I2 (by rw[e];exact True.intro) hs he (BD hz hd (rk.merge .nil) dd')
section
variable {X:Cx}{Γ:Fx}{E:XK}{pos:Pos}
def Fv {k:Str}{i:Int}{j j'}{p p':Pos}:SE X Γ E (.Dict [some (.Constant (.str k) j p)] [.Constant (.int i) j' p'] pos) (cst (.dict [(.str k,.int i)])) [] .v:=by
 refine PE.post' (Ex (DP CW me ES) rfl rfl (by simp) (by simp)) ?_
 rintro σ H Q ⟨env,G,B,β,I,o⟩ p hp
 have o:∀v G' H',SR Γ B G' H' σ (bg [] env) β->av G G'->iX B H H'->Rp Γ.K G' v (.dict [(.str k,.int i)])->Q v H':=o
 refine⟨ay,[(.inr k,.int i)],rfl,by simp,?_⟩
 rw[zq]
 have xn:=Ext.new I.sub (o:=.dK [((.inr k:Key),V.int i)]) hp
 exact o _ _ _ (I.ext xn) xn.gg (xn.hh.mov B) (.dK (kvs:=[((.inr k:Key),V.int i)]) ay (.cons (.int i) .nil))
end
mutual
def zM:D->Bool
 | .list ds=>xm ds
 | .tuple ds=>xm ds
 | .dict kvs=> !kvs.isEmpty && kvs.all λkv=>match kv.1,kv.2 with
  | .str _,.int _=>true
  |_,_=>false
 |_=>true
def xm:List D->Bool
 | []=>true
 |d :: ds=>zM d && xm ds
end
section
variable {X:Cx}{pins:List (Addr×Obj)}{σ:St}{H:Hp}{s:Shared}
theorem vU {P:Program}{w:World}{K:Frag}{h:Heap}:∀{kvs:List (Key×V)} {ds:List (D×D)} {vs:List (Key×Value)} {es:List DictEntry},xi K H kvs ds->KV kvs vs->Pairs (bF P w) es vs->
  (ds.all λkv=>match kv.1,kv.2 with
   | .str _,.int _=>true
   |_,_=>false)=true->ReadsAll h (es.map (·.key)) (ds.map (·.1)) []/\ReadsAll h (es.map (·.val)) (ds.map (·.2)) []
 | [],_,_,_,.nil,kv,ps,_=>by
  cases kv
  cases ps
  exact⟨.nil,.nil⟩
 | (k,x) :: kvs,_,_,_,.cons r rk,kv,ps,hd=>by
  cases kv with
  |cons h1 h2=>
   cases ps with
   |cons q1 q2 q3=>
    rw[all_cons,MS] at hd
    obtain⟨i1,i2⟩:=vU (P:=P) (w:=w) (h:=h) rk h2 q3 hd.2
    obtain⟨hd1,_⟩:=hd
    obtain⟨e1,rv⟩:=h1
    cases k with
    |inl i=>cases hd1
    |inr y=>
     rw[<-e1] at q1
     have q1:pZ (Sum.inr y) _=true:=q1
     rcases bV q1 with⟨i,t,e,_⟩ | ⟨z,t,e,ek⟩
     ·cases e
     ·cases e
      cases r with
      |int i=>
       obtain⟨t',ev⟩:=rv
       refine⟨?_,?_⟩
       ·show ReadsAll h (_ :: _) (PyData.str y :: _) ([] ++ [])
        dsimp only
        rw[ek]
        exact .cons (.str y t) i1
       ·show ReadsAll h (_ :: _) (int i :: _) ([] ++ [])
        dsimp only
        rw[q2,ev]
        exact .cons (.int i t') i2
      |_=>cases hd1
def Inv.notSys (I:Inv X pins σ H s){a:Addr}{u:HO}(h:Rd H a u):a≠sysModules:=λe=>by
 obtain⟨mm,o,es,ep,ho,_⟩:=I.mod.sys
 have:=(I.bs _ o ho).2
 rw[<-e] at this
 rcases h with h | ⟨_,h⟩ <;> (rw[h] at this;cases this)
mutual
theorem Rp.readsL (I:Inv X pins σ H s):∀{x:V} {d:D} {u:Value},Rp X.K H x d->RelV x u->zM d=true->∃as,Reads s.heap u d as/\sysModules∉as
 |_,_,_,.non,r,_=>by cases r;exact⟨_,.none,by simp⟩
 |_,_,_,.bl b,r,_=>by cases r;exact⟨_,.bool b,by simp⟩
 |_,_,_,.int i,r,_=>by obtain⟨t,rfl⟩:=r;exact⟨_,.int i t,by simp⟩
 |_,_,_,.str x,r,_=>by obtain⟨t,rfl⟩:=r;exact⟨_,.str x t,by simp⟩
 |_,_,_,.tup h hs,r,n=>by
  cases r
  obtain⟨its,rv,⟨o,ho,hc,k,hd⟩,_⟩:=I.tuple h
  obtain⟨as,q,m⟩:=cC.readsL I hs rv n
  exact⟨_,.tuple ho hc hd (by simpa using q),m⟩
 |_,_,_,.lst (a:=a) h hs,r,n=>by
  cases r
  obtain⟨_,its,k,rv,_,ho⟩:=I.lstR (.inl h)
  obtain⟨as,q,m⟩:=cC.readsL I hs rv n
  refine⟨_,.list ho rfl rfl (by simpa using q),λz=>?_⟩
  rcases MN.mp z with e |z
  ·exact I.notSys (.inl h) e.symm
  ·exact m z
 |_,_,_,.scr h,r,n=>by cases n
 |_,_,_,.dK (a:=a) h hs,r,n=>by
  cases r
  obtain⟨_,hsy,vs,kv,o,es,ep,ho,hex,hdt,_,hp,_⟩:=D4 I.hok h
  obtain⟨q1,q2⟩:=vU (h:=s.heap) hs kv hp (by
   have n:(!_ && _)=true:=n
   rw[MS] at n
   exact n.2)
  refine⟨_,.dict ho hex.1 hdt q1 q2,?_⟩
  have:a≠sysModules:=λz=>by rw[z] at hsy;simp at hsy
  simp only[Oh,Nc]
  exact λz=>this z.symm
 |_,_,_,.dT h hs,r,n=>by
  cases hs with
  |nil=>cases n
  |cons _ _=>
   simp[zM] at n
theorem cC.readsL (I:Inv X pins σ H s):∀{xs:List V} {ds:List D} {us:List Value},cC X.K H xs ds->Vals xs us->xm ds=true->∃as,ReadsAll s.heap us ds as/\sysModules∉as
 |_,_,_,.nil,r,_=>by cases r;exact⟨_,.nil,by simp⟩
 |_,_,_,.cons h hs,r,n=>by
  have n:(zM _ && xm _)=true:=n
  rw[MS] at n
  cases r with
  |cons r1 r2=>
   obtain⟨as,q,m⟩:=Rp.readsL I h r1 n.1
   obtain⟨bs,q',m'⟩:=cC.readsL I hs r2 n.2
   exact⟨_,.cons q q',λz=>(M6.mp z).elim m m'⟩
end
end
def AM (d:D):Bool:=d.showable && decide (d.depth<=64) && decide (d.shown.length<=sizeLine) && ((By d && !d.hasDict) || zM d)
def pG (d:D):Option D:=if AM d=true then some (.str d.shown) else none
def BH (K:Frag):List V->Hp->VK->Prop:=λxs H Q=>∃x d,xs= [x]/\Rp K H x d/\AM d=true/\Q (.str d.shown) H
section
variable {X:Cx}
theorem p7 (hg:X.A.guards=some [])(hu:X.A.units + 100 < cLine):c8 X (.builtin "repr") (BH X.K):=by
 intro pins s σ H xs us Q I r h
 obtain⟨x,d,rfl,hd,ok,q⟩:=h
 obtain⟨u,rfl,rx⟩:=vals1 r
 unfold AM at ok
 simp only[MS,Pb,M4] at ok
 obtain⟨⟨⟨h1,h2⟩,h3⟩,h4⟩:=ok
 have key:∀{a:Addr},u=.ref a->wpAny (model X.prog X.w) X.A (call (.builtin "repr") [u]) (EP X pins σ Q) X.xe s:=λ{a} e=>by
  subst e
  rcases h4 with h4 |h4
  ·obtain⟨as,rd⟩:=(hd.rep h4.1).reads I rx
   exact repr_of_reads' rd h1 (PyData.noDict_hsm (by simpa using h4.2)) hg (by omega) (λb o e=>e) (λh' u tk k=>⟨.str _,H,I.kept (t':=tk) k,⟨u,rfl⟩,q⟩) h3
  ·obtain⟨as,rd,m⟩:=hd.readsL I rx h4
   exact repr_of_reads' rd h1 (λ_=>m) hg (by omega) (λb o e=>e) (λh' u tk k=>⟨.str _,H,I.kept (t':=tk) k,⟨u,rfl⟩,q⟩) h3
 cases hd with
 |non=>cases rx;exact P.repr_of_none ⟨.str _,H,I.tok _,⟨_,rfl⟩,q⟩
 |bl b=>cases rx;exact P.repr_of_bool ⟨.str _,H,I.tok _,⟨_,rfl⟩,q⟩
 |int i=>obtain⟨t,rfl⟩:=rx;exact P.repr_of_int (by simpa[PyData.showable] using h1) ⟨.str _,H,I.tok _,⟨_,rfl⟩,q⟩
 |str y=>obtain⟨t,rfl⟩:=rx;exact P.repr_of_str ⟨.str _,H,I.tok _,⟨_,rfl⟩,q⟩ h3
 |tup _ _=>cases rx;exact key rfl
 |lst _ _=>cases rx;exact key rfl
 |scr _=>cases rx;exact key rfl
 |dK _ _=>cases rx;exact key rfl
 |dT _ _=>cases rx;exact key rfl
end
def yY {K:Frag}:AW K (λx=>BH K [x]) pG .v:=by
 intro B G H x dx d Q s hB bx e k
 unfold pG at e
 split at e
 ·rename_i hh
  cases e
  exact⟨x,dx,rfl,bx.rpH s,hh,k _ G H (Ext.refl s) (.str _)⟩
 ·cases e
def isStar:Expr->Bool
 | .Starred _ _=>true
 |_=>false
def Aa {a:Expr}{es:List Expr}{env:Env}(h:isStar a=false):starEach (a :: es) env=(false,eval a env) :: starEach es env:=by
 cases a <;> first |rfl |cases h
def Iy (sc:Scope)(x:Str):Bool:=match sc.names.lookup x with
 |some .local=>true
 |some .cell=>true
 |some .free=>true
 |_=>false
def ED {sc:Scope}{x:Str}(h:Iy sc x=true):wO sc x:=by
 unfold Iy at h
 unfold wO
 split at h
 ·exact .inl (by assumption)
 ·exact .inr (.inl (by assumption))
 ·exact .inr (.inr (by assumption))
 ·cases h
def yc (N:List Str)(sc:Scope):List (Str×Nat)->Bool
 | []=>true
 | (x,i) :: r=>decide (N[i]? =some x) && (Iy sc x && ((!(x == ("__debug__":Str))) && ((!(x == ("__classdict__":Str))) && yc N sc r)))
theorem yJ {N:List Str}{sc:Scope}:∀{l:List (Str×Nat)} {x:Str} {i:Nat},yc N sc l=true->l.lookup x=some i->N[i]? =some x/\wO sc x/\(x == ("__debug__":Str))=false/\(x == ("__classdict__":Str))=false
 | [],_,_,_,h=>by cases h
 | (y,j) :: r,x,i,h,e=>by
  simp only[yc,MS,M4,NT] at h
  obtain⟨h1,h2,h3,h4,h5⟩:=h
  rw[OO] at e
  split at e
  ·rename_i q
   have q:x=y:=by simpa using q
   subst q
   cases e
   exact⟨h1,ED h2,h3,h4⟩
  ·exact yJ h5 e
def z7:Expr->Option Int
 | .Constant (.int i) _ _=>some i
 |_=>none
theorem pe {e:Expr}{i:Int}(h:z7 e=some i):∃j p,e=.Constant (.int i) j p:=by
 cases e with
 |Constant c j p=>cases c <;> first | (cases h;exact⟨_,_,rfl⟩) |cases h
 |_=>cases h
def LK (op:UnaryOp)(e:Expr):Option Int:=match op with
 | .USub=>z7 e
 |_=>none
def GO:Operator->Bool
 | .Pow=>true
 |_=>false
def B5 {o:Operator}(h:GO o=true):o=.Pow:=by cases o <;> first |rfl |cases h
def HA (ks:List (Option Expr))(vs:List Expr):Option (Str×Int):=match ks,vs with
 | [some (.Constant (.str k) _ _)],[v]=>(z7 v).map λi=>(k,i)
 |_,_=>none
def E3 {ks:List (Option Expr)}{vs:List Expr}{r:Str×Int}(h:HA ks vs=some r):∃j p j' p',ks= [some (.Constant (.str r.1) j p)]/\vs= [.Constant (.int r.2) j' p']:=by
 unfold HA at h
 split at h
 ·rename_i k j p v
  cases q:z7 v with
  |none=>rw[q] at h;cases h
  |some i=>
   rw[q] at h
   cases h
   obtain⟨j',p',rfl⟩:=pe q
   exact⟨_,_,_,_,rfl,rfl⟩
 ·cases h
def LN:Const->Option D
 | .int i=>some (.int i)
 | .bool b=>some (.bool b)
 | .none=>some .none
 | .str x=>some (.str x)
 |_=>none
mutual
def rD (nm:List (Str×Nat)):Expr->Option (VF D×List Nat)
 | .Name x _=>(nm.lookup x).map λi=>(gv i,[i])
 | .Constant c _ _=>(LN c).map λd=>(cst d,[])
 | .UnaryOp op a _=>(LK op a).map λi=>(cst (.int (-i)),[])
 | .BinOp a o b _=>if GO o=true then (z7 a).bind λi=>(z7 b).map λj=>(f2 (cst (.int i)) (cst (.int j)) BV,[]) else none
 | .Dict ks vs _=>(HA ks vs).map λr=>(cst (.dict [(.str r.1,.int r.2)]),[])
 | .Tuple es _ _=>(GV nm es).map λr=>(aW r.1,r.2)
 | .List es _=>(GV nm es).map λr=>(ba r.1,r.2)
 | .BoolOp ..=>none
 | .NamedExpr ..=>none
 | .Lambda ..=>none
 | .IfExp ..=>none
 | .Set ..=>none
 | .ListComp ..=>none
 | .SetComp ..=>none
 | .DictComp ..=>none
 | .GeneratorExp ..=>none
 | .Await ..=>none
 | .Yield ..=>none
 | .YieldFrom ..=>none
 | .Compare ..=>none
 | .Call ..=>none
 | .FormattedValue ..=>none
 | .JoinedStr ..=>none
 | .Attribute ..=>none
 | .Subscript ..=>none
 | .Starred ..=>none
 | .Slice ..=>none
def GV (nm:List (Str×Nat)):List Expr->Option (VF (List D)×List Nat)
 | []=>some (ah,[])
 |e :: es=>(rD nm e).bind λr=>(GV nm es).map λq=>(ae r.1 q.1,r.2 ++ q.2)
end
section
variable {X:Cx}{Γ:Fx}{E:XK}{nm:List (Str×Nat)}
theorem lq {α β:Type}{o:Option α}{f:α->β}{b:β}(h:o.map f=some b):∃a,o=some a/\f a=b:=by
 cases o with
 |none=>cases h
 |some a=>exact⟨a,rfl,Option.some.inj h⟩
theorem zV {α β:Type}{o:Option α}{f:α->Option β}{b:β}(h:o.bind f=some b):∃a,o=some a/\f a=some b:=by
 cases o with
 |none=>cases h
 |some a=>exact⟨a,rfl,h⟩
mutual
theorem Jm (hc:yc X.N X.env.scope nm=true)(hb:∀i,Γ.br i=false):∀{e:Expr} {f:VF D} {L:List Nat},rD nm e=some (f,L)->SE X Γ E e f L .v/\isStar e=false
 | .Name x p,f,L,h=>by
  rw[rD] at h
  obtain⟨i,q,e⟩:=lq h
  cases e
  obtain⟨h1,h2,h3,h4⟩:=yJ hc q
  exact⟨ax i (hb i) h1 h2 h3 h4,rfl⟩
 | .Constant c j p,f,L,h=>by
  rw[rD] at h
  obtain⟨d,q,e⟩:=lq h
  cases e
  cases c <;> first | (cases q;first |exact⟨au,rfl⟩ |exact⟨kz,rfl⟩ |exact⟨HC,rfl⟩ |exact⟨CU,rfl⟩) |cases q
 | .UnaryOp op a p,f,L,h=>by
  rw[rD] at h
  obtain⟨i,q,e⟩:=lq h
  cases e
  cases op <;> first | (cases q;done) |skip
  obtain⟨j,p,rfl⟩:=pe q
  exact⟨wu l7 vX au,rfl⟩
 | .BinOp a op b p,f,L,h=>by
  rw[rD] at h
  split at h
  ·rename_i ho
   obtain rfl:=B5 ho
   obtain⟨i,q,h⟩:=zV h
   obtain⟨j,q2,e⟩:=lq h
   cases e
   obtain⟨j1,p1,rfl⟩:=pe q
   obtain⟨j2,p2,rfl⟩:=pe q2
   exact⟨bh HV Jy au au,rfl⟩
  ·cases h
 | .Dict ks vs p,f,L,h=>by
  rw[rD] at h
  obtain⟨r,q,e⟩:=lq h
  cases e
  obtain⟨_,_,_,_,rfl,rfl⟩:=E3 q
  exact⟨Fv,rfl⟩
 | .Tuple es c p,f,L,h=>by
  rw[rD] at h
  obtain⟨r,q,e⟩:=lq h
  cases e
  exact⟨bE (uD hc hb q),rfl⟩
 | .List es p,f,L,h=>by
  rw[rD] at h
  obtain⟨r,q,e⟩:=lq h
  cases e
  exact⟨SE.wv (aZ (uD hc hb q)),rfl⟩
 | .BoolOp ..,_,_,h=>by rw[rD] at h;cases h
 | .NamedExpr ..,_,_,h=>by rw[rD] at h;cases h
 | .Lambda ..,_,_,h=>by rw[rD] at h;cases h
 | .IfExp ..,_,_,h=>by rw[rD] at h;cases h
 | .Set ..,_,_,h=>by rw[rD] at h;cases h
 | .ListComp ..,_,_,h=>by rw[rD] at h;cases h
 | .SetComp ..,_,_,h=>by rw[rD] at h;cases h
 | .DictComp ..,_,_,h=>by rw[rD] at h;cases h
 | .GeneratorExp ..,_,_,h=>by rw[rD] at h;cases h
 | .Await ..,_,_,h=>by rw[rD] at h;cases h
 | .Yield ..,_,_,h=>by rw[rD] at h;cases h
 | .YieldFrom ..,_,_,h=>by rw[rD] at h;cases h
 | .Compare ..,_,_,h=>by rw[rD] at h;cases h
 | .Call ..,_,_,h=>by rw[rD] at h;cases h
 | .FormattedValue ..,_,_,h=>by rw[rD] at h;cases h
 | .JoinedStr ..,_,_,h=>by rw[rD] at h;cases h
 | .Attribute ..,_,_,h=>by rw[rD] at h;cases h
 | .Subscript ..,_,_,h=>by rw[rD] at h;cases h
 | .Starred ..,_,_,h=>by rw[rD] at h;cases h
 | .Slice ..,_,_,h=>by rw[rD] at h;cases h
theorem uD (hc:yc X.N X.env.scope nm=true)(hb:∀i,Γ.br i=false):∀{es:List Expr} {f:VF (List D)} {L:List Nat},GV nm es=some (f,L)->SA X Γ E es f L
 | [],f,L,h=>by rw[GV] at h;cases h;exact ak
 |e :: es,f,L,h=>by
  rw[GV] at h
  obtain⟨r,q,h⟩:=zV h
  obtain⟨r2,q2,e⟩:=lq h
  cases e
  obtain⟨a,b⟩:=Jm hc hb q
  exact af a (uD hc hb q2) (Aa b)
end
def Et {es:List Expr}{p:Pos}{t:Option Expr}{l:Nat}{env:Env}:swapsWith (.List es p) t l env=pure false:=rfl
def De {es:List Expr}{f:VF (List D)}{L:List Nat}{pos:Pos}(nm:List (Str×Nat))(hc:yc X.N X.env.scope nm=true)(hb:∀i,Γ.br i=false)(h:GV nm es=some (f,L)):SE X Γ E (.List es pos) (ba f) L .w:=aZ (uD hc hb h)
def JT {i:Nat}{x:Str}{es:List Expr}{f:VF (List D)}{L:List Nat}{pos' p pos:Pos}(nm:List (Str×Nat))(hc:yc X.N X.env.scope nm=true)(hb:∀i,Γ.br i=false)(h:GV nm es=some (f,L))(hN:X.N.Nodup)(hi:X.N[i]? =some x)(hx:Loc X.env.scope x)(hf:X.fn x=true\/X.env.scope.names.lookup x=some .local) :
  SS X Γ E (.Assign [.Name x pos'] (.List es p) pos) (bc i L (ba f)):=aP (SE.wv (De nm hc hb h)) hN hi hx Et hf
end
end L2
section
namespace HT
open PySem PyProof.Rows PySem.Builtin PyProof
theorem pH {α β:Type}{f g:α->Option β}:∀{l:List α},(∀m,m∈l->f m=g m)->l.filterMap f=l.filterMap g
 | [],_=>rfl
 |x :: l,h=>by rw[Oo,Oo,h x (MP ..),pH λm hm=>h m (MM _ hm)]
def sf {α:Type}(xs:Array α):((List.range xs.size).filterMap λ(m:Nat)=>xs[(((xs.size:Int) - 1) + (m:Int) * (-1)).toNat]?)=xs.toList.reverse:=by
 have e:∀m,m∈List.range xs.size->xs[(((xs.size:Int) - 1) + (m:Int) * (-1)).toNat]? =xs.toList.reverse[m]?:=λm hm=>by
  have hm:=M5.mp hm
  rw[List.getElem?_reverse (by simpa using hm)]
  have:(((xs.size:Int) - 1) + (m:Int) * (-1)).toNat=xs.toList.length - 1 - m:=by simp;omega
  rw[this]
  simp
 have e2:((List.range xs.size).filterMap λ(m:Nat)=>xs[(((xs.size:Int) - 1) + (m:Int) * (-1)).toNat]?)=(List.range xs.toList.reverse.length).filterMap λm=>xs.toList.reverse[m]?:=by
  rw[O7,OS]
  exact pH e
 rw[e2]
 generalize xs.toList.reverse=l
 clear e e2
 apply OZ
 intro i
 have key:∀n,n<=l.length->(List.range n).filterMap (λm=>l[m]?)=l.take n:=by
  intro n
  induction n with
  |zero=>intro _;simp
  |succ n ih=>
   intro hn
   rw[List.range_succ,List.filterMap_append,ih (by omega),List.take_succ,MG (by omega)]
   simp[MG (show n < l.length by omega)]
 rw[key l.length (MK _),List.take_length]
section
variable {prog:Program}{w:World}{A:Around}{E:Value->Shared->Prop}{s:Shared}
def uU {sl:Addr}{vs:Value}{n:Nat}{Q:Int×Int×Nat->Shared->Prop}(hs:s.heap.IsSliceOf sl .none .none vs)(ps:IsPart vs (some (-1)))(h:Q (((n:Int) - 1), -1,n) s):wpAny (model prog w) A (Builtin.Slice.sliceApplied (.ref sl) (pure (n:Int))) Q E s:=by
 obtain⟨os,hos,hcs,hds⟩:=id hs
 unfold Builtin.Slice.sliceApplied Builtin.Slice.sliceFields
 refine MF (MF (O6 hos hds (x:=.none) rfl (MF (O6 hos hds (x:=.none) rfl (MF (O6 hos hds (x:=vs) rfl (MI ?_)))))))
 refine MF (yF ps ?_)
 show wpAny _ _ (if ((-1:Int) == 0)=true then _ else _) _ _ s
 rw[MO (by decide)]
 refine MF (slicePart_none (MF (slicePart_none (MF (MI ?_)))))
 show wpAny _ _ (pure (((n:Int) - 1),(-1:Int),Builtin.Slice.slicePlaces ((n:Int) - 1) (-1) (-1))) _ _ s
 have e:Builtin.Slice.slicePlaces ((n:Int) - 1) (-1) (-1)=n:=by
  unfold Builtin.Slice.slicePlaces
  have h1:¬((-1:Int) > 0):=by omega
  simp only[h1,Nx]
  rw[show (- (-1:Int))=1 by rfl,Int.ediv_one]
  split <;> omega
 rw[e]
 exact MI h
def mh {t sl:Addr}{items:Array Value}{vs:Value}{Q:Value->Shared->Prop}(ht:IsTup s.heap t items)(hs:s.heap.IsSliceOf sl .none .none vs)(ps:IsPart vs (some (-1)))
  (h:Q (.ref s.heap.objs.size) {s with heap:=s.heap.push {cls:=.type "tuple",data:=.seq items.toList.reverse.toArray}})
  (hsz:items.size<=sizeLine):wpAny (model prog w) A (getItem (.ref t) (.ref sl)) Q E s:=by
 have htake:sizeOk (.seq items.toList.reverse.toArray):=by
  show items.toList.reverse.toArray.size<=sizeLine
  simpa using hsz
 obtain⟨os,hos,hcs,hds⟩:=id hs
 have hTs:s.TypeIs (.ref sl) "slice":=⟨os,hos,hcs⟩
 unfold getItem
 try with_reducible refine NP ?_
 first |refine MF (MI ?_) |skip
 refine MF (wpAny_sequenceKey ht.typeIs (by decide) ?_)
 refine MF (wpAny_callSpecial?_slot (name:=Str.ofString "__getitem__") ht.typeIs OU
  (ON OU ht.typeIs entry_tuple_getitem ?_ (args_tuple_getitem _ _)))
 show wpAny _ _ (Builtin.Tuple.tupleItemsOf (.ref t) >>= _) _ _ s
 refine MF (tupleItemsOf_ ht ?_)
 refine MF (Pd hTs ?_)
 rw[MJ (by decide)]
 refine MF (uU hs ps ?_)
 have hno:¬(((((items.size:Nat):Int) - 1) == 0 && (-1:Int) == 1 && items.size == items.size)=true):=by
  intro q
  rw[MS,MS] at q
  exact absurd q.1.2 (by decide)
 show wpAny _ _ (if ((((items.size:Nat):Int) - 1) == 0 && (-1:Int) == 1 && items.size == items.size)=true then _ else _) _ _ s
 rw[MO hno,sf]
 first
  |exact MF (m:=Builtin.Tuple.tupleExact _) (NS (MI ⟨_,rfl,MI h⟩) htake)
  |exact MF (m:=Builtin.Tuple.tupleExact _) (NS (MF (MI (MI ⟨_,rfl,MI h⟩))) htake)
  |exact MF (MF (m:=Builtin.Tuple.tupleExact _) (NS (MI (MI ⟨_,rfl,MI h⟩)) htake))
  |exact MF (MF (m:=Builtin.Tuple.tupleExact _) (NS (MI ⟨_,rfl,MI h⟩) htake))
end
end HT
namespace L2
open PySem PySem.Spec PyProof.Rows
section
variable {X:Cx}{Γ:Fx}{E:XK}{e a:Expr}{te:TE}{fa:VF D}{La:List Nat}{ma:Md}{pos p2 p3 p4:Pos}{j:Nat}
def Ez (he:PE X e te):PE X (.Subscript e (.Slice none none (some (.UnaryOp .USub (.Constant (.int 1) j p3) p4)) p2) pos) (λσ H Q=>te σ H λx H1=>∃a xs,x=.ref a/\fL X.K H1 a xs/\∀l,H1 l=none->Q (.ref l) (upd H1 l (.tup xs.reverse))):=by
 intro pins s σ H Q I h
 refine Subscript_ (b5 (he pins s σ H _ I h) λv s1 ⟨x,H1,I1,r1,q1⟩=>?_)
 obtain⟨a,xs,rfl,hx,q⟩:=q1
 cases r1
 refine wpAny_Slice ?_
 rw[evalPart_none]
 refine MI (MI ?_)
 refine b5 (uF (CG l7 me) pins s1 σ H1 (λo H2=>o=some (-1)/\H2=H1) I1 ⟨1,rfl, -1,rfl,rfl,rfl⟩) λvs s2 ⟨o,H2,I2,ps,q2,q3⟩=>?_
 subst q2 q3
 have I3:Inv X pins σ H2 {s2 with heap:=s2.heap.push {cls:=.type "slice",data:=.fields #[.none,.none,vs]}}:=I2.kept (t':=s2.toks) λb ob q=>MH _ q
 obtain⟨its,r,ht,hz⟩:=I3.tuple hx
 have hlen:its.toArray.size=xs.length:=by rw[MY];exact r.length.symm
 show wpAny (model X.prog X.w) X.A (subscriptTail e (.Slice none none (some (.UnaryOp .USub (.Constant (.int 1) j p3) p4)) p2) (.ref a) (.ref s2.heap.objs.size)) (EP X pins σ Q) X.xe {s2 with heap:=s2.heap.push {cls:=.type "slice",data:=.fields #[.none,.none,vs]}}
 refine tail_any (ops:=[.ref a,.ref s2.heap.objs.size]) ht.typeIs OU.lookup ?_ (by with_unfolding_all rfl)
 refine HT.mh ht (Heap.IsSliceOf.new ..) ps ?_ (by rw[hlen];exact hz)
 refine⟨.ref _,_,I3.laid (t':=s2.toks) (o:=.tup xs.reverse) (λb ob q=>MH _ q) (MK _) ?_,rfl,q _ (I3.hok.fresh (MK _))⟩
 exact⟨by rw[O7];exact hz,_,r.reverse,vK.new _ _⟩
theorem cC.reverse {K:Frag}{G:Hp}:∀{xs:List V} {ds:List D},cC K G xs ds->cC K G xs.reverse ds.reverse
 |_,_,.nil=>.nil
 |_,_,.cons h hs=>by rw[Pf,Pf];exact (cC.reverse hs).snoc h
def uh:D->Option D
 | .tuple ds=>some (.tuple ds.reverse)
 |_=>none
theorem pz (hK:X.K=Γ.K)(ha:SE X Γ E a fa La ma):SE X Γ E (.Subscript a (.Slice none none (some (.UnaryOp .USub (.Constant (.int 1) j p3) p4)) p2) pos) (f1 fa uh) La .v:=by
 refine PE.post' (Ez ha) ?_
 rintro σ H Q ⟨env,G,B,β,I,o⟩
 refine⟨env,G,B,β,I,o.bnd.imp λd1 β1 h x G1 H1 I1 s1 m1 vx=>?_⟩
 have bx:=vx.brw I.boxThere
 obtain⟨d,e,k⟩:=h.of
 cases d1 with
 |tuple ds=>
  cases e
  obtain⟨p,xs,rfl,hq,r⟩:=bx.tuple I1.sub
  rw[hK]
  refine⟨p,xs,rfl,hq,λl hl=>?_⟩
  have x:=Ext.new I1.sub (o:=.tup xs.reverse) hl
  exact k _ _ _ (I1.ext x) (s1.trans x.gg) (m1.trans (x.hh.mov B)) (.tup (.inl (.inl ay)) ((r.reverse).mono x.gg))
 |_=>cases e
end
end L2
end
namespace L2
open PySem PySem.Spec PyProof.Rows
def Ec (items:Array Value):slicePick items none none (some (-1))=items.toList.reverse.toArray:=by
 have e:slicePick items none none (some (-1))=(((List.range (if ((items.size:Int) - 1) > -1 then (((items.size:Int) - 1) - (-1) - (-1) - 1) / (-(-1)) else 0).toNat).map λ(k:Nat)=>(((items.size:Int) - 1) + (-1) * (k:Int)).toNat).filterMap (items[·]?)).toArray:=rfl
 rw[e]
 have ec:(if ((items.size:Int) - 1) > -1 then (((items.size:Int) - 1) - (-1) - (-1) - 1) / (-(-1)) else 0).toNat=items.size:=by
  rw[show (-(-1:Int))=1 by rfl,Int.ediv_one]
  split <;> omega
 rw[ec,List.filterMap_map]
 congr 1
 rw[<-HT.sf]
 refine HT.pH λm _=>?_
 show items[(((items.size:Int) - 1) + (-1) * (m:Int)).toNat]? =items[(((items.size:Int) - 1) + (m:Int) * (-1)).toNat]?
 rw[Int.mul_comm]
section
variable {X:Cx}{Γ:Fx}{E:XK}{e a:Expr}{te:TE}{fa:VF D}{La:List Nat}{ma:Md}{pos p2 p3 p4:Pos}{j:Nat}
def CV (he:PE X e te):PE X (.Subscript e (.Slice none none (some (.UnaryOp .USub (.Constant (.int 1) j p3) p4)) p2) pos) (λσ H Q=>te σ H λx H1=>∃a xs,x=.ref a/\gG X.K H1 a xs/\∀l,H1 l=none->Q (.ref l) (upd H1 l (.lst xs.reverse))):=by
 intro pins s σ H Q I h
 refine Subscript_ (b5 (he pins s σ H _ I h) λv s1 ⟨x,H1,I1,r1,q1⟩=>?_)
 obtain⟨a,xs,rfl,hx,q⟩:=q1
 cases r1
 refine wpAny_Slice ?_
 rw[evalPart_none]
 refine MI (MI ?_)
 refine b5 (uF (CG l7 me) pins s1 σ H1 (λo H2=>o=some (-1)/\H2=H1) I1 ⟨1,rfl, -1,rfl,rfl,rfl⟩) λvs s2 ⟨o,H2,I2,ps,q2,q3⟩=>?_
 subst q2 q3
 have I3:Inv X pins σ H2 {s2 with heap:=s2.heap.push {cls:=.type "slice",data:=.fields #[.none,.none,vs]}}:=I2.kept (t':=s2.toks) λb ob q=>MH _ q
 obtain⟨its,r,ht,hz⟩:=I3.list hx
 have hlen:=r.length
 show wpAny (model X.prog X.w) X.A (subscriptTail e (.Slice none none (some (.UnaryOp .USub (.Constant (.int 1) j p3) p4)) p2) (.ref a) (.ref s2.heap.objs.size)) (EP X pins σ Q) X.xe {s2 with heap:=s2.heap.push {cls:=.type "slice",data:=.fields #[.none,.none,vs]}}
 refine tail_any (ops:=[.ref a,.ref s2.heap.objs.size]) ht.isList.typeIs slot_list_getitem.lookup ?_ (by with_unfolding_all rfl)
 refine wpAny_getItem_list_slice ht.isList (Heap.IsSliceOf.new ..) .none .none ps (by simp) ?_ (by rw[MY] <;> omega)
 rw[Ec]
 refine⟨.ref _,_,I3.laid (t':=s2.toks) (o:=.lst xs.reverse) (λb ob q=>MH _ q) (MK _) ?_,rfl,q _ (I3.hok.fresh (MK _))⟩
 exact⟨by rw[O7];exact hz,_,0,r.reverse,MX _ rfl⟩
def Cs:D->Option D
 | .list ds=>some (.list ds.reverse)
 |_=>none
theorem CJ (hK:X.K=Γ.K)(ha:SE X Γ E a fa La ma):SE X Γ E (.Subscript a (.Slice none none (some (.UnaryOp .USub (.Constant (.int 1) j p3) p4)) p2) pos) (f1 fa Cs) La .w:=by
 refine PE.post' (CV ha) ?_
 rintro σ H Q ⟨env,G,B,β,I,o⟩
 refine⟨env,G,B,β,I,o.bnd.imp λd1 β1 h x G1 H1 I1 s1 m1 vx=>?_⟩
 have bx:=vx.brw I.boxThere
 obtain⟨d,e,k⟩:=h.of
 cases d1 with
 |list ds=>
  cases e
  obtain⟨p,xs,rfl,hq,r⟩:=bx.list I1.sub
  rw[hK]
  refine⟨p,xs,rfl,.inl hq,λl hl=>?_⟩
  have x:=Ext.own I1.sub (o:=.lst xs.reverse) hl
  exact k _ _ _ (I1.ext x) s1 (m1.trans (x.hh.mov B)) ⟨l,rfl,gm m1 I1.boxThere hl,I1.sub.free hl,xs.reverse,ay,r.reverse⟩
 |_=>cases e
end
def Kc (K:Frag):R2:=λx y H Q=>∃a b xs,x=.ref a/\y=.ref b/\gG K H a xs/\gG K H b []/\Q (.bl xs.isEmpty) H
theorem Cq {X:Cx}(hu:X.A.units + 64 < cLine):lX X (compareOp .Eq) (Kc X.K):=by
 intro pins s σ H x y v u Q I rx ry h
 obtain⟨a,b,xs,rfl,rfl,ha,hb,q⟩:=h
 cases rx
 cases ry
 obtain⟨its,r,ht,hz⟩:=I.list ha
 obtain⟨its2,r2,ht2,hz2⟩:=I.list hb
 cases r2
 cases r with
 |nil=>exact PySem.SeqAt.eq_listAt (e:=λ_=>true) ht.isList ht2.isList rfl (by omega) (λj h1 _=>absurd h1 (by simp)) ⟨.bl true,H,I,rfl,q⟩
 |cons _ _=>exact PySem.SeqAt.eq_list_lengthsAt ht.isList ht2.isList (by simp) (by omega) ⟨.bl false,H,I,rfl,q⟩
def xj:D->D->Option D
 | .list ds,.list []=>some (.bool ds.isEmpty)
 |_,_=>none
theorem FP {K:Frag}:nH K (Kc K) xj .v:=by
 intro B G H x y dx dy d Q s hB bx by' e k
 cases dx with
 |list ds=>
  cases dy with
  |list es=>
   cases es with
   |nil=>
    cases e
    obtain⟨p,xs,rfl,hq,r⟩:=bx.list s
    obtain⟨p2,ys,rfl,hq2,r2⟩:=by'.list s
    cases r2
    refine⟨p,p2,xs,rfl,rfl,.inl hq,.inl hq2,?_⟩
    have:xs.isEmpty=ds.isEmpty:=by cases r <;> rfl
    rw[this]
    exact k _ G H (Ext.refl s) (.bl _)
   |cons _ _=>cases e
  |_=>cases e
 |_=>cases e
end L2
namespace L2
open PySem
section
variable {K:Frag}{h:Heap}{mg:Str->Option Value}
theorem xt {α:Type}{P:List α->Prop}(q:∀a,P [a]):∀us:List α,us.length=1->P us
 | [a],_=>q a
theorem ln2 {α:Type}{P:List α->Prop}(q:∀a b,P [a,b]):∀us:List α,us.length=2->P us
 | [a,b],_=>q a b
theorem KY {α:Type}{P:List α->Prop}(q:∀a b c,P [a,b,c]):∀us:List α,us.length=3->P us
 | [a,b,c],_=>q a b c
theorem Ms {α:Type}{P:List α->Prop}(q:∀a b c d,P [a,b,c,d]):∀us:List α,us.length=4->P us
 | [a,b,c,d],_=>q a b c d
def a7 (x:Str)(st:Stmt)(ps:List Str):Prop:=∀(kV doc pm:Value) (an:Option Addr) (cdv ct:Value) (us:List Value),us.length=ps.length->bindArgs (PySem.W.fnOf x x (je st) (cZ st) (aw st) .none kV doc pm an cdv ct) ⟨us,[]⟩=pure (ps.zip us)
structure Fo (K:Frag)(mg:Str->Option Value)(x:Str)(st:Stmt)(ps:List Str):Prop where
 ex:∃f fd,jw K mg x st ps f fd
def bH {x:Str}{st:Stmt}{ps:List Str}{f:Addr}{oc:Value}{od an:Option Addr}{sl:Array (Option Value)}{kV doc pm cdv ct:Value}(X:K.In h)(G:h.Ns mainGlobals mg)(b:a7 x st ps)(a:PySem.W.nsIn K mainGlobals x=some (some (.ref f)))
  (l:K.lookup f=some ⟨oc,od,.func (PySem.W.fnOf x x (je st) (cZ st) (aw st) .none kV doc pm an cdv ct),sl⟩) (c:PySem.W.codeIn K cdv x=true) (k:PySem.W.keepIn K (.ref f)=true):Fo K mg x st ps:=
 ⟨⟨f,_,PySem.W.mg_of X G a,xp l c k,(xp l c k).binds b⟩⟩
def Lw:List Str:=["len","range","enumerate","zip","min","max","sum","abs","sorted","reversed","int","str","bool","list","tuple","dict","set","isinstance","repr","any","all","divmod"]
def Lf (K:Frag):Bool:=Lw.all λx=>match PySem.W.nsIn K mainGlobals x with
 |some none=>true
 |_=>false
def Hb (q:Lf K=true){x:Str}(hx:x∈Lw):PySem.W.nsIn K mainGlobals x=some none:=by
 have:=NW.mp q x hx
 split at this
 ·assumption
 ·cases this
def JF (X:K.In h)(G:h.Ns mainGlobals mg)(q:Lf K=true):jy mg:=by
 have key:∀{x:Str},x∈Lw->mg x=none:=λhx=>PySem.W.mg_none_of X G (Hb q hx)
 constructor <;> exact key (by decide)
end
end L2
namespace RM
open PySem L2
def mG:SF:=(bI (dA (f1 (gv 0) (gO "int")) (f1 (f1 (gv 0) (gO "bool")) rm)))
def nz:SF:=(bI (dA (f1 (gv 0) (gO "bool")) (f2 (gv 0) (gv 1) (cO false))))
def j8 (ar:List D->Int->FB):SF:=(aH (bc 1 ([] ++ ([] ++ ([] ++ ([] ++ ([] ++ ([] ++ ([] ++ ([] ++ ([] ++ ([] ++ (([] ++ []) ++ (([] ++ ([] ++ [])) ++ (([] ++ []) ++ []))))))))))))) (ba (ae (cst .none) (ae (cst (.bool true)) (ae (cst (.bool false)) (ae (cst (.int (-1))) (ae (cst (.int 0)) (ae (cst (.int 1)) (ae (cst (.str "")) (ae (cst (.str "1")) (ae (aW ah) (ae (ba ah) (ae (aW (ae (cst (.int 0)) ah)) (ae (aW (ae (cst (.int 1)) (ae (aW ah) ah))) (ae (ba (ae (cst (.int 0)) ah)) ah)))))))))))))))
 (aH (bc 1 ([] ++ ([] ++ (([] ++ ([] ++ [])) ++ ([] ++ ((([] ++ ([] ++ [])) ++ []) ++ ([] ++ [])))))) (f2 (gv 1) (ba (ae (cst (.dict [(.str "a",.int 1)])) (ae (aW (ae (cst (.int 0)) (ae (cst (.int 1)) ah))) (ae (f2 (cst (.int 10)) (cst (.int 39)) BV) (ae (aW (ae (aW (ae (cst (.int 0)) (ae (cst (.int 1)) ah))) ah)) (ae (cst (.str "a")) ah)))))) eY))
 (bI (f2 (gv 1) (fU 0 ar (ae (cst (.int 18)) ah)) bN))))
def iu (bu:List D->FR):SF:=(aH (bc 1 [] (ba ah))
 (aH (eN (.nm 2) ([] ++ []) (bJ (f2 (gv 0) (cst (.int 0)) bN))
 (bc 1 ([] ++ (([] ++ []) ++ [0,2])) (f2 (gv 1) (aM 1 [0,2] (.nm 0) (bJ (f2 (gv 0) (cst (.int 0)) bN)) (mZ (aF bu (ae (gv 1) (ae (gv 2) (ae (gv 0) ah))))) (aW (ae (gv 2) (ae (gv 0) ah)))) eY)))
 (vG 1)))
def gx:SF:=(aH (kx 2 [] (ba ah))
 (aH (eN (.nm 3) [] (bJ (gv 0))
 (eN (.nm 4) [] (bJ (gv 0))
 (aH (bc 5 ([] ++ []) (aM 1 [3,4] (.nm 0) (bQ (gv 1)) (cJ (f2 (oh (gv 0) (gv 1)) (oh (gv 0) (gv 2)) Je)) (cst (.int 1))))
 (kA (([] ++ []) ++ ([] ++ [])) (A3 (cJ (f2 (gv 3) (gv 4) (cO true))) (cJ (f2 (gv 5) (ba ah) (cO false))))
 (oo 2 ([3] ++ ([4] ++ [])) (aW (ae (gv 3) (ae (gv 4) ah))))
 mj))))
 (bI (f1 (gv 2) gS))))
noncomputable def il (ar aK:List D->Int->FB):SF:=(aH (bc 1 ([] ++ ([] ++ [])) (f2 (cst (.int 3)) (fU 0 ar (ae (cst (.int 2)) ah)) bM))
 (aH (bc 2 (([] ++ []) ++ []) (fU 0 aK (ae (f1 (f2 (cst (.int 2)) (gv 1) cK) cu) ah)))
 (aH (bc 3 [] (ba ah))
 (aH (eN (.nm 4) [] (bJ (gv 1))
 (aH (bc 5 ([] ++ []) (aM 1 [4,2,1] (.nm 0) (bJ (gv 1)) (cJ (f2 (gv 0) (gv 1) (cO true))) (f2 (gv 2) (f2 (gv 3) (gv 0) bM) bN)))
 (bc 3 ([] ++ ([] ++ [])) (f2 (gv 3) (aM 1 [2,4] (.nm 0) (bQ (gv 5)) kG (aW (ae (f2 (gv 1) (gv 2) bN) (ae (gv 0) ah)))) eY))))
 (bI (aW (ae (f2 (cst (.int 2)) (gv 1) cK) (ae (f1 (f1 (gv 3) iH) gS) ah))))))))
def dq (eM:List D->FR)(ar dt aK dg:List D->Int->FB):SF:=(aH (bc 2 ([] ++ []) (fU 0 ar (ae (cst (.int 5)) ah)))
 (aH (kA ([] ++ []) (cJ (f2 (gv 2) (cst (.int 4)) (cO false)))
 (bI (fU 0 dt ah))
 mj)
 (aH (kA ([] ++ []) (cJ (f2 (gv 2) (cst (.int 3)) (cO false)))
 (aH (bc 3 ([] ++ ([1] ++ [])) (f2 (cst (.int 1)) (fU 0 ar (ae (gv 1) ah)) bM))
 (aH (bc 4 ([] ++ []) (aM 1 [0,3] (.nm 0) (bJ (cst (.int 2))) kG (f1 (fU 1 aK (ae (f1 (gv 2) cu) ah)) gS)))
 (bI (aW (ae (gv 3) (ae (aF eM (ae (gv 3) (ae (gv 4) ah))) ah))))))
 mj)
 (bI (fU 0 dg (ae (gv 1) ah))))))
end RM
namespace L2
open PySem PySem.Spec PyProof.Rows
def Gr:V->List V->Hp->VK->Prop:=λx vs H Q=>∃l xs i y,x=.ref l/\vs= [.int i,y]/\H l=some (.lst xs)/\0<=i/\i < 2 ^ 62/\xs.length < sizeLine/\Q .non (upd H l (.lst (xs.take i.toNat ++ [y] ++ xs.drop i.toNat)))
section
variable {X:Cx}
def FO (its:List Value)(i:Int)(h0:0<=i)(u:Value):(λxs:Array Value=>have k:=if i < 0 then (i + (xs.size:Int)).toNat else min i.toNat xs.size;(xs.extract 0 k).push u ++ xs.extract k) its.toArray=(its.take i.toNat ++ [u] ++ its.drop i.toNat).toArray:=by
 dsimp only
 rw[MO (by omega),MY]
 apply Array.ext'
 simp only[Array.toList_append,Array.toList_push,Array.toList_extract]
 by_cases c:i.toNat<=its.length
 ·rw[Pa c]
  simp[O9]
  exact NV (by simp)
 ·rw[Nat.min_eq_right (by omega)]
  simp[O9,NV (show its.length<=i.toNat by omega),List.drop_of_length_le (show its.length<=i.toNat by omega)]
def Ar:JW X "list.insert" Gr:=by
 intro pins s σ H x vs v us Q I rx rv h
 obtain⟨l,xs,i,y,rfl,rfl,hH,h0,h1,hz,q⟩:=h
 cases rx
 obtain⟨u1,u2,rfl,ru1,ru2⟩:∃u1 u2,us= [u1,u2]/\RelV (.int i) u1/\RelV y u2:=by
  cases rv with
  |cons r1 r2=>cases r2 with
   |cons r2 r3=>cases r3;exact⟨_,_,rfl,r1,r2⟩
 obtain⟨t,rfl⟩:=ru1
 obtain⟨z,its,n,r,hl,e⟩:=I.lstM hH
 refine call_meets F.slot_list_insert ⟨_,e,rfl⟩ F.entry_list_insert (F.args_list_insert_3 _ _ _) (AutoSeq1.list_insert_list_int_val_1 l its.toArray n i t u2 (by simp[fitsIndex_both (show -(2 ^ 63)<=i by omega) (show i < 2 ^ 63 by omega)]) (by rw[MY];omega)) ⟨e,?_⟩
 refine⟨.non,_,I.lset (its':=its.take i.toNat ++ [u2] ++ its.drop i.toNat) hH e (FO its i h0 u2) (((r.take _).append (.cons ru2 .nil)).append (r.drop _)) ?_,rfl,q⟩
 simp only[Nf,Nu,OJ,List.length_singleton]
 omega
end
end L2
namespace PySem
open Sem (wp)
namespace F
def ud:typeLookup (.type "list") "keys"=pure none:=by rw[typeLookup_type,O1];kernel_rfl
end F
section
variable {prog:Program}{w:World}{A:Around}{E:Value->Shared->Prop}{h:Heap}{g:Array GenState}{d:Drawn}{t:Nat}{os:OsState}{a:Addr}{o:Obj}
def oZ {tk:Tok}{Q:Fin->Shared->Prop}{items:Array Value}{n:Nat}{sl:Array (Option Value)}(hx:h.get? a=some {cls:=.type "list",dict:=none,data:=.seq items n,slots:=sl})(hh:A.handled=none)
  (hq:∀h' t' e,(∀b q,h.get? b=some q->h'.get? b=some q)->(∃q,h'.get? e=some q/\q.cls=.type "AttributeError")->E (.ref e) ⟨h',g,d,t',os⟩) :
  wpAny (model prog w) A (Builtin.«object.__getattribute__» ⟨[.ref a,.str "keys" tk],[]⟩) Q E ⟨h,g,d,t,os⟩:=by
 have hT:(⟨h,g,d,t,os⟩:Shared).TypeIs (.ref a) "list":=⟨_,hx,rfl⟩
 have f4:=F.ud
 repeat (any_goals (first |assumption |wp_step))
 have hm:(Str.ofString (toString "'" ++ toString ((Manifest.find? "list").elim "list" λx=>x.tpName) ++ toString "' object has no attribute '") ++ Str.ofString "keys" ++ Str.ofString "'").length<=sizeLine:=by decide +kernel
 generalize (Str.ofString (toString "'" ++ toString ((Manifest.find? "list").elim "list" λx=>x.tpName) ++ toString "' object has no attribute '") ++ Str.ofString "keys" ++ Str.ofString "'")=msg at hm
 unfold raiseAttrError
 refine MF (wpAny_mkStr (MF ?_) hm)
 unfold newExc newTuple
 refine MF (NS ?_)
 refine MF (m:=firstArgMember _ _) (wpAny_of_eq (a:=Value.none) (by first |rfl |kernel_rfl) ?_)
 refine NS ?_
 dsimp only
 obtain⟨e,he⟩:∃e,(h.push {cls:=.type "tuple",data:=.seq #[Value.str msg t]}).objs.size=e:=⟨_,rfl⟩
 have hk:∀b q,h.get? b=some q->((h.push {cls:=.type "tuple",data:=.seq #[Value.str msg t]}).push {cls:=.type "AttributeError",data:=.fields (#[.ref h.objs.size,.none,.none,.none,.bool false,.none] ++ ownMembersOf (.type "AttributeError") [Value.str msg t])}).get? b=some q:=λb q hb=>MH _ (MH _ hb)
 have hv:=MX (h.push {cls:=.type "tuple",data:=.seq #[Value.str msg t]}) (o:={cls:=.type "AttributeError",data:=.fields (#[.ref h.objs.size,.none,.none,.none,.bool false,.none] ++ ownMembersOf (.type "AttributeError") [Value.str msg t])}) rfl
 generalize ((h.push {cls:=.type "tuple",data:=.seq #[Value.str msg t]}).push {cls:=.type "AttributeError",data:=.fields (#[.ref h.objs.size,.none,.none,.none,.bool false,.none] ++ ownMembersOf (.type "AttributeError") [Value.str msg t])})=h1 at hk hv
 rw[he] at hv ⊢
 have hv:h1.get? e=some {cls:=.type "AttributeError",data:=.fields #[.ref h.objs.size,.none,.none,.none,.bool false,.none,unsetMember,unsetMember]}:=hv
 have hn:h.get? e=none:=Heap.get?_none_of_le (by rw[<-he,OI];omega)
 have hTe:∀t',(⟨h1,g,d,t',os⟩:Shared).TypeIs (.ref e) "AttributeError":=λt'=>⟨_,hv,rfl⟩
 have hTe2:=hTe (t + 1 + 1)
 have f5:isSubtype (.type "AttributeError") (.type "AttributeError")=pure true:=by rw[Ov];kernel_rfl
 refine MF (wpAny_mkText ?_)
 dsimp only
 clear hTe hT f4 hx
 unfold noteAttr
 repeat (any_goals (first |assumption |wp_step))
 unfold raiseNew
 refine MF (wpAny_handled ?_)
 rw[hh]
 first
  |refine wpAny_throw ?_
  |refine MF (MI (wpAny_throw ?_))
 refine hq _ _ _ (λb q hb=>?_) ?_
 ·rw[NM h1 (a:=e) (b:=b) _ (λz=>by rw[<-z,hn] at hb;cases hb)];exact hk b q hb
 ·exact⟨_,NG _ hv rfl,rfl⟩
def pJ {tk:Tok}{E':Result->Shared->Prop}{items:Array Value}{n:Nat}{sl:Array (Option Value)}(hx:h.get? a=some {cls:=.type "list",dict:=none,data:=.seq items n,slots:=sl})(hh:A.handled=none)
  (hq:∀h' t' e,(∀b q,h.get? b=some q->h'.get? b=some q)->(∃q,h'.get? e=some q/\q.cls=.type "AttributeError")->E' (.error (.ref e)) ⟨h',g,d,t',os⟩) :
  codeAny (model prog w) A (.call (.builtin "list.__getattribute__") ⟨[.ref a,.str "keys" tk],[]⟩) E' ⟨h,g,d,t,os⟩:=
 codeAny_call_builtin OQ.plain F.entry_list_ga (OQ.check _ _ _ _ _ _ _ _ (show (⟨h,g,d,t,os⟩:Shared).TypeIs (.ref a) "list" from⟨_,hx,rfl⟩) (F.args_list_getattribute_2 _ _) (oZ hx hh hq))
def uQ {tk:Tok}{Q:Value->Shared->Prop}{items:Array Value}{n:Nat}{sl:Array (Option Value)}(hx:h.get? a=some {cls:=.type "list",dict:=none,data:=.seq items n,slots:=sl})(hh:A.handled=none)
  (hq:∀h' t' e,(∀b q,h.get? b=some q->h'.get? b=some q)->(∃q,h'.get? e=some q/\q.cls=.type "AttributeError")->E (.ref e) ⟨h',g,d,t',os⟩) :
  wpAny (model prog w) A (getAttrBy (.ref a) (.str "keys" tk) false) Q E ⟨h,g,d,t,os⟩:=by
 have hT:(⟨h,g,d,t,os⟩:Shared).TypeIs (.ref a) "list":=⟨_,hx,rfl⟩
 have f2:=OQ.lookup
 have f3:=OQ.bind (.ref a)
 repeat (any_goals (first |assumption |wp_step))
 refine pJ hx hh λh' t' e hk hv=>?_
 have hT2:(⟨h',g,d,t',os⟩:Shared).TypeIs (.ref e) "AttributeError":=hv
 have f5:isSubtype (.type "AttributeError") (.type "AttributeError")=pure true:=by rw[Ov];kernel_rfl
 have f6:typeLookup (.type "list") "__getattr__"=pure none:=by rw[typeLookup_type,O1];kernel_rfl
 have hq2:=hq h' t' e hk hv
 clear hq hT f2 f3
 dsimp only
 unfold getattributeRaised hookBehind hookOrError attributeErrorLeaves
 repeat (any_goals (first |assumption |wp_step))
def AR {Q:Option Value->Shared->Prop}{items:Array Value}{n:Nat}{sl:Array (Option Value)}(hx:h.get? a=some {cls:=.type "list",dict:=none,data:=.seq items n,slots:=sl})(hh:A.handled=none)
  (hq:∀h' t',(∀b q,h.get? b=some q->h'.get? b=some q)->Q none ⟨h',g,d,t',os⟩):wpAny (model prog w) A (getAttr? (.ref a) "keys") Q E ⟨h,g,d,t,os⟩:=by
 unfold getAttr? getAttrBy?
 refine MF (wpAny_mkText (MF (wpAny_attempt (uQ hx hh λh' t' e hk hv=>?_))))
 have hT2:(⟨h',g,d,t',os⟩:Shared).TypeIs (.ref e) "AttributeError":=hv
 have f5:isSubtype (.type "AttributeError") (.type "AttributeError")=pure true:=by rw[Ov];kernel_rfl
 have hq2:=hq h' t' hk
 dsimp only
 repeat (any_goals (first |assumption |wp_step))
end
end PySem
section
namespace PySem
namespace F
def kK:entryFor table "dict.update.loop"=some Builtin.«dict.update.loop»:=entryFor_of_tree (by kernel_rfl)
def fE:plainId "dict.update.loop"=true:=by decide +kernel
end F
end PySem
namespace L2
open PySem PyProof.Rows
section
variable {X:Cx}{pins:List (Addr×Obj)}{σ:St}{H:Hp}{s:Shared}{a b d l it:Addr}{A:Around}{E:Value->Shared->Prop}
def Bg {kvs:List (List Key×V)}{k:List Key}{v:V}{r:Value}{Q:Unit->Shared->Prop}(hu:A.units < cLine)(I:Inv X pins σ H s)(e:H a=some (.dT kvs))(eb:Rd H b (.tup (k.map kV)))(lk:kvs.length < sizeLine)(rv:RelV v r)
  (h:∀h' t',Heap.SameBut a s.heap h'->Inv X pins σ (upd H a (.dT (putK kvs k v))) {s with heap:=h',toks:=t'}->Q () {s with heap:=h',toks:=t'}) :
  wpAny (model X.prog X.w) A (dictSet a (.ref b) r) Q E s:=by
 obtain⟨z,hd,xs,rel,dd⟩:=Dz I.hok e
 have hz:xs.length<=sizeLine:=by rw[<-Paired.length rel];exact z
 have hl:(putK kvs k v).length<=sizeLine:=by have:=gN kvs k v;omega
 refine wpAny_dictSet_heap (knd:=tupleKind (bF X.prog X.w)) (hsz:=hz) hu (ki I.hok eb) dd λh' dd' hs=>h _ _ hs ?_
 obtain⟨q,es,ep,hq,h2,h3,h4,_,h5⟩:=dd'
 refine nA I (by rw[e];exact True.intro) hs ⟨q,hq⟩ ⟨hl,hd,_,(rel.put k eb rv).keeps λc ys ec=>?_,q,es,ep,hq,h2,h3,h4,h5⟩
 exact ec.imp (λec=>by rw[az (oD ec e (λz=>nomatch z))];exact ec) λ⟨o,ec⟩=>⟨o,by rw[az (oD ec e (λz=>nomatch z))];exact ec⟩
theorem vM {result:Value}{R:Result->Shared->Prop}{xs:List V}(hh:A.handled=none)(hu:A.units + 1 < cLine)(hnd:it≠d)(hl:∀o,gG X.K (upd H d o) l xs)(hf:∀o,oO X pins (upd H d o) it) :
  ∀(rest:List (Addr×Addr×List Key×V)) (i:Nat) (j:Int) (kvs:List (List Key×V)) (s:Shared),Inv X pins σ (upd H d (.dT kvs)) s->s.heap.IsListIter it l i->xs.drop i=rest.map (λq=>V.ref q.1)->
   (∀q,q∈rest->∀o,fL X.K (upd H d o) q.1 [V.ref q.2.1,q.2.2.2]/\Rd (upd H d o) q.2.1 (.tup (q.2.2.1.map kV)))->kvs.length + rest.length<=sizeLine->
   (∀h' t',Inv X pins σ (upd H d (.dT (rest.foldl (λa q=>putK a q.2.2.1 q.2.2.2) kvs))) {s with heap:=h',toks:=t'}->R (.ok (.ret result)) {s with heap:=h',toks:=t'})->
   codeAny (model X.prog X.w) A (.builtin "dict.update.loop" ⟨[.ref d,.ref it,rawInt j,result],[]⟩) R s
 | [],i,j,kvs,s,I,hi,hx,_,_,hR=>by
  obtain⟨its,rv,pl,_⟩:=I.list (hl _)
  have hlen:its.length=xs.length:=rv.length.symm
  have hx:its.toArray[i]? =none:=by
   have:xs.length<=i:=by
    have:=congrArg List.length hx
    rw[OJ] at this
    simp at this
    omega
   simp;omega
  refine Oi F.kK ?_
  rw[N6 F.fE _]
  show wpAny _ A.in1 (pyNext (.ref it) >>= _) _ _ s
  refine MF (wpAny_pyNext_list_end hh hi pl.isList hx λh' hk=>?_)
  have I':=I.turnedL (t':=s.toks) (ch:=[it]) (h':=h') (λb o hb e=>hk b o (λz=>hb (by simp[z])) e) (λb hb=>by rw[Nc] at hb;exact hb▸hf _)
  refine MF (MI ?_)
  exact MI (hR h' s.toks I')
 |q :: rest,i,j,kvs,s,I,hi,hx,hq,hz,hR=>by
  obtain⟨its,rv,pl,_⟩:=I.list (hl _)
  have hxi:xs[i]? =some (V.ref q.1):=by
   have:=congrArg List.head? hx
   rwa [List.head?_drop,Ng,List.head?_cons] at this
  obtain⟨u,hu2,ru⟩:∃u,its[i]? =some u/\RelV (V.ref q.1) u:=Vals.get rv hxi
  cases ru
  refine Oi F.kK ?_
  rw[N6 F.fE _]
  show wpAny _ A.in1 (pyNext (.ref it) >>= _) _ _ s
  refine MF (wpAny_pyNext_list_item hi pl.isList (x:=.ref q.1) (by simpa using hu2) λh' hi' hk=>?_)
  have I':=I.turnedL (t':=s.toks) (ch:=[it]) (h':=h') (λb o hb e=>(hk.2 b (λz=>hb (by simp[z]))).trans e) (λb hb=>by rw[Nc] at hb;exact hb▸hf _)
  obtain⟨ht,hkey⟩:=hq q (MP ..) (.dT kvs)
  obtain⟨ps,rp,tp,_⟩:=I'.tuple ht
  show wpAny _ A.in1 (holding [Value.ref q.1] _ >>= _) _ _ _
  refine MF (NP ?_)
  obtain⟨u,w,rfl,ru,rw'⟩:∃u w,ps= [u,w]/\RelV (V.ref q.2.1) u/\RelV q.2.2.2 w:=by
   cases rp with
   |cons h1 r=>cases r with |cons h2 r=>cases r;exact⟨_,_,rfl,h1,h2⟩
  cases ru
  obtain⟨o,ho,hoc,n,hod⟩:=tp
  have hT:({s with heap:=h'}:Shared).TypeIs (.ref q.1) "tuple":=⟨o,ho,hoc⟩
  refine MF (wpAny_tryCatch ?_)
  unfold Builtin.Dict.pairItems
  refine MF (Pd hT ?_)
  rw[MJ (by decide)]
  refine MF (wpAny_seqItems ho hod (MI ?_))
  show wpAny _ A.in1 (holding [Value.ref q.2.1,w] (dictSet d (.ref q.2.1) w)) _ _ _
  refine NP ?_
  rw[Na] at hz
  refine Bg hu I' ay hkey (by omega) rw' λh2 t2 hs2 I2=>?_
  have eH:upd (upd H d (.dT kvs)) d (.dT (putK kvs q.2.2.1 q.2.2.2))=upd H d (.dT (putK kvs q.2.2.1 q.2.2.2)):=by
   funext c;unfold upd;by_cases z:c=d <;> simp[z]
  rw[eH] at I2
  refine MI ⟨O5 F.fE _,vM hh hu hnd hl hf rest (i + 1) (j + 1) _ _ I2 ?_ ?_ (λq' hq'=>hq q' (MM _ hq')) ?_ λh3 t3 I3=>hR h3 t3 I3⟩
  ·exact Heap.IsListIter.extBut hi' hs2.extBut hnd
  ·rw[<-List.tail_drop,hx];rfl
  ·have:=gN kvs q.2.2.1 q.2.2.2;omega
end
end L2
end
namespace L2
open PySem PyProof.Rows
section
variable {X:Cx}{K:Frag}{pins:List V}{σ:St}{H:Hp}{s:Shared}{E:XK}
def Dm (K:Frag):List V->Hp->VK->Prop:=λxs H Q=>∃l,∃rest:List (Addr×Addr×List Key×V),xs= [.ref l]/\gG K H l (rest.map λq=>V.ref q.1)/\(∀q,q∈rest->fL K H q.1 [V.ref q.2.1,q.2.2.2]/\Rd H q.2.1 (.tup (q.2.2.1.map kV)))/\
 ∀d,H d=none->Q (.ref d) (upd H d (.dT (rest.foldl (λa q=>putK a q.2.2.1 q.2.2.2) [])))
def gG.up {l d:Addr}{xs:List V}{o:HO}(h:gG K H l xs)(hd:H d=none):gG K (upd H d o) l xs:=by
 have s:av H (upd H d o):=av.new hd
 rcases h with h |h
 ·exact .inl (h.mono s)
 ·exact .inr h
def fL.up {l d:Addr}{xs:List V}{o:HO}(h:fL K H l xs)(hd:H d=none):fL K (upd H d o) l xs:=by
 have s:av H (upd H d o):=av.new hd
 rcases h with h |h
 ·exact .inl (h.mono s)
 ·exact .inr h
def yg (hc:X.calm=true)(hu:X.A.units + 2 < cLine):c8 X (.type "dict") (Dm X.K):=by
 intro pins s σ H xs us Q I r h
 obtain⟨l,rest,rfl,hl,hq,k⟩:=h
 obtain⟨u,rfl,rx⟩:=vals1 r
 cases rx
 have hh:=I.ok.hd hc
 have hd0:H s.heap.objs.size=none:=I.hok.fresh (MK _)
 refine callType_codes (Q₁:=λobj s₁=>obj=.ref s.heap.objs.size/\s₁={s with heap:=s.heap.push {cls:=.type "dict",data:=.dict #[]}}) F.kt_called_dict (F.kt_typeCall_dict_1 _) F.entry_dict_init (kt_code_dict_new _ ⟨rfl,rfl⟩) ?_
 rintro obj s₁ ⟨rfl,rfl⟩
 have hnew:(s.heap.push {cls:=.type "dict",data:=.dict #[]}).DictOf (bF X.prog X.w) s.heap.objs.size []:=Heap.DictOf.new s.heap
 have hsm:(s.heap.objs.size == sysModules)=false:=by
  have:=I.big
  rw[OR];exact Nat.ne_of_gt this
 have I1:Inv X pins σ (upd H s.heap.objs.size (.dT [])) {s with heap:=s.heap.push {cls:=.type "dict",data:=.dict #[]},toks:=s.toks}:=I.laid (t':=s.toks) (λ_ _=>MH _) (MK _) ⟨Nm _,hsm,[],.nil,_,_,_,MX _ rfl,by trivial,rfl,rfl,OH⟩
 refine⟨hnew.typeIs,F.args_dict_init_2 _ _,?_⟩
 unfold Builtin.«dict.__init__»
 refine MF ?_
 unfold Builtin.Dict.selfAndRest
 refine MF (wpAny_notOrdered_dict hnew.typeIs ?_)
 show wpAny _ _ (pure (s.heap.objs.size,[Value.ref l])) _ _ _
 refine MI ?_
 show wpAny _ _ (Builtin.Dict.updateFrom "dict.__init__" s.heap.objs.size (.ref l) [] .none) _ _ _
 unfold Builtin.Dict.updateFrom
 obtain⟨its,rv,pl,hz⟩:=I1.list (hl.up hd0)
 obtain⟨⟨cls,dd,data,sl⟩,n,ho,hoc,hod,hodd⟩:=id pl
 simp only at hoc hod hodd
 subst hoc hod hodd
 refine MF (Pd (T:="list") ⟨_,ho,rfl⟩ ?_)
 rw[MJ (by decide)]
 refine MF (AR ho hh λh1 t1 hk1=>?_)
 have I2:=I1.kept (t':=t1) hk1
 obtain⟨its2,rv2,pl2,_⟩:=I2.list (hl.up hd0)
 rw[MJ (by rfl)]
 have hdl:s.heap.objs.size < h1.objs.size:=by
  obtain⟨o,e⟩:∃o,h1.get? s.heap.objs.size=some o:=⟨_,hk1 _ _ (MX _ rfl)⟩
  exact MT e
 have hnd:h1.objs.size≠s.heap.objs.size:=Nat.ne_of_gt hdl
 have hfi:H h1.objs.size=none:=by
  have:=I2.hok.fresh (MK h1.objs.size)
  rwa [az hnd] at this
 refine MF (wpAny_rule ?_)
 refine MF (OD pl2.isList ?_)
 have I3:Inv X pins σ (upd H s.heap.objs.size (.dT [])) {s with heap:=h1.push {cls:=.type "list_iterator",data:=.fields #[.ref l,.int 0 0]},toks:=t1}:=I2.kept (λ_ _=>MH _)
 refine MI ⟨O5 F.fE _,vM (A:=X.A.in1) (H:=H) (l:=l) (xs:=rest.map λq=>V.ref q.1) hh (by show X.A.units + 1 + 1 < cLine;exact hu) hnd (λo=>hl.up hd0) (λo=>I2.fpOk (MK _) (by rw[az hnd];exact hfi)) rest 0 0 [] _ I3 ⟨_,MX _ rfl,rfl,rfl⟩ rfl (λq hq' o=>⟨(hq q hq').1.up hd0,(hq q hq').2.mono (av.new hd0)⟩) (by rw[ML] at hz;simpa using hz) λh' t' I4=>?_⟩
 exact⟨rfl,.ref _,_,I4,rfl,k _ hd0⟩
end
section
variable {X:Cx}{K:Frag}{σ:St}{G H:Hp}{s:Shared}{E:XK}
def nC (K:Frag):Bool:=K.all λp=>match p.2.cls,p.2.data with
 | .type "tuple",.seq its _=>match its.toList with
  | [.int _ _,.int _ _]=>false
  |_=>true
 |_,_=>true
theorem Dt {α:Type}{a:Addr}{o:α}:∀{L:List (Addr×α)},L.lookup a=some o->(a,o)∈L
 | (b,u) :: L,h=>by
  rw[OO] at h
  cases c:a == b with
  |true=>rw[c] at h;cases h;rw[eq_of_beq c];exact MP ..
  |false=>rw[c] at h;exact MM _ (Dt h)
def uq {a:Addr}{i j:Int}(hn:nC K=true)(h:fL K G a [.int i,.int j]):Rd G a (.tup [.int i,.int j]):=by
 rcases h with h | ⟨o,its,n,hk,hc,hd,hz,r,_⟩
 ·exact h
 ·exfalso
  unfold nC at hn
  rw[NW] at hn
  have hm:(a,o)∈K:=Dt hk
  have:=hn _ hm
  simp only[hc,hd] at this
  generalize its.toList=us at r this
  cases r with
  |cons h1 r=>cases r with
   |cons h2 r=>
    cases r
    obtain⟨t1,rfl⟩:=h1
    obtain⟨t2,rfl⟩:=h2
    simp at this
def kP (p:Int×Int):List Key:=[.inl p.1,.inl p.2]
def qJ {p q:Int×Int}:kP p=kP q↔p=q:=by
 unfold kP
 constructor
 ·intro h
  simp at h
  exact Prod.ext h.1 h.2
 ·intro h;rw[h]
def vD (acc:List ((Int×Int)×D))(p:Int×Int)(d:D):List ((Int×Int)×D):=
 if (acc.any λkv=>decide (kv.1=p))=true then acc.map λkv=>if kv.1=p then (kv.1,d) else kv else acc ++ [(p,d)]
abbrev KP (K:Frag)(G:Hp):List (List Key×V)->List ((Int×Int)×D)->Prop:=Paired λa b=>a.1=kP b.1/\Rp K G a.2 b.2
theorem KP.any {kvs:List (List Key×V)}{acc:List ((Int×Int)×D)}(h:KP K G kvs acc)(p:Int×Int):(kvs.any λkv=>decide (kv.1=kP p))=acc.any λkv=>decide (kv.1=p):=by
 induction h with
 |nil=>rfl
 |cons h _ ih=>
  rw[Oc,Oc,ih,h.1]
  congr 1
  rw[decide_eq_decide];exact qJ
theorem KP.repl {p:Int×Int}{v:V}{d:D}(hv:Rp K G v d):∀{kvs:List (List Key×V)} {acc:List ((Int×Int)×D)},KP K G kvs acc->KP K G (kvs.map λkv=>if kv.1=kP p then (kv.1,v) else kv) (acc.map λkv=>if kv.1=p then (kv.1,d) else kv)
 |_,_,.nil=>.nil
 | (a,_) :: _,(b,_) :: _,.cons h1 t=>by
  rw[Ng,Ng]
  refine .cons ?_ (KP.repl hv t)
  obtain⟨e,h1⟩:=h1
  simp only at e h1
  subst e
  by_cases c:b=p
  ·simp only[MJ (qJ.mpr c),MJ c];exact⟨trivial,hv⟩
  ·simp only[MO (λz=>c (qJ.mp z)),MO c];exact⟨trivial,h1⟩
theorem KP.snoc {p:Int×Int}{v:V}{d:D}(hv:Rp K G v d):∀{kvs:List (List Key×V)} {acc:List ((Int×Int)×D)},KP K G kvs acc->KP K G (kvs ++ [(kP p,v)]) (acc ++ [(p,d)])
 |_,_,.nil=>.cons ⟨rfl,hv⟩ .nil
 |_,_,.cons h1 t=>.cons h1 (KP.snoc hv t)
def KP.put {kvs:List (List Key×V)}{acc:List ((Int×Int)×D)}(h:KP K G kvs acc)(p:Int×Int){v:V}{d:D}(hv:Rp K G v d):KP K G (putK kvs (kP p) v) (vD acc p d):=by
 unfold putK vD
 rw[h.any p]
 split
 ·exact h.repl hv
 ·exact h.snoc hv
theorem KP.rp {kvs:List (List Key×V)}{acc:List ((Int×Int)×D)}(h:KP K G kvs acc):sx K G kvs (acc.map λx=>(.tuple [.int x.1.1,.int x.1.2],x.2)):=by
 induction h with
 |nil=>exact .nil
 | @cons a b _ _ h _ ih=>
  obtain⟨k,v⟩:=a
  obtain⟨e,h⟩:=h
  simp only at e h
  subst e
  exact .cons h ih
def KN:D->Option ((Int×Int)×D)
 | .tuple [.tuple [.int a,.int b],v]=>some ((a,b),v)
 |_=>none
def Eg:List D->Option (List ((Int×Int)×D))
 | []=>some []
 |d :: ds=>match KN d,Eg ds with
  |some x,some L=>some (x :: L)
  |_,_=>none
def Ia {d:D}{x:(Int×Int)×D}(h:KN d=some x):d=.tuple [.tuple [.int x.1.1,.int x.1.2],x.2]:=by
 unfold KN at h
 split at h
 ·cases h;rfl
 ·cases h
abbrev Mk (K:Frag)(G:Hp):List (Addr×Addr×List Key×V)->List ((Int×Int)×D)->Prop:=Paired λq x=>q.2.2.1=kP x.1/\Rp K G q.2.2.2 x.2
theorem zJ (hn:nC K=true):∀{ds:List D} {xs:List V} {L:List ((Int×Int)×D)},cC K G xs ds->Eg ds=some L->∃rest:List (Addr×Addr×List Key×V),xs=rest.map (λq=>V.ref q.1)/\Mk K G rest L/\∀q,q∈rest->fL K G q.1 [V.ref q.2.1,q.2.2.2]/\Rd G q.2.1 (.tup (q.2.2.1.map kV))
 | [],_,L,.nil,h=>by cases h;exact⟨[],rfl,.nil,(λq hq=>by cases hq)⟩
 |d :: ds,_,L,.cons (x:=x) h t,e=>by
  unfold Eg at e
  cases e1:KN d with
  |none=>rw[e1] at e;cases e
  |some y=>
   cases e2:Eg ds with
   |none=>rw[e1,e2] at e;cases e
   |some M=>
    rw[e1,e2] at e
    cases e
    obtain⟨rest,rfl,h1,h2⟩:=zJ hn t e2
    rw[Ia e1] at h
    cases h with
    | @tup a zs _ hq r=>
     cases r with
     | @cons z _ _ _ r1 r=>cases r with
      | @cons w _ _ _ r2 r=>
       cases r
       cases r1 with
       | @tup b ws _ hq2 r3=>
        have hw:ws= [V.int y.1.1,V.int y.1.2]:=by
         cases r3 with
         |cons a1 r3=>cases r3 with
          |cons a2 r3=>cases r3;cases a1;cases a2;rfl
        subst hw
        refine⟨(a,b,kP y.1,w) :: rest,rfl,.cons ⟨rfl,r2⟩ h1,λq hq'=>?_⟩
        rcases MN.mp hq' with rfl |hq'
        ·exact⟨hq,uq hn hq2⟩
        ·exact h2 q hq'
def xV:D->Option D
 | .list ds=>(Eg ds).map λL=>.dict ((L.foldl (λa x=>vD a x.1 x.2) []).map λx=>(.tuple [.int x.1.1,.int x.1.2],x.2))
 |_=>none
theorem KP.fold:∀{rest:List (Addr×Addr×List Key×V)} {L:List ((Int×Int)×D)} {kvs:List (List Key×V)} {acc:List ((Int×Int)×D)},Mk K G rest L->KP K G kvs acc->KP K G (rest.foldl (λa q=>putK a q.2.2.1 q.2.2.2) kvs) (L.foldl (λa x=>vD a x.1 x.2) acc)
 |_,_,_,_,.nil,h=>h
 |q :: _,_,_,_,.cons h1 t,h=>by
  rw[OA,OA]
  refine KP.fold t ?_
  rw[h1.1]
  exact h.put _ h1.2
theorem FN (hn:nC K=true):AW K (λx=>Dm K [x]) xV .v:=by
 intro B G H x dx d Q s hB bx e k
 cases dx with
 |list ds=>
  have e:((Eg ds).map λL=>PyData.dict ((L.foldl (λa x=>vD a x.1 x.2) []).map λx=>(.tuple [.int x.1.1,.int x.1.2],x.2)))=some d:=e
  cases e1:Eg ds with
  |none=>rw[e1] at e;cases e
  |some L=>
   rw[e1] at e
   cases e
   obtain⟨p,xs,rfl,hq,r⟩:=bx.list s
   obtain⟨rest,rfl,hR,h2⟩:=zJ hn r e1
   refine⟨p,rest,rfl,.inl hq,λq hq=>⟨(h2 q hq).1.grow s.grow,(h2 q hq).2.mono s⟩,λd hd=>?_⟩
   have xn:=Ext.new s (o:=.dT (rest.foldl (λa q=>putK a q.2.2.1 q.2.2.2) [])) hd
   exact k _ _ _ xn (.dT ay ((KP.fold hR .nil).rp.mono xn.gg))
 |_=>cases e
end
section
variable {X:Cx}{K:Frag}{σ:St}{G H:Hp}{s:Shared}{E:XK}
def Bq (neg:Bool):R2:=λx y H Q=>∃a o,y=.ref a/\(l6 H a x o\/(o=none/\Rd H a (.dK [])/\∃b,∃k:List Key,x=.ref b/\Rd H b (.tup (k.map kV))))/\Q (.bl (if neg then !o.isSome else o.isSome)) H
def CA {P:Program}{w:World}{a:Addr}{g:Heap}(h:g.DictOf (bF P w) a []):g.DictOfH (tupleKind (bF P w)) a []:=by
 obtain⟨o,es,ep,h1,h2,h3,h4,h5,_⟩:=h
 exact⟨o,es,ep,h1,h2,h3,by generalize es.toList=q at h5 ⊢;cases h5;rfl,(λx hx=>by cases hx),OH⟩
def Ck (hu:X.A.units + 100 < cLine):lX X (compareOp .In) (Bq false):=by
 intro pins s σ H x y v u Q I rx ry h
 obtain⟨a,o,rfl,hg,q⟩:=h
 cases ry
 rcases hg with hg | ⟨rfl,hd,b,k,rfl,hb⟩
 ·exact L4 (by omega) I hg rx λs' I'=>⟨.bl o.isSome,H,I',rfl,q⟩
 ·cases rx
  obtain⟨z,hs,vs,rel,dd⟩:=qC I.hok hd
  cases rel
  exact wpAny_in_heap (Ox (by omega)) (ki I.hok hb) hs (CA dd) ⟨.bl false,H,I.tok _,rfl,q⟩
def nI (hu:X.A.units + 100 < cLine):lX X (compareOp .NotIn) (Bq true):=by
 intro pins s σ H x y v u Q I rx ry h
 obtain⟨a,o,rfl,hg,q⟩:=h
 cases ry
 rcases hg with hg | ⟨rfl,hd,b,k,rfl,hb⟩
 ·exact EG (by omega) I hg rx λs' I'=>⟨.bl (!o.isSome),H,I',rfl,q⟩
 ·cases rx
  obtain⟨z,hs,vs,rel,dd⟩:=qC I.hok hd
  cases rel
  exact wpAny_notIn_heap (Ox (by omega)) (ki I.hok hb) hs (CA dd) ⟨.bl true,H,I.tok _,rfl,q⟩
def zP:List (D×D)->Option (List (Int×Int))
 | []=>some []
 | (.tuple [.int a,.int b],_) :: ds=>(zP ds).map λL=>(a,b) :: L
 |_=>none
def oU (neg:Bool):D->D->Option D
 | .tuple [.int a,.int b],.dict ds=>(zP ds).map λL=>.bool (if neg then !decide ((a,b)∈L) else decide ((a,b)∈L))
 |_,_=>none
theorem za:∀{kvs:List (List Key×V)} {ds:List (D×D)} {L:List (Int×Int)} (p:Int×Int),sx K G kvs ds->zP ds=some L->(lu kvs (kP p)).isSome=decide (p∈L)
 |_,_,L,p,.nil,h=>by cases h;rfl
 |_,_,L,p,.cons (k:=k) (x:=x) (xs:=xs) (d:=d) (ds:=ds) hx t,h=>by
  unfold zP at h
  split at h
  ·rename_i e;cases e
  ·rename_i a b d' ds' e
   injection e with e1 e2
   injection e1 with e1 _
   subst e2
   cases e3:zP ds with
   |none=>rw[e3] at h;cases h
   |some M=>
    rw[e3] at h
    cases h
    have ih:=za p t e3
    have hk:k=kP (a,b):=by
     injection e1 with e1
     match k,e1 with
     | [.inl i,.inl j],e1=>simp[kD] at e1;rw[e1.1,e1.2];rfl
     | [.inl i,.inr j],e1=>simp[kD] at e1
     | [.inr i,_],e1=>simp[kD] at e1
     | [],e1=>simp at e1
     | [_],e1=>simp at e1
     |_ :: _ :: _ :: _,e1=>simp at e1
    subst hk
    by_cases c:p=(a,b)
    ·subst c
     rw[kL rfl]
     simp
    ·rw[kH (λz=>c (qJ.mp z).symm),ih]
     simp[c]
  ·cases h
theorem Er {kvs:List (Key×V)}{ds:List (D×D)}{L:List (Int×Int)}(r:xi K G kvs ds)(h:zP ds=some L):kvs= []/\L= []:=by
 cases r with
 |nil=>cases h;exact⟨rfl,rfl⟩
 | @cons k x xs d ds _ _=>cases k <;> (simp[zP,kD] at h)
def vO {neg:Bool}(hn:nC K=true):nH K (Bq neg) (oU neg) .v:=by
 intro B G H x y dx dy d Q s hB bx by' e k
 unfold oU at e
 split at e
 ·rename_i a b ds
  cases e1:zP ds with
  |none=>rw[e1] at e;cases e
  |some L=>
   rw[e1] at e
   cases e
   obtain⟨p,xs,rfl,hq,r⟩:=bx.tuple s
   have hw:xs= [V.int a,V.int b]:=by
    cases r with
    |cons a1 r=>cases r with
     |cons a2 r=>cases r;cases a1;cases a2;rfl
   subst hw
   have hk:Rd H p (.tup ((kP (a,b)).map kV)):=uq hn hq
   have fin:∀c o,y=.ref c->(l6 H c (.ref p) o\/(o=none/\Rd H c (.dK [])/\∃b,∃k:List Key,V.ref p=.ref b/\Rd H b (.tup (k.map kV))))->o.isSome=decide ((a,b)∈L)->Bq neg (.ref p) y H Q:=λc o hy hg ho=>⟨c,o,hy,hg,by rw[ho];exact k _ G H (Ext.refl s) (.bl _)⟩
   have dT:∀c kvs,y=.ref c->H c=some (.dT kvs)->sx K G kvs ds->Bq neg (.ref p) y H Q:=λc kvs hy hc r=>fin c _ hy (.inl (l6.t hc hk)) (za (a,b) r e1)
   have dK:∀c kvs,y=.ref c->H c=some (.dK kvs)->xi K G kvs ds->Bq neg (.ref p) y H Q:=λc kvs hy hc r=>by
    obtain⟨rfl,rfl⟩:=Er r e1
    exact fin c none hy (.inr ⟨rfl,.inl hc,p,_,rfl,hk⟩) rfl
   rcases by' with h | ⟨c,rfl,_,h⟩
   ·cases h with
    |scr h=>cases e1
    |dK h r=>exact dK _ _ rfl (s _ _ h) r
    |dT h r=>exact dT _ _ rfl (s _ _ h) r
   ·rcases h with⟨kvs,h,r⟩ | ⟨kvs,h,r⟩
    ·exact dK _ _ rfl h r
    ·exact dT _ _ rfl h r
 ·cases e
def fJ.u2 {k:Nat}{A:Around}(r:fJ k A):A.units + 2 < cLine:=by have:=r.units;omega
end
end L2
namespace L2
open PySem PySem.Spec PyProof.Rows
def IX (tk tv:TE):TE:=λσ H Q=>∀p,H p=none->tk σ (upd H p (.dT [])) λx H1=>tv σ H1 λy H2=>H2 p=some (.dT [])/\∃(b:Addr) (ks:List Key),x=.ref b/\Rd H2 b (.tup (ks.map kV))/\Q (.ref p) (upd H2 p (.dT [(ks,y)]))
def DI {X:Cx}{pos:Pos}{k v:Expr}{tk tv:TE}(hu:X.A.units + 1 < cLine)(hk:PE X k tk)(hv:PE X v tv):PE X (.Dict [some k] [v] pos) (IX tk tv):=by
 intro pins s σ H Q I q
 have hn:=I.hok.fresh (MK s.heap.objs.size)
 have I1:=I.laid (a:=s.heap.objs.size) (o:=.dT []) (h':=s.heap.push {cls:=.type "dict",data:=.dict #[]}) (t':=s.toks) (λ_ _ q=>MH _ q) (MK _) (B8 s.heap I.big)
 have q:=q _ hn
 rw[arm_eval_Dict,zip_pairTrees [some k] [v] X.env pos rfl rfl,dictDisplay_pairs _ (by simp[pairTrees]) (by simp[pairTrees])]
 refine MF (wpAny_standAt (MF ?_))
 unfold subDict
 refine MF (wpAny_alloc (MF (NP ?_)))
 rw[MJ (by simp[pairTrees])]
 refine MF (pairTrees_cons_walk (b5 (hk pins _ σ _ _ I1 q) λu s1 ⟨x,H1,I2,rx,q1⟩=>b5 (hv pins s1 σ H1 _ I2 q1) λw2 s2 ⟨y,H2,I3,ry,hd,b,ks,ex,hb,q2⟩=>pairTrees_nil_walk ?_))
 subst ex
 cases rx
 obtain⟨z,hs,xs,rel,dd⟩:=Dz I3.hok hd
 cases rel
 refine NP ?_
 refine MF ?_
 rw[List.forIn_cons]
 refine MF (MF (wpAny_dictSet_heap (knd:=tupleKind (bF X.prog X.w)) (show X.A.units < cLine by omega) (ki I3.hok hb) dd (λh' dd' hs'=>MI ?_) (by rw[Ni];simp)))
 show wpAny _ _ (forIn [] PUnit.unit _) _ _ _
 rw[List.forIn_nil]
 refine MI (MI (MI (MI ⟨.ref s.heap.objs.size,_,?_,rfl,q2⟩)))
 obtain⟨q',es,ep,hq,h2,h3,h4,_,h5⟩:=dd'
 refine nA I3 (by rw[hd];exact True.intro) hs' ⟨q',hq⟩ ⟨by rw[Ni];simp,hs,_,(KT.put (H:=H2) (kvs:=[]) (xs:=[]) .nil ks hb ry).keeps λc ys ec=>?_,q',es,ep,hq,h2,h3,h4,h5⟩
 exact ec.imp (λec=>by rw[az (oD ec hd (λz=>nomatch z))];exact ec) λ⟨o,ec⟩=>⟨o,by rw[az (oD ec hd (λz=>nomatch z))];exact ec⟩
section
variable {X:Cx}{Γ:Fx}{E:XK}{e a b:Expr}{f fa fb:VF D}{L La Lb:List Nat}{ma mb:Md}{pos:Pos}{K:Frag}{G H:Hp}
def uY:D->Option (Int×Int)
 | .tuple [.int a,.int b]=>some (a,b)
 |_=>none
def tH {d:D}{p:Int×Int}(h:uY d=some p):d=.tuple [.int p.1,.int p.2]:=by
 unfold uY at h
 split at h
 ·cases h;rfl
 ·cases h
def Mt (p:Int×Int):D:=.tuple [.int p.1,.int p.2]
def uX:List (D×D)->Option (List ((Int×Int)×D))
 | []=>some []
 | (k,v) :: ds=>match uY k,uX ds with
  |some p,some L=>some ((p,v) :: L)
  |_,_=>none
theorem zu:∀L:List ((Int×Int)×D),uX (L.map λq=>(Mt q.1,q.2))=some L
 | []=>rfl
 | (p,v) :: L=>by
  rw[Ng]
  unfold uX
  rw[zu L];rfl
def yB (L:List ((Int×Int)×D))(p:Int×Int):Option D:=(L.find? λq=>decide (q.1=p)).map (·.2)
theorem J4 {k:List Key}{p:Int×Int}(h:uY (.tuple (k.map kD))=some p):k=kP p:=by
 have h:=tH h
 injection h with h
 match k,h with
 | [.inl i,.inl j],h=>simp[kD] at h;rw[h.1,h.2];rfl
 | [.inl i,.inr j],h=>simp[kD] at h
 | [.inr i,_],h=>simp[kD] at h
 | [],h=>simp at h
 | [_],h=>simp at h
 |_ :: _ :: _ :: _,h=>simp at h
theorem xY:∀{kvs:List (List Key×V)} {ds:List (D×D)} {L:List ((Int×Int)×D)} (p:Int×Int),sx K G kvs ds->uX ds=some L->(yB L p=none/\lu kvs (kP p)=none)\/∃d v,yB L p=some d/\lu kvs (kP p)=some v/\Rp K G v d
 |_,_,_,p,.nil,h=>by cases h;exact .inl ⟨rfl,rfl⟩
 |_,_,L,p,.cons (k:=k) (x:=x) (xs:=xs) (d:=d) (ds:=ds) hx t,h=>by
  unfold uX at h
  cases e1:uY (.tuple (k.map kD)) with
  |none=>rw[e1] at h;cases h
  |some q=>
   cases e2:uX ds with
   |none=>rw[e1,e2] at h;cases h
   |some M=>
    rw[e1,e2] at h
    cases h
    have hk:=J4 e1
    subst hk
    by_cases c:q=p
    ·subst c
     exact .inr ⟨d,x,by simp[yB],by rw[kL rfl],hx⟩
    ·have h1:yB ((q,d) :: M) p=yB M p:=by simp[yB,Ol,c]
     rw[h1,kH (λz=>c (qJ.mp z))]
     exact xY p t e2
def Cp (hn:nC K=true){B:Option Addr}{x:V}{d:D}{p:Int×Int}(bx:kQ K B G H x d)(s:av G H)(h:uY d=some p):∃c,x=.ref c/\Rd H c (.tup ((kP p).map kV)):=by
 have e:=tH h
 subst e
 obtain⟨c,xs,rfl,hq,r⟩:=bx.tuple s
 have hw:xs= [V.int p.1,V.int p.2]:=by
  cases r with
  |cons a1 r=>cases r with
   |cons a2 r=>cases r;cases a1;cases a2;rfl
 subst hw
 exact⟨c,rfl,uq hn hq⟩
def nk:D->D->Option D
 | .dict ds,k=>match uX ds,uY k with
  |some L,some p=>yB L p
  |_,_=>none
 |_,_=>none
def Gq (hn:nC K=true){B:Option Addr}{x y:V}{dx dy d:D}(s:av G H)(bx:kQ K B G H x dx)(by':kQ K B G H y dy)(e:nk dx dy=some d):∃c v,x=.ref c/\l6 H c y (some v)/\Rp K G v d:=by
 unfold nk at e
 split at e
 ·rename_i ds
  cases e1:uX ds with
  |none=>rw[e1] at e;cases e
  |some L=>
   cases e2:uY dy with
   |none=>rw[e1,e2] at e;cases e
   |some p=>
    rw[e1,e2] at e
    dsimp only at e
    obtain⟨c2,rfl,hk⟩:=Cp hn by' s e2
    have T:∀c kvs,H c=some (.dT kvs)->sx K G kvs ds->∃c' v,V.ref c=.ref c'/\l6 H c' (.ref c2) (some v)/\Rp K G v d:=λc kvs hc r=>by
     rcases xY p r e1 with⟨z,_⟩ | ⟨d',v,z1,z2,rv⟩
     ·rw[e] at z;cases z
     ·rw[e] at z1
      cases z1
      exact⟨c,v,rfl,by rw[<-z2];exact l6.t hc hk,rv⟩
    have Kk:∀kvs,xi K G kvs ds->False:=λkvs r=>by
     cases r with
     |nil=>cases e1;cases e
     | @cons k x xs d ds _ _=>cases k <;> (simp[uX,kD,uY] at e1)
    rcases bx with h | ⟨c,rfl,_,h⟩
    ·cases h with
     |scr h=>simp[uX,uY] at e1
     |dK h r=>exact (Kk _ r).elim
     |dT h r=>exact T _ _ (s _ _ h) r
    ·rcases h with⟨kvs,h,r⟩ | ⟨kvs,h,r⟩
     ·exact (Kk _ r).elim
     ·exact T _ _ h r
 ·cases e
def zi (hu:X.A.units + 2 < cLine)(hn:nC Γ.K=true)(ha:SE X Γ E a fa La ma)(hb:SE X Γ E b fb Lb mb)(hs:IA b):SE X Γ E (.Subscript a b pos) (f2 fa fb nk) (La ++ Lb) .v:=by
 refine PE.post' (FJ (by omega) ha hb hs) λσ H Q ⟨env,G,B,β,I,o⟩=>?_
 refine⟨env,G,B,β,I,o.bnd.imp λd1 β1 h x G1 H1 I1 s1 m1 vx=>⟨bg La env,G1,B,β1,I1,?_⟩⟩
 rw[gQ]
 refine h.bnd.imp λd2 β2 h y G2 H2 I2 s2 m2 vy=>?_
 obtain⟨d,e,k⟩:=h.of
 obtain⟨c,v,rfl,g,rv⟩:=Gq hn I2.sub ((vx.brw I.boxThere).mono s2 m2) (vy.brw I1.boxThere) e
 exact⟨c,v,rfl,g,k v G2 H2 (by rw[cL];exact I2) (s1.trans s2) (m1.trans m2) rv⟩
def GZ (i:Nat):VF D:=λvs β=>(gv i vs β).bnd λk β1=>match uY k with
 |some _=>.ok (.dict [(k,.none)]) β1
 |none=>.bad
theorem E2 (i:Nat)(hb:Γ.br i=false)(hu:X.A.units + 2 < cLine)(hn:nC Γ.K=true){x:Str}{np cp:Pos}{j}(hN:X.N[i]? =some x:=by rfl)(hv:wO X.env.scope x:=by first |exact Or.inl rfl |exact Or.inr (Or.inl rfl) |exact Or.inr (Or.inr rfl))(hd:(x == ("__debug__":Str))=false:=by decide)
  (hcd:(x == ("__classdict__":Str))=false:=by decide):SE X Γ E (.Dict [some (.Name x np)] [.Constant .none j cp] pos) (GZ i) [i] .w:=by
 refine PE.post' (DI (by omega) (iS hN hv hd hcd) DM) λσ H Q ⟨env,G,B,β,I,o⟩ p hp=>?_
 have o:=o.bnd
 obtain⟨d,e,k⟩:=o.of
 cases q:uY d with
 |none=>rw[q] at k;exact k.elim
 |some pr=>
  rw[q] at k
  have k:∀v G' H',SR Γ B G' H' σ (bg [i] env) β->av G G'->iX B H H'->VO Γ.K B H G' H' .w (.dict [(d,.none)]) v->Q v H':=k
  obtain⟨G',v,I',s,h1,h2⟩:=I.freeze i hb (join_some e)
  obtain⟨c,rfl,hr⟩:=Cp (B:=B) hn (.inl h2) I'.sub q
  have nc:c≠p:=λz=>EC hr (by rw[z];exact hp)
  refine⟨_,h1,ay,c,kP pr,rfl,hr.imp (λz=>by rw[az nc];exact z) (λ⟨o,z⟩=>⟨o,by rw[az nc];exact z⟩),?_⟩
  rw[zq]
  have xn:=Ext.own I'.sub (o:=.dT [(kP pr,V.non)]) hp
  refine k _ _ _ (I'.ext xn) s (xn.hh.mov B) ⟨p,rfl,hp,I'.sub.free hp,.inr ⟨_,ay,?_⟩⟩
  rw[tH q]
  exact .cons (k:=kP pr) .non .nil
def E8:Option Sl->Bool
 |some (.ow (.dict _))=>true
 |_=>false
def EV {o:Option Sl}(h:E8 o=true):∃ds,o=some (.ow (.dict ds)):=by
 unfold E8 at h
 split at h
 ·exact⟨_,rfl⟩
 ·cases h
def putN (ds:List (D×D))(k v:D):Option (List (D×D)):=match uX ds,uY k with
 |some L,some p=>if (yB L p).isNone=true/\L.length < 1000/\0 < L.length then some (ds ++ [(k,v)]) else none
 |_,_=>none
def z0 (i:Nat)(Lv Lk:List Nat)(fv fk:VF D):SF:=λenv β=>toS (fv (vl env) β) λv β1=>if E8 (bg Lv env)[i]? =true then toS (fk (vl env) β1) λk β2=>(match (bg (Lv ++ Lk) env)[i]? with
 |some (.ow (.dict ds))=>(match putN ds k v with
  |some es=>.nx ((bg (Lv ++ Lk) env).set i (.ow (.dict es))) β2
  |none=>.bad)
 |_=>.bad) else .bad
theorem zd:∀{kvs:List (List Key×V)} {ds:List (D×D)} {L:List ((Int×Int)×D)},sx K G kvs ds->uX ds=some L->kvs.length=L.length
 |_,_,_,.nil,h=>by cases h;rfl
 |_,_,L,.cons (k:=k) (x:=x) (xs:=xs) (d:=d) (ds:=ds) hx t,h=>by
  unfold uX at h
  cases e1:uY (.tuple (k.map kD)) with
  |none=>rw[e1] at h;cases h
  |some q=>
   cases e2:uX ds with
   |none=>rw[e1,e2] at h;cases h
   |some M=>
    rw[e1,e2] at h
    cases h
    simp[zd t e2]
theorem w9:∀{kvs:List (List Key×V)} {ds:List (D×D)} {k:List Key} {v:V} {d:D},sx K G kvs ds->Rp K G v d->sx K G (kvs ++ [(k,v)]) (ds ++ [(.tuple (k.map kD),d)])
 |_,_,_,_,_,.nil,r=>.cons r .nil
 |_,_,_,_,_,.cons hx t,r=>.cons hx (w9 t r)
def FF (i:Nat){x:Str}{np spos:Pos}(hu:X.A.units + 2 < cLine)(hn:nC Γ.K=true)(hb:∀j,Γ.br j=false)(he:SE X Γ E e f La .v)(hi:SE X Γ E a fa Lb mb)(hN:X.N[i]? =some x:=by rfl)(hv:wO X.env.scope x:=by first |exact Or.inl rfl |exact Or.inr (Or.inl rfl) |exact Or.inr (Or.inr rfl))(hd:(x == ("__debug__":Str))=false:=by decide)
  (hcd:(x == ("__classdict__":Str))=false:=by decide) (hs:swapsWith e (some (.Subscript (.Name x np) a spos)) pos.line X.env=pure false:=by rfl) :
  SS X Γ E (.Assign [.Subscript (.Name x np) a spos] e pos) (z0 i La Lb f fa):=by
 refine PS.post (EH (by omega) (iS hN hv hd hcd) hi he hs) λN σ H ⟨env,G,B,β,I,o⟩=>?_
 refine⟨env,G,B,β,I,cx o λd β1 o v G1 H1 I1 s1 m1 vo=>?_⟩
 by_cases hO:E8 (bg La env)[i]? =true
 case neg=>rw[MO hO] at o;exact o.elim
 rw[MJ hO] at o
 obtain⟨ds0,q0⟩:=EV hO
 obtain⟨p,h1,_,_,_,_⟩:=I1.slot i _ q0
 refine⟨_,h1,bg La env,G1,B,β1,I1,?_⟩
 rw[gQ]
 refine cx o λk β2 o w G2 H2 I2 s2 m2 vi=>?_
 rw[<-cL] at I2
 split at o
 ·rename_i ds q
  cases e3:putN ds k d with
  |none=>rw[e3] at o;exact o.elim
  |some es=>
   rw[e3] at o
   unfold putN at e3
   cases e1:uX ds with
   |none=>rw[e1] at e3;cases e3
   |some L=>
    cases e2:uY k with
    |none=>rw[e1,e2] at e3;cases e3
    |some pr=>
     rw[e1,e2] at e3
     dsimp only at e3
     split at e3
     ·rename_i hz
      cases e3
      obtain⟨c2,rfl,hk⟩:=Cp hn (vi.brw I1.boxThere) I2.sub e2
      obtain⟨p',g1,g2,g3,g4,g5⟩:=I2.slot i _ q
      rw[h1] at g1;cases g1
      have vo:Rp Γ.K G1 v d:=vo
      have hk2:k=.tuple ((kP pr).map kD):=by rw[tH e2];rfl
      rcases g5 with⟨kvs,g,r⟩ | ⟨kvs,g,r⟩
      ·exfalso
       cases r with
       |nil=>cases e1;exact absurd hz.2.2 (by simp)
       | @cons k x xs d ds _ _=>cases k <;> (simp[uX,kD,uY] at e1)
      ·have hvn:lu kvs (kP pr)=none:=by
        rcases xY pr r e1 with⟨_,z⟩ | ⟨d',v',z,_⟩
        ·exact z
        ·rw[z] at hz;exact absurd hz.1 (by simp)
       have hl:=zd r e1
       refine⟨p,_,rfl,xG.t g hk (by rw[hl,Ni];have:=hz.2.1;omega),?_⟩
       rw[DQ _ hvn]
       refine o B G2 _ σ (I2.write hb q h1 λH3 e4 s3=>.inr ⟨_,e4,?_⟩) (s1.trans s2)
       rw[hk2]
       exact w9 r (vo.mono s2)
     ·cases e3
 ·exact o.elim
end
def wY (i:Nat)(L:List Nat)(f:VF D):SF:=λenv β=>if uS env[i]? =true then toS (f (vl env) β) λd β'=>HB i (bg L env) β' λds=>if ds.length < 1000 then some (d :: ds) else none else .bad
section
variable {X:Cx}{Γ:Fx}{E:XK}{e:Expr}{f:VF D}{L:List Nat}{pos apos cpos np:Pos}
def Fs (i:Nat){x:Str}{j}{zp:Pos}(hb:∀j,Γ.br j=false)(he:SE X Γ E e f L .v)(hN:X.N[i]? =some x:=by rfl)(hv:wO X.env.scope x:=by first |exact Or.inl rfl |exact Or.inr (Or.inl rfl) |exact Or.inr (Or.inr rfl))(hd:(x == ("__debug__":Str))=false:=by decide)
  (hcd:(x == ("__classdict__":Str))=false:=by decide)
  (hbase:attributeBase (.Name x np) "insert" X.env (eval (.Name x np) X.env)=eval (.Name x np) X.env:=by rfl)
  (hfew:((backTo cpos (starEach [.Constant (.int 0) j zp,e] X.env)).all (λx=> !x.1) && (backToKw cpos (keywordEach [] X.env)).all (λx=>x.1.isSome)
   && decide ([Expr.Constant (.int 0) j zp,e].length + ([]:List Keyword).length + (if ([]:List Keyword).isEmpty then 0 else 1) < 30))=true:=by rfl)
  (hline:(apos.endLine == cpos.line)=true:=by rfl) (hs:starEach [.Constant (.int 0) j zp,e] X.env=(false,eval (.Constant (.int 0) j zp) X.env) :: starEach [e] X.env:=by rfl) (hs1:starEach [e] X.env=(false,eval e X.env) :: starEach [] X.env:=by rfl)
  (hsw:swapsWith (.Call (.Attribute (.Name x np) "insert" apos) [.Constant (.int 0) j zp,e] [] cpos) none pos.line X.env=pure false:=by rfl) :
  SS X Γ E (.Expr (.Call (.Attribute (.Name x np) "insert" apos) [.Constant (.int 0) j zp,e] [] cpos) pos) (wY i L f):=by
 refine PS.post (pk (zY OV PySem.F.slot_list_insert PySem.F.type_list_insert Ar (iS hN hv hd hcd) (aU me (aU he bO hs1) hs) hbase hfew hline hs (by rw[hs1];rfl)) hsw) λN σ H ⟨env,G,B,β,I,o⟩=>?_
 unfold wY at o
 by_cases hO:uS env[i]? =true
 case neg=>rw[MO hO] at o;exact o.elim
 rw[MJ hO] at o
 obtain⟨ds0,q0⟩:=o6 hO
 obtain⟨p,h1,_,_,_,xs,h5,_⟩:=I.slot i _ q0
 refine⟨_,h1,.inl ⟨rfl,xs,.inl (.inl h5)⟩,?_⟩
 refine⟨env,G,B,β,I,cx o λd β' k v G' H' I' s' m' vo=>?_⟩
 obtain⟨ds,es,q,eg,k⟩:=uT k
 by_cases hz:ds.length < 1000
 case neg=>rw[MO hz] at eg;cases eg
 rw[MJ hz] at eg
 cases eg
 obtain⟨p',g1,_,_,_,ys,g5,g6⟩:=I'.slot i _ q
 rw[h1] at g1;cases g1
 refine⟨p,ys,0,v,rfl,rfl,g5,by omega,by omega,by rw[g6.len,Ni];omega,?_⟩
 exact k B G' _ σ (I'.write hb q h1 λH2 e2 s2=>⟨_,e2,.cons vo g6⟩) s'
end
end L2
namespace RM
open PySem L2
def lC (cg bK:List D->FR):SF:=(bI (dA (aF cg (ae (gv 0) (ae (f2 (gv 1) (cst (.int 0)) bN) ah))) (aF bK (ae (gv 1) (ae (f2 (gv 0) (cst (.int 0)) bN) (ae (f2 (gv 0) (cst (.int 1)) bN) ah))))))
def i5 (iA:List D->FR):SF:=(bI (dA (f1 (gv 0) (gO "list")) (f1 (aM 1 [1] (.nm 0) (bQ (gv 0)) kG (aF iA (ae (gv 0) (ae (gv 1) ah)))) (dc λbs=>bs.all id))))
def jW (lA:List D->FR):SF:=(bI (f1 (aM 1 [] (.nm 0) (bQ (aF lA (ae (gv 0) ah))) kG (aW (ae (gv 0) (ae (cst (.bool true)) ah)))) xV))
noncomputable def fj:SF:=(aH (bc 3 ([] ++ []) (f2 (gv 2) (cst (.int 0)) bN))
 (aH (bc 4 ([] ++ []) (f2 (gv 2) (cst (.int 1)) bN))
 (aH (bc 5 ([] ++ [4]) (aM 1 [4,0] (.nm 0) (bJ (gv 1)) (A3 (cJ (f2 (gv 0) (gv 1) (cO true))) (cJ (f2 (aW (ae (gv 1) (ae (gv 0) ah))) (gv 2) (oU true)))) (gv 0)))
 (aH (bc 6 ([] ++ [3]) (aM 1 [3,0] (.nm 0) (bJ (gv 1)) (A3 (cJ (f2 (gv 0) (gv 1) (cO true))) (cJ (f2 (aW (ae (gv 1) (ae (gv 0) ah))) (gv 2) (oU true)))) (gv 0)))
 (aH (bc 7 (([] ++ [3]) ++ ([] ++ [4])) (f2 (aM 1 [3] (.nm 0) (bQ (gv 5)) kG (aW (ae (gv 1) (ae (gv 0) ah)))) (aM 1 [4] (.nm 0) (bQ (gv 6)) kG (aW (ae (gv 0) (ae (gv 1) ah)))) eY))
 (kJ (f1 (aM 1 [0] (.nm 0) (bQ (gv 7)) (cJ (f2 (gv 0) (gv 1) (oU false))) (gv 0)) iH)))))))
def oF:SF:=(bI (aW (ae (f2 (gv 0) (cst (.int 1)) bN) (ae (f2 (gv 0) (cst (.int 0)) bN) ah))))
def iw (bA eS eQ di cF:List D->FR):SF:=(aH (rV ([1] ++ []) (aF bA (ae (gv 1) ah)))
 (aH (kA (([0] ++ ([1] ++ [])) ++ (([] ++ []) ++ (([] ++ []) ++ (([] ++ []) ++ [])))) (mf (uZ (mZ (aF eS (ae (gv 0) (ae (gv 1) ah))))) (mf (cJ (f2 (f1 (gv 0) dB) (cst (.int 0)) (cO false))) (cJ (f2 (f2 (gv 0) (f1 (cst (.int 1)) xJ) bN) (aF eQ (ae (f2 (gv 0) (cst (.int 0)) bN) ah)) (cO true)))))
 (bI (cst (.bool false)))
 mj)
 (aH (bc 2 ([1] ++ []) (aF di (ae (gv 1) ah)))
 (bI (f1 (aM 1 [0,2,1] (.nm 0) (m6 (cst (.int 1)) (f1 (gv 0) dB)) kG (f2 (f2 (gv 1) (gv 0) bN) (aF cF (ae (gv 2) (ae (f2 (gv 3) (cst (.int 0)) bN) (ae (f2 (gv 1) (f2 (gv 0) (cst (.int 1)) lW) bN) ah)))) (xf false))) (dc λbs=>bs.all id))))))
def fF (dm bB:List D->FR):SF:=(aH (kA ([] ++ (([] ++ []) ++ ([] ++ []))) (mf (uZ (mZ (f1 (gv 1) (gO "tuple")))) (mf (cJ (f2 (f1 (gv 1) dB) (cst (.int 2)) (cO true))) (uZ (mZ (f1 (aM 1 [] (.nm 0) (bQ (gv 1)) kG (aF dm (ae (gv 0) ah))) (dc λbs=>bs.all id))))))
 (bI (cst (.bool false)))
 mj)
 (bI (f2 (gv 1) (aF bB (ae (gv 0) ah)) (xf false))))
def gr (bu:List D->FR):SF:=(aH (qH (.two 3 4) [1] (gv 1))
 (aH (qH (.two 5 6) [2] (gv 2))
 (aH (kA (([] ++ []) ++ ([] ++ [])) (A3 (cJ (f2 (gv 3) (gv 5) (cO false))) (cJ (f2 (gv 4) (gv 6) (cO true))))
 (bI (f1 (aF bu (ae (gv 0) (ae (gv 4) (ae (gv 6) ah)))) rm))
 mj)
 (bI (dA (f2 (gv 4) (gv 6) (cO false)) (dA (f2 (gv 3) (gv 5) (cO true)) (f1 (aF bu (ae (gv 0) (ae (gv 3) (ae (gv 5) ah)))) rm)))))))
def cI (cE bt:List D->FR):SF:=(aH (kA ([] ++ (([] ++ []) ++ ([] ++ [1]))) (mf (uZ (mZ (f1 (gv 0) (gO "list")))) (mf (cJ (f2 (gv 0) (ba ah) xj)) (uZ (mZ (f1 (aM 1 [1] (.nm 0) (bQ (gv 0)) kG (aF cE (ae (gv 1) (ae (gv 0) ah)))) (dc λbs=>bs.all id))))))
 (bI (cst (.bool false)))
 mj)
 (aH (kA (([] ++ []) ++ ([] ++ [])) (cJ (f2 (f2 (gv 0) (f1 (cst (.int 1)) xJ) bN) (f1 (f2 (gv 0) (cst (.int 0)) bN) uh) (cO true)))
 (bI (cst (.bool false)))
 mj)
 (bI (f1 (aM 1 [1,0] (.nm 0) (bJ (f2 (f1 (gv 0) dB) (cst (.int 1)) lW)) kG (aF bt (ae (gv 1) (ae (f2 (gv 2) (gv 0) bN) (ae (f2 (gv 2) (f2 (gv 0) (cst (.int 1)) bM) bN) ah))))) (dc λbs=>bs.all id)))))
def gH (bB bt:List D->FR)(ar:List D->Int->FB):SF:=(aH (bc 2 ([1] ++ []) (aF bB (ae (gv 1) ah)))
 (aH (kA ([] ++ []) (cJ (f2 (gv 2) (ba ah) (cO false)))
 (kJ (ba ah))
 mj)
 (aH (bc 3 ([] ++ ([] ++ [])) (f2 (gv 2) (fU 0 ar (ae (f1 (gv 2) dB) ah)) bN))
 (aH (kx 4 [3] (GZ 3))
 (aH (kx 5 ([3] ++ []) (ba (ae (gv 3) ah)))
 (aH (bc 6 [] (cst (.int 0)))
 (aH (gV ([] ++ []) (cJ (f2 (gv 6) (f1 (gv 5) dB) Ek))
 (aH (eN (.nm 7) [2] (bQ (gv 2))
 (kA (([] ++ []) ++ ([1] ++ (([] ++ []) ++ ([7] ++ [])))) (A3 (cJ (f2 (gv 7) (gv 4) (oU true))) (mZ (aF bt (ae (gv 1) (ae (f2 (gv 5) (gv 6) bN) (ae (gv 7) ah))))))
 (aH (z0 4 ([] ++ []) [] (f2 (gv 5) (gv 6) bN) (gv 7))
 (oo 5 [7] (gv 7)))
 mj))
 (bc 6 ([] ++ []) (f2 (gv 6) (cst (.int 1)) bM))) 1000)
 (aH (bc 8 ([] ++ []) (f2 (gv 5) (f1 (cst (.int 1)) xJ) bN))
 (aH (kA ([] ++ []) (cJ (f2 (f1 (gv 3) uh) (gv 4) (oU false)))
 (bc 8 [] (f1 (gv 3) uh))
 mj)
 (aH (kx 9 ([8] ++ []) (ba (ae (gv 8) ah)))
 (aH (gV ([] ++ ([] ++ [])) (tN (f2 (gv 4) (f2 (gv 9) (cst (.int 0)) bN) nk) true)
 (wY 9 ([] ++ ([] ++ [])) (f2 (gv 4) (f2 (gv 9) (cst (.int 0)) bN) nk)) 1000)
 (vG 9))))))))))))
def jb (ar:List D->Int->FB):SF:=(aH (kA ([] ++ []) (cJ (f2 (gv 1) (ba ah) (cO false)))
 (bI (f2 (ba (ae (ba (ae (aW (ae (cst (.int 0)) (ae (cst (.int 0)) ah))) ah)) (ae (ba (ae (aW (ae (cst (.int 0)) (ae (f2 (gv 2) (cst (.int 1)) lW) ah))) ah)) (ae (aW ah) (ae (ba (ae (gv 3) ah)) (ae (ba (ae (ba ah) ah)) ah)))))) (fU 0 ar (ae (cst (.int 5)) ah)) bN))
 mj)
 (aH (bc 4 ([] ++ []) (fU 0 ar (ae (f1 (gv 1) dB) ah)))
 (aH (qH (.two 5 6) ([] ++ []) (f2 (gv 1) (gv 4) bN))
 (aH (bc 7 (([2] ++ []) ++ (([2] ++ []) ++ [])) (aW (ae (fU 0 ar (ae (gv 2) ah)) (ae (fU 0 ar (ae (gv 2) ah)) ah))))
 (aH (bc 8 ([] ++ ((([5] ++ ([6] ++ [])) ++ (([5] ++ ([6] ++ [])) ++ [])) ++ ((([6] ++ ([5] ++ [])) ++ []) ++ (([7] ++ []) ++ ((([5] ++ ([6] ++ [])) ++ []) ++ ((([5] ++ (([] ++ []) ++ [])) ++ []) ++ (([3] ++ []) ++ ((([5] ++ ([6] ++ [])) ++ ([7] ++ [])) ++ [])))))))) (ba (ae (ba ah) (ae (ba (ae (aW (ae (gv 5) (ae (gv 6) ah))) (ae (aW (ae (gv 5) (ae (gv 6) ah))) ah))) (ae (ba (ae (aW (ae (gv 6) (ae (gv 5) ah))) ah)) (ae (ba (ae (gv 7) ah)) (ae (ba (ae (ba (ae (gv 5) (ae (gv 6) ah))) ah)) (ae (ba (ae (aW (ae (gv 5) (ae (f2 (gv 6) (cst (.int 1)) (cO false)) ah))) ah)) (ae (ba (ae (gv 3) ah)) (ae (ba (ae (aW (ae (gv 5) (ae (gv 6) ah))) (ae (gv 7) ah))) ah))))))))))
 (aH (bc 9 ([] ++ []) (fU 0 ar (ae (cst (.int 11)) ah)))
 (aH (kA ([] ++ []) (cJ (f2 (gv 9) (cst (.int 8)) Ek))
 (kJ (f2 (f2 (AU (gv 1) (λ_ β=>.ok none β) (Ai (gv 4))) (f2 (gv 8) (gv 9) bN) eY) (AU (gv 1) (Ai (f2 (gv 4) (cst (.int 1)) bM)) (λ_ β=>.ok none β)) eY))
 mj)
 (bI (f2 (ba (ae (f1 (gv 1) Cs) (ae (AU (gv 1) (λ_ β=>.ok none β) (Ai (gv 4))) (ae (f1 (gv 1) gS) ah)))) (f2 (gv 9) (cst (.int 8)) lW) bN)))))))))
def yS (fW dD iy cG:List D->FR)(bW fX eT eO:List D->Int->FB):SF:=(aH (eN (.nm 1) ([] ++ ([] ++ [])) (bJ (f2 (cst (.int 1)) (f2 (f1 (gv 0) dB) (cst (.int 3)) (x6 λi j=>.int (if j < i then j else i))) (x6 λi j=>.int (if j > i then j else i))))
 (aH (zD 2 ([0] ++ ([1] ++ [])) (wG fW (ae (gv 0) (ae (gv 1) ah))))
 (aH (bc 3 ([] ++ []) (fU 2 bW (ae (cst (.int 8)) ah)))
 (aH (bc 4 [] (fU 2 fX ah))
 (aH (bc 5 ([3] ++ []) (fU 2 eT (ae (gv 3) ah)))
 (aH (kx 6 ([5] ++ ([4] ++ ([] ++ (((([] ++ []) ++ []) ++ ((([] ++ []) ++ []) ++ [])) ++ [])))) (ba (ae (gv 5) (ae (gv 4) (ae (ba ah) (ae (f2 (AU (gv 5) (λ_ β=>.ok none β) (Ai (cst (.int 1)))) (aM 1 [] (.nm 0) (bQ (AU (gv 5) (λ_ β=>.ok none β) (Ai (cst (.int 1))))) kG (f1 (gv 0) uh)) eY) ah))))))
 (aH (eN (.nm 7) [] (bJ (cst (.int 4)))
 (oo 6 ([5] ++ (([] ++ []) ++ ([4] ++ []))) (fU 2 eO (ae (gv 5) (ae (f2 (gv 3) (cst (.int 0)) bN) (ae (gv 4) ah))))))
 (eN (.nm 8) [6] (bQ (gv 6))
 (aH (bc 9 [] (f1 (gv 8) pG))
 (kA ((([8] ++ ([3] ++ [])) ++ (([8] ++ ([3] ++ [])) ++ [])) ++ ([] ++ [])) (mf (uZ (mZ (aF dD (ae (aF iy (ae (gv 8) (ae (gv 3) ah))) (ae (aF cG (ae (gv 8) (ae (gv 3) ah))) ah))))) (cJ (f2 (f1 (gv 8) pG) (gv 9) (Hu true))))
 (bI (cst (.bool false)))
 mj))))))))))
 (bI (cst (.bool true))))
end RM
section
set_option maxHeartbeats 0
namespace RQ
open PySem L2 RM
def top (i:Nat):Stmt:=PySem.Challenge.pw_rowsorder_k34_knots_looked_at.main.body.getD i (.Pass ⟨0,0,0,0⟩)
section
variable {P:Program}{w:World}{K:Frag}{mg:Str->Option Value}{base:Heap}{ca:Str->Addr}
abbrev jR:Stmt:=top 2
def v3:aJ ["thing"] ["thing"] (aw jR):=⟨rfl,rfl,rfl,by decide +kernel,rfl,by decide +kernel,by decide +kernel⟩
def sX {f:Addr}{fd:FuncData}(F:jw K mg "is_whole" jR ["thing"] f fd)(B:jy mg):df P w K mg base ca "is_whole" ["thing"] 1 (bq 1 1 (qB)):=
 ⟨⟨f,fd,F.mg,F.F.kp,F.b,a8 (N:=["thing"]) (k:=0) F.F v3 λcdv A outer s H G E hr=>
  (aB (aS (eB (iU "int" (by decide) rfl rfl B.isinstance rfl B.int (by decide +kernel) (ag 0)) (gP (qj (iU "bool" (by decide) rfl rfl B.isinstance rfl B.bool (by decide +kernel) (ag 0)))) (λ_ _=>rfl))))⟩,λds h=>aR ds h⟩
abbrev jO:Stmt:=top 3
def vb:aJ ["thing","bound"] ["thing","bound"] (aw jO):=⟨rfl,rfl,rfl,by decide +kernel,rfl,by decide +kernel,by decide +kernel⟩
def tM {f:Addr}{fd:FuncData}{bZ:List D->FR}(F:jw K mg "is_below" jO ["thing","bound"] f fd)(B:jy mg)(fV:df P w K mg base ca "is_whole" ["thing"] 1 bZ):df P w K mg base ca "is_below" ["thing","bound"] 2 (bq 2 2 (p6 bZ)):=
 ⟨⟨f,fd,F.mg,F.F.kp,F.b,a8 (N:=["thing","bound"]) (k:=1) F.F vb λcdv A outer s H G E hr=>
  (aB (aS (eB (aN fV (hr.mono (by decide)) aY rfl rfl (af (ax 0 rfl) ak)) (gP (vR DY yO Hi Gf au (ag 0) (ag 1))) (λ_ _=>rfl))))⟩,λds h=>aR ds h⟩
abbrev lx:Stmt:=top 4
def ya:aJ ["thing"] ["thing"] (aw lx):=⟨rfl,rfl,rfl,by decide +kernel,rfl,by decide +kernel,by decide +kernel⟩
def vg {f:Addr}{fd:FuncData}{bZ:List D->FR}(F:jw K mg "is_many" lx ["thing"] f fd)(B:jy mg)(fV:df P w K mg base ca "is_whole" ["thing"] 1 bZ){rh:Tok}(jr:mg "MOST_THINGS"=some (.int 8 rh)):df P w K mg base ca "is_many" ["thing"] 2 (bq 1 1 (sJ bZ)):=
 ⟨⟨f,fd,F.mg,F.F.kp,F.b,a8 (N:=["thing"]) (k:=1) F.F ya λcdv A outer s H G E hr=>
  (aB (aS (eB (aN fV (hr.mono (by decide)) aY rfl rfl (af (ax 0 rfl) ak)) (gP (vR DY DY Hi Hi au (ag 0) (Fi (by rfl) jr))) (λ_ _=>rfl))))⟩,λds h=>aR ds h⟩
abbrev lI:Stmt:=top 5
def xy:aJ ["thing","many"] ["thing","many"] (aw lI):=⟨rfl,rfl,rfl,by decide +kernel,rfl,by decide +kernel,by decide +kernel⟩
def oB {f:Addr}{fd:FuncData}{dX:List D->FR}(F:jw K mg "is_pair" lI ["thing","many"] f fd)(B:jy mg)(iE:df P w K mg base ca "is_below" ["thing","bound"] 2 dX):df P w K mg base ca "is_pair" ["thing","many"] 3 (bq 2 2 (jD dX)):=
 ⟨⟨f,fd,F.mg,F.F.kp,F.b,a8 (N:=["thing","many"]) (k:=2) F.F xy λcdv A outer s H G E hr=>
  (aq (dF (rQ.t (lP (gR (dR rfl (iU "tuple" (by decide) rfl rfl B.isinstance rfl B.tuple (by decide +kernel) (ag 0)))) (mE (bp (dW hr.units) eZ (aV cv ja rfl B.len NO (ag 0)) au (a9 _))) (λ_ _=>rfl)))
  (aB (aS kz))
  b8)
  (aB (aS (eB (aN iE (hr.mono (by decide)) aY rfl rfl (af (bo aO b4 (ag 0) au (λ_ _=>rfl)) (af (ax 1 rfl) ak))) (gP (aN iE (hr.mono (by decide)) aY rfl rfl (af (bo aO b4 (ag 0) au (λ_ _=>rfl)) (af (ax 1 rfl) ak)))) (λ_ _=>rfl)))))⟩,λds h=>aR ds h⟩
abbrev fx:Stmt:=top 6
def q5:aJ ["many"] ["many"] (aw fx):=⟨rfl,rfl,rfl,by decide +kernel,rfl,by decide +kernel,by decide +kernel⟩
def qh {f:Addr}{fd:FuncData}(F:jw K mg "every_pair" fx ["many"] f fd)(B:jy mg):df P w K mg base ca "every_pair" ["many"] 1 (bq 1 1 (hU)):=
 ⟨⟨f,fd,F.mg,F.F.kp,F.b,a8 (N:=["many"]) (k:=0) F.F q5 λcdv A outer s H G E hr=>
  (aB (kf (cw (NB:=["number","many"]) (own:=1) (ixs:=[0]) [] rfl (b7 (by kernel_rfl)) (λ_ _=>rfl) (iM rfl B.range (bh ju jT (ag 0) (ag 0))) (λH0 G0 par br bx C ex s3 H3 pn=>(b6 (i:=0) (show (["number","many"]:List Str).Nodup by decide +kernel))) (λH0 G0 par br bx C ex s3 H3 pn hB1=>c7) (λH0 G0 par br bx C ex s3 H3 pn hB1=>(bE (af (bh nt ER (ag 0) (ag 1)) (af (bh mn rS (ag 0) (ag 1)) ak)))))))⟩,λds h=>aR ds h⟩
abbrev kl:Stmt:=top 13
def wQ:aJ ["pairs"] ["pairs"] (aw kl):=⟨rfl,rfl,rfl,by decide +kernel,rfl,by decide +kernel,by decide +kernel⟩
def tK {f:Addr}{fd:FuncData}(F:jw K mg "has_ring" kl ["pairs"] f fd)(B:jy mg):df P w K mg base ca "has_ring" ["pairs"] 1 (bq 1 1 (qQ)):=
 ⟨⟨f,fd,F.mg,F.F.kp,F.b,a8 (N:=["pairs"]) (k:=0) F.F wQ λcdv A outer s H G E hr=>
  (aB (aS (aV (Dq rfl) j7 rfl B.any (by decide +kernel) (cw (NB:=["a","b"]) (own:=2) (ixs:=[]) [] rfl (b7 (by kernel_rfl)) (λ_ _=>rfl) (mU rfl (ag 0)) (λH0 G0 par br bx C ex s3 H3 pn=>(l9 (i:=0) (j:=1) (show (["a","b"]:List Str).Nodup by decide +kernel))) (λH0 G0 par br bx C ex s3 H3 pn hB1=>c7) (λH0 G0 par br bx C ex s3 H3 pn hB1=>(fq (dY hr.units) eZ (ag 0) (ag 1) (a9 _)))))))⟩,λds h=>aR ds h⟩
abbrev jQ:Stmt:=top 11
def lj:aJ ["thing","many","pairs"] ["thing"] (aw jQ):=⟨rfl,rfl,rfl,by decide +kernel,rfl,by decide +kernel,by decide +kernel⟩
def tV {f:Addr}{fd:FuncData}{iz cg jG fR:List D->FR}(F:jw K mg "is_order" jQ ["thing"] f fd)(B:jy mg)(oj:df P w K mg base ca "is_many" ["thing"] 2 iz)(jC:df P w K mg base ca "is_pair" ["thing","many"] 3 cg)(pE:df P w K mg base ca "closed" ["many","pairs"] 3 jG)(mD:df P w K mg base ca "has_ring" ["pairs"] 1 fR):df P w K mg base ca "is_order" ["thing"] 4 (bq 3 1 (iF iz cg jG fR)):=
 ⟨⟨f,fd,F.mg,F.F.kp,F.b,a8 (N:=["thing","many","pairs"]) (k:=3) F.F lj λcdv A outer s H G E hr=>
  (aq (dF (rQ.t (lP (gR (dR rfl (iU "tuple" (by decide) rfl rfl B.isinstance rfl B.tuple (by decide +kernel) (ag 0)))) (mE (bp (dW hr.units) eZ (aV cv ja rfl B.len NO (ag 0)) au (a9 _))) (λ_ _=>rfl)))
  (aB (aS kz))
  b8)
  (aq (aP (i:=1) (bo aO b4 (ag 0) au (λ_ _=>rfl)) lj.nd)
  (aq (aP (i:=2) (bo aO b4 (ag 0) au (λ_ _=>rfl)) lj.nd)
  (aq (dF (rQ.t (lP (gR (dR rfl (aN oj (hr.mono (by decide)) aY rfl rfl (af (ax 1 rfl) ak)))) (mE (gR (dR rfl (iU "tuple" (by decide) rfl rfl B.isinstance rfl B.tuple (by decide +kernel) (ag 2))))) (λ_ _=>rfl)))
  (aB (aS kz))
  b8)
  (aq (dF (gR (dR rfl (aV (jJ rfl) j7 rfl B.all (by decide +kernel) (cw (NB:=["pair","many"]) (own:=1) (ixs:=[1]) [1] rfl (b7 (by kernel_rfl)) (λ_ _=>rfl) (mU rfl (ag 2)) (λH0 G0 par br bx C ex s3 H3 pn=>(b6 (i:=0) (show (["pair","many"]:List Str).Nodup by decide +kernel))) (λH0 G0 par br bx C ex s3 H3 pn hB1=>c7) (λH0 G0 par br bx C ex s3 H3 pn hB1=>(aN jC (hr.mono (by decide)) nD rfl rfl (af (ax 0 (hB1 0 (by decide))) (af (ax 1 (hB1 1 (by decide))) ak))))))))
  (aB (aS kz))
  b8)
  (aB (aS (eB (fq (dY hr.units) eZ (ag 2) (aN pE (hr.mono (by decide)) aY rfl rfl (af (ax 1 rfl) (af (ax 2 rfl) ak))) (a9 _)) (gP (qj (aN mD (hr.mono (by decide)) aY rfl rfl (af (ax 2 rfl) ak)))) (λ_ _=>rfl)))))))))⟩,λds h=>aR ds h⟩
abbrev hG:Stmt:=top 14
def rG:aJ ["thing"] ["thing"] (aw hG):=⟨rfl,rfl,rfl,by decide +kernel,rfl,by decide +kernel,by decide +kernel⟩
def qP {f:Addr}{fd:FuncData}{fQ:List D->FR}(F:jw K mg "need_order" hG ["thing"] f fd)(B:jy mg)(mq:df P w K mg base ca "is_order" ["thing"] 4 fQ)(jH:Exc K mg ca "NoOrder"):df P w K mg base ca "need_order" ["thing"] 5 (bq 1 1 (ig fQ)):=
 ⟨⟨f,fd,F.mg,F.F.kp,F.b,a8 (N:=["thing"]) (k:=4) F.F rG λcdv A outer s H G E hr=>
  (aB (dF (gR (dR rfl (aN mq (hr.mono (by decide)) aY rfl rfl (af (ax 0 rfl) ak))))
  (aB (CP jH.ex jH.ca rfl jH.mg (af CU ak)))
  b8))⟩,λds h=>aR ds h⟩
abbrev jl:Stmt:=top 15
def uJ:aJ ["order","a","b"] ["order","a","b"] (aw jl):=⟨rfl,rfl,rfl,by decide +kernel,rfl,by decide +kernel,by decide +kernel⟩
def rf {f:Addr}{fd:FuncData}(F:jw K mg "are_apart" jl ["order","a","b"] f fd)(B:jy mg):df P w K mg base ca "are_apart" ["order","a","b"] 1 (bq 3 3 (oC)):=
 ⟨⟨f,fd,F.mg,F.F.kp,F.b,a8 (N:=["order","a","b"]) (k:=0) F.F uJ λcdv A outer s H G E hr=>
  (aB (aS (eB (fq (dW hr.units) eZ (ag 1) (ag 2) (a9 _)) (eB (fq (lJ hr.u1) Ax (bE (af (ax 1 rfl) (af (ax 2 rfl) ak))) (bo aO b4 (ag 0) au (λ_ _=>rfl)) (by with_unfolding_all rfl)) (gP (fq (lJ hr.u1) Ax (bE (af (ax 2 rfl) (af (ax 1 rfl) ak))) (bo aO b4 (ag 0) au (λ_ _=>rfl)) (by with_unfolding_all rfl))) (λ_ _=>rfl)) (λ_ _=>rfl))))⟩,λds h=>aR ds h⟩
abbrev pA:Stmt:=top 17
def DJ:aJ ["order"] ["order"] (aw pA):=⟨rfl,rfl,rfl,by decide +kernel,rfl,by decide +kernel,by decide +kernel⟩
def Al {f:Addr}{fd:FuncData}{bA cM bK:List D->FR}(F:jw K mg "turns" pA ["order"] f fd)(B:jy mg)(dk:df P w K mg base ca "need_order" ["thing"] 5 bA)(j4:df P w K mg base ca "every_pair" ["many"] 1 cM)(eV:df P w K mg base ca "are_apart" ["order","a","b"] 1 bK):df P w K mg base ca "turns" ["order"] 6 (bq 1 1 (ph bA cM bK)):=
 ⟨⟨f,fd,F.mg,F.F.kp,F.b,a8 (N:=["order"]) (k:=5) F.F DJ λcdv A outer s H G E hr=>
  (aq (zz (aN dk (hr.mono (by decide)) aY rfl rfl (af (ax 0 rfl) ak)))
  (aB (kf (cw (NB:=["a","b","order"]) (own:=2) (ixs:=[0]) [0] rfl (b7 (by kernel_rfl)) (λ_ _=>rfl) (mU rfl (aN j4 (hr.mono (by decide)) aY rfl rfl (af (bo aO b4 (ag 0) au (λ_ _=>rfl)) ak))) (λH0 G0 par br bx C ex s3 H3 pn=>(l9 (i:=0) (j:=1) (show (["a","b","order"]:List Str).Nodup by decide +kernel))) (λH0 G0 par br bx C ex s3 H3 pn hB1=>(jk (dR rfl (aN eV (hr.mono (by decide)) nD rfl rfl (af (ax 2 (hB1 2 (by decide))) (af (ax 0 (hB1 0 (by decide))) (af (ax 1 (hB1 1 (by decide))) ak))))))) (λH0 G0 par br bx C ex s3 H3 pn hB1=>(bE (af (ax 0 (hB1 0 (by decide))) (af (ax 1 (hB1 1 (by decide))) ak))))))))⟩,λds h=>aR ds h⟩
abbrev lF:Stmt:=top 18
def xM:aJ ["thing","order"] ["thing","order"] (aw lF):=⟨rfl,rfl,rfl,by decide +kernel,rfl,by decide +kernel,by decide +kernel⟩
def wz {f:Addr}{fd:FuncData}{cg bK:List D->FR}(F:jw K mg "is_turn" lF ["thing","order"] f fd)(B:jy mg)(jC:df P w K mg base ca "is_pair" ["thing","many"] 3 cg)(eV:df P w K mg base ca "are_apart" ["order","a","b"] 1 bK):df P w K mg base ca "is_turn" ["thing","order"] 4 (bq 2 2 (lC cg bK)):=
 ⟨⟨f,fd,F.mg,F.F.kp,F.b,a8 (N:=["thing","order"]) (k:=3) F.F xM λcdv A outer s H G E hr=>
  (aB (aS (eB (aN jC (hr.mono (by decide)) aY rfl rfl (af (ax 0 rfl) (af (bo aO b4 (ag 1) au (λ_ _=>rfl)) ak))) (gP (aN eV (hr.mono (by decide)) aY rfl rfl (af (ax 1 rfl) (af (bo aO b4 (ag 0) au (λ_ _=>rfl)) (af (bo aO b4 (ag 0) au (λ_ _=>rfl)) ak))))) (λ_ _=>rfl))))⟩,λds h=>aR ds h⟩
abbrev i9:Stmt:=top 19
def uw:aJ ["thing","order"] ["thing","order"] (aw i9):=⟨rfl,rfl,rfl,by decide +kernel,rfl,by decide +kernel,by decide +kernel⟩
def qZ {f:Addr}{fd:FuncData}{iA:List D->FR}(F:jw K mg "are_turns" i9 ["thing","order"] f fd)(B:jy mg)(nR:df P w K mg base ca "is_turn" ["thing","order"] 4 iA):df P w K mg base ca "are_turns" ["thing","order"] 5 (bq 2 2 (i5 iA)):=
 ⟨⟨f,fd,F.mg,F.F.kp,F.b,a8 (N:=["thing","order"]) (k:=4) F.F uw λcdv A outer s H G E hr=>
  (aB (aS (eB (iU "list" (by decide) rfl rfl B.isinstance rfl B.list (by decide +kernel) (ag 0)) (gP (aV (jJ rfl) j7 rfl B.all (by decide +kernel) (cw (NB:=["turn","order"]) (own:=1) (ixs:=[1]) [1] rfl (b7 (by kernel_rfl)) (λ_ _=>rfl) (mU rfl (ag 0)) (λH0 G0 par br bx C ex s3 H3 pn=>(b6 (i:=0) (show (["turn","order"]:List Str).Nodup by decide +kernel))) (λH0 G0 par br bx C ex s3 H3 pn hB1=>c7) (λH0 G0 par br bx C ex s3 H3 pn hB1=>(aN nR (hr.mono (by decide)) nD rfl rfl (af (ax 0 (hB1 0 (by decide))) (af (ax 1 (hB1 1 (by decide))) ak))))))) (λ_ _=>rfl))))⟩,λds h=>aR ds h⟩
abbrev g8:Stmt:=top 21
def rq:aJ ["order"] ["order"] (aw g8):=⟨rfl,rfl,rfl,by decide +kernel,rfl,by decide +kernel,by decide +kernel⟩
def p0 {f:Addr}{fd:FuncData}{lA:List D->FR}(F:jw K mg "turn_table" g8 ["order"] f fd)(B:jy mg)(sR:df P w K mg base ca "turns" ["order"] 6 lA)(hn:nC K=true):df P w K mg base ca "turn_table" ["order"] 7 (bq 1 1 (jW lA)):=
 ⟨⟨f,fd,F.mg,F.F.kp,F.b,a8 (N:=["order"]) (k:=6) F.F rq λcdv A outer s H G E hr=>
  (aB (aS (iD (yg rfl hr.u2) (FN hn) rfl B.dict (by decide +kernel) (cw (NB:=["turn"]) (own:=1) (ixs:=[]) [] rfl (b7 (by kernel_rfl)) (λ_ _=>rfl) (mU rfl (aN sR (hr.mono (by decide)) aY rfl rfl (af (ax 0 rfl) ak))) (λH0 G0 par br bx C ex s3 H3 pn=>(b6 (i:=0) (show (["turn"]:List Str).Nodup by decide +kernel))) (λH0 G0 par br bx C ex s3 H3 pn hB1=>c7) (λH0 G0 par br bx C ex s3 H3 pn hB1=>(bE (af (ax 0 (hB1 0 (by decide))) (af kz ak))))))))⟩,λds h=>aR ds h⟩
abbrev fm:Stmt:=top 22
def cj:aJ ["table","many","turn","a","b","seconds","firsts","found"] ["table","many","turn"] (aw fm):=⟨rfl,rfl,rfl,by decide +kernel,rfl,by decide +kernel,by decide +kernel⟩
def oi {f:Addr}{fd:FuncData}(F:jw K mg "forced_among" fm ["table","many","turn"] f fd)(B:jy mg)(hn:nC K=true):df P w K mg base ca "forced_among" ["table","many","turn"] 1 (bq 8 3 (fj)):=
 ⟨⟨f,fd,F.mg,F.F.kp,F.b,a8 (N:=["table","many","turn","a","b","seconds","firsts","found"]) (k:=0) F.F cj λcdv A outer s H G E hr=>
  (aq (aP (i:=3) (bo aO b4 (ag 2) au (λ_ _=>rfl)) cj.nd)
  (aq (aP (i:=4) (bo aO b4 (ag 2) au (λ_ _=>rfl)) cj.nd)
  (aq (mP (i:=5) (NB:=["c","b","table"]) (own:=1) (ixs:=[4,0]) [4] rfl (b7 (by kernel_rfl)) (λ_ _=>rfl) (iM rfl B.range (ag 1)) (λH0 G0 par br bx C ex s3 H3 pn=>(b6 (i:=0) (show (["c","b","table"]:List Str).Nodup by decide +kernel))) (λH0 G0 par br bx C ex s3 H3 pn hB1=>(jk (rQ.t (pX (bp (dW hr.units) eZ (ag 0) (ag 1) (a9 _)) (nv (bp (nI hr.u1) (vO hn) (bE (af (ax 1 (hB1 1 (by decide))) (af (ax 0 (hB1 0 (by decide))) ak))) (ag 2) (by with_unfolding_all rfl))) (λi hi=>hB1 i (by revert i hi;decide)))))) (λH0 G0 par br bx C ex s3 H3 pn hB1=>(ax 0 (hB1 0 (by decide)))) cj.nd)
  (aq (mP (i:=6) (NB:=["c","a","table"]) (own:=1) (ixs:=[3,0]) [3] rfl (b7 (by kernel_rfl)) (λ_ _=>rfl) (iM rfl B.range (ag 1)) (λH0 G0 par br bx C ex s3 H3 pn=>(b6 (i:=0) (show (["c","a","table"]:List Str).Nodup by decide +kernel))) (λH0 G0 par br bx C ex s3 H3 pn hB2=>(jk (rQ.t (pX (bp (dW hr.units) eZ (ag 0) (ag 1) (a9 _)) (nv (bp (nI hr.u1) (vO hn) (bE (af (ax 1 (hB2 1 (by decide))) (af (ax 0 (hB2 0 (by decide))) ak))) (ag 2) (by with_unfolding_all rfl))) (λi hi=>hB2 i (by revert i hi;decide)))))) (λH0 G0 par br bx C ex s3 H3 pn hB2=>(ax 0 (hB2 0 (by decide)))) cj.nd)
  (aq (aP (i:=7) (SE.wv (bh iq mO (cw (NB:=["c","a"]) (own:=1) (ixs:=[3]) [3] rfl (b7 (by kernel_rfl)) (λ_ _=>rfl) (mU rfl (ag 5)) (λH0 G0 par br bx C ex s3 H3 pn=>(b6 (i:=0) (show (["c","a"]:List Str).Nodup by decide +kernel))) (λH0 G0 par br bx C ex s3 H3 pn hB3=>c7) (λH0 G0 par br bx C ex s3 H3 pn hB3=>(bE (af (ax 1 (hB3 1 (by decide))) (af (ax 0 (hB3 0 (by decide))) ak))))) (cw (NB:=["c","b"]) (own:=1) (ixs:=[4]) [4] rfl (b7 (by kernel_rfl)) (λ_ _=>rfl) (mU rfl (ag 6)) (λH0 G0 par br bx C ex s3 H3 pn=>(b6 (i:=0) (show (["c","b"]:List Str).Nodup by decide +kernel))) (λH0 G0 par br bx C ex s3 H3 pn hB4=>c7) (λH0 G0 par br bx C ex s3 H3 pn hB4=>(bE (af (ax 0 (hB4 0 (by decide))) (af (ax 1 (hB4 1 (by decide))) ak))))))) cj.nd)
  (aB (kf (aV oA yM rfl B.sorted (by decide +kernel) (cw (NB:=["other","table"]) (own:=1) (ixs:=[0]) [] rfl (b7 (by kernel_rfl)) (λ_ _=>rfl) (mU rfl (ag 7)) (λH0 G0 par br bx C ex s3 H3 pn=>(b6 (i:=0) (show (["other","table"]:List Str).Nodup by decide +kernel))) (λH0 G0 par br bx C ex s3 H3 pn hB5=>(jk (bp (Ck hr.u1) (vO hn) (ag 0) (ag 1) (by with_unfolding_all rfl)))) (λH0 G0 par br bx C ex s3 H3 pn hB5=>(ax 0 (hB5 0 (by decide)))))))))))))⟩,λds h=>aR ds h⟩
abbrev ji:Stmt:=top 24
def uy:aJ ["turn"] ["turn"] (aw ji):=⟨rfl,rfl,rfl,by decide +kernel,rfl,by decide +kernel,by decide +kernel⟩
def rJ {f:Addr}{fd:FuncData}(F:jw K mg "back_turn" ji ["turn"] f fd)(B:jy mg):df P w K mg base ca "back_turn" ["turn"] 1 (bq 1 1 (oF)):=
 ⟨⟨f,fd,F.mg,F.F.kp,F.b,a8 (N:=["turn"]) (k:=0) F.F uy λcdv A outer s H G E hr=>
  (aB (aS (bE (af (bo aO b4 (ag 0) au (λ_ _=>rfl)) (af (bo aO b4 (ag 0) au (λ_ _=>rfl)) ak)))))⟩,λds h=>aR ds h⟩
abbrev lG:Stmt:=top 23
def pY:aJ ["thing","order","table"] ["thing","order"] (aw lG):=⟨rfl,rfl,rfl,by decide +kernel,rfl,by decide +kernel,by decide +kernel⟩
def u4 {f:Addr}{fd:FuncData}{bA eS eQ di cF:List D->FR}(F:jw K mg "is_knot" lG ["thing","order"] f fd)(B:jy mg)(dk:df P w K mg base ca "need_order" ["thing"] 5 bA)(kY:df P w K mg base ca "are_turns" ["thing","order"] 5 eS)(ll:df P w K mg base ca "back_turn" ["turn"] 1 eQ)(kj:df P w K mg base ca "turn_table" ["order"] 7 di)(iV:df P w K mg base ca "forced_among" ["table","many","turn"] 1 cF):df P w K mg base ca "is_knot" ["thing","order"] 8 (bq 3 2 (iw bA eS eQ di cF)):=
 ⟨⟨f,fd,F.mg,F.F.kp,F.b,a8 (N:=["thing","order","table"]) (k:=7) F.F pY λcdv A outer s H G E hr=>
  (aq (zz (aN dk (hr.mono (by decide)) aY rfl rfl (af (ax 1 rfl) ak)))
  (aq (dF (rQ.t (lP (gR (dR rfl (aN kY (hr.mono (by decide)) aY rfl rfl (af (ax 0 rfl) (af (ax 1 rfl) ak))))) (lP (bp (dY hr.units) eZ (aV cv ja rfl B.len NO (ag 0)) au (a9 _)) (mE (bp (dW hr.units) eZ (bo aO b4 (ag 0) (wu l7 vX au) (λ_ _=>rfl)) (aN ll (hr.mono (by decide)) aY rfl rfl (af (bo aO b4 (ag 0) au (λ_ _=>rfl)) ak)) (a9 _))) (λ_ _=>rfl)) (λ_ _=>rfl)))
  (aB (aS kz))
  b8)
  (aq (aP (i:=2) (aN kj (hr.mono (by decide)) aY rfl rfl (af (ax 1 rfl) ak)) pY.nd)
  (aB (aS (aV (jJ rfl) j7 rfl B.all (by decide +kernel) (cw (NB:=["at","thing","table","order"]) (own:=1) (ixs:=[0,2,1]) [2] rfl (b7 (by kernel_rfl)) (λ_ _=>rfl) (GB rfl B.range au (aV cv ja rfl B.len NO (ag 0))) (λH0 G0 par br bx C ex s3 H3 pn=>(b6 (i:=0) (show (["at","thing","table","order"]:List Str).Nodup by decide +kernel))) (λH0 G0 par br bx C ex s3 H3 pn hB1=>c7) (λH0 G0 par br bx C ex s3 H3 pn hB1=>(fq (Dg hr.u1) Ax (bo aO b4 (ag 1) (ag 0) (λ_ _=>rfl)) (aN iV (hr.mono (by decide)) nD rfl rfl (af (ax 2 (hB1 2 (by decide))) (af (bo aO b4 (ag 3) au (λ_ _=>rfl)) (af (bo aO b4 (ag 1) (bh tX zF (ag 0) au) (λ_ _=>rfl)) ak)))) (by with_unfolding_all rfl))))))))))⟩,λds h=>aR ds h⟩
abbrev i6:Stmt:=top 26
def ur:aJ ["script","k"] ["script","k"] (aw i6):=⟨rfl,rfl,rfl,by decide +kernel,rfl,by decide +kernel,by decide +kernel⟩
def rg {f:Addr}{fd:FuncData}(F:jw K mg "_law_cell" i6 ["script","k"] f fd)(B:jy mg):df P w K mg base ca "_law_cell" ["script","k"] 1 (bq 2 2 (gL)):=
 ⟨⟨f,fd,F.mg,F.F.kp,F.b,a8 (N:=["script","k"]) (k:=0) F.F ur λcdv A outer s H G E hr=>
  (aq (dF (bp yO Gf (ag 1) (aV cv ja rfl B.len NO (ag 0)) (a9 _))
  (aB (aS (bo aO b4 (ag 0) (ag 1) (λ_ _=>rfl))))
  b8)
  (aB (aS au)))⟩,λds h=>aR ds h⟩
abbrev fZ:Stmt:=top 27
def jh:aJ ["cell","k","some","stir"] ["cell","k"] (aw fZ):=⟨rfl,rfl,rfl,by decide +kernel,rfl,by decide +kernel,by decide +kernel⟩
def tu:∃(es:List Expr) (p1 p2 p3:Pos),cZ fZ=.Assign [.Name "some" p1] (.List es p2) p3 :: (cZ fZ).drop 1/\constsOf es=some [48271,69621,16807,39373,30269,40014,40692,50021,61687,71993,83869,95561,30307]:=⟨_,_,_,_,rfl,by kernel_rfl⟩
def tS {f:Addr}{fd:FuncData}(F:jw K mg "_law_mix" fZ ["cell","k"] f fd)(B:jy mg):df P w K mg base ca "_law_mix" ["cell","k"] 1 (bq 4 2 (j5)):=by
 obtain⟨es,p1,p2,p3,hb,hes⟩:=tu
 refine⟨⟨f,fd,F.mg,F.F.kp,F.b,a8 (N:=["cell","k","some","stir"]) (k:=0) F.F jh λcdv A outer s H G E hr=>?_⟩,λds h=>aR ds h⟩
 rw[hb]
 exact (aq (aP (i:=2) (SE.wv (aZ (sC hes))) jh.nd) (aq (aP (i:=3) (bh fS gk (bh fS gk (bh ju jT (bh fS gk (bh mn rS (ag 0) au) au) (bo aO b4 (ag 2) (bh mn rS (ag 1) au) (λ_ _=>rfl))) (bh ju jT au (ag 1))) (bh ju jT au (bh nt ER (ag 1) au))) jh.nd)
  (aq (aP (i:=3) (bh mn rS (ag 3) au) jh.nd)
  (aB (aS (bh nt ER (bh mn rS (bh fS gk (bh ju jT (ag 3) (ag 3)) (bh ju jT au (ag 1))) au) au))))))
abbrev jU:Stmt:=top 28
def gM:aJ ["script","k","cell","number","j"] ["script","k"] (aw jU):=⟨rfl,rfl,rfl,by decide +kernel,rfl,by decide +kernel,by decide +kernel⟩
def uA {f:Addr}{fd:FuncData}{eR fT:List D->FR}(F:jw K mg "_law_box" jU ["script","k"] f fd)(B:jy mg)(lr:df P w K mg base ca "_law_cell" ["script","k"] 1 eR)(mi:df P w K mg base ca "_law_mix" ["cell","k"] 1 fT):df P w K mg base ca "_law_box" ["script","k"] 2 (bq 5 2 (j3 eR fT)):=
 ⟨⟨f,fd,F.mg,F.F.kp,F.b,a8 (N:=["script","k","cell","number","j"]) (k:=1) F.F gM λcdv A outer s H G E hr=>
  (aq (aP (i:=2) (aN lr (hr.mono (by decide)) aY rfl rfl (af (ax 0 rfl) (af (ax 1 rfl) ak))) gM.nd)
  (aq (dF (bp (dY hr.units) eZ (bh mn rS (ag 2) au) au (a9 _))
  (aB (kf (aZ (af (bh nt ER (aV CQ Jr rfl B.abs (by decide +kernel) (ag 2)) au) ak))))
  b8)
  (aq (aP (i:=3) au gM.nd)
  (aq (gX PassesOwn.leaving rfl (iM rfl B.range au) (b6 (i:=4) gM.nd)
  (aB (aP (i:=3) (bh fS gk (bh ju jT (ag 3) au) (aN mi (hr.mono (by decide)) aY rfl rfl (af (ax 2 rfl) (af (ax 4 rfl) ak)))) gM.nd)))
  (aB (kf (aZ (af (ax 3 rfl) ak))))))))⟩,λds h=>aR ds h⟩
abbrev i3:Stmt:=top 29
def nr:aJ ["box","many","left","digit"] ["box","many"] (aw i3):=⟨rfl,rfl,rfl,by decide +kernel,rfl,by decide +kernel,by decide +kernel⟩
def rC {f:Addr}{fd:FuncData}(F:jw K mg "_law_take" i3 ["box","many"] f fd)(B:jy mg):gW P w K mg base "_law_take" ["box","many"] 1 bG:=by
 refine⟨⟨f,fd,F.mg,F.F.kp,F.b,?_⟩,λds β h=>?_⟩
 ·refine F.F.Bx nr (λvs H Q E h=>?_) (λcdv A outer s H vs Q E hr h=>?_)
  ·obtain⟨b,rest,G,ds,β,rfl,hb,gb,sG,hl,r,_⟩:=h
   rw[Na,r.len,hl];rfl
  ·obtain⟨b,rest,G,ds,β,rfl,hb,gb,sG,hl,r,h⟩:=h
   obtain⟨m,rfl,h0,h1⟩:=zH (λz=>by rw[z] at h;exact h)
   rw[ua h0 h1] at h
   have kk:∀v G' H',iX (some b) H H'->H' b=some (.lst [.int (β / m)])->av G G'->av G' H'->(∀c,Mx H c->G c=none->G' c=none)->FV K H G' H' false (.int (β % m)) v->Q v H':=h
   cases r with
   |cons r1 r2=>
    cases r1
    cases r2
    refine⟨_,iQ (qE (kI vP rfl B.divmod (by decide +kernel) (aU (lZ ie (pv 0) me (λ_ _=>rfl)) (aU (pv 1) bO))) (E4 (i:=2) (j:=3) nr.nd rfl rfl rfl rfl rfl))
     (iQ (qE (pv 2) (yn (pv 0) me set_list)) (jf (nV (pv 3)))),?_⟩
    refine⟨_,rfl,b,_,0,.int β,rfl,rfl,.inl (.inl hb),rfl,_,rfl,β,m,rfl,⟨h0,h1⟩,λp hp=>⟨p,_,rfl,.inl (.inl ay),rfl,_,_,rfl,_,_,rfl,rfl,?_⟩⟩
    have hbp:b≠p:=aL hb hp
    exact⟨_,rfl,_,rfl,b,[.int β],0,0,rfl,rfl,by rw[az hbp];exact hb,rfl,_,rfl,BR hb sG hp kk gb⟩
 ·obtain⟨m,rfl,_⟩:=zH h
  rfl
abbrev ip:Stmt:=top 30
def rE:aJ ["thing"] ["thing"] (aw ip):=⟨rfl,rfl,rfl,by decide +kernel,rfl,by decide +kernel,by decide +kernel⟩
def qd {f:Addr}{fd:FuncData}(F:jw K mg "_law_whole" ip ["thing"] f fd)(B:jy mg):df P w K mg base ca "_law_whole" ["thing"] 1 (bq 1 1 (mG)):=
 ⟨⟨f,fd,F.mg,F.F.kp,F.b,a8 (N:=["thing"]) (k:=0) F.F rE λcdv A outer s H G E hr=>
  (aB (aS (eB (iU "int" (by decide) rfl rfl B.isinstance rfl B.int (by decide +kernel) (ag 0)) (gP (qj (iU "bool" (by decide) rfl rfl B.isinstance rfl B.bool (by decide +kernel) (ag 0)))) (λ_ _=>rfl))))⟩,λds h=>aR ds h⟩
abbrev ik:Stmt:=top 31
def rj:aJ ["found","due"] ["found","due"] (aw ik):=⟨rfl,rfl,rfl,by decide +kernel,rfl,by decide +kernel,by decide +kernel⟩
def qO {f:Addr}{fd:FuncData}(F:jw K mg "_law_truth" ik ["found","due"] f fd)(B:jy mg):df P w K mg base ca "_law_truth" ["found","due"] 1 (bq 2 2 (nz)):=
 ⟨⟨f,fd,F.mg,F.F.kp,F.b,a8 (N:=["found","due"]) (k:=0) F.F rj λcdv A outer s H G E hr=>
  (aB (aS (eB (iU "bool" (by decide) rfl rfl B.isinstance rfl B.bool (by decide +kernel) (ag 0)) (gP (fq (dY hr.units) eZ (ag 0) (ag 1) (a9 _))) (λ_ _=>rfl))))⟩,λds h=>aR ds h⟩
abbrev kc:Stmt:=top 32
def kU:aJ ["box","some"] ["box"] (aw kc):=⟨rfl,rfl,rfl,by decide +kernel,rfl,by decide +kernel,by decide +kernel⟩
def ux {f:Addr}{fd:FuncData}{ar:List D->Int->FB}(F:jw K mg "_law_odd" kc ["box"] f fd)(B:jy mg)(aG:gW P w K mg base "_law_take" ["box","many"] 1 ar):gW P w K mg base "_law_odd" ["box"] 2 (kF 2 0 (j8 ar)):=
 ⟨⟨f,fd,F.mg,F.F.kp,F.b,iK (ca:=λ_=>0) (N:=["box","some"]) (k:=1) F.F kU (by decide) λcdv A outer s H G b E hr=>
  (aq (@JT _ _ _ 1 _ _ (ae (cst .none) (ae (cst (.bool true)) (ae (cst (.bool false)) (ae (cst (.int (-1))) (ae (cst (.int 0)) (ae (cst (.int 1)) (ae (cst (.str "")) (ae (cst (.str "1")) (ae (aW ah) (ae (ba ah) (ae (aW (ae (cst (.int 0)) ah)) (ae (aW (ae (cst (.int 1)) (ae (aW ah) ah))) (ae (ba (ae (cst (.int 0)) ah)) ah))))))))))))) ([] ++ ([] ++ ([] ++ ([] ++ ([] ++ ([] ++ ([] ++ ([] ++ ([] ++ ([] ++ (([] ++ []) ++ (([] ++ ([] ++ [])) ++ (([] ++ []) ++ []))))))))))))) _ _ _ [] (by kernel_rfl) (λ_=>rfl) (by kernel_rfl) kU.nd rfl (by first |exact Or.inl rfl |exact Or.inr rfl) (by first |exact .inl rfl |exact .inr rfl))
  (aq (aP (i:=1) (SE.wv (bh iq mO (ag 1) (@De _ _ _ _ (ae (cst (.dict [(.str "a",.int 1)])) (ae (aW (ae (cst (.int 0)) (ae (cst (.int 1)) ah))) (ae (f2 (cst (.int 10)) (cst (.int 39)) BV) (ae (aW (ae (aW (ae (cst (.int 0)) (ae (cst (.int 1)) ah))) ah)) (ae (cst (.str "a")) ah))))) ([] ++ (([] ++ ([] ++ [])) ++ ([] ++ ((([] ++ ([] ++ [])) ++ []) ++ ([] ++ []))))) _ [] (by kernel_rfl) (λ_=>rfl) (by kernel_rfl)))) kU.nd)
  (aB (aS (bo aO b4 (ag 1) (c9 0 aG (hr.mono (by decide)) aY rfl rfl (af au ak)) (λ_ _=>rfl))))))⟩,λds β h=>iW ds β h⟩
abbrev dP:Stmt:=top 33
def gi:aJ ["box","some","left","found"] ["box","some"] (aw dP):=⟨rfl,rfl,rfl,by decide +kernel,rfl,by decide +kernel,by decide +kernel⟩
def mY {f:Addr}{fd:FuncData}{ar:List D->Int->FB}(F:jw K mg "_law_mixed_up" dP ["box","some"] f fd)(B:jy mg)(aG:gW P w K mg base "_law_take" ["box","many"] 1 ar):gW P w K mg base "_law_mixed_up" ["box","some"] 2 (kF 4 1 (dQ ar)):=
 ⟨⟨f,fd,F.mg,F.F.kp,F.b,iK (ca:=λ_=>0) (N:=["box","some","left","found"]) (k:=1) F.F gi (by decide) λcdv A outer s H G b E hr=>
  (aq (i4 (i:=2) (iD tq HQ rfl B.list (by decide +kernel) (ag 1)) gi.nd)
  (aq (i4 (i:=3) (aZ ak) gi.nd)
  (aq (m9 1000 PassesOwn.leaving (bp (dW hr.units) eZ (ag 2) (aZ ak) (a9 _))
  (aB (Ab 3 2 (λ_=>rfl) (c9 0 aG (hr.mono (by decide)) aY rfl rfl (af (aV cv ja rfl B.len NO (ag 2)) ak)))))
  (aB (sV 3)))))⟩,λds β h=>iW ds β h⟩
abbrev gu:Stmt:=top 34
def bL:aJ ["pairs","found","size","more","a","b"] ["pairs"] (aw gu):=⟨rfl,rfl,rfl,by decide +kernel,rfl,by decide +kernel,by decide +kernel⟩
def oN {f:Addr}{fd:FuncData}(F:jw K mg "_law_closed" gu ["pairs"] f fd)(B:jy mg):df P w K mg base ca "_law_closed" ["pairs"] 1 (bq 6 1 (gA)):=
 ⟨⟨f,fd,F.mg,F.F.kp,F.b,a8 (N:=["pairs","found","size","more","a","b"]) (k:=0) F.F bL λcdv A outer s H G E hr=>
  (aq (aP (i:=1) (SE.wv (qt rfl hr.units rfl rfl B.sorted rfl B.set (ag 0))) bL.nd)
  (aq (aP (i:=2) (wu l7 vX au) bL.nd)
  (aq (m9 1000 PassesOwn.leaving (bp (dW hr.units) eZ (ag 2) (aV cv ja rfl B.len NO (ag 1)) (a9 _))
  (aq (aP (i:=2) (aV cv ja rfl B.len NO (ag 1)) bL.nd)
  (aq (aP (i:=3) (SE.wv (aZ ak)) bL.nd)
  (aq (gX PassesOwn.leaving rfl (Hr rfl (ax 1 rfl)) (l9 (i:=4) (j:=5) bL.nd)
  (aB (aP (i:=3) (SE.wv (bh iq mO (ag 3) (cw (NB:=["c","d","b","a"]) (own:=2) (ixs:=[5,4]) [4] rfl (b7 (by kernel_rfl)) (λ_ _=>rfl) (mU rfl (ag 1)) (λH0 G0 par br bx C ex s3 H3 pn=>(l9 (i:=0) (j:=1) (show (["c","d","b","a"]:List Str).Nodup by decide +kernel))) (λH0 G0 par br bx C ex s3 H3 pn hB1=>(jk (bp (dY hr.units) eZ (ag 0) (ag 2) (a9 _)))) (λH0 G0 par br bx C ex s3 H3 pn hB1=>(bE (af (ax 3 (hB1 3 (by decide))) (af (ax 1 (hB1 1 (by decide))) ak))))))) bL.nd)))
  (aB (aP (i:=1) (SE.wv (qt rfl hr.units rfl rfl B.sorted rfl B.set (bh iq mO (ag 1) (ag 3)))) bL.nd))))))
  (aB (aS (iD cU mF rfl B.tuple (by decide +kernel) (ag 1)))))))⟩,λds h=>aR ds h⟩
abbrev hJ:Stmt:=top 35
def cz:aJ ["box","most","many","names","thin","pairs","i","j"] ["box","most"] (aw hJ):=⟨rfl,rfl,rfl,by decide +kernel,rfl,by decide +kernel,by decide +kernel⟩
def pN {f:Addr}{fd:FuncData}{cT:List D->FR}{ar aK:List D->Int->FB}(F:jw K mg "_law_order" hJ ["box","most"] f fd)(B:jy mg)(jo:df P w K mg base ca "_law_closed" ["pairs"] 1 cT)(aG:gW P w K mg base "_law_take" ["box","many"] 1 ar)(bw:gW P w K mg base "_law_mixed_up" ["box","some"] 2 aK):gW P w K mg base "_law_order" ["box","most"] 3 (kF 8 1 (h9 cT ar aK)):=
 ⟨⟨f,fd,F.mg,F.F.kp,F.b,iK (ca:=ca) (N:=["box","most","many","names","thin","pairs","i","j"]) (k:=2) F.F cz (by decide) λcdv A outer s H G b E hr=>
  (aq (aP (i:=2) (bh fS gk au (c9 0 aG (hr.mono (by decide)) aY rfl rfl (af (ax 1 rfl) ak))) cz.nd)
  (aq (aP (i:=3) (c9 0 bw (hr.mono (by decide)) aY rfl rfl (af (SE.wv (mw rfl rfl B.list rfl B.range (ag 2))) ak)) cz.nd)
  (aq (aP (i:=4) (bo aO b4 (aZ (af au (af au (af au (af au ak))))) (c9 0 aG (hr.mono (by decide)) aY rfl rfl (af au ak)) (λ_ _=>rfl)) cz.nd)
  (aq (i4 (i:=5) (aZ ak) cz.nd)
  (aq (gX PassesOwn.leaving rfl (iM rfl B.range (ag 2)) (b6 (i:=6) cz.nd)
  (aB (gX PassesOwn.leaving rfl (GB rfl B.range (bh fS gk (ag 6) au) (ag 2)) (b6 (i:=7) cz.nd)
  (aB (dF (bp (dY hr.units) eZ (c9 0 aG (hr.mono (by decide)) aY rfl rfl (af (ax 4 rfl) ak)) au (a9 _))
  (aB (lD 5 (λ_=>rfl) (bE (af (bo aO b4 (ag 3) (ag 6) (λ_ _=>rfl)) (af (bo aO b4 (ag 3) (ag 7) (λ_ _=>rfl)) ak)))))
  b8)))))
  (aB (aS (bE (af (ax 2 rfl) (af (aN jo (hr.mono (by decide)) aY rfl rfl (af (ax 5 rfl) ak)) ak))))))))))⟩,λds β h=>iW ds β h⟩
abbrev ic:Stmt:=top 36
def rN:aJ ["order","a","b"] ["order","a","b"] (aw ic):=⟨rfl,rfl,rfl,by decide +kernel,rfl,by decide +kernel,by decide +kernel⟩
def qD {f:Addr}{fd:FuncData}(F:jw K mg "_law_apart" ic ["order","a","b"] f fd)(B:jy mg):df P w K mg base ca "_law_apart" ["order","a","b"] 1 (bq 3 3 (mQ)):=
 ⟨⟨f,fd,F.mg,F.F.kp,F.b,a8 (N:=["order","a","b"]) (k:=0) F.F rN λcdv A outer s H G E hr=>
  (aB (aS (eB (fq (dW hr.units) eZ (ag 1) (ag 2) (a9 _)) (eB (fq (lJ hr.u1) Ax (bE (af (ax 1 rfl) (af (ax 2 rfl) ak))) (bo aO b4 (ag 0) au (λ_ _=>rfl)) (by with_unfolding_all rfl)) (gP (fq (lJ hr.u1) Ax (bE (af (ax 2 rfl) (af (ax 1 rfl) ak))) (bo aO b4 (ag 0) au (λ_ _=>rfl)) (by with_unfolding_all rfl))) (λ_ _=>rfl)) (λ_ _=>rfl))))⟩,λds h=>aR ds h⟩
abbrev hW:Stmt:=top 37
def gy:aJ ["order","found","a"] ["order"] (aw hW):=⟨rfl,rfl,rfl,by decide +kernel,rfl,by decide +kernel,by decide +kernel⟩
def qq {f:Addr}{fd:FuncData}{bu:List D->FR}(F:jw K mg "_law_turns" hW ["order"] f fd)(B:jy mg)(cN:df P w K mg base ca "_law_apart" ["order","a","b"] 1 bu):df P w K mg base ca "_law_turns" ["order"] 2 (bq 3 1 (iu bu)):=
 ⟨⟨f,fd,F.mg,F.F.kp,F.b,a8 (N:=["order","found","a"]) (k:=1) F.F gy λcdv A outer s H G E hr=>
  (aq (aP (i:=1) (SE.wv (aZ ak)) gy.nd)
  (aq (gX PassesOwn.leaving rfl (iM rfl B.range (bo aO b4 (ag 0) au (λ_ _=>rfl))) (b6 (i:=2) gy.nd)
  (aB (aP (i:=1) (SE.wv (bh iq mO (ag 1) (cw (NB:=["b","order","a"]) (own:=1) (ixs:=[0,2]) [0,2] rfl (b7 (by kernel_rfl)) (λ_ _=>rfl) (iM rfl B.range (bo aO b4 (ag 0) au (λ_ _=>rfl))) (λH0 G0 par br bx C ex s3 H3 pn=>(b6 (i:=0) (show (["b","order","a"]:List Str).Nodup by decide +kernel))) (λH0 G0 par br bx C ex s3 H3 pn hB1=>(jk (dR rfl (aN cN (hr.mono (by decide)) nD rfl rfl (af (ax 1 (hB1 1 (by decide))) (af (ax 2 (hB1 2 (by decide))) (af (ax 0 (hB1 0 (by decide))) ak))))))) (λH0 G0 par br bx C ex s3 H3 pn hB1=>(bE (af (ax 2 (hB1 2 (by decide))) (af (ax 0 (hB1 0 (by decide))) ak))))))) gy.nd)))
  (aB (sV 1))))⟩,λds h=>aR ds h⟩
abbrev jg:Stmt:=top 38
def fB:aJ ["many","rows","found","a","b","left"] ["many","rows"] (aw jg):=⟨rfl,rfl,rfl,by decide +kernel,rfl,by decide +kernel,by decide +kernel⟩
def rb {f:Addr}{fd:FuncData}(F:jw K mg "_law_told" jg ["many","rows"] f fd)(B:jy mg):df P w K mg base ca "_law_told" ["many","rows"] 1 (bq 6 2 (gx)):=
 ⟨⟨f,fd,F.mg,F.F.kp,F.b,a8 (N:=["many","rows","found","a","b","left"]) (k:=0) F.F fB λcdv A outer s H G E hr=>
  (aq (i4 (i:=2) (aZ ak) fB.nd)
  (aq (gX PassesOwn.leaving rfl (iM rfl B.range (ag 0)) (b6 (i:=3) fB.nd)
  (aB (gX PassesOwn.leaving rfl (iM rfl B.range (ag 0)) (b6 (i:=4) fB.nd)
  (aq (mP (i:=5) (NB:=["one","a","b"]) (own:=1) (ixs:=[3,4]) [] rfl (b7 (by kernel_rfl)) (λ_ _=>rfl) (mU rfl (ag 1)) (λH0 G0 par br bx C ex s3 H3 pn=>(b6 (i:=0) (show (["one","a","b"]:List Str).Nodup by decide +kernel))) (λH0 G0 par br bx C ex s3 H3 pn hB1=>(jk (bp Ka LV (wI rfl (ag 0) (ag 1)) (wI rfl (ag 0) (ag 2)) (a9 _)))) (λH0 G0 par br bx C ex s3 H3 pn hB1=>au) fB.nd)
  (aB (dF (rQ.t (pX (bp (dW hr.units) eZ (ag 3) (ag 4) (a9 _)) (nv (bp (dY hr.units) eZ (ag 5) (aZ ak) (a9 _))) (λ_ _=>rfl)))
  (aB (lD 2 (λ_=>rfl) (bE (af (ax 3 rfl) (af (ax 4 rfl) ak)))))
  b8))))))
  (aB (aS (iD cU mF rfl B.tuple (by decide +kernel) (ag 2))))))⟩,λds h=>aR ds h⟩
abbrev fD:Stmt:=top 39
def oR:aJ ["order","thing"] ["order","thing"] (aw fD):=⟨rfl,rfl,rfl,by decide +kernel,rfl,by decide +kernel,by decide +kernel⟩
def nO {f:Addr}{fd:FuncData}{dm bB:List D->FR}(F:jw K mg "_law_is_turn" fD ["order","thing"] f fd)(B:jy mg)(kq:df P w K mg base ca "_law_whole" ["thing"] 1 dm)(dC:df P w K mg base ca "_law_turns" ["order"] 2 bB):df P w K mg base ca "_law_is_turn" ["order","thing"] 3 (bq 2 2 (fF dm bB)):=
 ⟨⟨f,fd,F.mg,F.F.kp,F.b,a8 (N:=["order","thing"]) (k:=2) F.F oR λcdv A outer s H G E hr=>
  (aq (dF (rQ.t (lP (gR (dR rfl (iU "tuple" (by decide) rfl rfl B.isinstance rfl B.tuple (by decide +kernel) (ag 1)))) (lP (bp (dW hr.units) eZ (aV cv ja rfl B.len NO (ag 1)) au (a9 _)) (mE (gR (dR rfl (aV (jJ rfl) j7 rfl B.all (by decide +kernel) (cw (NB:=["one"]) (own:=1) (ixs:=[]) [] rfl (b7 (by kernel_rfl)) (λ_ _=>rfl) (mU rfl (ag 1)) (λH0 G0 par br bx C ex s3 H3 pn=>(b6 (i:=0) (show (["one"]:List Str).Nodup by decide +kernel))) (λH0 G0 par br bx C ex s3 H3 pn hB1=>c7) (λH0 G0 par br bx C ex s3 H3 pn hB1=>(aN kq (hr.mono (by decide)) nD rfl rfl (af (ax 0 (hB1 0 (by decide))) ak)))))))) (λ_ _=>rfl)) (λ_ _=>rfl)))
  (aB (aS kz))
  b8)
  (aB (aS (fq (Dg hr.u1) Ax (ag 1) (aN dC (hr.mono (by decide)) aY rfl rfl (af (ax 0 rfl) ak)) (by with_unfolding_all rfl)))))⟩,λds h=>aR ds h⟩
abbrev gq:Stmt:=top 40
def iN:aJ ["order","one","other","a","b","c","d"] ["order","one","other"] (aw gq):=⟨rfl,rfl,rfl,by decide +kernel,rfl,by decide +kernel,by decide +kernel⟩
def o4 {f:Addr}{fd:FuncData}{bu:List D->FR}(F:jw K mg "_law_forces" gq ["order","one","other"] f fd)(B:jy mg)(cN:df P w K mg base ca "_law_apart" ["order","a","b"] 1 bu):df P w K mg base ca "_law_forces" ["order","one","other"] 2 (bq 7 3 (gr bu)):=
 ⟨⟨f,fd,F.mg,F.F.kp,F.b,a8 (N:=["order","one","other","a","b","c","d"]) (k:=1) F.F iN λcdv A outer s H G E hr=>
  (aq (yv (ax 1 rfl) (l9 (i:=3) (j:=4) iN.nd))
  (aq (yv (ax 2 rfl) (l9 (i:=5) (j:=6) iN.nd))
  (aq (dF (rQ.t (pX (bp (dY hr.units) eZ (ag 3) (ag 5) (a9 _)) (nv (bp (dW hr.units) eZ (ag 4) (ag 6) (a9 _))) (λ_ _=>rfl)))
  (aB (aS (qj (aN cN (hr.mono (by decide)) aY rfl rfl (af (ax 0 rfl) (af (ax 4 rfl) (af (ax 6 rfl) ak)))))))
  b8)
  (aB (aS (eB (fq (dY hr.units) eZ (ag 4) (ag 6) (a9 _)) (eB (fq (dW hr.units) eZ (ag 3) (ag 5) (a9 _)) (gP (qj (aN cN (hr.mono (by decide)) aY rfl rfl (af (ax 0 rfl) (af (ax 3 rfl) (af (ax 5 rfl) ak)))))) (λ_ _=>rfl)) (λ_ _=>rfl)))))))⟩,λds h=>aR ds h⟩
abbrev fG:Stmt:=top 41
def oQ:aJ ["thing","order"] ["thing","order"] (aw fG):=⟨rfl,rfl,rfl,by decide +kernel,rfl,by decide +kernel,by decide +kernel⟩
def nX {f:Addr}{fd:FuncData}{cE bt:List D->FR}(F:jw K mg "_law_is_knot" fG ["thing","order"] f fd)(B:jy mg)(iC:df P w K mg base ca "_law_is_turn" ["order","thing"] 3 cE)(cS:df P w K mg base ca "_law_forces" ["order","one","other"] 2 bt):df P w K mg base ca "_law_is_knot" ["thing","order"] 4 (bq 2 2 (cI cE bt)):=
 ⟨⟨f,fd,F.mg,F.F.kp,F.b,a8 (N:=["thing","order"]) (k:=3) F.F oQ λcdv A outer s H G E hr=>
  (aq (dF (rQ.t (lP (gR (dR rfl (iU "list" (by decide) rfl rfl B.isinstance rfl B.list (by decide +kernel) (ag 0)))) (lP (bp (Cq hr.units) FP (ag 0) (aZ ak) (a9 _)) (mE (gR (dR rfl (aV (jJ rfl) j7 rfl B.all (by decide +kernel) (cw (NB:=["one","order"]) (own:=1) (ixs:=[1]) [1] rfl (b7 (by kernel_rfl)) (λ_ _=>rfl) (mU rfl (ag 0)) (λH0 G0 par br bx C ex s3 H3 pn=>(b6 (i:=0) (show (["one","order"]:List Str).Nodup by decide +kernel))) (λH0 G0 par br bx C ex s3 H3 pn hB1=>c7) (λH0 G0 par br bx C ex s3 H3 pn hB1=>(aN iC (hr.mono (by decide)) nD rfl rfl (af (ax 1 (hB1 1 (by decide))) (af (ax 0 (hB1 0 (by decide))) ak))))))))) (λ_ _=>rfl)) (λ_ _=>rfl)))
  (aB (aS kz))
  b8)
  (aq (dF (bp (dW hr.units) eZ (bo aO b4 (ag 0) (wu l7 vX au) (λ_ _=>rfl)) (pz rfl (bo aO b4 (ag 0) au (λ_ _=>rfl))) (a9 _))
  (aB (aS kz))
  b8)
  (aB (aS (aV (jJ rfl) j7 rfl B.all (by decide +kernel) (cw (NB:=["at","order","thing"]) (own:=1) (ixs:=[1,0]) [1] rfl (b7 (by kernel_rfl)) (λ_ _=>rfl) (iM rfl B.range (bh tX zF (aV cv ja rfl B.len NO (ag 0)) au)) (λH0 G0 par br bx C ex s3 H3 pn=>(b6 (i:=0) (show (["at","order","thing"]:List Str).Nodup by decide +kernel))) (λH0 G0 par br bx C ex s3 H3 pn hB2=>c7) (λH0 G0 par br bx C ex s3 H3 pn hB2=>(aN cS (hr.mono (by decide)) nD rfl rfl (af (ax 1 (hB2 1 (by decide))) (af (bo aO b4 (ag 2) (ag 0) (λ_ _=>rfl)) (af (bo aO b4 (ag 2) (bh fS gk (ag 0) au) (λ_ _=>rfl)) ak)))))))))))⟩,λds h=>aR ds h⟩
abbrev hX:Stmt:=top 42
def cA:aJ ["box","many","names","pairs","i","others"] ["box"] (aw hX):=⟨rfl,rfl,rfl,by decide +kernel,rfl,by decide +kernel,by decide +kernel⟩
def qV {f:Addr}{fd:FuncData}{ar aK:List D->Int->FB}(F:jw K mg "_law_crown" hX ["box"] f fd)(B:jy mg)(aG:gW P w K mg base "_law_take" ["box","many"] 1 ar)(bw:gW P w K mg base "_law_mixed_up" ["box","some"] 2 aK):gW P w K mg base "_law_crown" ["box"] 3 (kF 6 0 (il ar aK)):=
 ⟨⟨f,fd,F.mg,F.F.kp,F.b,iK (ca:=λ_=>0) (N:=["box","many","names","pairs","i","others"]) (k:=2) F.F cA (by decide) λcdv A outer s H G b E hr=>
  (aq (aP (i:=1) (bh fS gk au (c9 0 aG (hr.mono (by decide)) aY rfl rfl (af au ak))) cA.nd)
  (aq (aP (i:=2) (c9 0 bw (hr.mono (by decide)) aY rfl rfl (af (SE.wv (mw rfl rfl B.list rfl B.range (bh ju jT au (ag 1)))) ak)) cA.nd)
  (aq (aP (i:=3) (SE.wv (aZ ak)) cA.nd)
  (aq (gX PassesOwn.leaving rfl (iM rfl B.range (ag 1)) (b6 (i:=4) cA.nd)
  (aq (mP (i:=5) (NB:=["j","i","names","many"]) (own:=1) (ixs:=[4,2,1]) [] rfl (b7 (by kernel_rfl)) (λ_ _=>rfl) (iM rfl B.range (ag 1)) (λH0 G0 par br bx C ex s3 H3 pn=>(b6 (i:=0) (show (["j","i","names","many"]:List Str).Nodup by decide +kernel))) (λH0 G0 par br bx C ex s3 H3 pn hB1=>(jk (bp (dW hr.units) eZ (ag 0) (ag 1) (a9 _)))) (λH0 G0 par br bx C ex s3 H3 pn hB1=>(bo aO b4 (ag 2) (bh fS gk (ag 3) (ag 0)) (λ_ _=>rfl))) cA.nd)
  (aB (aP (i:=3) (SE.wv (bh iq mO (ag 3) (cw (NB:=["other","names","i"]) (own:=1) (ixs:=[2,4]) [] rfl (b7 (by kernel_rfl)) (λ_ _=>rfl) (mU rfl (ag 5)) (λH0 G0 par br bx C ex s3 H3 pn=>(b6 (i:=0) (show (["other","names","i"]:List Str).Nodup by decide +kernel))) (λH0 G0 par br bx C ex s3 H3 pn hB2=>c7) (λH0 G0 par br bx C ex s3 H3 pn hB2=>(bE (af (bo aO b4 (ag 1) (ag 2) (λ_ _=>rfl)) (af (ax 0 (hB2 0 (by decide))) ak))))))) cA.nd))))
  (aB (aS (bE (af (bh ju jT au (ag 1)) (af (iD cU mF rfl B.tuple (by decide +kernel) (aV oA yM rfl B.sorted (by decide +kernel) (ag 3))) ak)))))))))⟩,λds β h=>iW ds β h⟩
abbrev dh:Stmt:=top 43
def cY:aJ ["box","most","kind","many","rows"] ["box","most"] (aw dh):=⟨rfl,rfl,rfl,by decide +kernel,rfl,by decide +kernel,by decide +kernel⟩
def mB {f:Addr}{fd:FuncData}{eM:List D->FR}{ar dt aK dg:List D->Int->FB}(F:jw K mg "_law_any_order" dh ["box","most"] f fd)(B:jy mg)(kT:df P w K mg base ca "_law_told" ["many","rows"] 1 eM)(aG:gW P w K mg base "_law_take" ["box","many"] 1 ar)(ko:gW P w K mg base "_law_crown" ["box"] 3 dt)(bw:gW P w K mg base "_law_mixed_up" ["box","some"] 2 aK)(kg:gW P w K mg base "_law_order" ["box","most"] 3 dg):gW P w K mg base "_law_any_order" ["box","most"] 4 (kF 5 1 (dq eM ar dt aK dg)):=
 ⟨⟨f,fd,F.mg,F.F.kp,F.b,iK (ca:=ca) (N:=["box","most","kind","many","rows"]) (k:=3) F.F cY (by decide) λcdv A outer s H G b E hr=>
  (aq (aP (i:=2) (c9 0 aG (hr.mono (by decide)) aY rfl rfl (af au ak)) cY.nd)
  (aq (dF (bp (dY hr.units) eZ (ag 2) au (a9 _))
  (aB (aS (c9 0 ko (hr.mono (by decide)) aY rfl rfl ak)))
  b8)
  (aq (dF (bp (dY hr.units) eZ (ag 2) au (a9 _))
  (aq (aP (i:=3) (bh fS gk au (c9 0 aG (hr.mono (by decide)) aY rfl rfl (af (ax 1 rfl) ak))) cY.nd)
  (aq (mP (i:=4) (NB:=["side","box","many"]) (own:=1) (ixs:=[0,3]) [] rfl (b7 (by kernel_rfl)) (λ_ _=>rfl) (iM rfl B.range au) (λH0 G0 par br bx C ex s3 H3 pn=>(b6 (i:=0) (show (["side","box","many"]:List Str).Nodup by decide +kernel))) (λH0 G0 par br bx C ex s3 H3 pn hB1=>c7) (λH0 G0 par br bx C ex s3 H3 pn hB1=>(iD cU mF rfl B.tuple (by decide +kernel) (c9 1 bw (hr.mono (by decide)) nD rfl rfl (af (SE.wv (mw rfl rfl B.list rfl B.range (ag 2))) ak)))) cY.nd)
  (aB (aS (bE (af (ax 3 rfl) (af (aN kT (hr.mono (by decide)) aY rfl rfl (af (ax 3 rfl) (af (ax 4 rfl) ak))) ak)))))))
  b8)
  (aB (aS (c9 0 kg (hr.mono (by decide)) aY rfl rfl (af (ax 1 rfl) ak)))))))⟩,λds β h=>iW ds β h⟩
abbrev jm:Stmt:=top 44
def bz:aJ ["box","order","every","start","came","row","at","other","last","found"] ["box","order"] (aw jm):=⟨rfl,rfl,rfl,by decide +kernel,rfl,by decide +kernel,by decide +kernel⟩
def q8 {f:Addr}{fd:FuncData}{bB bt:List D->FR}{ar:List D->Int->FB}(F:jw K mg "_law_gone" jm ["box","order"] f fd)(B:jy mg)(dC:df P w K mg base ca "_law_turns" ["order"] 2 bB)(cS:df P w K mg base ca "_law_forces" ["order","one","other"] 2 bt)(aG:gW P w K mg base "_law_take" ["box","many"] 1 ar)(hn:nC K=true):gW P w K mg base "_law_gone" ["box","order"] 3 (kF 10 1 (gH bB bt ar)):=
 ⟨⟨f,fd,F.mg,F.F.kp,F.b,iK (ca:=ca) (N:=["box","order","every","start","came","row","at","other","last","found"]) (k:=2) F.F bz (by decide) λcdv A outer s H G b E hr=>
  (aq (aP (i:=2) (aN dC (hr.mono (by decide)) aY rfl rfl (af (ax 1 rfl) ak)) bz.nd)
  (aq (dF (bp (dY hr.units) eZ (ag 2) (aZ ak) (a9 _))
  (aB (kf (aZ ak)))
  b8)
  (aq (aP (i:=3) (bo aO b4 (ag 2) (c9 0 aG (hr.mono (by decide)) aY rfl rfl (af (aV cv ja rfl B.len NO (ag 2)) ak)) (λ_ _=>rfl)) bz.nd)
  (aq (i4 (i:=4) (E2 3 rfl hr.u2 hn) bz.nd)
  (aq (i4 (i:=5) (aZ (af (ax 3 rfl) ak)) bz.nd)
  (aq (aP (i:=6) au bz.nd)
  (aq (m9 1000 PassesOwn.leaving (bp yO Gf (ag 6) (aV cv ja rfl B.len NO (ag 5)) (a9 _))
  (aq (gX PassesOwn.leaving rfl (Hr rfl (ax 2 rfl)) (b6 (i:=7) bz.nd)
  (aB (dF (rQ.t (pX (bp (nI hr.u1) (vO hn) (ag 7) (ag 4) (by with_unfolding_all rfl)) (nv (dR rfl (aN cS (hr.mono (by decide)) aY rfl rfl (af (ax 1 rfl) (af (bo aO b4 (ag 5) (ag 6) (λ_ _=>rfl)) (af (ax 7 rfl) ak)))))) (λ_ _=>rfl)))
  (aq (FF 4 hr.u2 hn (λ_=>rfl) (bo aO b4 (ag 5) (ag 6) (λ_ _=>rfl)) (ag 7))
  (aB (lD 5 (λ_=>rfl) (ax 7 rfl))))
  b8)))
  (aB (aP (i:=6) (bh fS gk (ag 6) au) bz.nd))))
  (aq (aP (i:=8) (bo aO b4 (ag 5) (wu l7 vX au) (λ_ _=>rfl)) bz.nd)
  (aq (dF (bp (Ck hr.u1) (vO hn) (pz rfl (ag 3)) (ag 4) (by with_unfolding_all rfl))
  (aB (aP (i:=8) (pz rfl (ag 3)) bz.nd))
  b8)
  (aq (i4 (i:=9) (aZ (af (ax 8 rfl) ak)) bz.nd)
  (aq (m9 1000 PassesOwn.leaving (Gm (zi hr.u2 hn (ag 4) (bo aO b4 (ag 9) au (λ_ _=>rfl)) (λ_ _=>rfl)))
  (aB (Fs 9 (λ_=>rfl) (zi hr.u2 hn (ag 4) (bo aO b4 (ag 9) au (λ_ _=>rfl)) (λ_ _=>rfl)))))
  (aB (sV 9)))))))))))))⟩,λds β h=>iW ds β h⟩
abbrev i7:Stmt:=top 45
def dr:aJ ["box","some","many","odd","at","a","b","pair","news","kind"] ["box","some","many","odd"] (aw i7):=⟨rfl,rfl,rfl,by decide +kernel,rfl,by decide +kernel,by decide +kernel⟩
def rO {f:Addr}{fd:FuncData}{ar:List D->Int->FB}(F:jw K mg "_law_bent" i7 ["box","some","many","odd"] f fd)(B:jy mg)(aG:gW P w K mg base "_law_take" ["box","many"] 1 ar):gW P w K mg base "_law_bent" ["box","some","many","odd"] 2 (kF 10 3 (jb ar)):=
 ⟨⟨f,fd,F.mg,F.F.kp,F.b,iK (ca:=λ_=>0) (N:=["box","some","many","odd","at","a","b","pair","news","kind"]) (k:=1) F.F dr (by decide) λcdv A outer s H G b E hr=>
  (aq (dF (bp (dY hr.units) eZ (ag 1) (aZ ak) (a9 _))
  (aB (aS (bo aO b4 (aZ (af (SE.wv (aZ (af (bE (af au (af au ak))) ak))) (af (SE.wv (aZ (af (bE (af au (af (bh tX zF (ag 2) au) ak))) ak))) (af (bE ak) (af (SE.wv (aZ (af (ax 3 rfl) ak))) (af (SE.wv (aZ (af (SE.wv (aZ ak)) ak))) ak)))))) (c9 0 aG (hr.mono (by decide)) aY rfl rfl (af au ak)) (λ_ _=>rfl))))
  b8)
  (aq (aP (i:=4) (c9 0 aG (hr.mono (by decide)) aY rfl rfl (af (aV cv ja rfl B.len NO (ag 1)) ak)) dr.nd)
  (aq (yv (bo aO b4 (ag 1) (ag 4) (λ_ _=>rfl)) (l9 (i:=5) (j:=6) dr.nd))
  (aq (aP (i:=7) (bE (af (c9 0 aG (hr.mono (by decide)) aY rfl rfl (af (ax 2 rfl) ak)) (af (c9 0 aG (hr.mono (by decide)) aY rfl rfl (af (ax 2 rfl) ak)) ak))) dr.nd)
  (aq (aP (i:=8) (SE.wv (aZ (af (SE.wv (aZ ak)) (af (SE.wv (@De _ _ _ _ (ae (aW (ae (gv 5) (ae (gv 6) ah))) (ae (aW (ae (gv 5) (ae (gv 6) ah))) ah)) (([5] ++ ([6] ++ [])) ++ (([5] ++ ([6] ++ [])) ++ [])) _ [("a",5),("b",6)] (by kernel_rfl) (λ_=>rfl) (by kernel_rfl))) (af (SE.wv (aZ (af (bE (af (ax 6 rfl) (af (ax 5 rfl) ak))) ak))) (af (SE.wv (aZ (af (ax 7 rfl) ak))) (af (SE.wv (aZ (af (SE.wv (aZ (af (ax 5 rfl) (af (ax 6 rfl) ak)))) ak))) (af (SE.wv (aZ (af (bE (af (ax 5 rfl) (af (fq (dY hr.units) eZ (ag 6) au (a9 _)) ak))) ak))) (af (SE.wv (aZ (af (ax 3 rfl) ak))) (af (SE.wv (aZ (af (bE (af (ax 5 rfl) (af (ax 6 rfl) ak))) (af (ax 7 rfl) ak)))) ak)))))))))) dr.nd)
  (aq (aP (i:=9) (c9 0 aG (hr.mono (by decide)) aY rfl rfl (af au ak)) dr.nd)
  (aq (dF (bp yO Gf (ag 9) au (a9 _))
  (aB (kf (bh iq mO (bh iq mO (kM rfl (ag 1) ny (nj (ag 4))) (bo aO b4 (ag 8) (ag 9) (λ_ _=>rfl))) (kM rfl (ag 1) (nj (bh fS gk (ag 4) au)) ny))))
  b8)
  (aB (aS (bo aO b4 (aZ (af (SE.wv (CJ rfl (ag 1))) (af (SE.wv (kM rfl (ag 1) ny (nj (ag 4)))) (af (iD cU mF rfl B.tuple (by decide +kernel) (ag 1)) ak)))) (bh tX zF (ag 9) au) (λ_ _=>rfl)))))))))))⟩,λds β h=>iW ds β h⟩
abbrev lR:Stmt:=top 46
def jq:aJ ["script","k","box","order","odd","some","things","turn","thing","kept"] ["script"] (aw lR):=⟨rfl,rfl,rfl,by decide +kernel,rfl,by decide +kernel,by decide +kernel⟩
def Fp {f:Addr}{fd:FuncData}{fW dD iy cG:List D->FR}{bW fX eT eO:List D->Int->FB}(F:jw K mg "law" lR ["script"] f fd)(B:jy mg)(my:df P w K mg base ca "_law_box" ["script","k"] 2 fW)(jZ:df P w K mg base ca "_law_truth" ["found","due"] 1 dD)(nM:df P w K mg base ca "is_knot" ["thing","order"] 8 iy)(iI:df P w K mg base ca "_law_is_knot" ["thing","order"] 4 cG)(gc:gW P w K mg base "_law_any_order" ["box","most"] 4 bW)(l8:gW P w K mg base "_law_odd" ["box"] 2 fX)(kO:gW P w K mg base "_law_gone" ["box","order"] 3 eT)(k7:gW P w K mg base "_law_bent" ["box","some","many","odd"] 2 eO):gB P w K mg base (oS P w) 9 f fd ["script"] (Ei K ca 1 (bq 10 1 (yS fW dD iy cG bW fX eT eO))):=
 a8 (N:=["script","k","box","order","odd","some","things","turn","thing","kept"]) (k:=8) F.F jq λcdv A outer s H G E hr=>
  (aq (gX PassesOwn.leaving rfl (iM rfl B.range (vB (AQ rfl) Ja rfl B.max (by decide +kernel) au (vB (AS rfl) Iz rfl B.min (by decide +kernel) (aV cv ja rfl B.len NO (ag 0)) au))) (b6 (i:=1) jq.nd)
  (aq (FZ (i:=2) rfl (BP my (hr.mono (by decide)) aY rfl rfl (af (ax 0 rfl) (af (ax 1 rfl) ak))) jq.nd)
  (aq (aP (i:=3) (c9 2 gc (hr.mono (by decide)) aY rfl rfl (af au ak)) jq.nd)
  (aq (aP (i:=4) (c9 2 l8 (hr.mono (by decide)) aY rfl rfl ak) jq.nd)
  (aq (aP (i:=5) (c9 2 kO (hr.mono (by decide)) aY rfl rfl (af (ax 3 rfl) ak)) jq.nd)
  (aq (i4 (i:=6) (aZ (af (ax 5 rfl) (af (ax 4 rfl) (af (SE.wv (aZ ak)) (af (SE.wv (bh iq mO (kM rfl (ag 5) ny (nj au)) (cw (NB:=["turn"]) (own:=1) (ixs:=[]) [] rfl (b7 (by kernel_rfl)) (λ_ _=>rfl) (mU rfl (kM rfl (ag 5) ny (nj au))) (λH0 G0 par br bx C ex s3 H3 pn=>(b6 (i:=0) (show (["turn"]:List Str).Nodup by decide +kernel))) (λH0 G0 par br bx C ex s3 H3 pn hB1=>c7) (λH0 G0 par br bx C ex s3 H3 pn hB1=>(pz rfl (ag 0)))))) ak))))) jq.nd)
  (aq (gX PassesOwn.leaving rfl (iM rfl B.range au) (b6 (i:=7) jq.nd)
  (aB (lD 6 (λ_=>rfl) (c9 2 k7 (hr.mono (by decide)) aY rfl rfl (af (ax 5 rfl) (af (bo aO b4 (ag 3) au (λ_ _=>rfl)) (af (ax 4 rfl) ak)))))))
  (aB (gX PassesOwn.leaving rfl (Hr rfl (ax 6 rfl)) (b6 (i:=8) jq.nd)
  (aq (aP (i:=9) (aV (p7 hr.gd hr.u1) yY rfl B.repr (by decide +kernel) (ag 8)) jq.nd)
  (aB (dF (rQ.t (lP (gR (dR rfl (aN jZ (hr.mono (by decide)) aY rfl rfl (af (aN nM (hr.mono (by decide)) aY rfl rfl (af (ax 8 rfl) (af (ax 3 rfl) ak))) (af (aN iI (hr.mono (by decide)) aY rfl rfl (af (ax 8 rfl) (af (ax 3 rfl) ak))) ak))))) (mE (bp JP Ky (aV (p7 hr.gd hr.u1) yY rfl B.repr (by decide +kernel) (ag 8)) (ag 9) (a9 _))) (λ_ _=>rfl)))
  (aB (aS kz))
  b8))))))))))))
  (aB (aS kz)))
end
end RQ
end
namespace RM
open PySem L2
theorem uR {t u:VF Bool}{vs:List Nv}{β:Int}{a b:Bool}(h:t vs β=.ok a β)(h':u vs β=.ok b β):A3 t u vs β=.ok (a && b) β:=by
 rw[IF,h];dsimp only[R.bnd]
 cases a with
 |true=>rw[MJ rfl,h'];rfl
 |false=>rfl
def cV {t:VF Bool}{vs:List Nv}{β:Int}{a:Bool}(h:t vs β=.ok a β):uZ t vs β=.ok (!a) β:=by rw[tZ,h];rfl
def IY (n:Nat):(iY n).Pairwise (· < ·):=by
 unfold iY
 rw[NC]
 exact List.pairwise_lt_range.imp λ{a b} h=>by omega
def upTo (n:Nat)(f:Pr->Bool)(i k:Nat):List Pr:=(OM.cq n).filter λp=>(decide (p.1 < i) || (decide (p.1=i) && decide (p.2 < k))) && f p
def CZ {n:Nat}(f:Pr->Bool)(i k:Nat)(h8:n<=8):(upTo n f i k).length<=64:=by
 have h1:(upTo n f i k).length<=(OM.cq n).length:=NR _ _
 rw[fI] at h1
 have:n * n<=64:=N4 h8 h8
 omega
def z8 (n:Nat)(f:Pr->Bool):upTo n f 0 0= []:=by
 unfold upTo
 rw[List.filter_eq_nil_iff]
 intro p hp
 have:=OM.bC.mp hp
 rw[MW (by omega),MW (p:=p.2 < ((0:Nat):Int)) (by omega)];simp
def D0 (n:Nat)(f:Pr->Bool):upTo n f n 0=(OM.cq n).filter f:=by
 unfold upTo
 refine Pl λp hp=>?_
 have:=(OM.bC.mp hp).1.2
 rw[MR this];simp
def C0 (n:Nat)(f:Pr->Bool)(i:Nat):upTo n f i n=upTo n f (i + 1) 0:=by
 unfold upTo
 refine Pl λp hp=>?_
 have h:=OM.bC.mp hp
 congr 1
 rw[ND]
 simp only[Pb,MS,M4]
 omega
def sv {n i k:Nat}(f:Pr->Bool)(hi:i < n)(hk:k < n):upTo n f i (k + 1)=upTo n f i k ++ if f ((i:Int),(k:Int))=true then [((i:Int),(k:Int))] else []:=by
 refine OM.fC (OM.de _ (OM.gF n)) ?_ λx=>?_
 ·show List.Pairwise OM.Ej _
  rw[List.pairwise_append]
  refine⟨OM.de _ (OM.gF n),?_,λp hp q hq=>?_⟩
  ·split <;> simp
  ·unfold upTo at hp
   have h1:=(M8.mp hp).2
   simp only[Pb,MS,M4] at h1
   split at hq
   ·have:q=((i:Int),(k:Int)):=by simpa using hq
    subst this
    show p.1 < (i:Int)\/(p.1=(i:Int)/\p.2 < (k:Int))
    exact h1.1
   ·cases hq
 ·rw[M6]
  unfold upTo
  rw[M8,M8,OM.bC]
  simp only[Pb,MS,M4]
  constructor
  ·rintro⟨h1,h2,h3⟩
   by_cases z:x.1=i/\x.2=k
   ·obtain⟨xa,xb⟩:=x
    simp only at z h3
    obtain⟨rfl,rfl⟩:=z
    rw[MJ h3]
    exact .inr (Nc.mpr rfl)
   ·exact .inl ⟨h1,by omega,h3⟩
  ·rintro (⟨h1,h2,h3⟩ |h)
   ·exact⟨h1,by omega,h3⟩
   ·split at h
    ·rename_i hf
     have:x=((i:Int),(k:Int)):=by simpa using h
     subst this
     exact⟨⟨⟨by show (0:Int)<=(i:Int);omega,by show (i:Int) < n;omega⟩,by show (0:Int)<=(k:Int);omega,by show (k:Int) < n;omega⟩,.inr ⟨rfl,by show (k:Int) < ((k + 1:Nat):Int);omega⟩,hf⟩
    ·cases h
def tupI (r:List Int):D:=.tuple (r.map int)
def zr {fa fb:VF D}{vs:List Nv}{β:Int}{r:List Int}{k:Int}(h:fa vs β=.ok (tupI r) β)(h':fb vs β=.ok (.int k) β)(hk:k∈r):oh fa fb vs β=.ok (.int (r.idxOf k:Nat)) β:=by
 unfold oh
 rw[h]
 dsimp only[R.bnd]
 rw[MJ (by rfl),h']
 dsimp only[R.bnd,EE,tupI]
 rw[lK]
 dsimp only
 rw[MJ hk];rfl
def EM {r:List Int}{a b:Int}(ha:a∈r)(hb:b∈r)(h:r.idxOf a=r.idxOf b):a=b:=by
 have h1:=List.getElem_idxOf (OP.mpr ha)
 have h2:=List.getElem_idxOf (OP.mpr hb)
 rw[<-h1,<-h2]
 congr 1
def AB {N:Nat}{l:List Pr}(h1:1<=N)(h8:N<=8)(w:OM.Wn N l)(nd:l.Nodup)(irr:∀a,(a,a)∉l):iH (.list (l.map ao))=some (.list ((OM.bR 8 (OM.Mem l)).map ao)):=by
 simp only[iH,dU]
 rw[MJ ⟨yy h8 w,nd,z6 h1 h8 w nd irr⟩]
def CI:D->Bool
 | .tuple _=>true
 |_=>false
theorem zm {d:D}(h:CI d=true):∃ds,d=.tuple ds:=by
 cases d with
 |tuple ds=>exact⟨ds,rfl⟩
 |_=>cases h
def BA {d:D}(h:cP d=false):gO "tuple" d=some (.bool (CI d)):=by
 unfold gO;rw[h];cases d <;> rfl
section
variable {fa fb:VF D}{vs:List Nv}{β:Int}
def GK {d:D}(ha:fa vs β=.ok d β)(h:cP d=false):mZ (f1 fa (gO "tuple")) vs β=.ok (CI d) β:=iL (bX ha (BA h))
def pD {l:List D}{f:D->Bool}(h:fa vs β=.ok (.list (l.map λq=>PyData.bool (f q))) β):f1 fa (dc λbs=>bs.all id) vs β=.ok (.bool (l.all f)) β:=by
 refine bX h ?_
 simp only[dc]
 rw[jz]
 simp[List.all_map]
def Jp {ds:List D}(ha:fa vs β=.ok (.tuple ds) β):f1 fa dB vs β=.ok (.int ds.length) β:=bX ha rfl
def BZ {ds:List D}{k:Int}(ha:fa vs β=.ok (.tuple ds) β):cJ (f2 (f1 fa dB) (cst (.int k)) (cO true)) vs β=.ok (!decide ((ds.length:Int)=k)) β:=du (neg:=true) (Jp ha) rfl
def qy {t u:VF Bool}(h:t vs β=.ok true β):mf t u vs β=.ok true β:=by rw[tL,h];rfl
def fP {t u:VF Bool}{c:Bool}(h:t vs β=.ok false β)(h':u vs β=.ok c β):mf t u vs β=.ok c β:=by rw[tL,h];exact h'
def GR (h:fa vs β=.ok (.bool false) β):dA fa fb vs β=.ok (.bool false) β:=by unfold dA;rw[h];rfl
def GG {d:D}(h:fa vs β=.ok (.bool true) β)(h':fb vs β=.ok d β):dA fa fb vs β=.ok d β:=by unfold dA;rw[h];exact h'
end
def Sq (c k:Nat)(d:D):Prop:=d.showable=true/\d.depth<=k/\d.shown.length<=c
def Sq.mono {c k c' k':Nat}{d:D}(h:Sq c k d)(h1:c<=c')(h2:k<=k'):Sq c' k' d:=⟨h.1,NA h.2.1 h2,NA h.2.2 h1⟩
theorem yo {c k:Nat}:∀{ds:List D},(∀d,d∈ds->Sq c k d)->PyData.showableAll ds=true/\PyData.depthAll ds<=k/\(∀t,t∈PyData.shownAll ds->t.length<=c)/\(PyData.shownAll ds).length=ds.length
 | [],_=>⟨by simp[PyData.showableAll],by simp[PyData.depthAll],λt h=>by simp[PyData.shownAll] at h,by simp[PyData.shownAll]⟩
 |d :: ds,h=>by
  obtain⟨h1,h2,h3,h4⟩:=yo λx hx=>h x (MM _ hx)
  obtain⟨q1,q2,q3⟩:=h d (MP ..)
  refine⟨?_,?_,λt ht=>?_,?_⟩
  ·rw[PyData.showableAll,q1,h1];rfl
  ·rw[PyData.depthAll];omega
  ·rw[PyData.shownAll] at ht
   rcases MN.mp ht with rfl |ht
   ·exact q3
   ·exact h3 t ht
  ·rw[PyData.shownAll,Na,Na,h4]
theorem wo {c:Nat}:∀{ts:List Str},(∀t,t∈ts->t.length<=c)->(Str.join ", " ts).length<=(c + 2) * ts.length
 | [],_=>by show (Str.join ", " []).length<=_;exact Nm _
 | [x],h=>by
  have:=h x (MP ..)
  show x.length<=(c + 2) * 1
  omega
 |x :: y :: r,h=>by
  have ih:=wo (ts:=y :: r) λt ht=>h t (MM _ ht)
  have:=h x (MP ..)
  show (x ++ ", " ++ Str.join ", " (y :: r)).length<=_
  rw[OX,OX]
  have e2:((", ":String):Str).length=2:=rfl
  rw[e2]
  have e:(c + 2) * (x :: y :: r).length=(c + 2) * (y :: r).length + (c + 2):=by rw[Na,Nat.mul_succ]
  omega
def B7 {c k:Nat}{ds:List D}(h:∀d,d∈ds->Sq c k d):Sq (3 + (c + 2) * ds.length) (k + 1) (.tuple ds):=by
 obtain⟨h1,h2,h3,h4⟩:=yo h
 refine⟨by rw[PyData.showable];exact h1,by rw[PyData.depth];omega,?_⟩
 rw[PyData.shown]
 unfold tupleText
 rw[OX,OX]
 have j:=wo h3
 rw[h4] at j
 have e1:((("(":String):Str)).length=1:=rfl
 have e3:((if (PyData.shownAll ds).length == 1 then ",)" else ")":String):Str).length<=2:=by split <;> exact by decide
 rw[e1]
 omega
def CK {c k:Nat}{ds:List D}(h:∀d,d∈ds->Sq c k d):Sq (2 + (c + 2) * ds.length) (k + 1) (.list ds):=by
 obtain⟨h1,h2,h3,h4⟩:=yo h
 refine⟨by rw[PyData.showable];exact h1,by rw[PyData.depth];omega,?_⟩
 rw[PyData.shown]
 unfold listText
 rw[OX]
 have:=Eb (c:=c + 2) (PyData.shownAll ds) 0 "[" λt ht=>by have:=h3 t ht;omega
 rw[h4] at this
 have e1:((("[":String):Str)).length=1:=rfl
 have e2:((("]":String):Str)).length=1:=rfl
 rw[e1] at this
 rw[e2];omega
def Bf (d:D):Prop:=zM d=true
theorem yi:∀{ds:List D},(∀d,d∈ds->Bf d)->xm ds=true
 | [],_=>rfl
 |d :: ds,h=>by
  have h1:=yi λx hx=>h x (MM _ hx)
  have q1:zM d=true:=h d (MP ..)
  rw[xm,q1,h1];rfl
def DV {ds:List D}(h:∀d,d∈ds->Bf d):Bf (.tuple ds):=by show zM (.tuple ds)=true;rw[zM];exact yi h
def DB {ds:List D}(h:∀d,d∈ds->Bf d):Bf (.list ds):=by show zM (.list ds)=true;rw[zM];exact yi h
def BQ {c k:Nat}{d:D}(h:Sq c k d)(hc:c<=100000)(hk:k<=64)(hf:Bf d):AM d=true:=by
 unfold AM
 have h1:d.depth<=64:=NA h.2.1 hk
 have h2:d.shown.length<=sizeLine:=NA (NA h.2.2 hc) (by rw[Ni];omega)
 rw[h.1,MR h1,MR h2]
 have b:zM d=true:=hf
 rw[b,Bool.or_true];rfl
def K8:List Int:=[-1,0,1,2,3,4,5,6,7,8,9]
def Cr:∀i∈K8,(int i).showable=true/\(int i).shown.length<=20:=by decide +kernel
def yP {i:Int}(h: -1<=i/\i<=9):i∈K8:=by
 simp only[K8,MN,Od,or_false]
 omega
def Em (d:D):Prop:=d=.none\/(∃b,d=.bool b)\/∃i:Int,d=.int i/\ -1<=i/\i<=9
def Em.sq {d:D}(h:Em d):Sq 20 0 d:=by
 rcases h with rfl | ⟨b,rfl⟩ | ⟨i,rfl,h⟩
 ·exact⟨by simp[PyData.showable],by simp[PyData.depth],by rw[PyData.shown];decide⟩
 ·exact⟨by simp[PyData.showable],by simp[PyData.depth],by rw[PyData.shown];cases b <;> decide⟩
 ·exact⟨(Cr i (yP h)).1,by simp[PyData.depth],(Cr i (yP h)).2⟩
def Em.bf {d:D}(h:Em d):Bf d:=by
 rcases h with rfl | ⟨b,rfl⟩ | ⟨i,rfl,h⟩ <;> exact by simp[Bf,zM]
def Em.scr {d:D}(h:Em d):cP d=false:=by
 rcases h with rfl | ⟨b,rfl⟩ | ⟨i,rfl,h⟩ <;> rfl
section
variable {vs:List Nv}{β β1 β2:Int}{fa:VF D}{fr:VF (List D)}{d:D}{ds:List D}
def ac {fa:VF D}{fr:VF (List D)}(h:fa vs β=.ok d β)(h':fr vs β=.ok ds β):ae fa fr vs β=.ok (d :: ds) β:=by rw[bD,h];dsimp only[R.bnd];rw[h']
def an:ah vs β=.ok [] β:=rfl
def tp (h:fr vs β=.ok ds β)(hz:ds.length<=1000:=by simp):aW fr vs β=.ok (.tuple ds) β:=jd h hz
def lp (h:fr vs β=.ok ds β)(hz:ds.length<=1000:=by simp):ba fr vs β=.ok (.list ds) β:=dO h hz
def ck (d:D):cst d vs β=.ok d β:=rfl
end
def JA {vs:List Nv}{β:Int}:f2 (cst (.int 10)) (cst (.int 39)) BV vs β=.ok (.int 1000000000000000000000000000000000000000) β:=aA (x:=.int 10) (y:=.int 39) rfl rfl (by rfl)
def ij {P:D->Prop}{x y:D}(hx:P x)(hy:P y):∀d,d∈ [x,y]->P d:=λd hd=>by
 rcases MN.mp hd with rfl |hd
 ·exact hx
 ·rw[Nc] at hd;subst hd;exact hy
def lB {i:Int}(h: -1<=i/\i<=9):Em (.int i):=.inr (.inr ⟨i,rfl,h⟩)
def CS {d:D}(h:cP d=false):gO "list" d=some (.bool (match d with | .list _=>true |_=>false)):=by
 unfold gO;rw[h];cases d <;> rfl
def Gj:D->Bool
 | .list _=>true
 |_=>false
theorem zk {d:D}(h:Gj d=true):∃ds,d=.list ds:=by
 cases d with
 |list ds=>exact⟨ds,rfl⟩
 |_=>cases h
def D8 {fa:VF D}{vs:List Nv}{β:Int}{d:D}(ha:fa vs β=.ok d β)(h:cP d=false):f1 fa (gO "list") vs β=.ok (.bool (Gj d)) β:=bX ha (by rw[CS h];cases d <;> rfl)
def nY {fa:VF D}{vs:List Nv}{β:Int}{ds:List D}(ha:fa vs β=.ok (.list ds) β):f1 fa dB vs β=.ok (.int ds.length) β:=bX ha rfl
def fN (n:Nat)(l:List Pr)(i:Nat):List Pr:=(OM.cq n).filter λp=>decide (p.1 < i) && ox l p
def As (n:Nat)(l:List Pr):fN n l n=c5 n l:=by
 unfold fN c5
 refine Pl λp hp=>?_
 have:=(OM.bC.mp hp).1.2
 rw[MR this,Bool.true_and]
def Ce {n i:Nat}(l:List Pr)(hi:i < n):fN n l (i + 1)=fN n l i ++ ((iY n).filter λb=>ox l ((i:Int),b)).map λb=>((i:Int),b):=by
 refine OM.fC (OM.de _ (OM.gF n)) ?_ λx=>?_
 ·show List.Pairwise OM.Ej _
  rw[List.pairwise_append]
  refine⟨OM.de _ (OM.gF n),?_,λp hp q hq=>?_⟩
  ·rw[NC]
   exact ((IY n).filter _).imp λ{a b} h=>.inr ⟨rfl,h⟩
  ·unfold fN at hp
   have h1:=(M8.mp hp).2
   rw[MS,M4] at h1
   obtain⟨b,_,rfl⟩:=MQ.mp hq
   exact .inl h1.1
 ·rw[M6]
  unfold fN
  rw[M8,M8,MQ,OM.bC]
  simp only[MS,M4]
  constructor
  ·rintro⟨h1,h2,h3⟩
   by_cases z:x.1 < i
   ·exact .inl ⟨h1,z,h3⟩
   ·have e:x.1=i:=by omega
    obtain⟨xa,xb⟩:=x
    simp only at e h1 h3
    subst e
    exact .inr ⟨xb,M8.mpr ⟨fy.mpr h1.2,h3⟩,rfl⟩
  ·rintro (⟨h1,h2,h3⟩ | ⟨b,hb,rfl⟩)
   ·exact⟨h1,by omega,h3⟩
   ·obtain⟨hb1,hb2⟩:=M8.mp hb
    have:=fy.mp hb1
    exact⟨⟨⟨by omega,by omega⟩,this⟩,by omega,hb2⟩
def A6 {n:Nat}(l:List Pr)(i:Nat)(h8:n<=8):(fN n l i).length<=64:=by
 have h1:(fN n l i).length<=(OM.cq n).length:=NR _ _
 rw[fI] at h1
 have:n * n<=64:=N4 h8 h8
 omega
def jP:List D->FR:=bq 3 1 (iu ug)
def wW {n:Nat}{l:List Pr}(O:OM.Ord n l):jP [aC n l]=.ok (.list ((c5 n l).map ao)) false:=by
 have h8:=O.hi
 show fin (iu ug [.fz (aC n l),.no,.no] 0)=_
 unfold iu
 rw[aE (env':=[.fz (aC n l),.fz (.list []),.no]) (β':=0) ?g1]
 case g1=>rw[c6,dO (ds:=[]) rfl (by simp)];rfl
 have er:∀(s t:Sl),bJ (f2 (gv 0) (cst (.int 0)) bN) [.da (aC n l),s.val,t.val] 0=.ok (cB 0 n) 0:=λs t=>cQ (n:=n) (K4 (n:=n) (l:=l) rfl) (by omega)
 obtain⟨env',β',ef,s,rfl,rfl⟩:=dJ (t:=.nm 2) (m:=bc 1 ([] ++ (([] ++ []) ++ [0,2])) (f2 (gv 1) (aM 1 [0,2] (.nm 0) (bJ (f2 (gv 0) (cst (.int 0)) bN)) (mZ (aF ug (ae (gv 1) (ae (gv 2) (ae (gv 0) ah))))) (aW (ae (gv 2) (ae (gv 0) ah)))) eY)) (ds:=cB 0 n) (k:=0)
  (λi env β=>∃s:Sl,env= [.fz (aC n l),.fz (.list ((fN n l i).map ao)),s]/\β=0)
  (env:=[.fz (aC n l),.fz (.list []),.no]) (β:=0) ⟨.no,by
   have:fN n l 0= []:=by
    unfold fN
    rw[List.filter_eq_nil_iff]
    intro p hp
    have:=(OM.bC.mp hp).1.1
    rw[MW (by omega)];simp
   rw[this];rfl,rfl⟩ (by
   rintro i d env β hi ⟨s,rfl,rfl⟩
   obtain⟨hin,rfl⟩:=gE hi
   refine⟨[.fz (aC n l),.fz (.list ((fN n l (0 + i)).map ao)),.fz (.int (0 + (i:Int)))],rfl,?_⟩
   rw[NK,N2]
   have ec:aM 1 [0,2] (.nm 0) (bJ (f2 (gv 0) (cst (.int 0)) bN)) (mZ (aF ug (ae (gv 1) (ae (gv 2) (ae (gv 0) ah))))) (aW (ae (gv 2) (ae (gv 0) ah))) [.da (aC n l),.da (.list ((fN n l i).map ao)),.da (.int i)] 0=.ok (.list (((iY n).filter λb=>ox l ((i:Int),b)).map λb=>ao ((i:Int),b))) 0:=by
    refine dS (l:=iY n) (e:=int) (λb=>ox l ((i:Int),b)) (λb=>ao ((i:Int),b)) ?_ (by rw[gz];omega) λb hb=>⟨_,rfl,iL (aI (ds:=[aC n l,.int i,.int b]) rfl (CL n l i b)),λ_=>dI rfl rfl⟩
    rw[<-nN]
    exact er (.fz _) (.fz _)
   have ew:f2 (gv 1) (aM 1 [0,2] (.nm 0) (bJ (f2 (gv 0) (cst (.int 0)) bN)) (mZ (aF ug (ae (gv 1) (ae (gv 2) (ae (gv 0) ah))))) (aW (ae (gv 2) (ae (gv 0) ah)))) eY [.da (aC n l),.da (.list ((fN n l i).map ao)),.da (.int i)] 0=.ok (.list ((fN n l (i + 1)).map ao)) 0:=by
    refine aA (x:=.list ((fN n l i).map ao)) rfl ec ?_
    rw[i8]
    ·rw[Ce l hin,Nz,NQ];rfl
    ·rw[ML,ML]
     have h1:=A6 l i h8
     have h2:((iY n).filter λb=>ox l ((i:Int),b)).length<=(iY n).length:=NR _ _
     rw[gz] at h2
     omega
   refine⟨[.fz (aC n l),.fz (.list ((fN n l (i + 1)).map ao)),.fz (.int i)],0,?_,_,rfl,rfl⟩
   rw[c6]
   show toS (f2 (gv 1) (aM 1 [0,2] (.nm 0) (bJ (f2 (gv 0) (cst (.int 0)) bN)) (mZ (aF ug (ae (gv 1) (ae (gv 2) (ae (gv 0) ah))))) (aW (ae (gv 2) (ae (gv 0) ah)))) eY [.da (aC n l),.da (.list ((fN n l i).map ao)),.da (.int i)] 0) _=_
   rw[ew];rfl)
 rw[fY,NK,As] at ef
 rw[aE (env':=[.fz (aC n l),.fz (.list ((c5 n l).map ao)),s]) (β':=0) ?g2]
 case g2=>
  rw[iO (env:=[.fz (aC n l),.fz (.list []),.no]) (er (.fz (.list [])) .no)]
  exact ef
 rfl
def Ge (e:D):Prop:=cP e=false/\∀es,e=.tuple es->es.length<=100/\∀x,x∈es->cP x=false
def G7 (n:Int):D->Bool
 | .tuple [x,y]=>kX x n && kX y n
 |_=>false
def DN {n:Int}{d:D}(h:G7 n d=true):∃p:Pr,d=ao p/\(0<=p.1/\p.1 < n)/\(0<=p.2/\p.2 < n):=by
 unfold G7 at h
 split at h
 ·rename_i x y
  rw[MS] at h
  cases x with
  |int a=>
   cases y with
   |int b=>exact⟨(a,b),rfl,Pn h.1,Pn h.2⟩
   |_=>cases h.2
  |_=>cases h.1
 ·cases h
def KZ:List D->FR:=bq 2 2 (jD gj)
theorem qX {es:List D}:(decide ((es.length:Int)=2)=false/\∀n,G7 n (.tuple es)=false)\/∃x y,es= [x,y]:=by
 match es with
 | []=>exact .inl ⟨rfl,λ_=>rfl⟩
 | [_]=>exact .inl ⟨rfl,λ_=>rfl⟩
 | [x,y]=>exact .inr ⟨x,y,rfl⟩
 |_ :: _ :: _ :: _=>exact .inl ⟨MW (by simp;omega),λ_=>rfl⟩
theorem Lo {d:D}{n:Int}(h:Ge d):KZ [d,.int n]=.ok (.bool (G7 n d)) false:=by
 show fin (jD gj [.fz d,.fz (.int n)] 0)=_
 unfold jD
 have g0:gv 0 (vl [.fz d,.fz (.int n)]) 0=.ok d 0:=rfl
 have t1:=GK g0 h.1
 cases hy:CI d with
 |false=>
  rw[hy] at t1
  rw[fo (d:=.bool false) (b:=false) (β':=0) ?a]
  ·cases d <;> first |rfl |cases hy
  case a=>rw[gZ (qy (cV t1))];rfl
 |true=>
  obtain⟨es,rfl⟩:=zm hy
  rw[hy] at t1
  have t2:=BZ (k:=2) g0
  rcases qX (es:=es) with⟨q,z⟩ | ⟨x,y,rfl⟩
  ·rw[q] at t2
   rw[z n,fo (d:=.bool false) (b:=false) (β':=0) (by rw[gZ (fP (cV t1) t2)];rfl)];rfl
  ·rw[aE (env':=[.fz (.tuple [x,y]),.fz (.int n)]) (β':=0) (by rw[gY (fP (cV t1) t2)];rfl)]
   have hx:=(h.2 _ rfl).2 x (MP ..)
   have hy':=(h.2 _ rfl).2 y (MM _ (MP ..))
   have e1:aF gj (ae (f2 (gv 0) (cst (.int 0)) bN) (ae (gv 1) ah)) (vl [.fz (.tuple [x,y]),.fz (.int n)]) 0=.ok (.bool (kX x n)) 0:=aI (ds:=[x,.int n]) rfl (sW hx)
   have e2:aF gj (ae (f2 (gv 0) (cst (.int 1)) bN) (ae (gv 1) ah)) (vl [.fz (.tuple [x,y]),.fz (.int n)]) 0=.ok (.bool (kX y n)) 0:=aI (ds:=[y,.int n]) rfl (sW hy')
   rw[dN,mW e1 e2];rfl
def KU:List D->FR:=bq 1 1 mG
def L1 {d:D}(h:cP d=false):KU [d]=.ok (.bool (oV d)) false:=by
 have:=zS [d] (by rw[mL h];exact λz=>by cases z)
 rw[mL h] at this
 exact this
def Sp (p:Pr):Prop:=(0<=p.1/\p.1<=8)/\(0<=p.2/\p.2<=8)
def El (e:D):Prop:=Ge e/\Sq 100 8 e/\Bf e
def Cv {es:List D}(hl:es.length<=100)(h:∀x,x∈es->cP x=false):Ge (.tuple es):=⟨rfl,λes' e=>by cases e;exact⟨hl,h⟩⟩
def qi {es:List D}(hl:es.length<=3)(h:∀x,x∈es->Em x):El (.tuple es):=by
 refine⟨Cv (by omega) λx hx=>(h x hx).scr,(B7 (c:=20) (k:=0) λd hd=>(h d hd).sq).mono ?_ (by omega),DV λd hd=>(h d hd).bf⟩
 omega
def zO {es:List D}(hl:es.length<=3)(h:∀x,x∈es->Em x):El (.list es):=by
 refine⟨⟨rfl,λes' e=>by cases e⟩,(CK (c:=20) (k:=0) λd hd=>(h d hd).sq).mono ?_ (by omega),DB λd hd=>(h d hd).bf⟩
 omega
def pR {p:Pr}(h:Sp p):El (ao p):=qi (es:=[.int p.1,.int p.2]) (by simp) (ij (lB (by have:=h.1;omega)) (lB (by have:=h.2;omega)))
def Mq:D->Bool
 | .tuple es=>decide (es.length<=100) && es.all λx=> !cP x
 |_=>true
def iZ:List D:=[.none,.bool true,.bool false,.int (-1),.int 0,.int 1,.str "",.str "1",.tuple [],.list [],.tuple [.int 0],.tuple [.int 1,.tuple []],.list [.int 0],.dict [(.str "a",.int 1)],.tuple [.int 0,.int 1],.int 1000000000000000000000000000000000000000,.tuple [.tuple [.int 0,.int 1]],.str "a"]
def zh:∀x∈iZ,(x.showable=true/\x.depth<=5/\x.shown.length<=60)/\zM x=true/\cP x=false/\Mq x=true:=by decide +kernel
def D9 {o:D}(h:o∈iZ):El o:=by
 obtain⟨h1,h2,h3,h4⟩:=zh o h
 refine⟨⟨h3,λes e=>?_⟩,Sq.mono (c:=60) (k:=5) h1 (by omega) (by omega),h2⟩
 subst e
 have hb:(decide (es.length<=100) && es.all λx=> !cP x)=true:=h4
 rw[MS,M4,NW] at hb
 exact⟨hb.1,λx hx=>by have:=hb.2 x hx;rwa [NT] at this⟩
def E7 {fa fb:VF D}{vs:List Nv}{β:Int}{ds:List D}{i:Nat}(ha:fa vs β=.ok (.list ds) β)(hb:fb vs β=.ok (.int ((i:Nat):Int)) β):AU fa (Ai fb) (λ_ β=>.ok none β) vs β=.ok (.list (ds.drop i)) β:=by
 unfold AU Ai
 rw[ha];dsimp only[R.bnd]
 rw[hb];dsimp only[R.bnd]
 congr 2
 unfold cutD
 rw[HT.v8,HT.zL]
 by_cases h:i<=ds.length
 ·rw[Pa h];exact NV (by rw[OJ];omega)
 ·rw[Nat.min_eq_right (by omega),List.drop_length,List.drop_of_length_le (by omega)];simp
def pF {fa fb:VF D}{vs:List Nv}{β:Int}{ds:List D}{i:Nat}(ha:fa vs β=.ok (.list ds) β)(hb:fb vs β=.ok (.int ((i:Nat):Int)) β):AU fa (λ_ β=>.ok none β) (Ai fb) vs β=.ok (.list (ds.take i)) β:=by
 unfold AU Ai
 rw[ha];dsimp only[R.bnd]
 rw[hb];dsimp only[R.bnd]
 congr 2
 unfold cutD
 rw[HT.v8,HT.zL]
 by_cases h:i<=ds.length
 ·rw[Pa h];rfl
 ·rw[Nat.min_eq_right (by omega),NV (show ds.length<=i by omega)];simp
noncomputable def HY:List D->Int->FB:=kF 2 0 (j8 bG)
def Jh (β:Int):∃o β',HY [] β=.ok o false β'/\o∈iZ:=by
 show ∃o β',oW (j8 bG [.bx,.no] β)=.ok o false β'/\o∈iZ
 unfold j8
 rw[aE (env':=[.bx,.fz (.list (iZ.take 13))]) (β':=β) ?a]
 case a=>
  rw[c6,lp (ds:=iZ.take 13) (ac (ck _) (ac (ck _) (ac (ck _) (ac (ck _) (ac (ck _) (ac (ck _) (ac (ck _) (ac (ck _) (ac (tp an) (ac (lp an) (ac (tp (ac (ck _) an)) (ac (tp (ac (ck _) (ac (tp an) an))) (ac (lp (ac (ck _) an)) an))))))))))))) (by show (13:Nat)<=1000;omega)]
  rfl
 rw[aE (env':=[.bx,.fz (.list iZ)]) (β':=β) ?b]
 case b=>
  rw[c6,aA (x:=.list (iZ.take 13)) (y:=.list (iZ.drop 13)) (d:=.list iZ) (β1:=β) (β2:=β) rfl (lp (ds:=iZ.drop 13) (ac (ck _) (ac (tp (ac (ck _) (ac (ck _) an))) (ac JA (ac (tp (ac (tp (ac (ck _) (ac (ck _) an))) an)) (ac (ck _) an))))) (by show (5:Nat)<=1000;omega)) ?c]
  ·rfl
  case c=>rw[i8 (by show (13 + 5:Nat)<=10000;omega)];rfl
 obtain⟨j,hj,ej⟩:=cD (m:=18) (by omega) (by omega) β
 have hlen:iZ.length=18:=rfl
 obtain⟨o,ho⟩:∃o,iZ[j]? =some o:=⟨_,MG (by omega)⟩
 have e:f2 (gv 1) (fU 0 bG (ae (cst (.int 18)) ah)) bN (vl [.bx,.fz (.list iZ)]) β=.ok o (β / ((18:Nat):Int)):=aA (x:=.list iZ) (y:=.int j) rfl (bY (ds:=[.int 18]) (by rfl) rfl ej) (show jv iZ (j:Int)=some o from fH ho)
 rw[dN,e]
 exact⟨o,_,rfl,MU ho⟩
noncomputable def I0:List D->FR:=bq 2 2 nz
def Ju (b:Bool):I0 [.bool b,.bool b]=.ok (.bool true) false:=by cases b <;> rfl
end RM
namespace RM
open PySem PySem.Spec L2 PyProof.Rows
theorem lK:∀r:List Int,lV (r.map int)=some r
 | []=>rfl
 |x :: r=>by
  have:=lK r
  simp only[Ng,lV,this]
  try rfl
end RM
namespace RM
open PySem L2
def Gt (d:D):Prop:=cP d=false/\∀ds,d=.list ds->ds.length<=100/\∀e,e∈ds->Ge e
def zU {α:Type}{fa:VF D}{vs:List Nv}{β:Int}{l:List α}{f:α->Bool}(h:fa vs β=.ok (.list (l.map λq=>PyData.bool (f q))) β):f1 fa (dc λbs=>bs.all id) vs β=.ok (.bool (l.all f)) β:=by
 refine bX h ?_
 simp only[dc]
 rw[jz]
 simp[List.all_map,Function.comp_def]
def BG (l:List Pr)(r:List Int)(x:Int):List Int:=(l.filter λp=>decide (p.2=x) && !decide (p.1∈r)).map (·.1)
def mJ {l:List Pr}{r:List Int}{x a:Int}:a∈BG l r x↔(a,x)∈l/\a∉r:=by
 unfold BG
 rw[MQ]
 constructor
 ·rintro⟨p,hp,rfl⟩
  have:=M8.mp hp
  simp only[MS,M4,NT,NZ] at this
  obtain⟨pa,pb⟩:=p
  obtain⟨h1,h2,h3⟩:=this
  simp only at h2 h3
  subst h2
  exact⟨h1,h3⟩
 ·rintro⟨h1,h2⟩
  exact⟨(a,x),M8.mpr ⟨h1,by simp[h2]⟩,rfl⟩
def Ba {n:Nat}{l:List Pr}(O:OM.Ord n l)(r:List Int)(x:Int):(BG l r x).Nodup:=by
 unfold BG
 rw[N3,NC]
 refine NX (λ{a b} ha hb h e=>h ?_) (N3.mp ((OM.iB O.ris).filter _))
 have h1:=(M8.mp ha).2
 have h2:=(M8.mp hb).2
 simp only[MS,M4] at h1 h2
 exact Prod.ext e (h1.1.trans h2.1.symm)
theorem least {n:Nat}{l:List Pr}(O:OM.Ord n l)(r:List Int):∀(k:Nat) (x:Int),(0<=x/\x < n)->x∉r->(BG l r x).length<=k->∃y:Int,(0<=y/\y < n)/\y∉r/\BG l r y= []
 | 0,x,hx,hr,hk=>⟨x,hx,hr,List.length_eq_zero_iff.mp (by omega)⟩
 |k + 1,x,hx,hr,hk=>by
  by_cases he:BG l r x= []
  ·exact⟨x,hx,hr,he⟩
  ·obtain⟨a,ha⟩:=List.exists_mem_of_ne_nil _ he
   obtain⟨h1,h2⟩:=mJ.mp ha
   refine least O r k a (O.wn _ h1).1 h2 ?_
   have nd:(a :: BG l r a).Nodup:=Nq.mpr ⟨λq=>O.irr a (mJ.mp q).1,Ba O r a⟩
   have:=L2.ST.cn nd (m:=BG l r x) λy hy=>by
    rcases MN.mp hy with rfl |hy
    ·exact ha
    ·obtain⟨q1,q2⟩:=mJ.mp hy
     exact mJ.mpr ⟨O.tr _ _ _ q1 h1,q2⟩
   rw[Na] at this
   omega
structure LW (n:Nat)(l:List Pr)(r:List Int):Prop where
 nd:r.Nodup
 inn:∀x,x∈r->0<=x/\x < (n:Int)
 fit:∀p,p∈l->p.2∈r->p.1∈r/\r.idxOf p.1 < r.idxOf p.2
def GJ (l:List Pr)(r:List Int)(x:Int):Bool:= !decide (x∈r) && decide (BG l r x= [])
def LW.more {n:Nat}{l:List Pr}{r:List Int}{x:Int}(B:LW n l r)(hx:0<=x/\x < (n:Int))(hf:GJ l r x=true):LW n l (r ++ [x]):=by
 unfold GJ at hf
 rw[MS,NT,NZ,M4] at hf
 obtain⟨h1,h2⟩:=hf
 refine⟨?_,λy hy=>?_,λp hp hm=>?_⟩
 ·rw[O0]
  refine⟨B.nd,Nq.mpr ⟨by simp,OH⟩,λa ha b hb=>?_⟩
  rw[Nc] at hb
  subst hb
  exact λq=>h1 (q▸ha)
 ·rcases M6.mp hy with hy |hy
  ·exact B.inn y hy
  ·rw[Nc] at hy;subst hy;exact hx
 ·rcases M6.mp hm with hm |hm
  ·obtain⟨q1,q2⟩:=B.fit p hp hm
   refine⟨Og _ q1,?_⟩
   rw[Po,Po,MJ q1,MJ hm]
   exact q2
  ·rw[Nc] at hm
   have hp1:p.1∈r:=by
    by_cases z:p.1∈r
    ·exact z
    ·have:p.1∈BG l r x:=mJ.mpr ⟨by rw[<-hm];exact hp,z⟩
     rw[h2] at this;cases this
   refine⟨Og _ hp1,?_⟩
   rw[Po,Po,MJ hp1,MO (by rw[hm];exact h1)]
   have:=OP.mpr hp1
   omega
def lN (rows:List (List Int))(p:Pr):Bool:= !decide (p.1=p.2) && (rows.filter λr=>decide (r.idxOf p.1 > r.idxOf p.2)).isEmpty
def vW:List D->FR:=bq 6 2 gx
def IL {n:Nat}{rows:List (List Int)}(h8:n<=8)(hr:rows.length<=100)(hp:∀r,r∈rows->r.Perm (iY n)):vW [.int n,.list (rows.map tupI)]=.ok (.tuple (((OM.cq n).filter (lN rows)).map ao)) false:=by
 show fin (gx [.fz (.int n),.fz (.list (rows.map tupI)),.no,.no,.no,.no] 0)=_
 unfold gx
 rw[aE (env':=[.fz (.int n),.fz (.list (rows.map tupI)),.ow (.list []),.no,.no,.no]) (β':=0) ?g1]
 case g1=>rw[Co,dO (ds:=[]) rfl (by simp)];rfl
 obtain⟨env',β',ef,s,t,u,rfl,rfl⟩:=dJ (t:=.nm 3) (m:=eN (.nm 4) [] (bJ (gv 0))
   (aH (bc 5 ([] ++ []) (aM 1 [3,4] (.nm 0) (bQ (gv 1)) (cJ (f2 (oh (gv 0) (gv 1)) (oh (gv 0) (gv 2)) Je)) (cst (.int 1))))
   (kA (([] ++ []) ++ ([] ++ [])) (A3 (cJ (f2 (gv 3) (gv 4) (cO true))) (cJ (f2 (gv 5) (ba ah) (cO false))))
   (oo 2 ([3] ++ ([4] ++ [])) (aW (ae (gv 3) (ae (gv 4) ah))))
   mj))) (ds:=cB 0 n) (k:=0)
  (λi env β=>∃s t u:Sl,env= [.fz (.int n),.fz (.list (rows.map tupI)),.ow (.list ((upTo n (lN rows) i 0).map ao)),s,t,u]/\β=0)
  (env:=[.fz (.int n),.fz (.list (rows.map tupI)),.ow (.list []),.no,.no,.no]) (β:=0) ⟨.no,.no,.no,by rw[z8];rfl,rfl⟩ (by
   rintro i d env β hi ⟨s,t,u,rfl,rfl⟩
   obtain⟨hin,rfl⟩:=gE hi
   refine⟨[.fz (.int n),.fz (.list (rows.map tupI)),.ow (.list ((upTo n (lN rows) (0 + i) 0).map ao)),.fz (.int (0 + (i:Int))),t,u],rfl,?_⟩
   rw[NK,N2]
   obtain⟨env',β',ef,t2,u2,rfl,rfl⟩:=dJ (t:=.nm 4) (m:=aH (bc 5 ([] ++ []) (aM 1 [3,4] (.nm 0) (bQ (gv 1)) (cJ (f2 (oh (gv 0) (gv 1)) (oh (gv 0) (gv 2)) Je)) (cst (.int 1))))
     (kA (([] ++ []) ++ ([] ++ [])) (A3 (cJ (f2 (gv 3) (gv 4) (cO true))) (cJ (f2 (gv 5) (ba ah) (cO false))))
     (oo 2 ([3] ++ ([4] ++ [])) (aW (ae (gv 3) (ae (gv 4) ah))))
     mj)) (ds:=cB 0 n) (k:=0)
    (λk env β=>∃t u:Sl,env= [.fz (.int n),.fz (.list (rows.map tupI)),.ow (.list ((upTo n (lN rows) i k).map ao)),.fz (.int i),t,u]/\β=0)
    (env:=[.fz (.int n),.fz (.list (rows.map tupI)),.ow (.list ((upTo n (lN rows) i 0).map ao)),.fz (.int i),t,u]) (β:=0) ⟨t,u,rfl,rfl⟩ (by
     rintro k d env β hk ⟨t,u,rfl,rfl⟩
     obtain⟨hkn,rfl⟩:=gE hk
     refine⟨[.fz (.int n),.fz (.list (rows.map tupI)),.ow (.list ((upTo n (lN rows) i (0 + k)).map ao)),.fz (.int i),.fz (.int (0 + (k:Int))),u],rfl,?_⟩
     rw[NK,N2]
     have ec:aM 1 [3,4] (.nm 0) (bQ (gv 1)) (cJ (f2 (oh (gv 0) (gv 1)) (oh (gv 0) (gv 2)) Je)) (cst (.int 1)) [.da (.int n),.da (.list (rows.map tupI)),.da (.list ((upTo n (lN rows) i k).map ao)),.da (.int i),.da (.int k),u.val] 0=.ok (.list ((rows.filter λr=>decide (r.idxOf (i:Int) > r.idxOf (k:Int))).map λ_=>int 1)) 0:=by
      refine dS (l:=rows) (e:=tupI) (λr=>decide (r.idxOf (i:Int) > r.idxOf (k:Int))) (λ_=>int 1) rfl (by omega) λr hr=>⟨_,rfl,?_,λ_=>rfl⟩
      have hp:=hp r hr
      refine dG _ _ _ _ (aA (zr (r:=r) (k:=i) rfl rfl (hp.mem_iff.mpr (fy.mpr ⟨by omega,by omega⟩))) (zr (r:=r) (k:=k) rfl rfl (hp.mem_iff.mpr (fy.mpr ⟨by omega,by omega⟩))) ?_)
      show some (PyData.bool (decide (((r.idxOf (i:Int):Nat):Int) > ((r.idxOf (k:Int):Nat):Int))))=_
      congr 2
      rw[ND,M4,M4]
      omega
     rw[aE (env':=[.fz (.int n),.fz (.list (rows.map tupI)),.ow (.list ((upTo n (lN rows) i k).map ao)),.fz (.int i),.fz (.int k),.fz (.list ((rows.filter λr=>decide (r.idxOf (i:Int) > r.idxOf (k:Int))).map λ_=>int 1))]) (β':=0) ?g]
     case g=>
      rw[c6]
      show toS (aM 1 [3,4] (.nm 0) (bQ (gv 1)) (cJ (f2 (oh (gv 0) (gv 1)) (oh (gv 0) (gv 2)) Je)) (cst (.int 1)) [.da (.int n),.da (.list (rows.map tupI)),.da (.list ((upTo n (lN rows) i k).map ao)),.da (.int i),.da (.int k),u.val] 0) _=_
      rw[ec];rfl
     generalize hL:(rows.filter λr=>decide (r.idxOf (i:Int) > r.idxOf (k:Int)))=L
     have et:A3 (cJ (f2 (gv 3) (gv 4) (cO true))) (cJ (f2 (gv 5) (ba ah) (cO false))) (vl [.fz (.int n),.fz (.list (rows.map tupI)),.ow (.list ((upTo n (lN rows) i k).map ao)),.fz (.int i),.fz (.int k),.fz (.list (L.map λ_=>int 1))]) 0=.ok (lN rows ((i:Int),(k:Int))) 0:=by
      have h1:cJ (f2 (gv 5) (ba ah) (cO false)) (vl [.fz (.int n),.fz (.list (rows.map tupI)),.ow (.list ((upTo n (lN rows) i k).map ao)),.fz (.int i),.fz (.int k),.fz (.list (L.map λ_=>int 1))]) 0=.ok L.isEmpty 0:=by
       refine dG _ _ _ _ (aA (x:=.list (L.map λ_=>int 1)) (y:=.list []) rfl (dO (ds:=[]) rfl (by simp)) ?_)
       have e9:(L.map λ_=>int 1)=(L.map λ_=>(1:Int)).map int:=by rw[NQ];rfl
       rw[e9,show ([]:List D)=([]:List Int).map int from rfl,u6]
       congr 2
       cases L <;> simp
      have:=uR (du (neg:=true) (fa:=gv 3) (fb:=gv 4) (vs:=vl [.fz (.int n),.fz (.list (rows.map tupI)),.ow (.list ((upTo n (lN rows) i k).map ao)),.fz (.int i),.fz (.int k),.fz (.list (L.map λ_=>int 1))]) (β:=0) (i:=i) (j:=k) rfl rfl) h1
      rw[this]
      unfold lN
      rw[hL];rfl
     cases c:lN rows ((i:Int),(k:Int)) with
     |true=>
      rw[c] at et
      refine⟨[.fz (.int n),.fz (.list (rows.map tupI)),.ow (.list ((upTo n (lN rows) i (k + 1)).map ao)),.fz (.int i),.fz (.int k),.fz (.list (L.map λ_=>int 1))],0,?_,_,_,rfl,rfl⟩
      rw[gZ et]
      have:=tY (i:=2) (L:=[3] ++ ([4] ++ [])) (env:=[.fz (.int n),.fz (.list (rows.map tupI)),.ow (.list ((upTo n (lN rows) i k).map ao)),.fz (.int i),.fz (.int k),.fz (.list (L.map λ_=>int 1))]) (ds:=(upTo n (lN rows) i k).map ao) (β:=0) (by rfl) (dI (fa:=gv 3) (fb:=gv 4) (a:=i) (b:=k) rfl rfl) (by rfl) (by rw[ML];have:=CZ (lN rows) i k h8;omega)
      rw[sv _ hin hkn,MJ c,Nz]
      exact this
     |false=>
      rw[c] at et
      refine⟨[.fz (.int n),.fz (.list (rows.map tupI)),.ow (.list ((upTo n (lN rows) i (k + 1)).map ao)),.fz (.int i),.fz (.int k),.fz (.list (L.map λ_=>int 1))],0,?_,_,_,rfl,rfl⟩
      have e8:=sv (lN rows) hin hkn
      rw[MO (by rw[c];exact Nb),Oh] at e8
      rw[gY et,e8];rfl)
   rw[fY,NK,C0] at ef
   refine⟨[.fz (.int n),.fz (.list (rows.map tupI)),.ow (.list ((upTo n (lN rows) (i + 1) 0).map ao)),.fz (.int i),t2,u2],0,?_,_,_,_,rfl,rfl⟩
   rw[iO (env:=[.fz (.int n),.fz (.list (rows.map tupI)),.ow (.list ((upTo n (lN rows) i 0).map ao)),.fz (.int i),t,u]) (cQ (n:=n) rfl (by omega))]
   exact ef)
 rw[fY,NK,D0] at ef
 rw[aE (env':=[.fz (.int n),.fz (.list (rows.map tupI)),.ow (.list (((OM.cq n).filter (lN rows)).map ao)),s,t,u]) (β':=0) ?g2]
 case g2=>
  rw[iO (env:=[.fz (.int n),.fz (.list (rows.map tupI)),.ow (.list []),.no,.no,.no]) (cQ (n:=n) rfl (by omega))]
  exact ef
 rw[dN,bX (x:=.list (((OM.cq n).filter (lN rows)).map ao)) (d:=.tuple (((OM.cq n).filter (lN rows)).map ao)) (β1:=0) rfl ?g3]
 case g3=>rfl
 rfl
def o9 {rows:List (List Int)}{p:Pr}:lN rows p=true↔p.1≠p.2/\∀r,r∈rows->r.idxOf p.1<=r.idxOf p.2:=by
 unfold lN
 rw[MS,NT,NZ,List.isEmpty_iff,List.filter_eq_nil_iff]
 simp only[M4,Nat.not_lt,gt_iff_lt]
def BL {n:Nat}{rows:List (List Int)}(h1:1<=n)(h8:n<=8)(hne:rows≠ [])(hp:∀r,r∈rows->r.Perm (iY n)):OM.Ord n ((OM.cq n).filter (lN rows)):=by
 refine⟨h1,h8,λp hm=>OM.bC.mp (M8.mp hm).1,OM.de _ (OM.gF n),λa h=>?_,λa b c hab hbc=>?_⟩
 ·exact (o9.mp (M8.mp h).2).1 rfl
 ·obtain⟨g1,t1⟩:=M8.mp hab
  obtain⟨g2,t2⟩:=M8.mp hbc
  have g1:=OM.bC.mp g1
  have g2:=OM.bC.mp g2
  obtain⟨n1,q1⟩:=o9.mp t1
  obtain⟨n2,q2⟩:=o9.mp t2
  refine M8.mpr ⟨OM.bC.mpr ⟨g1.1,g2.2⟩,o9.mpr ⟨λe=>?_,λr hr=>NA (q1 r hr) (q2 r hr)⟩⟩
  simp only at e n1 q1 q2
  subst e
  cases rows with
  |nil=>exact hne rfl
  |cons r rest=>
   have hr:r∈r :: rest:=MP ..
   have pm:=hp r hr
   exact n1 (EM (pm.mem_iff.mpr (fy.mpr g1.1)) (pm.mem_iff.mpr (fy.mpr g1.2)) (Nat.le_antisymm (q1 r hr) (q2 r hr)))
noncomputable def uC:List D->Int->FB:=kF 6 0 (il bG eJ)
def Mj (ms:List Int)(m i:Nat)(ps:List Pr):Prop:=ps.Nodup/\ps.length<=4 * i/\∀p,p∈ps->∃i' j:Nat,i' < i/\j < m/\ms[i']? =some p.1/\ms[m + j]? =some p.2
def EU {ms:List Int}{m i:Nat}{ps:List Pr}(h3:3<=m)(h4:m<=4)(hi:i<=m)(hp:ms.Perm (iY (2 * m)))(h:Mj ms m i ps):OM.Ord (2 * m) (OM.bR 8 (OM.Mem ps))/\ps.all Hg=true/\ps.length < 64:=by
 obtain⟨nd,hl,hc⟩:=h
 have ndm:ms.Nodup:=hp.nodup_iff.mpr (lH _)
 have wn:OM.Wn (2 * m) ps:=λp hm=>by
  obtain⟨i',j,_,_,e1,e2⟩:=hc p hm
  exact⟨fy.mp (hp.mem_iff.mp (MU e1)),fy.mp (hp.mem_iff.mp (MU e2))⟩
 rw[GH (by omega) wn]
 refine⟨⟨by omega,by omega,OM.pj _ _,OM.cH _ _,λa h=>?_,λa b c h k=>?_⟩,yy (by omega) wn,by omega⟩
 ·obtain⟨i',j,hi',_,e1,e2⟩:=hc _ (OM.aX.mp h).2
  have:=iJ ndm e1 e2
  omega
 ·obtain⟨i',j,hi',_,e1,e2⟩:=hc _ (OM.aX.mp h).2
  obtain⟨i2,j2,hi2,_,e3,e4⟩:=hc _ (OM.aX.mp k).2
  have:=iJ ndm e2 e3
  omega
def Gs (β:Int):∃(n:Nat) (l:List Pr) (β':Int),uC [] β=.ok (aC n l) false β'/\OM.Ord n l:=by
 obtain⟨j,hj,ej⟩:=cD (m:=2) (by omega) (by omega) β
 show ∃(n:Nat) (l:List Pr) (β':Int),oW (il bG eJ [.bx,.no,.no,.no,.no,.no] β)=.ok (aC n l) false β'/\OM.Ord n l
 unfold il
 generalize hβ1:β / ((2:Nat):Int)=β1 at ej
 have e1:f2 (cst (.int 3)) (fU 0 bG (ae (cst (.int 2)) ah)) bM [Nv.bx,.no,.no,.no,.no,.no] β=.ok (.int ((3 + j:Nat):Int)) β1:=by
  refine aA (x:=.int 3) rfl (bY (by rfl) rfl ej) ?_
  show some (int (3 + (j:Int)))=_
  rw[show ((3 + j:Nat):Int)=3 + (j:Int) by omega]
 rw[aE (env':=[.bx,.fz (.int ((3 + j:Nat):Int)),.no,.no,.no,.no]) (β':=β1) ?g1]
 case g1=>
  show toS (f2 (cst (.int 3)) (fU 0 bG (ae (cst (.int 2)) ah)) bM [Nv.bx,.no,.no,.no,.no,.no] β) _=_
  rw[e1];rfl
 have h3:3<=3 + j:=by omega
 have h4:3 + j<=4:=by omega
 generalize hm:3 + j=m at h3 h4
 obtain⟨ms,β2,em,hp⟩:=pw (iY (2 * m)) (by rw[gz];omega) β1
 have hml:ms.length=2 * m:=by rw[hp.length_eq,gz]
 have g2:cK (.int 2) (.int m)=some (.int ((2 * m:Nat):Int)):=by rw[ml ⟨by omega,by omega⟩];congr 2
 have e2:fU 0 eJ (ae (f1 (f2 (cst (.int 2)) (gv 1) cK) cu) ah) [Nv.bx,.da (.int m),.no,.no,.no,.no] β1=.ok (.list (ms.map int)) β2:=by
  refine bY (ds:=[.list ((iY (2 * m)).map int)]) (b:=true) (β1:=β1) (by rfl) ?_ em
  rw[bD,bX (x:=.int ((2 * m:Nat):Int)) (d:=.list ((iY (2 * m)).map int)) (β1:=β1) (aA rfl rfl g2) (k6 (by omega))];rfl
 rw[aE (env':=[.bx,.fz (.int m),.fz (.list (ms.map int)),.no,.no,.no]) (β':=β2) ?g2]
 case g2=>
  show toS (fU 0 eJ (ae (f1 (f2 (cst (.int 2)) (gv 1) cK) cu) ah) [Nv.bx,.da (.int m),.no,.no,.no,.no] β1) _=_
  rw[e2];rfl
 rw[aE (env':=[.bx,.fz (.int m),.fz (.list (ms.map int)),.fz (.list []),.no,.no]) (β':=β2) ?g3]
 case g3=>rw[c6,dO (ds:=[]) rfl (by simp)];rfl
 have ndm:ms.Nodup:=hp.nodup_iff.mpr (lH _)
 obtain⟨env',β',ef,ps,s,t,rfl,rfl,hC⟩:=dJ (t:=.nm 4) (m:=aH (bc 5 ([] ++ []) (aM 1 [4,2,1] (.nm 0) (bJ (gv 1)) (cJ (f2 (gv 0) (gv 1) (cO true))) (f2 (gv 2) (f2 (gv 3) (gv 0) bM) bN)))
   (bc 3 ([] ++ ([] ++ [])) (f2 (gv 3) (aM 1 [2,4] (.nm 0) (bQ (gv 5)) kG (aW (ae (f2 (gv 1) (gv 2) bN) (ae (gv 0) ah)))) eY))) (ds:=cB 0 m) (k:=0)
  (λi env β=>∃(ps:List Pr) (s t:Sl),env= [.bx,.fz (.int m),.fz (.list (ms.map int)),.fz (.list (ps.map ao)),s,t]/\β=β2/\Mj ms m i ps)
  (env:=[.bx,.fz (.int m),.fz (.list (ms.map int)),.fz (.list []),.no,.no]) (β:=β2) ⟨[],.no,.no,rfl,rfl,OH,by simp,λp hp=>by cases hp⟩ (by
   rintro i d env β hi ⟨ps,s,t,rfl,rfl,nd,hl,hc⟩
   obtain⟨hin,rfl⟩:=gE hi
   refine⟨[.bx,.fz (.int m),.fz (.list (ms.map int)),.fz (.list (ps.map ao)),.fz (.int (0 + (i:Int))),t],rfl,?_⟩
   rw[NK,N2]
   rw[NK] at hl hc
   have him:i < ms.length:=by omega
   have ec:aM 1 [4,2,1] (.nm 0) (bJ (gv 1)) (cJ (f2 (gv 0) (gv 1) (cO true))) (f2 (gv 2) (f2 (gv 3) (gv 0) bM) bN) [.bx,.da (.int m),.da (.list (ms.map int)),.da (.list (ps.map ao)),.da (.int i),t.val] β=.ok (.list ((((List.range m).filter λ(j:Nat)=> !decide ((j:Int)=(i:Int))).map λ(j:Nat)=>ms.getD (m + j) 0).map int)) β:=by
    rw[NQ]
    refine dS (l:=List.range m) (e:=λ(k:Nat)=>int (0 + (k:Int))) (λ(j:Nat)=> !decide ((j:Int)=(i:Int))) (λj=>int (ms.getD (m + j) 0)) (cQ (n:=m) rfl (by omega)) (by rw[N5];omega) λj hj=>⟨_,rfl,?_,λ_=>?_⟩
    ·rw[N2];exact du (neg:=true) (i:=j) (j:=i) rfl rfl
    ·have hj:=M5.mp hj
     have hjm:m + j < ms.length:=by omega
     refine aA (x:=.list (ms.map int)) (y:=.int ((m + j:Nat):Int)) rfl (aA (x:=.int m) (y:=.int (0 + (j:Int))) rfl rfl ?_) ?_
     ·show some (int ((m:Int) + (0 + (j:Int))))=_
      congr 2;omega
     ·show jv (ms.map int) ((m + j:Nat):Int)=_
      rw[cX,n5 hjm,Nd,MG hjm];rfl
   rw[aE (env':=[.bx,.fz (.int m),.fz (.list (ms.map int)),.fz (.list (ps.map ao)),.fz (.int i),.fz (.list ((((List.range m).filter λ(j:Nat)=> !decide ((j:Int)=(i:Int))).map λ(j:Nat)=>ms.getD (m + j) 0).map int))]) (β':=β) ?g]
   case g=>
    rw[c6]
    show toS (aM 1 [4,2,1] (.nm 0) (bJ (gv 1)) (cJ (f2 (gv 0) (gv 1) (cO true))) (f2 (gv 2) (f2 (gv 3) (gv 0) bM) bN) [.bx,.da (.int m),.da (.list (ms.map int)),.da (.list (ps.map ao)),.da (.int i),t.val] β) _=_
    rw[ec];rfl
   generalize hO:((List.range m).filter λ(j:Nat)=> !decide ((j:Int)=(i:Int)))=js
   have hjs:∀j,j∈js->j < m:=λj hj=>by rw[<-hO] at hj;exact M5.mp (M8.mp hj).1
   have hjn:js.Nodup:=by rw[<-hO];exact Ou.filter _
   have hjl:js.length<=m:=by rw[<-hO];have:=NR (λ(j:Nat)=> !decide ((j:Int)=(i:Int))) (List.range m);rw[N5] at this;exact this
   have ed:aM 1 [2,4] (.nm 0) (bQ (gv 5)) kG (aW (ae (f2 (gv 1) (gv 2) bN) (ae (gv 0) ah))) [.bx,.da (.int m),.da (.list (ms.map int)),.da (.list (ps.map ao)),.da (.int i),.da (.list ((js.map λ(j:Nat)=>ms.getD (m + j) 0).map int))] β=.ok (.list ((js.map λ(j:Nat)=>((ms.getD i 0,ms.getD (m + j) 0):Pr)).map ao)) β:=by
    rw[NQ,NQ]
    refine cy (l:=js) (e:=λj=>int (ms.getD (m + j) 0)) (λj=>ao (ms.getD i 0,ms.getD (m + j) 0)) rfl (by omega) λj hj=>⟨_,rfl,?_⟩
    refine dI (aA (x:=.list (ms.map int)) (y:=.int i) rfl rfl ?_) rfl
    show jv (ms.map int) (i:Int)=_
    rw[cX,n5 him,Nd,MG him];rfl
   refine⟨[.bx,.fz (.int m),.fz (.list (ms.map int)),.fz (.list ((ps ++ js.map λ(j:Nat)=>((ms.getD i 0,ms.getD (m + j) 0):Pr)).map ao)),.fz (.int i),.fz (.list ((js.map λ(j:Nat)=>ms.getD (m + j) 0).map int))],β,?_,_,_,_,rfl,rfl,?_,?_,?_⟩
   ·rw[c6]
    show toS (f2 (gv 3) (aM 1 [2,4] (.nm 0) (bQ (gv 5)) kG (aW (ae (f2 (gv 1) (gv 2) bN) (ae (gv 0) ah)))) eY [.bx,.da (.int m),.da (.list (ms.map int)),.da (.list (ps.map ao)),.da (.int i),.da (.list ((js.map λ(j:Nat)=>ms.getD (m + j) 0).map int))] β) _=_
    rw[aA (x:=.list (ps.map ao)) rfl ed (i8 (by rw[ML,ML,ML];omega)),<-Nz];rfl
   ·have hd:∀j,j < m->ms[m + j]? =some (ms.getD (m + j) 0):=λj hj=>by rw[Nd,MG (by omega)];rfl
    have hdi:ms[i]? =some (ms.getD i 0):=by rw[Nd,MG him];rfl
    refine O0.mpr ⟨nd,?_,λp hp q hq e=>?_⟩
    ·rw[N3,NC]
     refine NX (λ{a b} ha hb h e=>?_) (N3.mp hjn)
     have e2:=(Prod.mk.inj e).2
     have:=iJ ndm (hd a (hjs a ha)) (by rw[e2];exact hd b (hjs b hb))
     omega
    ·subst e
     obtain⟨j,hj,rfl⟩:=MQ.mp hq
     obtain⟨i',j',h1,h2,h3,h4⟩:=hc _ hp
     have:=iJ ndm h3 hdi
     omega
   ·rw[Nf,ML];omega
   ·intro p hp
    rcases M6.mp hp with hp |hp
    ·obtain⟨i',j',h1,h2,h3,h4⟩:=hc _ hp
     exact⟨i',j',by omega,h2,h3,h4⟩
    ·obtain⟨j,hj,rfl⟩:=MQ.mp hp
     refine⟨i,j,by omega,hjs j hj,?_,?_⟩
     ·show ms[i]? =some (ms.getD i 0)
      rw[Nd,MG him];rfl
     ·have:=hjs j hj
      show ms[m + j]? =some (ms.getD (m + j) 0)
      rw[Nd,MG (by omega)];rfl)
 rw[fY,NK] at hC
 rw[aE (env':=[.bx,.fz (.int m),.fz (.list (ms.map int)),.fz (.list (ps.map ao)),s,t]) (β':=β') ?g5]
 case g5=>
  rw[iO (env:=[.bx,.fz (.int m),.fz (.list (ms.map int)),.fz (.list []),.no,.no]) (cQ (n:=m) rfl (by omega))]
  exact ef
 obtain⟨O,hsm,hl⟩:=EU h3 h4 (MK m) hp hC
 refine⟨2 * m,OM.bR 8 (OM.Mem ps),β',?_,O⟩
 have g9:iH (.list (ps.map ao))=some (.list ((OM.bR 8 (OM.Mem ps)).map ao)):=by
  unfold iH
  dsimp only
  rw[dU]
  dsimp only
  rw[MJ ⟨hsm,hC.1,hl⟩]
 have e9:aW (ae (f2 (cst (.int 2)) (gv 1) cK) (ae (f1 (f1 (gv 3) iH) gS) ah)) [Nv.bx,.da (.int m),.da (.list (ms.map int)),.da (.list (ps.map ao)),s.val,t.val] β'=.ok (aC (2 * m) (OM.bR 8 (OM.Mem ps))) β':=by
  refine jd (ds:=[.int ((2 * m:Nat):Int),.tuple ((OM.bR 8 (OM.Mem ps)).map ao)]) ?_ (by simp)
  rw[bD,aA (x:=.int 2) (y:=.int m) rfl rfl g2]
  dsimp only[R.bnd]
  rw[bD,bX (bX (x:=.list (ps.map ao)) rfl g9) (by rfl)];rfl
 rw[dN]
 show oW (toS (aW (ae (f2 (cst (.int 2)) (gv 1) cK) (ae (f1 (f1 (gv 3) iH) gS) ah)) [Nv.bx,.da (.int m),.da (.list (ms.map int)),.da (.list (ps.map ao)),s.val,t.val] β') _)=_
 rw[e9];rfl
noncomputable def anyF:List D->Int->FB:=kF 5 1 (dq vW bG uC eJ o8)
def Bi {t:Tg}{fe:VF D}{vs vs0 vs1:List Nv}{d0 d1 x0 x1:D}{β β1 β2:Int}(h0:lO t d0 vs=some vs0)(e0:fe vs0 β=.ok x0 β1)(h1:lO t d1 vs=some vs1)(e1:fe vs1 β1=.ok x1 β2):fw t kG fe vs [d0,d1] β=.ok [x0,x1] β2:=by
 have q1:fw t kG fe vs [d1] β1=.ok [x1] β2:=by
  unfold fw
  rw[h1]
  dsimp only[kG,R.okb]
  rw[MJ rfl,e1];rfl
 unfold fw
 rw[h0]
 dsimp only[kG,R.okb]
 rw[MJ rfl,e0]
 dsimp only
 rw[q1]
def JB (β:Int):∃(n:Nat) (l:List Pr) (β':Int),anyF [.int 8] β=.ok (aC n l) false β'/\OM.Ord n l:=by
 obtain⟨j,hj,ej⟩:=cD (m:=5) (by omega) (by omega) β
 show ∃(n:Nat) (l:List Pr) (β':Int),oW (dq vW bG uC eJ o8 [.bx,.fz (.int 8),.no,.no,.no] β)=.ok (aC n l) false β'/\OM.Ord n l
 unfold dq
 generalize hβ1:β / ((5:Nat):Int)=β1 at ej
 have e1:fU 0 bG (ae (cst (.int 5)) ah) [Nv.bx,.da (.int 8),.no,.no,.no] β=.ok (.int j) β1:=bY (by rfl) rfl ej
 rw[aE (env':=[.bx,.fz (.int 8),.fz (.int j),.no,.no]) (β':=β1) ?g1]
 case g1=>
  show toS (fU 0 bG (ae (cst (.int 5)) ah) [Nv.bx,.da (.int 8),.no,.no,.no] β) _=_
  rw[e1];rfl
 have t4:cJ (f2 (gv 2) (cst (.int 4)) (cO false)) (vl [.bx,.fz (.int 8),.fz (.int j),.no,.no]) β1=.ok (decide ((j:Int)=4)) β1:=du (neg:=false) (i:=j) (j:=4) rfl rfl
 have t3:cJ (f2 (gv 2) (cst (.int 3)) (cO false)) (vl [.bx,.fz (.int 8),.fz (.int j),.no,.no]) β1=.ok (decide ((j:Int)=3)) β1:=du (neg:=false) (i:=j) (j:=3) rfl rfl
 by_cases c4:(j:Int)=4
 ·rw[MR c4] at t4
  obtain⟨n,l,β',ec,O⟩:=Gs β1
  refine⟨n,l,β',?_,O⟩
  rw[fo (d:=aC n l) (b:=false) (β':=β') ?g]
  case g=>
   rw[gZ t4,dN]
   show toS (fU 0 uC ah [Nv.bx,.da (.int 8),.da (.int j),.no,.no] β1) _=_
   rw[bY (by rfl) rfl ec];rfl
  rfl
 rw[MW c4] at t4
 rw[aE (env':=[.bx,.fz (.int 8),.fz (.int j),.no,.no]) (β':=β1) ?g2]
 case g2=>rw[gY t4];rfl
 by_cases c3:(j:Int)=3
 ·rw[MR c3] at t3
  obtain⟨q,hq,eq⟩:=cD (m:=8) (by omega) (by omega) β1
  generalize hβ2:β1 / ((8:Nat):Int)=β2 at eq
  have e2:f2 (cst (.int 1)) (fU 0 bG (ae (gv 1) ah)) bM [Nv.bx,.da (.int 8),.da (.int j),.no,.no] β1=.ok (.int ((1 + q:Nat):Int)) β2:=by
   refine aA (x:=.int 1) rfl (bY (by rfl) rfl eq) ?_
   show some (int (1 + (q:Int)))=_
   rw[show ((1 + q:Nat):Int)=1 + (q:Int) by omega]
  have n1:1<=1 + q:=by omega
  have n8:1 + q<=8:=by omega
  generalize hn:1 + q=n at n1 n8 e2
  obtain⟨r0,β3,em0,hp0⟩:=pw (iY n) (by rw[gz];omega) β2
  obtain⟨r1,β4,em1,hp1⟩:=pw (iY n) (by rw[gz];omega) β3
  have hrow:∀(i:Int) (b b':Int) (r:List Int),eJ [.list ((iY n).map int)] b=.ok (.list (r.map int)) true b'->f1 (fU 1 eJ (ae (f1 (gv 2) cu) ah)) gS [Nv.da (.int i),.bx,.da (.int n)] b=.ok (tupI r) b':=by
   intro i b b' r em
   refine bX (x:=.list (r.map int)) (bY (ds:=[.list ((iY n).map int)]) (b:=true) (β1:=b) (by rfl) ?_ em) (by rfl)
   rw[bD,bX (x:=.int n) (d:=.list ((iY n).map int)) (β1:=b) rfl (k6 (by omega))];rfl
  have ec:aM 1 [0,3] (.nm 0) (bJ (cst (.int 2))) kG (f1 (fU 1 eJ (ae (f1 (gv 2) cu) ah)) gS) [Nv.bx,.da (.int 8),.da (.int j),.da (.int n),.no] β2=.ok (.list ([r0,r1].map tupI)) β4:=by
   unfold aM
   rw[cQ (n:=2) (β1:=β2) rfl (by omega)]
   dsimp only[R.bnd]
   rw[MJ (sz _ (by rw[fY];omega))]
   have q2:cB 0 2= [.int 0,.int 1]:=rfl
   rw[q2,Bi (vs0:=[.da (.int 0),.bx,.da (.int n)]) (vs1:=[.da (.int 1),.bx,.da (.int n)]) rfl (hrow 0 _ _ _ em0) rfl (hrow 1 _ _ _ em1)];rfl
  have hP:∀r,r∈ [r0,r1]->r.Perm (iY n):=λr hr=>by
   rcases MN.mp hr with z |z
   ·rw[z];exact hp0
   ·rw[Nc.mp z];exact hp1
  refine⟨n,(OM.cq n).filter (lN [r0,r1]),β4,?_,BL n1 n8 (by simp) hP⟩
  rw[fo (d:=aC n ((OM.cq n).filter (lN [r0,r1]))) (b:=false) (β':=β4) ?g]
  case g=>
   rw[gZ t3]
   rw[aE (env':=[.bx,.fz (.int 8),.fz (.int j),.fz (.int n),.no]) (β':=β2) ?k1]
   case k1=>
    rw[c6]
    show toS (f2 (cst (.int 1)) (fU 0 bG (ae (gv 1) ah)) bM [Nv.bx,.da (.int 8),.da (.int j),.no,.no] β1) _=_
    rw[e2];rfl
   rw[aE (env':=[.bx,.fz (.int 8),.fz (.int j),.fz (.int n),.fz (.list ([r0,r1].map tupI))]) (β':=β4) ?k2]
   case k2=>
    rw[c6]
    show toS (aM 1 [0,3] (.nm 0) (bJ (cst (.int 2))) kG (f1 (fU 1 eJ (ae (f1 (gv 2) cu) ah)) gS) [Nv.bx,.da (.int 8),.da (.int j),.da (.int n),.no] β2) _=_
    rw[ec];rfl
   rw[dN]
   show toS (aW (ae (gv 3) (ae (aF vW (ae (gv 3) (ae (gv 4) ah))) ah)) [Nv.bx,.da (.int 8),.da (.int j),.da (.int n),.da (.list ([r0,r1].map tupI))] β4) _=_
   have a1:aF vW (ae (gv 3) (ae (gv 4) ah)) [Nv.bx,.da (.int 8),.da (.int j),.da (.int n),.da (.list ([r0,r1].map tupI))] β4=.ok (.tuple (((OM.cq n).filter (lN [r0,r1])).map ao)) β4:=aI rfl (IL n8 (by simp) hP)
   rw[jd (ds:=[.int n,.tuple (((OM.cq n).filter (lN [r0,r1])).map ao)]) (β1:=β4) ?k3 (by simp)]
   case k3=>
    rw[bD]
    show (R.ok (int n) β4).bnd _=_
    dsimp only[R.bnd]
    rw[bD,a1];rfl
   rfl
  rfl
 rw[MW c3] at t3
 rw[aE (env':=[.bx,.fz (.int 8),.fz (.int j),.no,.no]) (β':=β1) ?g3]
 case g3=>rw[gY t3];rfl
 obtain⟨n,l,β',eo,O,_⟩:=Ea (most:=8) (by omega) (by omega) β1
 refine⟨n,l,β',?_,O⟩
 rw[dN]
 show oW (toS (fU 0 o8 (ae (gv 1) ah) [Nv.bx,.da (.int 8),.da (.int j),.no,.no] β1) _)=_
 rw[bY (by rfl) rfl eo];rfl
structure WP (r:SO)(Q:SO->Prop):Prop where
 out:Q r
section
variable {m m' m1 m2:SF}{env env1:En}{β β1 β2 z:Int}{Q:SO->Prop}{f fa fb:VF D}{t:VF Bool}{d e:D}{L La Lb:List Nat}{i j:Nat}{c:Bool}
def wp_at (env1:En)(e:env=env1)(k:WP (m env1 β) Q):WP (m env β) Q:=by rw[e];exact k
def wp_seq (h:m env β=.nx env1 β1)(k:WP (m' env1 β1) Q):WP (aH m m' env β) Q:=by rw[aE h];exact k
theorem qF (h:WP (aH m mj env β) Q):WP (m env β) Q:=by
 obtain⟨h⟩:=h
 unfold aH at h
 cases e:m env β with
 |_=>rw[e] at h;exact⟨h⟩
def oJ (q:Q (.nx env β)):WP (mj env β) Q:=⟨q⟩
def dH (h:f (vl env) β=.ok d β1)(k:WP (m' ((bg L env).set i (.fz d)) β1) Q):WP (aH (bc i L f) m' env β) Q:=wp_seq (by unfold bc;rw[h];rfl) k
def pf (h:f (vl env) β=.ok d β1)(k:WP (m' ((bg L env).set i (.ow d)) β1) Q):WP (aH (kx i L f) m' env β) Q:=wp_seq (by unfold kx;rw[h];rfl) k
def Ft (h:f (vl env) β=.ok (.list [.int z]) β1)(k:WP (m' ((rF (bg L env)).set i .bx) z) Q):WP (aH (zD i L f) m' env β) Q:=wp_seq (by unfold zD;rw[h];rfl) k
def y0 (h:f (vl env) β=.ok d β1)(k:WP (m' (bg L env) β1) Q):WP (aH (rV L f) m' env β) Q:=wp_seq (by unfold rV;rw[h];rfl) k
def wp_bind {t:Tg}(h:f (vl env) β=.ok d β1)(hb:fO t d (bg L env)=some env1)(k:WP (m' env1 β1) Q):WP (aH (qH t L f) m' env β) Q:=wp_seq (by unfold qH;rw[h];dsimp only[toS];rw[hb]) k
def C4 {ds:List D}(hi:env[i]? =some (.ow (.list ds)))(h:f (vl env) β=.ok d β1)(hL:(bg L env)[i]? =some (.ow (.list ds)))(hz:ds.length<=1000)(k:WP (m' ((bg L env).set i (.ow (.list (ds ++ [d])))) β1) Q):WP (aH (oo i L f) m' env β) Q:=wp_seq (tY hi h hL hz) k
def mI (h:t (vl env) β=.ok false β1)(k:WP (m' (bg L env) β1) Q):WP (aH (kA L t m1 mj) m' env β) Q:=wp_seq (by rw[gY h];rfl) k
def hV (h:t (vl env) β=.ok true β1)(k:WP (aH m1 m' (bg L env) β1) Q):WP (aH (kA L t m1 m2) m' env β) Q:=by
 have:aH (kA L t m1 m2) m' env β=aH m1 m' (bg L env) β1:=by unfold aH;rw[gZ h]
 rw[this];exact k
def K5 (h:t (vl env) β=.ok true β1)(k:WP (m1 (bg L env) β1) Q):WP (kA L t m1 m2 env β) Q:=by rw[gZ h];exact k
def Jl (h:t (vl env) β=.ok false β1)(k:WP (m2 (bg L env) β1) Q):WP (kA L t m1 m2 env β) Q:=by rw[gY h];exact k
def qG (h:f (vl env) β=.ok d β1)(q:Q (.rt d false β1)):WP (bI f env β) Q:=⟨by unfold bI;rw[h];exact q⟩
def jn (h:f (vl env) β=.ok d β1)(q:Q (.rt d false β1)):WP (aH (bI f) m' env β) Q:=⟨by unfold aH bI;rw[h];exact q⟩
def ze (h:f (vl env) β=.ok d β1)(q:Q (.rt d true β1)):WP (kJ f env β) Q:=⟨by unfold kJ;rw[h];exact q⟩
def kR {R:FR}(h:WP (m env β) λr=>fin r=R):fin (m env β)=R:=h.out
def ue {t:Tg}{fi:VF (List D)}{ds:List D}(I:Nat->En->Int->Prop)(hi:fi (vl env) β=.ok ds β1)(h0:I 0 (bg L env) β1)
  (hs:∀i d env β,ds[i]? =some d->I i env β->∃env1,fO t d env=some env1/\WP (m env1 β) λr=>∃env2 β2,r=.nx env2 β2/\I (i + 1) env2 β2)
  (k:∀env β,I ds.length env β->WP (m' env β) Q):WP (aH (eN t L fi m) m' env β) Q:=by
 obtain⟨env',β',e,h⟩:=dJ (t:=t) (m:=m) I (ds:=ds) (k:=0) h0 λi d env β hd h=>by
  rw[NK] at h
  obtain⟨env1,e1,⟨env2,β2,e2,h2⟩⟩:=hs i d env β hd h
  exact⟨env1,e1,env2,β2,e2,by rw[NK];exact h2⟩
 rw[NK] at h
 exact wp_seq ((iO hi).trans e) (k _ _ h)
def vf {n:Nat}(I:Nat->En->Int->Prop)(Dn:En->Int->Prop)(b:Nat)(hb:b < n)(h0:I b env β)
  (hs:∀k env β,I k env β->∃c β1,t (vl env) β=.ok c β1/\((c=false/\Dn (bg L env) β1)\/(c=true/\WP (m (bg L env) β1) λr=>∃env2 β2 k',r=.nx env2 β2/\k' < k/\I k' env2 β2)))
  (k:∀env β,Dn env β->WP (m' env β) Q):WP (aH (gV L t m n) m' env β) Q:=by
 obtain⟨env',β',e,h⟩:=j9 (L:=L) (t:=t) (m:=m) I Dn (n:=n) hb h0 λk env β h=>by
  obtain⟨c,β1,e1,h⟩:=hs k env β h
  refine⟨c,β1,e1,?_⟩
  rcases h with h | ⟨h1,⟨h2⟩⟩
  ·exact .inl h
  ·exact .inr ⟨h1,h2⟩
 exact wp_seq e (k _ _ h)
end
def Dj (c:Int)(hc:0<=c/\c<=100)(ns:List Int)(vs:List Nv)(β:Int)(h:gv 0 vs β=.ok (dv ns) β):∃m:Nat,m<=101/\bJ (f2 (cst (.int 1)) (f2 (f1 (gv 0) dB) (cst (.int c)) (x6 λi j=>.int (if j < i then j else i))) (x6 λi j=>.int (if j > i then j else i))) vs β=.ok (cB 0 m) β:=by
 have e1:f2 (cst (.int 1)) (f2 (f1 (gv 0) dB) (cst (.int c)) (x6 λi j=>.int (if j < i then j else i))) (x6 λi j=>.int (if j > i then j else i)) vs β=.ok (.int (if (if c < ((ns.map int).length:Int) then c else ((ns.map int).length:Int)) > 1 then (if c < ((ns.map int).length:Int) then c else ((ns.map int).length:Int)) else 1)) β:=
  aA (x:=.int 1) rfl (aA (x:=.int (ns.map int).length) (y:=.int c) (bX h rfl) rfl rfl) rfl
 generalize ((ns.map int).length:Nat)=k at e1
 refine⟨(if (if c < (k:Int) then c else (k:Int)) > 1 then (if c < (k:Int) then c else (k:Int)) else 1).toNat,?_,cQ (e1.trans ?_) ?_⟩
 ·split <;> split <;> omega
 ·congr 2
  split <;> split <;> omega
 ·split <;> split <;> omega
def It (d:D):Prop:=cP d=false/\Sq 400 8 d/\Bf d
def Th (d:D):Prop:=Ge d/\Sq 10000 9 d/\Bf d
def B3 {ds:List D}{k:Nat}(h:k < ds.length):∃d,ds[k]? =some d/\d∈ds/\jv ds (k:Int)=some d:=⟨ds[k],MG h,NI h,fH (MG h)⟩
def G8 {fa fb:VF D}{vs:List Nv}{β β1 β2:Int}{a b:List D}(h1:fa vs β=.ok (.list a) β1)(h2:fb vs β1=.ok (.list b) β2)(hz:a.length + b.length<=1000):f2 fa fb eY vs β=.ok (.list (a ++ b)) β2:=aA h1 h2 (i8 (by omega))
def MB {fa:VF D}{vs:List Nv}{β:Int}{i:Nat}(h:fa vs β=.ok (.int (i:Nat)) β):f2 fa (cst (.int 1)) bM vs β=.ok (.int ((i + 1:Nat):Int)) β:=aA h rfl (by show some (int ((i:Int) + 1))=_;rw[show ((i + 1:Nat):Int)=(i:Int) + 1 by omega])
section
variable {m m' m1 m2:SF}{env env1:En}{β β1 β2 z:Int}{Q:SO->Prop}{f fa fb:VF D}{t:VF Bool}{d e:D}{L La Lb:List Nat}{i j:Nat}{c:Bool}
theorem Fg (h:WP (m env β) λr=>(∀a b,r≠.nx a b)/\Q r):WP (aH m m' env β) Q:=by
 obtain⟨h1,h2⟩:=h.out
 refine⟨?_⟩
 unfold aH
 cases e:m env β with
 |nx a b=>exact absurd e (h1 a b)
 |_=>rw[e] at h2;exact h2
theorem Iu (J:En->Int->Prop)(h:∃c β1,t (vl env) β=.ok c β1/\(c=true->WP (m1 (bg L env) β1) λs=>∃env2 β2,s=.nx env2 β2/\J env2 β2)/\(c=false->WP (m2 (bg L env) β1) λs=>∃env2 β2,s=.nx env2 β2/\J env2 β2))(k:∀env β,J env β->WP (m' env β) Q):WP (aH (kA L t m1 m2) m' env β) Q:=by
 obtain⟨c,β1,e,h1,h2⟩:=h
 cases c with
 |true=>obtain⟨env2,β2,e2,hj⟩:=(h1 rfl).out;exact wp_seq ((gZ e).trans e2) (k _ _ hj)
 |false=>obtain⟨env2,β2,e2,hj⟩:=(h2 rfl).out;exact wp_seq ((gY e).trans e2) (k _ _ hj)
end
def kC (ps:List Pr):D:=.dict (ps.map λp=>(ao p,.bool true))
theorem Cw:∀ps:List Pr,Eg (ps.map λp=>PyData.tuple [ao p,.bool true])=some (ps.map λp=>(p,PyData.bool true))
 | []=>rfl
 |p :: ps=>by
  rw[Ng]
  unfold Eg
  rw[Cw ps];rfl
theorem vj:∀{L acc:List (Pr×D)},((acc ++ L).map (·.1)).Nodup->L.foldl (λa x=>vD a x.1 x.2) acc=acc ++ L
 | [],acc,_=>by rw[Oh];rfl
 |x :: L,acc,h=>by
  rw[OA]
  have e:vD acc x.1 x.2=acc ++ [x]:=by
   unfold vD
   rw[MO]
   rw[Bool.not_eq_true,List.any_eq_false]
   intro y hy
   rw[M4]
   intro z
   rw[Nz,O0] at h
   exact h.2.2 y.1 (MQ.mpr ⟨y,hy,rfl⟩) x.1 (MQ.mpr ⟨x,MP ..,rfl⟩) z
  rw[e,vj (by rw[N9];exact h),N9];rfl
def Cn {ps:List Pr}(nd:ps.Nodup):xV (.list (ps.map λp=>PyData.tuple [ao p,.bool true]))=some (kC ps):=by
 show (Eg (ps.map λp=>PyData.tuple [ao p,.bool true])).map _=_
 rw[Cw,Option.map_some,vj (by rw[nil_append,NQ];simpa[Function.comp_def] using nd),nil_append,NQ];rfl
theorem Ct:∀ps:List Pr,zP (ps.map λp=>(ao p,PyData.bool true))=some ps
 | []=>rfl
 |p :: ps=>by
  rw[Ng]
  show (zP (ps.map λp=>(ao p,PyData.bool true))).map _=_
  rw[Ct ps];rfl
def yX (neg:Bool)(p:Pr)(ps:List Pr):oU neg (ao p) (kC ps)=some (.bool (if neg then !decide (p∈ps) else decide (p∈ps))):=by
 show (zP (ps.map λp=>(ao p,PyData.bool true))).map _=_
 rw[Ct];rfl
noncomputable def K0:List D->FR:=bq 1 1 (jW xI)
def G9 (n:Nat)(l:List Pr):(c5 n l).Nodup:=OM.iB (z5 n l)
def Lp {n:Nat}{l:List Pr}(O:OM.Ord n l):K0 [aC n l]=.ok (kC (c5 n l)) false:=by
 show fin (jW xI [.fz (aC n l)] 0)=_
 have hz:(c5 n l).length<=64:=uN O.hi
 refine kR (qG (β1:=0) (bX (β1:=0) (cy (l:=c5 n l) (e:=ao) (λp=>PyData.tuple [ao p,.bool true]) ?_ (by omega) λp hp=>⟨[.da (ao p)],rfl,tp (ds:=[ao p,.bool true]) rfl⟩) (Cn (G9 n l))) rfl)
 unfold bQ
 rw[aI (ds:=[aC n l]) rfl (FK O)];rfl
def An (l:List Pr)(p q:Pr):Bool:=if p.1=q.1/\p.2≠q.2 then !ox l (p.2,q.2) else decide (p.2=q.2) && (!decide (p.1=q.1) && !ox l (p.1,q.1))
def sU (n:Nat)(l:List Pr)(p:Pr):List Pr:=(c5 n l).filter (An l p)
def nq (n:Nat)(l:List Pr)(b:Int):List Int:=(iY n).filter λc=> !decide (c=b) && !decide (((b,c):Pr)∈c5 n l)
noncomputable def J8:List D->FR:=bq 8 3 fj
def Ca {n:Nat}{l:List Pr}{b:Int}{i:Nat}{vs:List Nv}{β:Int}(h8:n<=8)(h1:gv 1 vs β=.ok (.int n) β)(hi:vs[i]? =some (.da (.int b)))(h0:vs[0]? =some (.da (kC (c5 n l)))):aM 1 [i,0] (.nm 0) (bJ (gv 1)) (A3 (cJ (f2 (gv 0) (gv 1) (cO true))) (cJ (f2 (aW (ae (gv 1) (ae (gv 0) ah))) (gv 2) (oU true)))) (gv 0) vs β=.ok (.list ((nq n l b).map int)) β:=by
 have hb:fM 1 [i,0] vs= [.no,.da (.int b),.da (kC (c5 n l))]:=by simp[fM,hi,h0]
 refine dS (l:=iY n) (e:=int) _ int ?_ (by rw[gz];omega) λc hc=>⟨[.da (.int c),.da (.int b),.da (kC (c5 n l))],by rw[hb];rfl,uR (du (neg:=true) (i:=c) (j:=b) rfl rfl) (dG _ _ _ _ (aA (dI (a:=b) (b:=c) rfl rfl) rfl (yX true (b,c) (c5 n l)))),λ_=>rfl⟩
 rw[<-nN];exact cQ (n:=n) h1 (by omega)
def uW {n:Nat}{l:List Pr}{p q:Pr}:q∈sU n l p↔q∈c5 n l/\An l p q=true:=M8
def m8 {n:Nat}{l:List Pr}{b c:Int}(hb:0<=b/\b < n):c∈nq n l b↔(0<=c/\c < n)/\c≠b/\ox l (b,c)=false:=by
 unfold nq
 rw[M8,fy,MS,NT,NT,NZ,NZ]
 constructor
 ·rintro⟨h1,h2,h3⟩
  refine⟨h1,h2,?_⟩
  cases e:ox l (b,c) with
  |false=>rfl
  |true=>exact absurd (fA.mpr ⟨⟨hb,h1⟩,e⟩) h3
 ·rintro⟨h1,h2,h3⟩
  exact⟨h1,h2,λz=>by have:=(fA.mp z).2;rw[h3] at this;cases this⟩
def pS (n:Nat)(l:List Pr)(p:Pr):List Pr:=((nq n l p.2).map λc=>(p.1,c)) ++ (nq n l p.1).map λc=>(c,p.2)
def IU {n:Nat}{l:List Pr}{p:Pr}(hp:p∈c5 n l):(pS n l p).Nodup:=by
 obtain⟨hr,_⟩:=fA.mp hp
 have nd:∀b,(nq n l b).Nodup:=λb=>(lH n).sublist List.filter_sublist
 unfold pS
 rw[O0]
 refine⟨List.Pairwise.map _ (λa b h z=>h (by cases z;rfl)) (nd _),List.Pairwise.map _ (λa b h z=>h (by cases z;rfl)) (nd _),λx hx y hy z=>?_⟩
 obtain⟨c,hc,rfl⟩:=MQ.mp hx
 obtain⟨e,he,rfl⟩:=MQ.mp hy
 exact ((m8 hr.2).mp hc).2.1 (congrArg Prod.snd z)
def EO {n:Nat}{l:List Pr}{p q:Pr}(hp:p∈c5 n l):(q∈pS n l p/\q∈c5 n l)↔q∈sU n l p:=by
 obtain⟨hr,_⟩:=fA.mp hp
 rw[uW]
 unfold pS An
 rw[M6,MQ,MQ]
 constructor
 ·rintro⟨h |h,ht⟩
  ·obtain⟨c,hc,rfl⟩:=h
   obtain⟨_,h2,h3⟩:=(m8 hr.2).mp hc
   refine⟨ht,?_⟩
   rw[MJ ⟨rfl,λz=>h2 z.symm⟩,h3];rfl
  ·obtain⟨c,hc,rfl⟩:=h
   obtain⟨_,h2,h3⟩:=(m8 hr.1).mp hc
   refine⟨ht,?_⟩
   rw[MO (λz=>h2 z.1.symm),h3]
   simp
   exact λz=>h2 z.symm
 ·rintro⟨ht,h⟩
  obtain⟨hq,_⟩:=fA.mp ht
  refine⟨?_,ht⟩
  split at h
  ·rename_i c
   rw[NT] at h
   exact .inl ⟨q.2,(m8 hr.2).mpr ⟨hq.2,λz=>c.2 z.symm,h⟩,by rw[c.1]⟩
  ·simp only[MS,M4,NT,NZ] at h
   exact .inr ⟨q.1,(m8 hr.1).mpr ⟨hq.1,λz=>h.2.1 z.symm,h.2.2⟩,by rw[h.1]⟩
def Gd {n:Nat}{l:List Pr}{p:Pr}(O:OM.Ord n l)(hp:p∈c5 n l):iH (.list (((pS n l p).filter λq=>decide (q∈c5 n l)).map ao))=some (.list ((sU n l p).map ao)):=by
 have hm:∀q,q∈(pS n l p).filter (λq=>decide (q∈c5 n l))↔q∈sU n l p:=λq=>by rw[M8,M4,EO hp]
 have hw:∀q,q∈sU n l p->q∈c5 n l:=λq h=>(uW.mp h).1
 rw[AB (N:=n) O.lo O.hi (λq hq=>(fA.mp (hw q ((hm q).mp hq))).1) ((IU hp).sublist List.filter_sublist) (λa ha=>by
  have:=(fA.mp (hw _ ((hm _).mp ha))).2
  unfold ox at this
  simp at this)]
 congr 3
 refine OM.fC (OM.cH _ _) (OM.de _ (z5 n l)) λq=>?_
 rw[OM.aX]
 show (_/\OM.Mem _ q.1 q.2)↔q∈sU n l p
 rw[<-hm q]
 constructor
 ·exact λh=>h.2
 ·intro h
  have:=(fA.mp (hw q ((hm q).mp h))).1
  have h8:=O.hi
  exact⟨⟨⟨this.1.1,by omega⟩,this.2.1,by omega⟩,h⟩
def LU {n:Nat}{l:List Pr}{p:Pr}(O:OM.Ord n l)(hp:p∈c5 n l):J8 [kC (c5 n l),.int n,ao p]=.ok (.list ((sU n l p).map ao)) true:=by
 have h8:=O.hi
 show fin (fj [.fz (kC (c5 n l)),.fz (.int n),.fz (ao p),.no,.no,.no,.no,.no] 0)=_
 refine kR ?_
 unfold fj
 have hsl:∀b,(nq n l b).length<=8:=λb=>NA (NR ..) (by rw[gz];exact h8)
 have hfl:(pS n l p).length<=16:=by have h1:=hsl p.1;have h2:=hsl p.2;unfold pS;rw[Nf,ML,ML];omega
 refine dH (d:=.int p.1) (β1:=0) rfl (dH (d:=.int p.2) (β1:=0) rfl (wp_at [.fz (kC (c5 n l)),.fz (.int n),.fz (ao p),.fz (.int p.1),.fz (.int p.2),.no,.no,.no] rfl ?_))
 refine dH (Ca (n:=n) (l:=l) (b:=p.2) h8 rfl rfl rfl) (wp_at [.fz (kC (c5 n l)),.fz (.int n),.fz (ao p),.fz (.int p.1),.fz (.int p.2),.fz (.list ((nq n l p.2).map int)),.no,.no] rfl ?_)
 refine dH (Ca (n:=n) (l:=l) (b:=p.1) h8 rfl rfl rfl) (wp_at [.fz (kC (c5 n l)),.fz (.int n),.fz (ao p),.fz (.int p.1),.fz (.int p.2),.fz (.list ((nq n l p.2).map int)),.fz (.list ((nq n l p.1).map int)),.no] rfl ?_)
 have e1:=hsl p.1
 have e2:=hsl p.2
 have hf:((pS n l p).map ao)=((nq n l p.2).map λc=>ao (p.1,c)) ++ (nq n l p.1).map λc=>ao (c,p.2):=by unfold pS;rw[Nz,NQ,NQ];rfl
 have hsr:=Gd O hp
 generalize nq n l p.2=S at *
 generalize nq n l p.1=T at *
 refine dH (β1:=0) (G8 (β1:=0) (cy (l:=S) (e:=int) (λc=>ao (p.1,c)) rfl (by omega) λc hc=>⟨[.da (.int c),.da (.int p.1)],rfl,dI rfl rfl⟩) (cy (l:=T) (e:=int) (λc=>ao (c,p.2)) rfl (by omega) λc hc=>⟨[.da (.int c),.da (.int p.2)],rfl,dI rfl rfl⟩) (by rw[ML,ML];omega)) ?_
 rw[<-hf]
 exact ze (β1:=0) (bX (β1:=0) (dS (l:=pS n l p) (e:=ao) (λq=>decide (q∈c5 n l)) ao rfl (by omega) λq hq=>⟨[.da (ao q),.da (kC (c5 n l))],rfl,dG _ _ _ _ (aA (x:=ao q) (y:=kC (c5 n l)) rfl rfl (yX false q (c5 n l))),λ_=>rfl⟩) hsr) rfl
def uV (n:Int)(l:List Pr)(d:D):Bool:=G7 n d && match d with
 | .tuple [.int a,.int b]=>ox l (a,b)
 |_=>false
def Km {n:Int}{l:List Pr}{p:Pr}(h:(0<=p.1/\p.1 < n)/\(0<=p.2/\p.2 < n)):uV n l (ao p)=ox l p:=by
 show ((decide (0<=p.1/\p.1 < n) && decide (0<=p.2/\p.2 < n)) && ox l (p.1,p.2))=ox l p
 rw[MR h.1,MR h.2];rfl
noncomputable def KG:List D->FR:=bq 2 2 (lC KZ HN)
theorem LL {n:Nat}{l:List Pr}{d:D}(h:Ge d):KG [d,aC n l]=.ok (.bool (uV n l d)) false:=by
 show fin (lC KZ HN [.fz d,.fz (aC n l)] 0)=_
 unfold lC
 have e1:aF KZ (ae (gv 0) (ae (f2 (gv 1) (cst (.int 0)) bN) ah)) (vl [.fz d,.fz (aC n l)]) 0=.ok (.bool (G7 n d)) 0:=aI (ds:=[d,.int n]) rfl (Lo h)
 rw[dN]
 cases q:G7 n d with
 |false=>rw[q] at e1;rw[GR e1];unfold uV;rw[q];rfl
 |true=>
  rw[q] at e1
  obtain⟨p,rfl,hp⟩:=DN q
  rw[Km hp,GG e1 (aI (ds:=[aC n l,.int p.1,.int p.2]) rfl (Im n l p.1 p.2))];rfl
def Jg (n:Int)(l:List Pr):D->Bool
 | .list ds=>ds.all (uV n l)
 |_=>false
noncomputable def JN:List D->FR:=bq 2 2 (i5 KG)
theorem Jw {n:Nat}{l:List Pr}{d:D}(h:Gt d):JN [d,aC n l]=.ok (.bool (Jg n l d)) false:=by
 show fin (i5 KG [.fz d,.fz (aC n l)] 0)=_
 unfold i5
 have e1:=D8 (fa:=gv 0) (vs:=vl [.fz d,.fz (aC n l)]) (β:=0) rfl h.1
 rw[dN]
 cases q:Gj d with
 |false=>rw[q] at e1;rw[GR e1];cases d <;> first |rfl |cases q
 |true=>
  rw[q] at e1
  obtain⟨ds,rfl⟩:=zk q
  have hd:=h.2 ds rfl
  have ec:aM 1 [1] (.nm 0) (bQ (gv 0)) kG (aF KG (ae (gv 0) (ae (gv 1) ah))) (vl [.fz (.list ds),.fz (aC n l)]) 0=.ok (.list (ds.map λe=>PyData.bool (uV n l e))) 0:=
   lL (λe=>PyData.bool (uV n l e)) rfl (by omega) λe he=>⟨_,rfl,aI (ds:=[e,aC n l]) rfl (LL (hd.2 e he))⟩
  rw[GG e1 (pD ec)];rfl
theorem DA {n:Nat}{l:List Pr}:∀{ds:List D},ds.all (uV n l)=true->∃ps:List Pr,ds=ps.map ao/\∀p,p∈ps->ox l p=true
 | [],_=>⟨[],rfl,λp h=>by cases h⟩
 |d :: ds,h=>by
  rw[all_cons,MS] at h
  obtain⟨ps,rfl,hp⟩:=DA h.2
  have h1:=h.1
  unfold uV at h1
  rw[MS] at h1
  obtain⟨p,rfl,hb⟩:=DN h1.1
  refine⟨p :: ps,rfl,λq hq=>?_⟩
  rcases MN.mp hq with rfl |hq
  ·exact h1.2
  ·exact hp q hq
theorem Ij {n:Int}{l:List Pr}{x y:D}(h:(oV x && oV y)=false):uV n l (.tuple [x,y])=false:=by
 unfold uV G7
 cases x with
 |int a=>
  cases y with
  |int b=>cases h
  |_=>simp[kX]
 |_=>simp[kX]
noncomputable def Jd:List D->FR:=bq 2 2 (fF KU jP)
theorem Jn {n:Nat}{l:List Pr}{d:D}(O:OM.Ord n l)(h:Ge d):Jd [aC n l,d]=.ok (.bool (uV n l d)) false:=by
 show fin (fF KU jP [.fz (aC n l),.fz d] 0)=_
 unfold fF
 have g1:gv 1 (vl [.fz (aC n l),.fz d]) 0=.ok d 0:=rfl
 have t1:=GK g1 h.1
 cases hy:CI d with
 |false=>
  rw[hy] at t1
  rw[fo (d:=.bool false) (b:=false) (β':=0) ?a]
  ·cases d <;> first |rfl |cases hy
  case a=>rw[gZ (qy (cV t1))];rfl
 |true=>
  obtain⟨es,rfl⟩:=zm hy
  rw[hy] at t1
  have t2:=BZ (k:=2) g1
  rcases qX (es:=es) with⟨q,z⟩ | ⟨x,y,rfl⟩
  ·rw[q] at t2
   rw[show uV n l (.tuple es)=false by unfold uV;rw[z];rfl,fo (d:=.bool false) (b:=false) (β':=0) (by rw[gZ (fP (cV t1) (qy t2))];rfl)];rfl
  ·have hs:=(h.2 _ rfl).2
   have ec:aM 1 [] (.nm 0) (bQ (gv 1)) kG (aF KU (ae (gv 0) ah)) (vl [.fz (aC n l),.fz (.tuple [x,y])]) 0=.ok (.list ([x,y].map λe=>PyData.bool (oV e))) 0:=
    lL (λe=>PyData.bool (oV e)) rfl (by simp) λe he=>⟨_,rfl,aI (ds:=[e]) rfl (L1 (hs e he))⟩
   have ea:=pD ec
   have e2: [x,y].all oV=(oV x && oV y):=by simp
   rw[e2] at ea
   cases hw:(oV x && oV y) with
   |false=>
    rw[hw] at ea
    rw[Ij hw,fo (d:=.bool false) (b:=false) (β':=0) (by rw[gZ (fP (cV t1) (fP t2 (cV (iL ea))))];rfl)];rfl
   |true=>
    rw[hw] at ea
    rw[MS] at hw
    cases x with
    |int a=>
     cases y with
     |int b=>
      rw[aE (env':=[.fz (aC n l),.fz (.tuple [.int a,.int b])]) (β':=0) (by rw[gY (fP (cV t1) (fP t2 (cV (iL ea))))];rfl)]
      have eg:f2 (gv 1) (aF jP (ae (gv 0) ah)) (xf false) (vl [.fz (aC n l),.fz (.tuple [.int a,.int b])]) 0=.ok (.bool (decide (((a,b):Pr)∈c5 n l))) 0:=aA (x:=ao (a,b)) (y:=.list ((c5 n l).map ao)) rfl (aI (ds:=[aC n l]) rfl (wW O)) (y6 false (a,b) (c5 n l))
      rw[dN,eg]
      show FR.ok (.bool (decide (((a,b):Pr)∈c5 n l))) false=.ok (.bool ((decide (0<=a/\a < (n:Int)) && decide (0<=b/\b < (n:Int))) && ox l (a,b))) false
      congr 2
      rw[ND,M4,fA,MS,MS,M4,M4]
     |_=>cases hw.2
    |_=>cases hw.1
def GF {d:List D}{vs:List Nv}(h:gv 0 vs 0=.ok (.list d) 0):cJ (f2 (gv 0) (ba ah) xj) vs 0=.ok d.isEmpty 0:=dG _ _ _ _ (aA h (lp (ds:=[]) an) rfl)
def Eh (d:D):Prop:=Gt d/\AM d=true
def hZ {ds:List D}(hl:ds.length<=100)(h:∀e,e∈ds->El e):Eh (.list ds):=by
 refine⟨⟨rfl,λes e=>by cases e;exact⟨hl,λx hx=>(h x hx).1⟩⟩,BQ (CK (c:=100) (k:=8) λd hd=>(h d hd).2.1) ?_ (by omega) (DB λd hd=>(h d hd).2.2)⟩
 have:(100 + 2) * ds.length<=102 * 100:=Nat.mul_le_mul_left _ hl
 omega
def yQ {ds:List D}(hl:ds.length<=100)(h:∀e,e∈ds->El e):Eh (.tuple ds):=by
 refine⟨⟨rfl,λes e=>by cases e⟩,BQ (B7 (c:=100) (k:=8) λd hd=>(h d hd).2.1) ?_ (by omega) (DV λd hd=>(h d hd).2.2)⟩
 have:(100 + 2) * ds.length<=102 * 100:=Nat.mul_le_mul_left _ hl
 omega
def E9 {o:D}(h:o∈iZ):Eh o:=by
 obtain⟨h1,h2,h3,h4⟩:=zh o h
 refine⟨⟨h3,λds e=>?_⟩,BQ (c:=60) (k:=5) h1 (by omega) (by omega) h2⟩
 subst e
 simp only[iZ,MN,Od,or_false,PyData.list.injEq,reduceCtorEq,false_or] at h
 rcases h with rfl |rfl
 ·exact⟨by simp,λe he=>by cases he⟩
 ·exact⟨by simp,λe he=>by rw[Nc] at he;subst he;exact⟨rfl,λes e=>by cases e⟩⟩
def DZ {ps:List Pr}(hl:ps.length<=100):Gt (.list (ps.map ao)):=⟨rfl,λds e=>by
 cases e
 refine⟨by rw[ML];exact hl,λe he=>?_⟩
 obtain⟨p,_,rfl⟩:=MQ.mp he
 exact Cv (es:=[.int p.1,.int p.2]) (by simp) (ij rfl rfl)⟩
def zI {ps:List Pr}(hl:ps.length<=100)(h:∀p,p∈ps->Sp p):Eh (.list (ps.map ao)):=hZ (by rw[ML];exact hl) λe he=>by
 obtain⟨p,hp,rfl⟩:=MQ.mp he
 exact pR (h p hp)
def FA:List D->FR:=bq 7 3 (gr ug)
def JO (n:Nat)(l:List Pr)(p q:Pr):FA [aC n l,ao p,ao q]=.ok (.bool (An l p q)) false:=by
 show fin (gr ug [.fz (aC n l),.fz (ao p),.fz (ao q),.no,.no,.no,.no] 0)=_
 refine kR ?_
 unfold gr
 refine wp_bind (d:=ao p) (β1:=0) rfl (env1:=[.fz (aC n l),.fz (ao p),.fz (ao q),.fz (.int p.1),.fz (.int p.2),.no,.no]) rfl (wp_bind (d:=ao q) (β1:=0) rfl (env1:=[.fz (aC n l),.fz (ao p),.fz (ao q),.fz (.int p.1),.fz (.int p.2),.fz (.int q.1),.fz (.int q.2)]) rfl ?_)
 have t:=uR (du (neg:=false) (fa:=gv 3) (fb:=gv 5) (vs:=vl [.fz (aC n l),.fz (ao p),.fz (ao q),.fz (.int p.1),.fz (.int p.2),.fz (.int q.1),.fz (.int q.2)]) (β:=0) (i:=p.1) (j:=q.1) rfl rfl) (du (neg:=true) (fa:=gv 4) (fb:=gv 6) (vs:=vl [.fz (aC n l),.fz (ao p),.fz (ao q),.fz (.int p.1),.fz (.int p.2),.fz (.int q.1),.fz (.int q.2)]) (β:=0) (i:=p.2) (j:=q.2) rfl rfl)
 unfold An
 by_cases c:p.1=q.1/\p.2≠q.2
 ·rw[MJ c]
  rw[MR c.1,MW c.2] at t
  exact hV t (jn (β1:=0) (bX (g:=rm) (x:=.bool (ox l (p.2,q.2))) (aI (ds:=[aC n l,.int p.2,.int q.2]) rfl (CL n l p.2 q.2)) (by cases ox l (p.2,q.2) <;> rfl)) rfl)
 ·rw[MO c]
  have hc:((if false=true then !decide (p.1=q.1) else decide (p.1=q.1)) && (if true=true then !decide (p.2=q.2) else decide (p.2=q.2)))=false:=by
   simp
   simpa using c
  rw[hc] at t
  refine mI t (qG (β1:=0) (mW (aA (x:=.int p.2) (y:=.int q.2) rfl rfl (pC false p.2 q.2)) (mW (aA (x:=.int p.1) (y:=.int q.1) rfl rfl (pC true p.1 q.1)) (bX (g:=rm) (x:=.bool (ox l (p.1,q.1))) (d:=.bool (!ox l (p.1,q.1))) (aI (ds:=[aC n l,.int p.1,.int q.1]) rfl (CL n l p.1 q.1)) (by cases ox l (p.1,q.1) <;> rfl)))) rfl)
def Mi (l ps:List Pr):Bool:=(List.range (ps.length - 1)).all λi=>An l (ps.getD i (0,0)) (ps.getD (i + 1) (0,0))
def Jf (ps:List Pr):Bool:=decide (ps.getD (ps.length - 1) (0,0)=((ps.getD 0 (0,0)).2,(ps.getD 0 (0,0)).1))
def x8 {ps:List Pr}{i:Nat}(h:i < ps.length):jv (ps.map ao) (i:Int)=some (ao (ps.getD i (0,0))):=by
 rw[cX,fH (MG h),Nd,MG h];rfl
def HL {ps:List Pr}(h:0 < ps.length):jv (ps.map ao) (-1)=some (ao (ps.getD (ps.length - 1) (0,0))):=by
 rw[cX]
 have e:jv ps (-1)=ps[ps.length - 1]?:=by
  unfold jv AL
  rw[MO (by omega),MJ (by omega),show (-1 + (ps.length:Int)).toNat=ps.length - 1 by omega];rfl
 rw[e,MG (by omega),Nd,MG (by omega)];rfl
def Dd (neg:Bool)(p q:Pr):cO neg (ao p) (ao q)=some (.bool (if neg then !decide (p=q) else decide (p=q))):=by
 unfold cO
 rw[jK,jK]
 simp only[OC,NN,xU]
def getD_mem' {ps:List Pr}{i:Nat}(h:i < ps.length):ps.getD i (0,0)∈ps:=by
 rw[Nd,MG h];exact NI h
def J1:List D->FR:=bq 1 1 oF
def LX (p:Pr):J1 [ao p]=.ok (ao (p.2,p.1)) false:=rfl
noncomputable def JV:List D->FR:=bq 3 2 (iw kW JN J1 K0 J8)
def Kg {n:Nat}{l:List Pr}{d:D}(O:OM.Ord n l)(h:Gt d)(hts:Jg n l d=false):JV [d,aC n l]=.ok (.bool false) false:=by
 show fin (iw kW JN J1 K0 J8 [.fz d,.fz (aC n l),.no] 0)=_
 refine kR ?_
 unfold iw
 have e:=Jw (n:=n) (l:=l) h
 rw[hts] at e
 exact y0 (aI (ds:=[aC n l]) rfl (uz O)) (hV (qy (cV (iL (aI (ds:=[d,aC n l]) rfl e)))) (jn (d:=.bool false) rfl rfl))
def Jo {n:Nat}{l ps:List Pr}(O:OM.Ord n l)(hz:ps.length<=100)(hts:Jg n l (.list (ps.map ao))=true)(ht:∀p,p∈ps->p∈c5 n l):JV [.list (ps.map ao),aC n l]=.ok (.bool (!ps.isEmpty && (Jf ps && Mi l ps))) false:=by
 show fin (iw kW JN J1 K0 J8 [.fz (.list (ps.map ao)),.fz (aC n l),.no] 0)=_
 refine kR ?_
 unfold iw
 have e:=Jw (n:=n) (l:=l) (DZ hz)
 rw[hts] at e
 refine y0 (aI (ds:=[aC n l]) rfl (uz O)) (wp_at [.fz (.list (ps.map ao)),.fz (aC n l),.no] rfl ?_)
 have t1:=cV (iL (aI (F:=JN) (fr:=ae (gv 0) (ae (gv 1) ah)) (vs:=vl [.fz (.list (ps.map ao)),.fz (aC n l),.no]) (β:=0) (ds:=[.list (ps.map ao),aC n l]) rfl e))
 have g0:f1 (gv 0) dB (vl [.fz (.list (ps.map ao)),.fz (aC n l),.no]) 0=.ok (.int ps.length) 0:=by rw[nY (ds:=ps.map ao) rfl,ML]
 have t2:=du (neg:=false) g0 (show cst (.int 0) (vl [.fz (.list (ps.map ao)),.fz (aC n l),.no]) 0=.ok (.int 0) 0 from rfl)
 by_cases c:ps= []
 ·subst c
  exact hV (fP t1 (qy t2)) (jn (d:=.bool false) rfl rfl)
 ·have hp:0 < ps.length:=O8.mpr c
  have hemp:ps.isEmpty=false:=by cases ps with |nil=>exact absurd rfl c |cons _ _=>rfl
  rw[hemp]
  rw[show (if false=true then !decide ((ps.length:Int)=0) else decide ((ps.length:Int)=0))=false by simp;exact c] at t2
  have t3:cJ (f2 (f2 (gv 0) (f1 (cst (.int 1)) xJ) bN) (aF J1 (ae (f2 (gv 0) (cst (.int 0)) bN) ah)) (cO true)) (vl [.fz (.list (ps.map ao)),.fz (aC n l),.no]) 0=.ok (!Jf ps) 0:=dG _ _ _ _ (aA (aA (x:=.list (ps.map ao)) (y:=.int (-1)) rfl rfl (HL hp)) (aI (ds:=[ao (ps.getD 0 (0,0))]) (ac (aA (x:=.list (ps.map ao)) (y:=.int 0) rfl rfl (x8 (i:=0) hp)) an) (LX _)) (Dd true _ _))
  cases hb:Jf ps with
  |false=>
   rw[hb] at t3
   exact hV (fP t1 (fP t2 t3)) (jn (d:=.bool false) rfl rfl)
  |true=>
   rw[hb] at t3
   refine mI (fP t1 (fP t2 t3)) (wp_at [.fz (.list (ps.map ao)),.fz (aC n l),.no] rfl ?_)
   refine dH (aI (ds:=[aC n l]) rfl (Lp O)) (wp_at [.fz (.list (ps.map ao)),.fz (aC n l),.fz (kC (c5 n l))] rfl ?_)
   have er:m6 (cst (.int 1)) (f1 (gv 0) dB) (vl [.fz (.list (ps.map ao)),.fz (aC n l),.fz (kC (c5 n l))]) 0=.ok ((List.range (ps.length - 1)).map λ(k:Nat)=>int (1 + (k:Int))) 0:=by
    rw[vh (i:=1) (j:=ps.length) rfl (by rw[nY (ds:=ps.map ao) rfl,ML]) (by omega) (by omega)]
    unfold cB
    rw[show ((ps.length:Int) - 1).toNat=ps.length - 1 by omega]
   have ea:=zU (l:=List.range (ps.length - 1)) (f:=λi=>An l (ps.getD i (0,0)) (ps.getD (i + 1) (0,0))) (cy (own:=1) (ixs:=[0,2,1]) (t:=.nm 0) (fi:=m6 (cst (.int 1)) (f1 (gv 0) dB)) (fe:=f2 (f2 (gv 1) (gv 0) bN) (aF J8 (ae (gv 2) (ae (f2 (gv 3) (cst (.int 0)) bN) (ae (f2 (gv 1) (f2 (gv 0) (cst (.int 1)) lW) bN) ah)))) (xf false)) (vs:=vl [.fz (.list (ps.map ao)),.fz (aC n l),.fz (kC (c5 n l))]) (β:=0) (l:=List.range (ps.length - 1)) (e:=λ(k:Nat)=>int (1 + (k:Int))) (λi=>PyData.bool (An l (ps.getD i (0,0)) (ps.getD (i + 1) (0,0)))) er (by rw[N5];omega) λi hi=>⟨[.da (.int (1 + (i:Int))),.da (.list (ps.map ao)),.da (kC (c5 n l)),.da (aC n l)],rfl,by
    have hi:=M5.mp hi
    have m1:=ht _ (getD_mem' (ps:=ps) (i:=i) (by omega))
    have m2:=ht _ (getD_mem' (ps:=ps) (i:=i + 1) (by omega))
    have hd:decide (ps.getD (i + 1) (0,0)∈sU n l (ps.getD i (0,0)))=An l (ps.getD i (0,0)) (ps.getD (i + 1) (0,0)):=by
     rw[ND,M4,uW]
     exact⟨λz=>z.2,λz=>⟨m2,z⟩⟩
    have e1:=x8 (ps:=ps) (i:=i + 1) (by omega)
    rw[show ((i + 1:Nat):Int)=1 + (i:Int) by omega] at e1
    have e2:=x8 (ps:=ps) (i:=i) (by omega)
    have eg:=y6 false (ps.getD (i + 1) (0,0)) (sU n l (ps.getD i (0,0)))
    rw[MO (by decide),hd] at eg
    refine aA (aA (x:=.list (ps.map ao)) (y:=.int (1 + (i:Int))) rfl rfl e1) (aI (ds:=[kC (c5 n l),.int n,ao (ps.getD i (0,0))]) (ac rfl (ac (K4 (n:=n) (l:=l) rfl) (ac (aA (x:=.list (ps.map ao)) (y:=.int (i:Int)) rfl (aA (x:=.int (1 + (i:Int))) (y:=.int 1) rfl rfl ?_) e2) an))) (LU O m1)) eg
    show some (int (1 + (i:Int) - 1))=_
    rw[show 1 + (i:Int) - 1=(i:Int) by omega]⟩)
   exact qG ea rfl
noncomputable def J6:List D->FR:=bq 2 2 (cI Jd FA)
theorem Jv {n:Nat}{l:List Pr}{d:D}(O:OM.Ord n l)(h:Gt d)(hts:Jg n l d=false):J6 [d,aC n l]=.ok (.bool false) false:=by
 show fin (cI Jd FA [.fz d,.fz (aC n l)] 0)=_
 refine kR ?_
 unfold cI
 have e1:=D8 (fa:=gv 0) (vs:=vl [.fz d,.fz (aC n l)]) (β:=0) rfl h.1
 cases q:Gj d with
 |false=>rw[q] at e1;exact hV (qy (cV (iL e1))) (jn (d:=.bool false) rfl rfl)
 |true=>
  rw[q] at e1
  obtain⟨ds,rfl⟩:=zk q
  have hd:=h.2 ds rfl
  have t2:=GF (d:=ds) (vs:=vl [.fz (.list ds),.fz (aC n l)]) rfl
  have ea:=pD (lL (own:=1) (ixs:=[1]) (t:=.nm 0) (fi:=bQ (gv 0)) (fe:=aF Jd (ae (gv 1) (ae (gv 0) ah))) (vs:=vl [.fz (.list ds),.fz (aC n l)]) (β:=0) (ds:=ds) (λe=>PyData.bool (uV n l e)) rfl (by omega) λe he=>⟨_,rfl,aI (ds:=[aC n l,e]) rfl (Jn O (hd.2 e he))⟩)
  have hts:ds.all (uV n l)=false:=hts
  rw[hts] at ea
  cases ds with
  |nil=>cases hts
  |cons x ds=>exact hV (fP (cV (iL e1)) (fP t2 (cV (iL ea)))) (jn (d:=.bool false) rfl rfl)
theorem JZ {n:Nat}{l ps:List Pr}(O:OM.Ord n l)(hz:ps.length<=100)(hts:Jg n l (.list (ps.map ao))=true):J6 [.list (ps.map ao),aC n l]=.ok (.bool (!ps.isEmpty && (Jf ps && Mi l ps))) false:=by
 show fin (cI Jd FA [.fz (.list (ps.map ao)),.fz (aC n l)] 0)=_
 refine kR ?_
 unfold cI
 have hg:=DZ hz
 have e1:=D8 (fa:=gv 0) (vs:=vl [.fz (.list (ps.map ao)),.fz (aC n l)]) (β:=0) rfl hg.1
 have hd:=hg.2 _ rfl
 have t2:=GF (d:=ps.map ao) (vs:=vl [.fz (.list (ps.map ao)),.fz (aC n l)]) rfl
 have ea:=pD (lL (own:=1) (ixs:=[1]) (t:=.nm 0) (fi:=bQ (gv 0)) (fe:=aF Jd (ae (gv 1) (ae (gv 0) ah))) (vs:=vl [.fz (.list (ps.map ao)),.fz (aC n l)]) (β:=0) (ds:=ps.map ao) (λe=>PyData.bool (uV n l e)) rfl (by omega) λe he=>⟨_,rfl,aI (ds:=[aC n l,e]) rfl (Jn O (hd.2 e he))⟩)
 have hts:(ps.map ao).all (uV n l)=true:=hts
 rw[hts] at ea
 by_cases c:ps= []
 ·subst c
  exact hV (fP (cV (iL e1)) (qy t2)) (jn (d:=.bool false) rfl rfl)
 have hp:0 < ps.length:=O8.mpr c
 have hemp:ps.isEmpty=false:=by cases ps with |nil=>exact absurd rfl c |cons _ _=>rfl
 have hem2:(ps.map ao).isEmpty=false:=by cases ps with |nil=>exact absurd rfl c |cons _ _=>rfl
 rw[hemp]
 rw[hem2] at t2
 refine mI (fP (cV (iL e1)) (fP t2 (cV (iL ea)))) (wp_at [.fz (.list (ps.map ao)),.fz (aC n l)] rfl ?_)
 have t3:cJ (f2 (f2 (gv 0) (f1 (cst (.int 1)) xJ) bN) (f1 (f2 (gv 0) (cst (.int 0)) bN) uh) (cO true)) (vl [.fz (.list (ps.map ao)),.fz (aC n l)]) 0=.ok (!Jf ps) 0:=dG _ _ _ _ (aA (aA (x:=.list (ps.map ao)) (y:=.int (-1)) rfl rfl (HL hp)) (bX (d:=ao ((ps.getD 0 (0,0)).2,(ps.getD 0 (0,0)).1)) (aA (x:=.list (ps.map ao)) (y:=.int 0) rfl rfl (x8 (i:=0) hp)) rfl) (Dd true _ _))
 cases hb:Jf ps with
 |false=>rw[hb] at t3;exact hV t3 (jn (d:=.bool false) rfl rfl)
 |true=>
  rw[hb] at t3
  refine mI t3 (wp_at [.fz (.list (ps.map ao)),.fz (aC n l)] rfl ?_)
  have er:bJ (f2 (f1 (gv 0) dB) (cst (.int 1)) lW) (vl [.fz (.list (ps.map ao)),.fz (aC n l)]) 0=.ok ((List.range (ps.length - 1)).map λ(k:Nat)=>int (0 + (k:Int))) 0:=by
   rw[cQ (n:=ps.length - 1) (aA (x:=.int ps.length) (y:=.int 1) (by rw[nY (ds:=ps.map ao) rfl,ML]) rfl (by show some (int ((ps.length:Int) - 1))=_;rw[show ((ps.length - 1:Nat):Int)=(ps.length:Int) - 1 by omega])) (by omega)];rfl
  have ea:=zU (l:=List.range (ps.length - 1)) (f:=λi=>An l (ps.getD i (0,0)) (ps.getD (i + 1) (0,0))) (cy (own:=1) (ixs:=[1,0]) (t:=.nm 0) (fi:=bJ (f2 (f1 (gv 0) dB) (cst (.int 1)) lW)) (fe:=aF FA (ae (gv 1) (ae (f2 (gv 2) (gv 0) bN) (ae (f2 (gv 2) (f2 (gv 0) (cst (.int 1)) bM) bN) ah)))) (vs:=vl [.fz (.list (ps.map ao)),.fz (aC n l)]) (β:=0) (l:=List.range (ps.length - 1)) (e:=λ(k:Nat)=>int (0 + (k:Int))) (λi=>PyData.bool (An l (ps.getD i (0,0)) (ps.getD (i + 1) (0,0)))) er (by rw[N5];omega) λi hi=>⟨[.da (.int (0 + (i:Int))),.da (aC n l),.da (.list (ps.map ao))],rfl,by
   have hi:=M5.mp hi
   have e1:=x8 (ps:=ps) (i:=i + 1) (by omega)
   rw[show ((i + 1:Nat):Int)=0 + (i:Int) + 1 by omega] at e1
   have e2:=x8 (ps:=ps) (i:=i) (by omega)
   rw[show (i:Int)=0 + (i:Int) by omega] at e2
   exact aI (ds:=[aC n l,ao (ps.getD i (0,0)),ao (ps.getD (i + 1) (0,0))]) (ac rfl (ac (aA (x:=.list (ps.map ao)) (y:=.int (0 + (i:Int))) rfl rfl e2) (ac (aA (x:=.list (ps.map ao)) (y:=.int (0 + (i:Int) + 1)) rfl (aA (x:=.int (0 + (i:Int))) (y:=.int 1) rfl rfl rfl) e1) an))) (JO n l _ _)⟩)
  exact qG ea rfl
theorem AD {n:Nat}{l:List Pr}{d:D}(O:OM.Ord n l)(h:Gt d):∃b,JV [d,aC n l]=.ok (.bool b) false/\J6 [d,aC n l]=.ok (.bool b) false:=by
 cases q:Jg n l d with
 |false=>exact⟨false,Kg O h q,Jv O h q⟩
 |true=>
  cases d with
  |list ds=>
   have q':ds.all (uV n l)=true:=q
   obtain⟨ps,rfl,hp⟩:=DA q'
   have hz:ps.length<=100:=by have:=(h.2 _ rfl).1;rw[ML] at this;exact this
   have ht:∀p,p∈ps->p∈c5 n l:=λp hm=>by
    have:=NW.mp q' (ao p) (MQ.mpr ⟨p,hm,rfl⟩)
    unfold uV at this
    rw[MS] at this
    obtain⟨p',e,hb⟩:=DN this.1
    rw[tQ e]
    rw[tQ e] at hm
    exact fA.mpr ⟨hb,hp _ hm⟩
   exact⟨_,Jo O hz q ht,JZ O hz q⟩
  |_=>cases q
def nG (L:List (Pr×D)):D:=.dict (L.map λq=>(ao q.1,q.2))
def Dv (L:List (Pr×D)):uX (L.map λq=>(ao q.1,q.2))=some L:=zu L
theorem D3:∀L:List (Pr×D),zP (L.map λq=>(ao q.1,q.2))=some (L.map (·.1))
 | []=>rfl
 |q :: L=>by
  rw[Ng]
  show (zP (L.map λq=>(ao q.1,q.2))).map _=_
  rw[D3 L];rfl
def zt (neg:Bool)(p:Pr)(L:List (Pr×D)):oU neg (ao p) (nG L)=some (.bool (if neg then !decide (p∈L.map (·.1)) else decide (p∈L.map (·.1)))):=by
 show (zP (L.map λq=>(ao q.1,q.2))).map _=_
 rw[D3];rfl
def Dp (p:Pr):uY (ao p)=some p:=rfl
def C9 (p:Pr)(L:List (Pr×D)):nk (nG L) (ao p)=yB L p:=by
 show (match uX (L.map λq=>(ao q.1,q.2)),uY (ao p) with |some L,some p=>yB L p |_,_=>none)=_
 rw[Dv,Dp]
def HS {L:List (Pr×D)}{p:Pr}{v:D}(h:p∉L.map (·.1))(h1:L.length < 1000)(h0:0 < L.length):putN (L.map λq=>(ao q.1,q.2)) (ao p) v=some ((L ++ [(p,v)]).map λq=>(ao q.1,q.2)):=by
 unfold putN
 rw[Dv,Dp]
 dsimp only
 have hn:yB L p=none:=by
  unfold yB
  rw[List.find?_eq_none.mpr]
  ·rfl
  ·intro q hq z
   exact h (MQ.mpr ⟨q,hq,Pn z⟩)
 rw[MJ ⟨by rw[hn];rfl,h1,h0⟩,Nz];rfl
structure Cm (n:Nat)(l:List Pr)(L:List (Pr×D)):Prop where
 nd:(L.map (·.1)).Nodup
 tr:∀q,q∈L->q.1∈c5 n l
 pos:0 < L.length
 fst:∀q,L[0]? =some q->q.2=.none
 bk:∀i q,0 < i->L[i]? =some q->∃j r,j < i/\L[j]? =some r/\q.2=ao r.1
theorem GU:∀{L:List (Pr×D)} {i:Nat} {q:Pr×D},(L.map (·.1)).Nodup->L[i]? =some q->yB L q.1=some q.2
 | [],i,q,_,e=>by simp at e
 |x :: L,0,q,_,e=>by simp at e;subst e;simp[yB]
 |x :: L,i + 1,q,nd,e=>by
  rw[Ng,Nq] at nd
  have e:L[i]? =some q:=by simpa using e
  have hne:x.1≠q.1:=λz=>nd.1 (MQ.mpr ⟨q,MU e,z.symm⟩)
  have:=GU nd.2 e
  unfold yB at this ⊢
  rw[Ol,MW hne];exact this
theorem D5:∀{q put:List Pr},q.Nodup->(∀x,x∈q->x∈put)->q.length<=put.length
 | [],_,_,_=>Nm _
 |x :: q,put,nd,h=>by
  have nd:=Nq.mp nd
  have hx:=h x (MP ..)
  have:=D5 (q:=q) (put:=put.erase x) nd.2 λy hy=>(List.mem_erase_of_ne (λe=>nd.1 (by rw[<-e];exact hy))).mpr (h y (MM _ hy))
  rw[OK hx] at this
  have:=List.length_pos_of_mem hx
  rw[Na];omega
def Cm.len {n:Nat}{l:List Pr}{L:List (Pr×D)}(h8:n<=8)(c:Cm n l L):L.length<=64:=by
 have h1:(L.map (·.1)).length<=(c5 n l).length:=D5 c.nd λp hp=>by obtain⟨q,hq,rfl⟩:=MQ.mp hp;exact c.tr q hq
 rw[ML] at h1
 exact NA h1 (uN h8)
def Cm.one {n:Nat}{l:List Pr}{p:Pr}(h:p∈c5 n l):Cm n l [(p,.none)]:=
 ⟨by simp,λq hq=>by rw[Nc] at hq;subst hq;exact h,by simp,λq e=>by simp at e;subst e;rfl,λi q hi e=>by
  cases i with
  |zero=>omega
  |succ i=>simp at e⟩
def Cm.more {n:Nat}{l:List Pr}{L:List (Pr×D)}{p:Pr}{r:Pr×D}{j:Nat}(c:Cm n l L)(h:p∈c5 n l)(hn:p∉L.map (·.1))(hr:L[j]? =some r):Cm n l (L ++ [(p,ao r.1)]):=by
 have hj:j < L.length:=(M9.mp hr).1
 refine⟨?_,λq hq=>?_,by rw[Nf];have:=c.pos;omega,λq e=>?_,λi q hi e=>?_⟩
 ·rw[Nz,O0]
  refine⟨c.nd,by simp,λa ha b hb=>?_⟩
  simp at hb
  subst hb
  exact λz=>hn (z▸ha)
 ·rcases M6.mp hq with hq |hq
  ·exact c.tr q hq
  ·rw[Nc] at hq;subst hq;exact h
 ·rw[Nh c.pos] at e;exact c.fst q e
 ·by_cases z:i < L.length
  ·rw[Nh z] at e
   obtain⟨j',r',h1,h2,h3⟩:=c.bk i q hi e
   exact⟨j',r',h1,by rw[Nh (by omega)];exact h2,h3⟩
  ·rw[Np (by omega)] at e
   have:i - L.length=0:=by
    cases hq:i - L.length with
    |zero=>rfl
    |succ k=>rw[hq] at e;simp at e
   rw[this] at e
   simp at e
   subst e
   exact⟨j,r,by omega,by rw[Nh hj];exact hr,rfl⟩
noncomputable def Lr:List D->Int->FB:=kF 10 1 (gH jP FA bG)
abbrev ge (n:Nat)(l:List Pr)(s3 s4 s5 s6 s7 s8 s9:Sl):En:=[.bx,.fz (aC n l),.fz (.list ((c5 n l).map ao)),s3,s4,s5,s6,s7,s8,s9]
abbrev nQ (L:List (Pr×D)):D:=.list ((L.map (·.1)).map ao)
def Hh {n:Nat}{l:List Pr}(O:OM.Ord n l)(β:Int):∃(fs:List Pr) (b:Bool) (β':Int),Lr [aC n l] β=.ok (.list (fs.map ao)) b β'/\fs.length<=64/\∀p,p∈fs->p∈c5 n l:=by
 have hz:=uN (l:=l) O.hi
 have h8:=O.hi
 show ∃(fs:List Pr) (b:Bool) (β':Int),oW (gH jP FA bG [.bx,.fz (aC n l),.no,.no,.no,.no,.no,.no,.no,.no] β)=.ok (.list (fs.map ao)) b β'/\fs.length<=64/\∀p,p∈fs->p∈c5 n l
 suffices h:WP (gH jP FA bG [.bx,.fz (aC n l),.no,.no,.no,.no,.no,.no,.no,.no] β) λr=>∃(fs:List Pr) (b:Bool) (β':Int),oW r=.ok (.list (fs.map ao)) b β'/\fs.length<=64/\∀p,p∈fs->p∈c5 n l from h.out
 unfold gH
 refine dH (aI (ds:=[aC n l]) rfl (wW O)) (wp_at (ge n l .no .no .no .no .no .no .no) rfl ?_)
 have t1:cJ (f2 (gv 2) (ba ah) (cO false)) (vl (ge n l .no .no .no .no .no .no .no)) β=.ok (decide (c5 n l= [])) β:=dG _ _ _ _ (aA (x:=.list ((c5 n l).map ao)) (y:=.list (([]:List Pr).map ao)) rfl (lp (ds:=[]) an) (u5 false _ []))
 by_cases c:c5 n l= []
 ·rw[MR c] at t1
  refine hV t1 (Fg (ze (lp (ds:=[]) an) ⟨(λa b e=>by cases e),[],true,_,rfl,by simp,λp hp=>by cases hp⟩))
 rw[MW c] at t1
 refine mI t1 (wp_at (ge n l .no .no .no .no .no .no .no) rfl ?_)
 have hp1:1<=(c5 n l).length:=O8.mpr c
 obtain⟨a,ha,ea⟩:=cD (m:=(c5 n l).length) hp1 (by omega) β
 generalize β / ((c5 n l).length:Int)=β1 at ea
 obtain⟨st,hst,hsm⟩:∃st,(c5 n l)[a]? =some st/\st∈c5 n l:=⟨_,MG ha,NI ha⟩
 refine dH (d:=ao st) (aA (x:=.list ((c5 n l).map ao)) (y:=.int a) rfl (bY (ds:=[.int (c5 n l).length]) rfl (ac (by rw[nY (ds:=(c5 n l).map ao) rfl,ML]) an) ea) (by show jv ((c5 n l).map ao) (a:Int)=_;rw[cX,fH hst];rfl)) (wp_at (ge n l (.fz (ao st)) .no .no .no .no .no .no) rfl ?_)
 refine pf (d:=nG [(st,.none)]) (β1:=β1) rfl (wp_at (ge n l (.fz (ao st)) (.ow (nG [(st,.none)])) .no .no .no .no .no) rfl ?_)
 refine pf (d:=nQ [(st,.none)]) (lp (ds:=[ao st]) (ac rfl an)) (wp_at (ge n l (.fz (ao st)) (.ow (nG [(st,.none)])) (.ow (nQ [(st,.none)])) .no .no .no .no) rfl ?_)
 refine dH (d:=.int 0) (β1:=β1) rfl (wp_at (ge n l (.fz (ao st)) (.ow (nG [(st,.none)])) (.ow (nQ [(st,.none)])) (.fz (.int ((0:Nat):Int))) .no .no .no) rfl ?_)
 refine vf (λk env b=>b=β1/\∃(L:List (Pr×D)) (i:Nat) (s7:Sl),env=ge n l (.fz (ao st)) (.ow (nG L)) (.ow (nQ L)) (.fz (.int (i:Nat))) s7 .no .no/\Cm n l L/\i<=L.length/\k + i=65) (λenv b=>b=β1/\∃(L:List (Pr×D)) (s6 s7:Sl),env=ge n l (.fz (ao st)) (.ow (nG L)) (.ow (nQ L)) s6 s7 .no .no/\Cm n l L) 65 (by omega) ⟨rfl,_,0,.no,rfl,Cm.one hsm,by simp,rfl⟩ ?_ ?_
 ·rintro k env b ⟨rfl,L,i,s7,rfl,cm,hi,hk⟩
  have hL:=cm.len h8
  refine⟨_,b,CH (i:=(i:Int)) (j:=(L.length:Int)) rfl (by rw[nY (ds:=(L.map (·.1)).map ao) rfl,ML,ML]),?_⟩
  by_cases hil:i < L.length
  ·refine .inr ⟨MR (by omega),?_⟩
   refine wp_at (ge n l (.fz (ao st)) (.ow (nG L)) (.ow (nQ L)) (.fz (.int (i:Nat))) s7 .no .no) rfl ?_
   refine ue (ds:=(c5 n l).map ao) (λ_ env b'=>b'=b/\∃(L:List (Pr×D)) (s7:Sl),env=ge n l (.fz (ao st)) (.ow (nG L)) (.ow (nQ L)) (.fz (.int (i:Nat))) s7 .no .no/\Cm n l L/\i < L.length) rfl ⟨rfl,L,s7,rfl,cm,hil⟩ ?_ ?_
   ·rintro j d env b' hj ⟨rfl,L,s7,rfl,cm,hil⟩
    rw[MV] at hj
    cases hq:(c5 n l)[j]? with
    |none=>rw[hq] at hj;cases hj
    |some p=>
     rw[hq] at hj;cases hj
     have hpm:=MU hq
     have hL:=cm.len h8
     obtain⟨r,hr⟩:∃r,L[i]? =some r:=⟨_,MG hil⟩
     have hat:jv ((L.map (·.1)).map ao) (i:Int)=some (ao r.1):=by rw[cX,cX,fH hr];rfl
     refine⟨ge n l (.fz (ao st)) (.ow (nG L)) (.ow (nQ L)) (.fz (.int (i:Nat))) (.fz (ao p)) .no .no,rfl,?_⟩
     have t:A3 (cJ (f2 (gv 7) (gv 4) (oU true))) (mZ (aF FA (ae (gv 1) (ae (f2 (gv 5) (gv 6) bN) (ae (gv 7) ah))))) (vl (ge n l (.fz (ao st)) (.ow (nG L)) (.ow (nQ L)) (.fz (.int (i:Nat))) (.fz (ao p)) .no .no)) b'=.ok (!decide (p∈L.map (·.1)) && An l r.1 p) b':=
      uR (dG _ _ _ _ (aA (x:=ao p) (y:=nG L) rfl rfl (zt true p L))) (iL (aI (ds:=[aC n l,ao r.1,ao p]) (ac rfl (ac (aA (x:=nQ L) (y:=.int (i:Nat)) rfl rfl hat) (ac rfl an))) (JO n l r.1 p)))
     cases hc:(!decide (p∈L.map (·.1)) && An l r.1 p) with
     |false=>rw[hc] at t;exact Jl t (oJ ⟨_,_,rfl,rfl,L,_,rfl,cm,hil⟩)
     |true=>
      rw[hc] at t
      rw[MS,NT,NZ] at hc
      refine K5 t (wp_at (ge n l (.fz (ao st)) (.ow (nG L)) (.ow (nQ L)) (.fz (.int (i:Nat))) (.fz (ao p)) .no .no) rfl ?_)
      have ep:z0 4 ([] ++ []) [] (f2 (gv 5) (gv 6) bN) (gv 7) (ge n l (.fz (ao st)) (.ow (nG L)) (.ow (nQ L)) (.fz (.int (i:Nat))) (.fz (ao p)) .no .no) b'=.nx (ge n l (.fz (ao st)) (.ow (nG (L ++ [(p,ao r.1)]))) (.ow (nQ L)) (.fz (.int (i:Nat))) (.fz (ao p)) .no .no) b':=by
       unfold z0
       rw[aA (g:=bN) (x:=nQ L) (y:=.int (i:Nat)) (d:=ao r.1) (β1:=b') (β2:=b') rfl rfl hat]
       show (match putN (L.map λq=>(ao q.1,q.2)) (ao p) (ao r.1) with |some es=>_ |none=>SO.bad)=_
       rw[HS hc.1 (by omega) cm.pos];rfl
      refine wp_seq ep (qF (C4 (ds:=(L.map (·.1)).map ao) (d:=ao p) (β1:=b') rfl rfl rfl (by rw[ML,ML];omega) (oJ ⟨_,_,rfl,rfl,L ++ [(p,ao r.1)],.fz (ao p),?_,cm.more hpm hc.1 hr,by rw[Nf];omega⟩)))
      rw[show nQ (L ++ [(p,ao r.1)])=.list ((L.map (·.1)).map ao ++ [ao p]) by unfold nQ;rw[Nz,Nz];rfl];rfl
   ·rintro env b' ⟨rfl,L,s7,rfl,cm,hil⟩
    refine qF (dH (d:=.int ((i + 1:Nat):Int)) (MB rfl) (oJ ⟨_,_,65 - (i + 1),rfl,by omega,rfl,L,i + 1,_,rfl,cm,by omega,by have:=cm.len h8;omega⟩))
  ·exact .inl ⟨MW (by omega),rfl,L,_,_,rfl,cm⟩
 rintro env b ⟨rfl,L,s6,s7,rfl,cm⟩
 have hL:=cm.len h8
 have hpos:=cm.pos
 have hlast:jv ((L.map (·.1)).map ao) (-1)=some (ao ((L.map (·.1)).getD ((L.map (·.1)).length - 1) (0,0))):=HL (by rw[ML];exact hpos)
 have hlm:(L.map (·.1)).getD ((L.map (·.1)).length - 1) (0,0)∈L.map (·.1):=getD_mem' (by rw[ML];omega)
 generalize (L.map (·.1)).getD ((L.map (·.1)).length - 1) (0,0)=la at hlast hlm
 refine dH (d:=ao la) (aA (x:=nQ L) (y:=.int (-1)) rfl rfl hlast) (wp_at (ge n l (.fz (ao st)) (.ow (nG L)) (.ow (nQ L)) s6 s7 (.fz (ao la)) .no) rfl ?_)
 have tb:cJ (f2 (f1 (gv 3) uh) (gv 4) (oU false)) (vl (ge n l (.fz (ao st)) (.ow (nG L)) (.ow (nQ L)) s6 s7 (.fz (ao la)) .no)) b=.ok (decide ((st.2,st.1)∈L.map (·.1))) b:=dG _ _ _ _ (aA (x:=ao (st.2,st.1)) (y:=nG L) (bX (x:=ao st) rfl rfl) rfl (zt false (st.2,st.1) L))
 refine Iu (λenv b'=>b'=b/\∃la,env=ge n l (.fz (ao st)) (.ow (nG L)) (.ow (nQ L)) s6 s7 (.fz (ao la)) .no/\la∈L.map (·.1)) ⟨_,_,tb,λh=>qF (dH (d:=ao (st.2,st.1)) (bX (x:=ao st) rfl rfl) (oJ ⟨_,_,rfl,rfl,(st.2,st.1),rfl,Pn h⟩)),λ_=>oJ ⟨_,_,rfl,rfl,la,rfl,hlm⟩⟩ ?_
 rintro env b' ⟨rfl,la,rfl,hlm⟩
 obtain⟨q0,hq0,rfl⟩:=MQ.mp hlm
 obtain⟨i0,hi0⟩:=List.mem_iff_getElem?.mp hq0
 have hi0l:=(M9.mp hi0).1
 refine pf (d:=.list ([q0.1].map ao)) (lp (ds:=[ao q0.1]) (ac rfl an)) (wp_at (ge n l (.fz (ao st)) (.ow (nG L)) (.ow (nQ L)) s6 s7 (.fz (ao q0.1)) (.ow (.list ([q0.1].map ao)))) rfl ?_)
 generalize (Sl.fz (ao q0.1))=s8
 refine vf (λk env b=>b=b'/\∃(q:Pr×D) (F:List Pr),env=ge n l (.fz (ao st)) (.ow (nG L)) (.ow (nQ L)) s6 s7 s8 (.ow (.list ((q.1 :: F).map ao)))/\L[k]? =some q/\F.length + k<=63/\∀p,p∈F->p∈c5 n l) (λenv b=>∃F:List Pr,env=ge n l (.fz (ao st)) (.ow (nG L)) (.ow (nQ L)) s6 s7 s8 (.ow (.list (F.map ao)))/\F.length<=64/\∀p,p∈F->p∈c5 n l) i0 (by omega) ⟨rfl,q0,[],rfl,hi0,by simp;omega,λp hp=>by cases hp⟩ ?_ ?_
 ·rintro k env b ⟨rfl,q,F,rfl,hq,hF,hFt⟩
  have hqt:=cm.tr q (MU hq)
  have hget:f2 (gv 4) (f2 (gv 9) (cst (.int 0)) bN) nk (vl (ge n l (.fz (ao st)) (.ow (nG L)) (.ow (nQ L)) s6 s7 s8 (.ow (.list ((q.1 :: F).map ao))))) b=.ok q.2 b:=aA (x:=nG L) (y:=ao q.1) rfl (aA (x:=.list ((q.1 :: F).map ao)) (y:=.int 0) rfl rfl (x8 (ps:=q.1 :: F) (i:=0) (by simp))) (by rw[C9];exact GU cm.nd hq)
  have tn:tN (f2 (gv 4) (f2 (gv 9) (cst (.int 0)) bN) nk) true (vl (ge n l (.fz (ao st)) (.ow (nG L)) (.ow (nQ L)) s6 s7 s8 (.ow (.list ((q.1 :: F).map ao))))) b=.ok (!xX q.2) b:=by rw[Ku,hget];rfl
  refine⟨_,_,tn,?_⟩
  cases k with
  |zero=>
   rw[cm.fst q hq]
   exact .inl ⟨rfl,q.1 :: F,rfl,by simp;omega,λp hp=>(MN.mp hp).elim (λe=>e▸hqt) (hFt p)⟩
  |succ k=>
   obtain⟨j,r,hj,hr,e⟩:=cm.bk (k + 1) q (by omega) hq
   rw[e] at hget ⊢
   refine .inr ⟨rfl,?_⟩
   have ei:wY 9 ([] ++ ([] ++ [])) (f2 (gv 4) (f2 (gv 9) (cst (.int 0)) bN) nk) (ge n l (.fz (ao st)) (.ow (nG L)) (.ow (nQ L)) s6 s7 s8 (.ow (.list ((q.1 :: F).map ao)))) b=.nx (ge n l (.fz (ao st)) (.ow (nG L)) (.ow (nQ L)) s6 s7 s8 (.ow (.list ((r.1 :: q.1 :: F).map ao)))) b:=by
    unfold wY
    rw[hget]
    show (match (if ((q.1 :: F).map ao).length < 1000 then some (ao r.1 :: (q.1 :: F).map ao) else none) with |some es=>_ |none=>SO.bad)=_
    rw[MJ (by simp;omega)];rfl
   exact⟨_,_,j,ei,by omega,rfl,r,q.1 :: F,rfl,hr,by simp;omega,λp hp=>(MN.mp hp).elim (λe=>e▸hqt) (hFt p)⟩
 ·rintro env b ⟨F,rfl,hF,hFt⟩
  exact⟨F,true,b,rfl,hF,hFt⟩
noncomputable def DX:List D->Int->FB:=kF 10 3 (jb bG)
abbrev be (fs:List Pr)(n:Nat)(o:D)(s4 s5 s6 s7 s8 s9:Sl):En:=[.bx,.fz (.list (fs.map ao)),.fz (.int n),.fz o,s4,s5,s6,s7,s8,s9]
def news (p q:Pr)(o:D):List (List D):=[[],[ao p,ao p],[.tuple [.int p.2,.int p.1]],[ao q],[.list [.int p.1,.int p.2]],[.tuple [.int p.1,.bool (decide (p.2=1))]],[o],[ao p,ao q]]
def j6 {x:D}(h:El x):∀e,e∈ [x]->El e:=λe he=>by rw[Nc] at he;subst he;exact h
def FE {p q:Pr}{o:D}(hp:Sp p)(hq:Sp q)(ho:o∈iZ):∀w,w∈news p q o->w.length<=2/\∀e,e∈w->El e:=by
 have a:=lB (i:=p.1) (by have:=hp.1;omega)
 have b:=lB (i:=p.2) (by have:=hp.2;omega)
 intro w hw
 simp only[news,MN,Od,or_false] at hw
 rcases hw with rfl |rfl |rfl |rfl |rfl |rfl |rfl |rfl
 ·exact⟨by simp,λe he=>by cases he⟩
 ·exact⟨by simp,ij (pR hp) (pR hp)⟩
 ·exact⟨by simp,j6 (qi (by simp) (ij b a))⟩
 ·exact⟨by simp,j6 (pR hq)⟩
 ·exact⟨by simp,j6 (zO (by simp) (ij a b))⟩
 ·exact⟨by simp,j6 (qi (by simp) (ij a (.inr (.inl ⟨_,rfl⟩))))⟩
 ·exact⟨by simp,j6 (D9 ho)⟩
 ·exact⟨by simp,ij (pR hp) (pR hq)⟩
def yH (n:Nat)(o:D):List D:=[.list [.tuple [.int 0,.int 0]],.list [.tuple [.int 0,.int ((n:Int) - 1)]],.tuple [],.list [o],.list [.list []]]
def Cu {n:Nat}{o:D}(hn:n<=8)(ho:o∈iZ):∀d,d∈yH n o->Eh d:=by
 have z:=lB (i:=0) (by omega)
 intro d hd
 simp only[yH,MN,Od,or_false] at hd
 rcases hd with rfl |rfl |rfl |rfl |rfl
 ·exact hZ (by simp) (j6 (qi (by simp) (ij z z)))
 ·exact hZ (by simp) (j6 (qi (by simp) (ij z (lB (by omega)))))
 ·exact yQ (by simp) λe he=>by cases he
 ·exact hZ (by simp) (j6 (D9 ho))
 ·exact hZ (by simp) (j6 (zO (by simp) λe he=>by cases he))
def Jc (ds:List D)(a:Nat):List D:=[.list ds.reverse,.list (ds.take a),.tuple ds]
def Gb {ds:List D}{a:Nat}(hl:ds.length<=64)(h:∀e,e∈ds->El e):∀d,d∈Jc ds a->Eh d:=by
 intro d hd
 simp only[Jc,MN,Od,or_false] at hd
 rcases hd with rfl |rfl |rfl
 ·exact hZ (by rw[O7];omega) λe he=>h e (List.mem_reverse.mp he)
 ·exact hZ (by rw[Nu];omega) λe he=>h e (N1 he)
 ·exact yQ (by omega) h
def HM {fs:List Pr}{n:Nat}{o:D}(hn:n<=8)(hl:fs.length<=64)(hq:∀q,q∈fs->Sp q)(h1:fs≠ []->1<=n)(ho:o∈iZ)(β:Int):∃d b β',DX [.list (fs.map ao),.int n,o] β=.ok d b β'/\Eh d:=by
 show ∃d b β',oW (jb bG (be fs n o .no .no .no .no .no .no) β)=.ok d b β'/\Eh d
 unfold jb
 have t1:cJ (f2 (gv 1) (ba ah) (cO false)) (vl (be fs n o .no .no .no .no .no .no)) β=.ok (decide (fs= [])) β:=dG _ _ _ _ (aA (x:=.list (fs.map ao)) (y:=.list (([]:List Pr).map ao)) rfl (lp (ds:=[]) an) (u5 false fs []))
 by_cases q:fs= []
 ·rw[MR q] at t1
  obtain⟨j,hj,ej⟩:=cD (m:=5) (by omega) (by omega) β
  have hlen:(yH n o).length=5:=rfl
  obtain⟨d,hd⟩:∃d,(yH n o)[j]? =some d:=⟨_,MG (by omega)⟩
  refine⟨d,false,β / ((5:Nat):Int),?_,Cu hn ho d (MU hd)⟩
  rw[fo (d:=d) (b:=false) (β':=β / ((5:Nat):Int)) ?aa]
  ·rfl
  case aa=>
   rw[gZ t1,dN]
   have g3:gv 3 (vl (be fs n o .no .no .no .no .no .no)) β=.ok o β:=rfl
   have sm:f2 (gv 2) (cst (.int 1)) lW (vl (be fs n o .no .no .no .no .no .no)) β=.ok (.int ((n:Int) - 1)) β:=aA (x:=.int n) (y:=.int 1) rfl rfl rfl
   have e5:=lp (ds:=yH n o) (ac (lp (ac (tp (ac (ck _) (ac (ck _) an))) an)) (ac (lp (ac (tp (ac (ck _) (ac sm an))) an)) (ac (tp an) (ac (lp (ac g3 an)) (ac (lp (ac (lp an) an)) an))))) (by show (5:Nat)<=1000;omega)
   show toS (f2 _ _ bN (vl (be fs n o .no .no .no .no .no .no)) β) _=_
   rw[aA (x:=.list (yH n o)) (y:=.int j) (d:=d) (β1:=β) (β2:=β / ((5:Nat):Int)) e5 (bY (ds:=[.int 5]) (by rfl) rfl ej) (show jv (yH n o) (j:Int)=some d from fH hd)]
   rfl
 rw[MW q] at t1
 rw[aE (env':=be fs n o .no .no .no .no .no .no) (β':=β) (by rw[gY t1];rfl)]
 have hp1:1<=fs.length:=O8.mpr q
 obtain⟨a,ha,ea⟩:=cD (m:=fs.length) hp1 (by omega) β
 generalize hβ1:β / (fs.length:Int)=β1 at ea
 have hap:fs[a]? =some fs[a]:=MG ha
 have ham:fs[a]∈fs:=NI ha
 generalize fs[a]=p at hap ham
 rw[aE (env':=be fs n o (.fz (.int a)) .no .no .no .no .no) (β':=β1) ?bb]
 case bb=>
  rw[c6,bY (ds:=[.int fs.length]) (β1:=β) (by rfl) ?cc ea]
  ·rfl
  case cc=>
   refine ac ?_ an
   rw[nY (ds:=fs.map ao) rfl,ML]
 rw[aE (env':=be fs n o (.fz (.int a)) (.fz (.int p.1)) (.fz (.int p.2)) .no .no .no) (β':=β1) ?dd]
 case dd=>
  have e:f2 (gv 1) (gv 4) bN (vl (be fs n o (.fz (.int a)) .no .no .no .no .no)) β1=.ok (ao p) β1:=aA (x:=.list (fs.map ao)) (y:=.int a) rfl rfl (by show jv (fs.map ao) (a:Int)=_;rw[cX,fH hap];rfl)
  unfold qH
  rw[e];rfl
 have hn1:=h1 q
 obtain⟨u,hu,eu⟩:=cD (m:=n) hn1 (by omega) β1
 generalize hβ2:β1 / (n:Int)=β2 at eu
 obtain⟨v,hv,ev⟩:=cD (m:=n) hn1 (by omega) β2
 generalize hβ3:β2 / (n:Int)=β3 at ev
 rw[aE (env':=be fs n o (.fz (.int a)) (.fz (.int p.1)) (.fz (.int p.2)) (.fz (ao (u,v))) .no .no) (β':=β3) ?ee]
 case ee=>
  rw[c6,jd (ds:=[.int u,.int v]) (β1:=β3) ?ff (by simp)]
  ·rfl
  case ff=>
   rw[bD,bY (ds:=[.int n]) (β1:=β1) (by rfl) rfl eu]
   dsimp only[R.bnd]
   rw[bD,bY (ds:=[.int n]) (β1:=β2) (by rfl) rfl ev];rfl
 have hSq:Sp ((u:Int),(v:Int)):=⟨⟨by show (0:Int)<=u;omega,by show (u:Int)<=8;omega⟩,⟨by show (0:Int)<=v;omega,by show (v:Int)<=8;omega⟩⟩
 generalize ((u:Int),(v:Int))=r at hSq
 rw[aE (env':=be fs n o (.fz (.int a)) (.fz (.int p.1)) (.fz (.int p.2)) (.fz (ao r)) (.fz (.list ((news p r o).map PyData.list))) .no) (β':=β3) ?gg]
 case gg=>
  have g3:gv 3 (vl (be fs n o (.fz (.int a)) (.fz (.int p.1)) (.fz (.int p.2)) (.fz (ao r)) .no .no)) β3=.ok o β3:=rfl
  have g5:gv 5 (vl (be fs n o (.fz (.int a)) (.fz (.int p.1)) (.fz (.int p.2)) (.fz (ao r)) .no .no)) β3=.ok (.int p.1) β3:=rfl
  have g6:gv 6 (vl (be fs n o (.fz (.int a)) (.fz (.int p.1)) (.fz (.int p.2)) (.fz (ao r)) .no .no)) β3=.ok (.int p.2) β3:=rfl
  have g7:gv 7 (vl (be fs n o (.fz (.int a)) (.fz (.int p.1)) (.fz (.int p.2)) (.fz (ao r)) .no .no)) β3=.ok (ao r) β3:=rfl
  rw[c6,lp (ds:=(news p r o).map PyData.list) (ac (lp an) (ac (lp (ac (tp (ac g5 (ac g6 an))) (ac (tp (ac g5 (ac g6 an))) an))) (ac (lp (ac (tp (ac g6 (ac g5 an))) an)) (ac (lp (ac g7 an)) (ac (lp (ac (lp (ac g5 (ac g6 an))) an)) (ac (lp (ac (tp (ac g5 (ac (aA g6 (ck _) (pC false p.2 1)) an))) an)) (ac (lp (ac g3 an)) (ac (lp (ac (tp (ac g5 (ac g6 an))) (ac g7 an))) an)))))))) (by show (8:Nat)<=1000;omega)]
  show SO.nx ((bg _ (be fs n o (.fz (.int a)) (.fz (.int p.1)) (.fz (.int p.2)) (.fz (ao r)) .no .no)).set 8 _) β3=_
  rw[qA (λi d h=>by
   rcases i with _ |_ |_ |_ |_ |_ |_ |_ |_ |_ |i <;> cases h)]
  rfl
 obtain⟨j,hj,ej⟩:=cD (m:=11) (by omega) (by omega) β3
 generalize hβ4:β3 / ((11:Nat):Int)=β4 at ej
 rw[aE (env':=be fs n o (.fz (.int a)) (.fz (.int p.1)) (.fz (.int p.2)) (.fz (ao r)) (.fz (.list ((news p r o).map PyData.list))) (.fz (.int j))) (β':=β4) ?hh]
 case hh=>rw[c6,bY (ds:=[.int 11]) (β1:=β3) (by rfl) rfl ej];rfl
 generalize hen:be fs n o (.fz (.int a)) (.fz (.int p.1)) (.fz (.int p.2)) (.fz (ao r)) (.fz (.list ((news p r o).map PyData.list))) (.fz (.int j))=en
 have k1:gv 1 (vl en) β4=.ok (.list (fs.map ao)) β4:=by rw[<-hen];rfl
 have k4:gv 4 (vl en) β4=.ok (.int a) β4:=by rw[<-hen];rfl
 have k41:f2 (gv 4) (cst (.int 1)) bM (vl en) β4=.ok (.int ((a + 1:Nat):Int)) β4:=aA (x:=.int a) (y:=.int 1) k4 rfl (by show some (int ((a:Int) + 1))=_;rw[show ((a + 1:Nat):Int)=(a:Int) + 1 by omega])
 have k8:gv 8 (vl en) β4=.ok (.list ((news p r o).map PyData.list)) β4:=by rw[<-hen];rfl
 have k9:gv 9 (vl en) β4=.ok (.int j) β4:=by rw[<-hen];rfl
 have hE:∀e,e∈fs.map ao->El e:=λe he=>by
  obtain⟨q,h,rfl⟩:=MQ.mp he
  exact pR (hq q h)
 have hl':(fs.map ao).length<=64:=by rw[ML];exact hl
 have t2:cJ (f2 (gv 9) (cst (.int 8)) Ek) (vl en) β4=.ok (decide ((j:Int) < 8)) β4:=dG _ _ _ _ (aA (x:=.int j) (y:=.int 8) k9 rfl rfl)
 have hfz:bg ([] ++ []) en=en:=rfl
 by_cases hj8:j < 8
 ·rw[MR (show (j:Int) < 8 by omega)] at t2
  have hlen:(news p r o).length=8:=rfl
  have hw:(news p r o)[j]? =some (news p r o)[j]:=MG (by omega)
  have hwm:(news p r o)[j]∈news p r o:=NI _
  generalize (news p r o)[j]=w at hw hwm
  obtain⟨h2,hE2⟩:=FE (hq p ham) hSq ho w hwm
  refine⟨.list ((fs.map ao).take a ++ w ++ (fs.map ao).drop (a + 1)),true,β4,?_,hZ ?_ ?_⟩
  ·rw[fo (d:=.list ((fs.map ao).take a ++ w ++ (fs.map ao).drop (a + 1))) (b:=true) (β':=β4) ?ii]
   ·rfl
   case ii=>
    rw[gZ t2,wD,hfz]
    have c1:=aA (g:=eY) (d:=.list ((fs.map ao).take a ++ w)) (pF k1 k4) (aA (g:=bN) (d:=.list w) k8 k9 (by show jv ((news p r o).map PyData.list) (j:Int)=_;rw[cX,fH hw];rfl)) (i8 (by rw[Nu];omega))
    rw[aA (g:=eY) c1 (E7 k1 k41) (i8 (by rw[Nf,Nu,OJ];omega))];rfl
  ·rw[Nf,Nf,Nu,OJ];omega
  ·intro e he
   rcases M6.mp he with he |he
   ·rcases M6.mp he with he |he
    ·exact hE e (N1 he)
    ·exact hE2 e he
   ·exact hE e (List.mem_of_mem_drop he)
 ·rw[MW (show ¬(j:Int) < 8 by omega)] at t2
  rw[aE (env':=en) (β':=β4) (by rw[gY t2];rfl)]
  have hlen:(Jc (fs.map ao) a).length=3:=rfl
  obtain⟨d,hd⟩:∃d,(Jc (fs.map ao) a)[j - 8]? =some d:=⟨_,MG (by omega)⟩
  refine⟨d,false,β4,?_,Gb hl' hE d (MU hd)⟩
  rw[dN]
  have e3:=lp (ds:=Jc (fs.map ao) a) (ac (bX (g:=Cs) k1 rfl) (ac (pF k1 k4) (ac (bX (g:=gS) k1 rfl) an))) (by show (3:Nat)<=1000;omega)
  have e8:f2 (gv 9) (cst (.int 8)) lW (vl en) β4=.ok (.int ((j - 8:Nat):Int)) β4:=aA (x:=.int j) (y:=.int 8) k9 rfl (by show some (int ((j:Int) - 8))=_;rw[show ((j - 8:Nat):Int)=(j:Int) - 8 by omega])
  rw[aA (g:=bN) e3 e8 (show jv (Jc (fs.map ao) a) ((j - 8:Nat):Int)=some d from fH hd)]
  rfl
abbrev lE (ns:List Int)(k n:Nat)(l:List Pr)(o so:D)(s6 s7 s8 s9:Sl):En:=[.fz (dv ns),.fz (.int k),.bx,.fz (aC n l),.fz o,.fz so,s6,s7,s8,s9]
noncomputable def IE:List D->FR:=bq 10 1 (yS IG I0 JV J6 anyF HY Lr DX)
def l4 (fs:List Pr)(o:D):List D:=[.list (fs.map ao),o,.list [],.list ((fs.take 1 ++ (fs.take 1).map λp=>(p.2,p.1)).map ao)]
def Hn {fs:List Pr}{o:D}(hl:fs.length<=64)(hq:∀q,q∈fs->Sp q)(ho:o∈iZ):∀d,d∈l4 fs o->Eh d:=by
 intro d hd
 simp only[l4,MN,Od,or_false] at hd
 rcases hd with rfl |rfl |rfl |rfl
 ·exact zI (by omega) hq
 ·exact E9 ho
 ·exact hZ (by simp) λe he=>by cases he
 ·refine zI (by rw[Nf,ML,Nu];omega) λp hp=>?_
  rcases M6.mp hp with hp |hp
  ·exact hq p (N1 hp)
  ·obtain⟨q,h,rfl⟩:=MQ.mp hp
   have:=hq q (N1 h)
   exact⟨this.2,this.1⟩
def JU (ns:List Int):IE [dv ns]=.ok (.bool true) false:=by
 show fin (yS IG I0 JV J6 anyF HY Lr DX [.fz (dv ns),.no,.no,.no,.no,.no,.no,.no,.no,.no] 0)=_
 refine kR ?_
 obtain⟨m,hm,em⟩:=Dj 3 (by omega) ns (vl [.fz (dv ns),.no,.no,.no,.no,.no,.no,.no,.no,.no]) 0 rfl
 unfold yS
 refine ue (λ_ env _=>∃s1 s2 s3 s4 s5 s6 s7 s8 s9,env= [.fz (dv ns),s1,s2,s3,s4,s5,s6,s7,s8,s9]) em ⟨_,_,_,_,_,_,_,_,_,rfl⟩ ?_ λenv β ⟨s1,s2,s3,s4,s5,s6,s7,s8,s9,e⟩=>qG (d:=.bool true) rfl rfl
 rintro i d env β hi ⟨s1,s2,s3,s4,s5,s6,s7,s8,s9,rfl⟩
 obtain⟨_,rfl⟩:=gE hi
 rw[N2]
 refine⟨[.fz (dv ns),.fz (.int i),s2,s3,s4,s5,s6,s7,s8,s9],rfl,?_⟩
 obtain⟨z,ez⟩:=J0 ns i
 obtain⟨t3,t4,t5,t6,t7,t8,t9,hcl⟩:∃t3 t4 t5 t6 t7 t8 t9:Sl,(rF (bg ([0] ++ ([1] ++ [])) [.fz (dv ns),.fz (.int i),s2,s3,s4,s5,s6,s7,s8,s9])).set 2 .bx= [.fz (dv ns),.fz (.int i),.bx,t3,t4,t5,t6,t7,t8,t9]:=⟨_,_,_,_,_,_,_,rfl⟩
 refine Ft (CY (ds:=[dv ns,.int i]) rfl ez) (wp_at _ hcl ?_)
 obtain⟨n,l,β1,eo,O⟩:=JB z
 refine dH (bY (ds:=[.int 8]) rfl rfl eo) (wp_at [.fz (dv ns),.fz (.int i),.bx,.fz (aC n l),t4,t5,t6,t7,t8,t9] rfl ?_)
 obtain⟨o,β2,eod,ho⟩:=Jh β1
 refine dH (bY (ds:=[]) rfl rfl eod) (wp_at [.fz (dv ns),.fz (.int i),.bx,.fz (aC n l),.fz o,t5,t6,t7,t8,t9] rfl ?_)
 obtain⟨fs,b,β3,eg,hfl,hft⟩:=Hh O β2
 have hn8:=O.hi
 have hSf:∀q,q∈fs->Sp q:=λq hq=>by
  have:=(fA.mp (hft q hq)).1
  exact⟨⟨this.1.1,by omega⟩,⟨this.2.1,by omega⟩⟩
 refine dH (bY (ds:=[aC n l]) rfl rfl eg) (wp_at (lE ns i n l o (.list (fs.map ao)) t6 t7 t8 t9) rfl ?_)
 have es:=pF (fa:=gv 5) (fb:=cst (.int 1)) (vs:=vl (lE ns i n l o (.list (fs.map ao)) t6 t7 t8 t9)) (β:=β3) (ds:=fs.map ao) (i:=1) rfl rfl
 rw[<-List.map_take] at es
 have e4:f2 (AU (gv 5) (λ_ β=>.ok none β) (Ai (cst (.int 1)))) (aM 1 [] (.nm 0) (bQ (AU (gv 5) (λ_ β=>.ok none β) (Ai (cst (.int 1))))) kG (f1 (gv 0) uh)) eY (vl (lE ns i n l o (.list (fs.map ao)) t6 t7 t8 t9)) β3=.ok (.list ((fs.take 1 ++ (fs.take 1).map λp=>(p.2,p.1)).map ao)) β3:=by
  have:=G8 (a:=(fs.take 1).map ao) (b:=(fs.take 1).map λp=>ao (p.2,p.1)) es (cy (own:=1) (ixs:=[]) (t:=.nm 0) (fi:=bQ (AU (gv 5) (λ_ β=>.ok none β) (Ai (cst (.int 1))))) (fe:=f1 (gv 0) uh) (l:=fs.take 1) (e:=ao) (λp=>ao (p.2,p.1)) (by unfold bQ;rw[es];rfl) (by rw[Nu];omega) λp hp=>⟨[.da (ao p)],rfl,bX (x:=ao p) rfl rfl⟩) (by rw[ML,ML,Nu];omega)
  rw[this,Nz,NQ];rfl
 refine pf (d:=.list (l4 fs o)) (β1:=β3) (lp (ds:=l4 fs o) (ac rfl (ac rfl (ac (lp (ds:=[]) an) (ac e4 an)))) (by show (4:Nat)<=1000;omega)) (wp_at (lE ns i n l o (.list (fs.map ao)) (.ow (.list (l4 fs o))) t7 t8 t9) rfl ?_)
 refine ue (λj env _=>∃(ts:List D) (u7:Sl),env=lE ns i n l o (.list (fs.map ao)) (.ow (.list ts)) u7 t8 t9/\ts.length<=4 + j/\∀d,d∈ts->Eh d) (cQ (n:=4) rfl (by omega)) ⟨l4 fs o,t7,rfl,by show (4:Nat)<=4 + 0;omega,Hn hfl hSf ho⟩ ?_ ?_
 ·rintro j d env β hj ⟨ts,u7,rfl,htl,htm⟩
  have hj4:j < 4:=(gE hj).1
  obtain⟨x,b',β',e,hx⟩:=HM (n:=n) hn8 hfl hSf (λ_=>O.lo) ho β
  refine⟨lE ns i n l o (.list (fs.map ao)) (.ow (.list ts)) (.fz d) t8 t9,rfl,?_⟩
  refine qF (C4 (ds:=ts) (d:=x) rfl (bY (ds:=[.list (fs.map ao),.int n,o]) rfl (ac rfl (ac (K4 (n:=n) (l:=l) rfl) (ac rfl an))) e) rfl (by omega) (oJ ⟨_,_,rfl,ts ++ [x],.fz d,rfl,by rw[Nf];simp;omega,λy hy=>?_⟩))
  rcases M6.mp hy with hy |hy
  ·exact htm y hy
  ·rw[Nc] at hy;subst hy;exact hx
 rintro env β ⟨ts,u7,rfl,htl,htm⟩
 refine qF (ue (ds:=ts) (λ_ env _=>∃u8 u9,env=lE ns i n l o (.list (fs.map ao)) (.fz (.list ts)) u7 u8 u9) rfl ⟨t8,t9,rfl⟩ ?_ λenv β ⟨u8,u9,e⟩=>oJ ⟨_,_,rfl,_,_,_,_,_,_,_,_,_,e⟩)
 rintro j d env β hj ⟨u8,u9,rfl⟩
 have h:=htm d (MU hj)
 obtain⟨b',e1,e2⟩:=AD O h.1
 have hr:pG d=some (.str d.shown):=MJ h.2
 refine⟨lE ns i n l o (.list (fs.map ao)) (.fz (.list ts)) u7 (.fz d) u9,rfl,?_⟩
 refine dH (bX (x:=d) rfl hr) (wp_at (lE ns i n l o (.list (fs.map ao)) (.fz (.list ts)) u7 (.fz d) (.fz (.str d.shown))) rfl ?_)
 exact Jl (fP (c:=false) (cV (iL (aI (ds:=[.bool b',.bool b']) (ac (aI (ds:=[d,aC n l]) rfl e1) (ac (aI (ds:=[d,aC n l]) rfl e2) an)) (Ju b')))) (dG _ _ _ _ (aA (x:=.str d.shown) (y:=.str d.shown) (bX (x:=d) rfl hr) rfl (by simp[Hu])))) (oJ ⟨_,_,rfl,_,_,rfl⟩)
end RM
namespace RO
open PySem L2
abbrev jS:Stmt:=RQ.fx
abbrev mT:Stmt:=RQ.top 12
abbrev Fn (K:Frag)(mg:Str->Option Value)(x:Str)(st:Stmt)(ps:List Str)(f:Addr)(fd:FuncData):Prop:=jw K mg x st ps f fd
abbrev Bt (mg:Str->Option Value):Prop:=jy mg
end RO
section
namespace L2
open PySem PySem.Spec PyProof.Rows
section
variable {K:Frag}{H H':Hp}{a:Addr}
theorem aQ.snoc {x y:Int}(q:fL K H a [.int x,.int y]):∀{vs:List V} {ps:List (Int×Int)},aQ K H vs ps->aQ K H (vs ++ [.ref a]) (ps ++ [(x,y)])
 |_,_,.nil=>.cons ⟨a,rfl,q⟩ .nil
 |_,_,.cons r t=>.cons r (aQ.snoc q t)
def aQ.len {vs:List V}{ps:List (Int×Int)}(h:aQ K H vs ps):vs.length=ps.length:=Paired.length h
def aQ.same {vs:List V}{ps:List (Int×Int)}(h:aQ K H vs ps)(s:av H H'):aQ K H' vs ps:=h.grow s.grow
def aQ.at {vs:List V}{ps:List (Int×Int)}{i:Nat}{v:V}(h:aQ K H vs ps)(e:vs[i]? =some v):∃p:Int×Int,ps[i]? =some p/\∃b,v=.ref b/\fL K H b [.int p.1,.int p.2]:=Paired.getP h e
def av.put {o:HO}(s:av H H')(h:H a=none):av H (L2.upd H' a o):=λb u e=>by rw[az (aL e h)];exact s b u e
end
end L2
namespace RO
open PySem L2
def DR (N:List Str)(sc:Scope)(NB:List Str)(own:Nat)(ixs:List Nat)(scope:Scope):Bool:=
 decide (scope.kind=.function) && (scope.names.all λy=>decide (y.2≠.cell)) && (scope.names.all λy=>decide (scope.names.lookup y.1=some y.2)) &&
 (scope.names.all λy=>decide (y.2=.free->(sc.names.lookup y.1=some .cell\/sc.names.lookup y.1=some .free))) && decide NB.Nodup && decide (NB.length=own + ixs.length) &&
 ((List.range ixs.length).all λk=>decide (NB[own + k]? =N[ixs.getD k 0]?) && (match NB[own + k]? with |some x=>decide ((x,NameKind.free)∈scope.names) |none=>true))
def nU {X:Cx}{NB:List Str}{own:Nat}{ixs:List Nat}{scope:Scope}(h:DR X.N X.env.scope NB own ixs scope=true):dz X NB own ixs scope:=by
 unfold DR at h
 simp only[MS,NW,M4,M5] at h
 obtain⟨⟨⟨⟨⟨⟨h1,h2⟩,h3⟩,h4⟩,h5⟩,h6⟩,h7⟩:=h
 refine⟨h1,h2,h3,h4,h5,h6,λk hk=>⟨(h7 k hk).1,λx hx=>?_⟩⟩
 have:=(h7 k hk).2
 rw[hx] at this
 simpa using this
section
variable {X:Cx}{tg l:Expr}{tl:TE}{K:Frag}{H H1:Hp}{a:Addr}{xs:List V}{σ:St}
def LC (K:Frag)(tl:TE):TI:=λσ H R=>tl σ H λx H1=>∃a xs,x=.ref a/\((gG K H1 a xs/\R (Bb K a) H1)\/(fL K H1 a xs/\R (GS K a) H1))
end
def Mo (K:Frag){X:Cx}(h:X.K=K:=by rfl):B6 X (Ht K):=by subst h;exact ie
def IC (K:Frag)(i j:Nat){X:Cx}{x y:Str}{px py pos:Pos}{k:Nat}(hN:X.N.Nodup)(hi:X.N[i]? =some x)(hj:X.N[j]? =some y)(hx:X.env.scope.names.lookup x=some .local)(hy:X.env.scope.names.lookup y=some .local)(hc:X.calm=true)(hK:X.K=K) :
  PG X (.Tuple [.Name x px,.Name y py] k pos) (FC K 2 (pU (lQ i) (pU (lQ j) FT))):=by
 subst hK
 exact ql hc (dM (cW hN hi (Or.inl hx) (Or.inr hx)) (dM (cW hN hj (Or.inl hy) (Or.inr hy)) nF))
section
open PySem.Spec PyProof.Rows
variable {X:Cx}{tg l:Expr}{tl:TE}
def IH (hl:PE X l tl):PI X tg l (LC X.K tl):=by
 intro pins s σ H R I h
 refine b5 (hl pins s σ H _ I h) λv s1 ⟨x,H1,I1,r1,q1⟩=>?_
 obtain⟨a,xs,e,q⟩:=q1
 subst e
 cases r1
 rcases q with⟨hq,q⟩ | ⟨hq,q⟩
 ·obtain⟨its,rv,p,hz⟩:=I1.list hq
  refine OD p.isList ?_
  refine⟨s1.heap.objs.size,[s1.heap.objs.size],_,_,H1,rfl,I1.kept (t':=s1.toks) λb o e=>MH _ e,nZ a _,⟨_,MX _ rfl,rfl,rfl⟩,λb hb=>?_,q⟩
  have e:b=s1.heap.objs.size:=by simpa using hb
  subst e
  exact I1.fpOk (MK _) (I1.hok.fresh (MK _))
 ·obtain⟨its,rv,p,hz⟩:=I1.tuple hq
  refine wpAny_pyIter_tuple (show s1.heap.IsTuple a its.toArray from p) ?_
  refine⟨s1.heap.objs.size,[s1.heap.objs.size],_,_,H1,rfl,I1.kept (t':=s1.toks) λb o e=>MH _ e,pW a _,⟨_,MX _ rfl,rfl,rfl⟩,λb hb=>?_,q⟩
  have e:b=s1.heap.objs.size:=by simpa using hb
  subst e
  exact I1.fpOk (MK _) (I1.hok.fresh (MK _))
end
section
variable {K:Frag}{H H1 H':Hp}{a:Addr}{xs:List V}{σ:St}
abbrev Ko (J:It)(g:TG)(tb:TS)(D:Ends)(σ:St)(H:Hp):Prop:=∃W:Nat->Nat->St->Hp->Prop,(∃m,W 0 m σ H)/\∀i m σ H,W i m σ H->
   (J.stop i H/\D.nx σ H)\/(J.go i H/\∃N:St->Hp->Prop,(∀σ' H',N σ' H'->∃m',m' < m/\W (i + 1) m' σ' H')/\∀x H',J.yld i H x H'->g x σ H' λσ2 H2=>tb {D with nx:=N,ct:=N,bk:=D.nx} σ2 H2)
def Gg (s:av H1 H')(hq:gG K H1 a xs\/fL K H1 a xs):gG K H' a xs\/fL K H' a xs:=hq.elim (λq=>.inl (s.seq q)) λq=>.inr (q.grow s.grow)
def Gn {g:TG}{tb:TS}{D:Ends}(hq:gG K H1 a xs\/fL K H1 a xs)(Pv:Nat->St->Hp->Prop)(h0:Pv 0 σ H)(hl:∀i σ H',Pv i σ H'->av H1 H')
  (hs:∀i x σ H,xs[i]? =some x->Pv i σ H->g x σ H λσ2 H2=>tb {D with nx:=Pv (i + 1),ct:=Pv (i + 1),bk:=D.nx} σ2 H2) (hd:∀σ H,Pv xs.length σ H->D.nx σ H) :
  (gG K H a xs/\Ko (Bb K a) g tb D σ H)\/(fL K H a xs/\Ko (GS K a) g tb D σ H):=
 hq.elim (λq=>.inl ⟨(hl _ _ _ h0).seq q,wa Pv h0 (λi σ H' _ p=>(hl i σ H' p).seq q) hs hd⟩) λq=>.inr ⟨q.grow (hl _ _ _ h0).grow,Fq Pv h0 (λi σ H' _ p=>q.grow (hl i σ H' p).grow) hs hd⟩
def zA (J:It)(own:Nat)(ixs:List Nat)(g:TG)(tt:TT)(te:TE)(Q:VK)(D:Addr)(σ:St)(H:Hp):Prop:=∃W:Nat->Nat->St->Hp->Prop,(∃m,W 0 m (uG own ixs σ) (upd H D (.lst [])))/\∀i m σ' H',W i m σ' H'->
   (J.stop i H'/\(∃acc,H' D=some (.lst acc))/\Q (.ref D) H')\/
   (J.go i H'/\∃N:St->Hp->Prop,(∀σ2 H2,N σ2 H2->∃m',m' < m/\W (i + 1) m' σ2 H2)/\∀x H2,J.yld i H' x H2->fu g tt te D x σ' H2 N)
structure vE (own:Nat)(ixs:List Nat)(wi:TI)(g:TG)(tt:TT)(te:TE)(σ:St)(H:Hp)(Q:VK):Prop where
 out:wi σ H λJ H1=>∀D,H1 D=none->zA J own ixs g tt te Q D σ H1
def x9 {own:Nat}{ixs:List Nat}{wi:TI}{g:TG}{tt:TT}{te:TE}{Q:VK}(h:wi σ H λJ H1=>∀D,H1 D=none->zA J own ixs g tt te Q D σ H1):vE own ixs wi g tt te σ H Q:=⟨h⟩
def tj {X:Cx}{NB:List Str}{own:Nat}{ixs:List Nat}{scope:Scope}{tg iter elt:Expr}{ifs:List Expr}{wi:TI}{g:TG}{tt:TT}{te:TE}{pos:Pos}(hc:X.calm=true)(S:dz X NB own ixs scope)(hi:PI X tg iter wi)
  (hg:∀C ex s3 H3 pn,PG (jt X NB scope C ex s3 H3 pn) tg g) (ht:∀C ex s3 H3 pn,BJ (jt X NB scope C ex s3 H3 pn) ifs tt) (he:∀C ex s3 H3 pn,PE (jt X NB scope C ex s3 H3 pn) elt te)
  (hs:∀x,foldedSetIterable iter X.env x=pure x:=by intro _;rfl):PE X (.ListComp elt [⟨tg,iter,ifs,0⟩] scope pos) (vE own ixs wi g tt te):=
 λpins s σ H Q I h=>vN hc S hi hg ht he hs pins s σ H Q I h.out
section
variable {own:Nat}{ixs:List Nat}{g:TG}{tt:TT}{te:TE}{Q:VK}{D:Addr}
def EK (Pv:Nat->St->Hp->Prop)(h0:Pv 0 (uG own ixs σ) (upd H D (.lst [])))(hl:∀i σ H,i<=xs.length->Pv i σ H->gG K H a xs)
  (hs:∀i x σ H,xs[i]? =some x->Pv i σ H->fu g tt te D x σ H (Pv (i + 1))) (hd:∀σ H,Pv xs.length σ H->(∃acc,H D=some (.lst acc))/\Q (.ref D) H):zA (Bb K a) own ixs g tt te Q D σ H:=Ad Pv h0 hl hs hd
def wV {lo:Int}{n:Nat}(Pv:Nat->St->Hp->Prop)(h0:Pv 0 (uG own ixs σ) (upd H D (.lst [])))
  (hs:∀i σ H,i < n->Pv i σ H->fu g tt te D (.int (lo + i)) σ H (Pv (i + 1))) (hd:∀σ H,Pv n σ H->(∃acc,H D=some (.lst acc))/\Q (.ref D) H):zA (Bc lo n) own ixs g tt te Q D σ H:=xF Pv h0 hs hd
end
def wA {i:Nat}{te:TE}{D:Addr}{x:V}{N:St->Hp->Prop}(h:te (σ.set i (some x)) H λv H5=>∃acc,H5 D=some (.lst acc)/\acc.length < sizeLine/\N (σ.set i (some x)) (upd H5 D (.lst (acc ++ [v])))):fu (lQ i) Iw te D x σ H N:=by
 unfold fu lQ Iw
 exact w8 h
def BK {i j:Nat}{x y:V}{Q:St->Hp->Prop}(h:fL K H a [x,y])(q:Q ((σ.set i (some x)).set j (some y)) H):FC K 2 (pU (lQ i) (pU (lQ j) FT)) (.ref a) σ H Q:=⟨a,_,rfl,h,rfl,x,_,rfl,y,_,rfl,rfl,q⟩
def Lm {c A B:Prop}[Decidable c](h:c)(a:A):if c then A else B:=by rw[MJ h];exact a
def Lg {c A B:Prop}[Decidable c](h:¬c)(b:B):if c then A else B:=by rw[MO h];exact b
def take_snoc {α:Type}{l:List α}{i:Nat}{x:α}(h:l[i]? =some x):l.take (i + 1)=l.take i ++ [x]:=by
 rw[OE,h];rfl
def take_all {α:Type}(l:List α):l.take l.length=l:=NV (MK _)
end
def fI (n:Nat):(OM.cq n).length=n * n:=by unfold OM.cq;simp
def E5 {n i:Nat}(h:i < n * n):(OM.cq n)[i]? =some (((i / n:Nat):Int),((i % n:Nat):Int)):=by
 unfold OM.cq
 rw[MV,List.getElem?_range h];rfl
def Mb {n:Nat}(h:n<=8):n * n<=64:=N4 h h
section
variable {P:Program}{w:World}{K:Frag}{mg:Str->Option Value}{base:Heap}
def y1 (K:Frag):Sp:=λvs H Q _=>∃n:Nat,vs= [.int n]/\1<=n/\n<=8/\∀H' l ws,av H H'->H l=none->H' l=some (.lst ws)->aQ K H' ws (OM.cq n)->Q (.ref l) H'
def Es:aJ ["many"] ["many"] (aw jS):=⟨rfl,rfl,rfl,by decide +kernel,rfl,by decide +kernel,by decide +kernel⟩
def Kq:(["number","many"]:List Str).Nodup:=by decide +kernel
def Du {f:Addr}{fd:FuncData}(F:Fn K mg "every_pair" jS ["many"] f fd)(B:Bt mg):gB P w K mg base II 1 f fd ["many"] (y1 K):=by
 refine F.F.ok Es (λvs H Q E h=>?_) (λcdv A outer s H vs Q E hr h=>?_)
 ·obtain⟨n,rfl,_⟩:=h;rfl
 ·obtain⟨n,rfl,h1,h8,k⟩:=h
  refine⟨_,jf (nV (tj (NB:=["number","many"]) (own:=1) (ixs:=[0]) rfl (nU (by kernel_rfl)) (lz rfl B.range (aU (wN ju (pv 0) (pv 0)) bO))
   (λC ex s3 H3 pn=>cW (i:=0) Kq rfl (Or.inl rfl) (hf:=Or.inr rfl)) (λC ex s3 H3 pn=>tR)
   (λC ex s3 H3 pn=>xw (aU (wN nt (pv 0) (pv 1)) (aU (wN mn (pv 0) (pv 1)) bO))))),?_⟩
  have hn:=Mb h8
  have e0:((n:Int) * (n:Int))=((n * n:Nat):Int):=by rw[Int.natCast_mul]
  refine x9 ⟨_,rfl,_,rfl,_,_,rfl,rfl,.inl ⟨by omega,by omega⟩,_,rfl,by rw[e0];omega,by rw[e0];omega,λD hD=>?_⟩
  rw[e0,NJ]
  refine wV (λi σ' H'=>(∃v,σ'= [v,some (.int n)])/\av H H'/\∃vs,H' D=some (.lst vs)/\aQ K H' vs ((OM.cq n).take i)) ⟨⟨none,rfl⟩,(av.refl H).put hD,[],ay,.nil⟩ ?_ ?_
  ·rintro i σ' H' hi ⟨⟨v,rfl⟩,s1,vs,hv,hp⟩
   have hn0:(0:Int) < (n:Int):=by omega
   refine wA ⟨_,rfl,_,rfl,_,_,rfl,rfl,⟨hn0,by omega⟩,_,rfl,_,rfl,_,_,rfl,rfl,hn0,by show 2<=sizeLine;rw[Ni];omega,λp hp0=>?_⟩
   have hpD:D≠p:=aL hv hp0
   have hl:=hp.len
   refine⟨vs,by rw[az hpD];exact hv,?_,⟨_,rfl⟩,?_,vs ++ [.ref p],ay,?_⟩
   ·rw[hl,Nu,Ni];rw[fI];omega
   ·exact (s1.put (s1.free hp0)).put hD
   ·rw[take_snoc (E5 hi)]
    have g1:iR H' (upd H' p (.tup [.int ((0 + (i:Int)) / n),.int ((0 + (i:Int)) % n)])):=iR.new hp0
    have g2:∀o,iR (upd H' p (.tup [.int ((0 + (i:Int)) / n),.int ((0 + (i:Int)) % n)])) (upd (upd H' p (.tup [.int ((0 + (i:Int)) / n),.int ((0 + (i:Int)) % n)])) D o):=λo=>iR.list (by rw[az hpD];exact hv)
    refine aQ.snoc ?_ (hp.grow (g1.trans (g2 _)))
    refine (fL.grow ?_ (g2 _))
    refine .inl (.inl ?_)
    rw[ay,N2];rfl
  ·rintro σ' H' ⟨_,s1,vs,hv,hp⟩
   refine⟨⟨_,hv⟩,k H' D vs s1 hD hv ?_⟩
   rw[<-fI n,take_all] at hp
   exact hp
end
end RO
end
namespace RO
open PySem L2
structure TabAt (n:Nat)(M:OM.Tb)(L:Addr)(r:Nat->Addr)(H:Hp):Prop where
 top:H L=some (.lst ((List.range n).map λi=>V.ref (r i)))
 row:∀i,i < n->H (r i)=some (.lst ((List.range n).map λj=>V.bl (M i j)))
 inj:∀i j,i < n->j < n->r i=r j->i=j
 ne:∀i,i < n->r i≠L
def yV {n x:Nat}(h:x < n):AL n (x:Int)=some x:=by
 unfold AL;rw[MJ (by omega),MJ (by omega)];simp
def B3 {α:Type}{xs:List α}{x:Nat}(h:x < xs.length):jv xs (x:Int)=xs[x]?:=by
 unfold jv;rw[yV h];rfl
def gK {f:Nat->V}{n x:Nat}(h:x < n):jv ((List.range n).map f) (x:Int)=some (f x):=by
 rw[B3 (by simpa using h),MV,List.getElem?_range h];rfl
def rY {f:Nat->V}{n x:Nat}(h:x < n):AL ((List.range n).map f).length (x:Int)=some x:=by
 rw[ML,N5];exact yV h
def Be {f:Nat->V}{n y:Nat}{v:V}:((List.range n).map f).set y v=(List.range n).map λj=>if j=y then v else f j:=by
 apply OZ
 intro i
 by_cases hi:i < n
 ·by_cases e:y=i
  ·subst e;simp[List.getElem?_set,hi]
  ·have e':¬i=y:=λz=>e z.symm
   simp[List.getElem?_set,hi,e,e']
 ·rw[OB (by simp;omega),OB (by simp;omega)]
section
variable {n:Nat}{M:OM.Tb}{L:Addr}{r:Nat->Addr}{H H':Hp}
def TabAt.set (T:TabAt n M L r H){x y:Nat}(hx:x < n):TabAt n (M.set x y) L r (upd H (r x) (.lst (((List.range n).map λj=>V.bl (M x j)).set y (.bl true)))):=by
 refine⟨by rw[az (T.ne x hx).symm];exact T.top,λi hi=>?_,T.inj,T.ne⟩
 by_cases e:i=x
 ·subst e
  rw[ay,Be]
  refine congrArg _ (congrArg _ (Ot λj _=>?_))
  unfold OM.Tb.set
  by_cases c:j=y
  ·simp[c]
  ·simp[c]
 ·rw[az (λz=>e (T.inj i x hi hx z)),T.row i hi]
  refine congrArg _ (congrArg _ (Ot λj _=>?_))
  unfold OM.Tb.set;simp[e]
def TabAt.same (T:TabAt n M L r H)(s:av H H'):TabAt n M L r H':=⟨s _ _ T.top,λi hi=>s _ _ (T.row i hi),T.inj,T.ne⟩
end
def ub {n:Nat}{ps:List (Int×Int)}(w:OM.Wn n ps){p:Int×Int}(h:p∈ps):∃u v:Nat,p=((u:Int),(v:Int))/\u < n/\v < n:=by
 obtain⟨x,y⟩:=p
 have q:=w _ h
 simp only at q
 exact⟨x.toNat,y.toNat,by rw[Int.toNat_of_nonneg q.1.1,Int.toNat_of_nonneg q.2.1],by omega,by omega⟩
def jc {M0 M:OM.Tb}{m:Nat}{D D':Nat->Nat->Prop}(P:OM.Phase M0 M m D)(h:∀a b,D a b↔D' a b):OM.Phase M0 M m D':=λa b=>by rw[P a b,h a b]
def ly {l:List (Int×Int)}{u v a b:Nat}:(((a:Int),(b:Int))∈l\/(a=u/\b=v))↔((a:Int),(b:Int))∈l ++ [((u:Int),(v:Int))]:=by
 rw[M6,Nc,Prod.mk.injEq]
 constructor
 ·rintro (h | ⟨h1,h2⟩)
  ·exact .inl h
  ·exact .inr ⟨by omega,by omega⟩
 ·rintro (h | ⟨h1,h2⟩)
  ·exact .inl h
  ·exact .inr ⟨by omega,by omega⟩
def Ew {M:OM.Tb}{u v a b:Nat}:M.set u v a b=true↔M a b=true\/(a=u/\b=v):=by
 unfold OM.Tb.set
 by_cases c:a=u/\b=v
 ·simp[c]
 ·rw[MO c];exact⟨.inl,λh=>h.resolve_right c⟩
def Js (n:Nat)(x:V):(List.replicate n [x]).flatten=(List.range n).map λ_=>x:=by
 rw[List.flatten_replicate_singleton,List.map_const',N5]
section
variable {P:Program}{w:World}{K:Frag}{mg:Str->Option Value}{base:Heap}
def Ds (K:Frag):Sp:=λvs H Q _=>∃(n:Nat) (a:Addr) (xs:List V) (ps:List (Int×Int)),vs= [.int n,.ref a]/\1<=n/\n<=8/\(gG K H a xs\/fL K H a xs)/\aQ K H xs ps/\OM.Wn n ps/\
 ∀H' t ws,av H H'->H t=none->H' t=some (.tup ws)->aQ K H' ws (OM.bR n (OM.Tr (OM.Mem ps)))->Q (.ref t) H'
def gC:aJ ["many","pairs","corners","leads","a","b","middle"] ["many","pairs"] (aw mT):=⟨rfl,rfl,rfl,by decide +kernel,rfl,by decide +kernel,by decide +kernel⟩
def JK:(["start","many"]:List Str).Nodup:=by decide +kernel
def HJ:(["a","b","leads"]:List Str).Nodup:=by decide +kernel
set_option maxHeartbeats 1000000 in
theorem Au {f g:Addr}{fd gd:FuncData}(F:Fn K mg "closed" mT ["many","pairs"] f fd)(G:Fn K mg "every_pair" jS ["many"] g gd)(GE:gB P w K mg base II 1 g gd ["many"] (y1 K))(B:Bt mg):gB P w K mg base II 2 f fd ["many","pairs"] (Ds K):=by
 refine F.F.ok gC (λvs H Q E h=>?_) (λcdv A outer s H vs Q E hr h=>?_)
 ·obtain⟨n,a,xs,ps,rfl,_⟩:=h;rfl
 ·obtain⟨n,a,xs,ps,rfl,h1,h8,hq,hp,wn,k⟩:=h
  refine⟨_,iQ (pO (i:=2) gC.nd rfl (Or.inl rfl) (pB GE hr rfl G.mg G.F.kp G.b .nil JS (aU (pv 0) bO)))
   (iQ (pO (i:=3) gC.nd rfl (Or.inr rfl) (tj (NB:=["start","many"]) (own:=1) (ixs:=[0]) rfl (nU (by kernel_rfl)) (lz rfl B.range (aU (pv 0) bO))
    (λC ex s3 H3 pn=>cW (i:=0) JK rfl (Or.inl rfl) (hf:=Or.inr rfl)) (λC ex s3 H3 pn=>tR) (λC ex s3 H3 pn=>wN Hs (Cy (aU zg bO)) (pv 1))))
   (iQ (uM PassesOwn.never rfl (IH (pv 1)) (ql rfl (dM (cW (i:=4) gC.nd rfl (Or.inl rfl)) (dM (cW (i:=5) gC.nd rfl (Or.inl rfl)) nF)))
    (jf (qE zg (yn (lZ ie (pv 3) (pv 4) (λ_ _=>rfl)) (pv 5) set_list))))
   (iQ (uM PassesOwn.never rfl (lz rfl B.range (aU (pv 0) bO)) (cW (i:=6) gC.nd rfl (Or.inl rfl))
    (jf (uM PassesOwn.never rfl (zW (pv 2)) (ql rfl (dM (cW (i:=4) gC.nd rfl (Or.inl rfl)) (dM (cW (i:=5) gC.nd rfl (Or.inl rfl)) nF)))
     (jf (GY (PW.pt (C2 (xu (lZ ie (lZ ie (pv 3) (pv 4) (λ_ _=>rfl)) (pv 6) (λ_ _=>rfl))) (yL (xu (lZ ie (lZ ie (pv 3) (pv 6) (λ_ _=>rfl)) (pv 5) (λ_ _=>rfl))))))
      (jf (qE zg (yn (lZ ie (pv 3) (pv 4) (λ_ _=>rfl)) (pv 5) set_list))) zx)))))
   (jf (nV (jA cU rfl B.tuple (by decide +kernel) (aU (tj (NB:=["a","b","leads"]) (own:=2) (ixs:=[3]) rfl (nU (by kernel_rfl)) (zW (pv 2))
    (λC ex s3 H3 pn=>IC K 0 1 HJ rfl rfl rfl rfl rfl rfl)
    (λC ex s3 H3 pn=>zN (xu (lZ (Mo K) (lZ (Mo K) (pv 2) (pv 0) (λ_ _=>rfl)) (pv 1) (λ_ _=>rfl)))) (λC ex s3 H3 pn=>xw (aU (pv 0) (aU (pv 1) bO)))) bO))))))),?_⟩
  have hn:=Mb h8
  have hn0:(0:Int)<=(n:Int):=by omega
  refine⟨_,rfl,n,rfl,h1,h8,λH1 c ws s1 hc0 hc hw=>?_⟩
  have hwl:ws.length=n * n:=by rw[hw.len,fI]
  have gw:OM.Wn n (OM.cq n):=λp hp=>OM.bC.mp hp
  refine x9 ?_
  refine⟨_,rfl,n,rfl,by omega,by omega,λD hD=>?_⟩
  rw[NJ]
  refine wV (λi σ' H'=>(∃v,σ'= [v,some (.int n)])/\av H1 H'/\∃r:Nat->Addr,H' D=some (.lst ((List.range i).map λk=>V.ref (r k)))/\
   (∀k,k < i->H' (r k)=some (.lst ((List.range n).map λ_=>V.bl false))/\H1 (r k)=none/\r k≠D)/\∀j k,j < i->k < i->r j=r k->j=k)
   ?_ ?_ ?_
  ·exact⟨⟨none,rfl⟩,(av.refl H1).put hD,λ_=>0,ay,λk hk=>absurd hk (Nat.not_lt_zero _),λj k hj=>absurd hj (Nat.not_lt_zero _)⟩
  ·rintro i σ' H' hi ⟨⟨v,rfl⟩,s2,r,hr0,hr1,hr2⟩
   refine wA ⟨by show 1<=sizeLine;rw[Ni];omega,λp hp0=>⟨_,rfl,p,n,[.bl false],rfl,rfl,ay,by omega,by omega,by show 1 * (n:Int).toNat<=sizeLine;rw[Ni];omega,λq hq0=>?_⟩⟩
   have hqp:q≠p:=by intro e;subst e;rw[ay] at hq0;cases hq0
   have hq1:H' q=none:=by rw[az hqp] at hq0;exact hq0
   have hDp:D≠p:=aL hr0 hp0
   have hDq:D≠q:=aL hr0 hq1
   rw[NJ,Js]
   refine⟨_,by rw[az hDq,az hDp];exact hr0,by rw[ML,N5,Ni];omega,⟨_,rfl⟩,((s2.put (s2.free hp0)).put (s2.free hq1)).put hD,λk=>if k=i then q else r k,?_,λk hk=>?_,λj k hj hk e=>?_⟩
   ·have e:(List.range i).map (λk=>V.ref (r k))=(List.range i).map (λk=>V.ref (if k=i then q else r k)):=Ot λk hk=>by
     have:=M5.mp hk
     rw[MO (by omega)]
    rw[ay,List.range_succ,Nz,e]
    simp
   ·dsimp only
    by_cases e:k=i
    ·rw[MJ e]
     exact⟨by rw[az hDq.symm,ay],s2.free hq1,hDq.symm⟩
    ·rw[MO e]
     obtain⟨a1,a2,a3⟩:=hr1 k (by omega)
     exact⟨by rw[az a3,az (aL a1 hq1),az (aL a1 hp0)];exact a1,a2,a3⟩
   ·dsimp only at e
    by_cases ej:j=i
    ·by_cases ek:k=i
     ·omega
     ·rw[MJ ej,MO ek] at e
      exact absurd e.symm (aL (hr1 k (by omega)).1 hq1)
    ·by_cases ek:k=i
     ·rw[MO ej,MJ ek] at e
      exact absurd e (aL (hr1 j (by omega)).1 hq1)
     ·rw[MO ej,MO ek] at e
      exact hr2 j k (by omega) (by omega) e
  rintro σ2 H2 ⟨_,s2,r,hr0,hr1,hr2⟩
  refine⟨⟨_,hr0⟩,?_⟩
  have sep:∀i,i < n->H1 (r i)=none:=λi hi=>(hr1 i hi).2.1
  have T0:TabAt n (λ_ _=>false) D r H2:=⟨hr0,λi hi=>(hr1 i hi).1,hr2,λi hi=>(hr1 i hi).2.2⟩
  refine⟨_,rfl,a,xs,rfl,Gn (H1:=H1) (Gg s1 hq) (λi σ' H'=>(∃x y,σ'= [some (.int n),some (.ref a),some (.ref c),some (.ref D),x,y,none])/\av H1 H'/\∃M,TabAt n M D r H'/\∀u v:Nat,M u v=true↔((u:Int),(v:Int))∈ps.take i)
   ⟨⟨none,none,rfl⟩,s2,_,T0,λu v=>by simp⟩ (λi σ' H' q=>q.2.1) ?_ ?_⟩
  ·rintro i x σ' H' hx ⟨⟨_,_,rfl⟩,s3,M,T,hM⟩
   obtain⟨p,hpi,b,rfl,hb⟩:=(hp.same (s1.trans s3)).at hx
   obtain⟨u,v,rfl,hu,hv⟩:=ub wn (MU hpi)
   refine BK hb ?_
   refine⟨_,rfl,_,rfl,D,_,u,_,rfl,rfl,.inl (.inl T.top),gK hu,_,rfl,r u,_,v,v,rfl,rfl,T.row u hu,rY hv,⟨_,_,rfl⟩,s3.put (sep u hu),_,T.set hu,λx y=>?_⟩
   rw[take_snoc hpi,<-ly,Ew,hM]
  rintro σ3 H3 ⟨⟨x3,y3,rfl⟩,s3,M3,T3,hM3⟩
  rw[hp.len,take_all] at hM3
  refine⟨_,rfl,n,rfl,by omega,by omega,?_⟩
  rw[NJ]
  refine A8 (λm σ' H'=>(∃x y z,σ'= [some (.int n),some (.ref a),some (.ref c),some (.ref D),x,y,z])/\av H1 H'/\∃M,TabAt n M D r H'/\OM.Tab n ps M/\OM.Fb M m)
   ⟨⟨_,_,_,rfl⟩,s3,M3,T3,⟨λa b h=>by have:=wn _ ((hM3 a b).mp h);simp only at this;omega,λa b h=>(hM3 a b).mpr h,λa b h=>.one ((hM3 a b).mp h)⟩,λk a b hk=>absurd hk (Nat.not_lt_zero _)⟩ ?_ ?_
  ·rintro m σ' H' hm ⟨⟨_,_,_,rfl⟩,s4,M,T,TT,Th⟩
   rw[N2]
   refine⟨_,rfl,c,rfl,⟨ws,.inl (.inl (s4 _ _ hc))⟩,wa (xs:=ws) (λi σ' H'=>(∃x y,σ'= [some (.int n),some (.ref a),some (.ref c),some (.ref D),x,y,some (.int m)])/\av H1 H'/\∃M',TabAt n M' D r H'/\OM.Phase M M' m λu v=>((u:Int),(v:Int))∈(OM.cq n).take i)
    ⟨⟨_,_,rfl⟩,s4,M,T,jc (OM.Phase.start M m) λa b=>by simp⟩ (λi σ' H' _ q=>.inl (.inl (q.2.1 _ _ hc))) ?_ ?_⟩
   ·rintro i x σ' H' hx ⟨⟨_,_,rfl⟩,s5,M',T',Ph⟩
    obtain⟨p,hpi,b,rfl,hb⟩:=(hw.same s5).at hx
    obtain⟨u,v,rfl,hu,hv⟩:=ub gw (MU hpi)
    refine BK hb ?_
    have st:=Ph.step u v
    refine⟨_,rfl,_,rfl,D,_,u,_,rfl,rfl,.inl (.inl T'.top),gK hu,_,rfl,r u,_,m,_,rfl,rfl,.inl (.inl (T'.row u hu)),gK hm,_,rfl,?_⟩
    by_cases c1:M' u m=true
    ·refine Lm c1 ?_
     refine⟨_,rfl,_,rfl,D,_,m,_,rfl,rfl,.inl (.inl T'.top),gK hm,_,rfl,r m,_,v,_,rfl,rfl,.inl (.inl (T'.row m hm)),gK hv,_,rfl,?_⟩
     by_cases c2:M' m v=true
     ·refine Lm c2 ?_
      rw[MJ ⟨c1,c2⟩] at st
      refine⟨_,rfl,_,rfl,D,_,u,_,rfl,rfl,.inl (.inl T'.top),gK hu,_,rfl,r u,_,v,v,rfl,rfl,T'.row u hu,rY hv,⟨_,_,rfl⟩,s5.put (sep u hu),_,T'.set hu,jc st λa b=>?_⟩
      rw[take_snoc hpi];exact ly
     ·refine Lg c2 ?_
      rw[MO λz=>c2 z.2] at st
      refine⟨⟨_,_,rfl⟩,s5,_,T',jc st λa b=>?_⟩
      rw[take_snoc hpi];exact ly
    ·refine Lg c1 ?_
     rw[MO λz=>c1 z.1] at st
     refine wc ⟨⟨_,_,rfl⟩,s5,_,T',jc st λa b=>?_⟩
     rw[take_snoc hpi];exact ly
   ·rintro σ' H' ⟨⟨_,_,rfl⟩,s5,M',T',Ph⟩
    rw[hw.len,take_all] at Ph
    have dn:=Ph.done (n:=n) (λa b ha hb=>OM.bC.mpr ⟨⟨by simp,by simp;omega⟩,by simp,by simp;omega⟩) TT.inn Th
    exact⟨⟨_,_,_,rfl⟩,s5,M',T',TT.phase Ph,dn.1⟩
  rintro σ4 H4 ⟨⟨x4,y4,z4,rfl⟩,s4,M,T,TT,Th⟩
  refine x9 ⟨_,rfl,c,rfl,⟨ws,.inl (.inl (s4 _ _ hc))⟩,λD' hD'=>EK (xs:=ws) (λi σ' H'=>(∃x y,σ'= [x,y,some (.ref D)])/\av H4 H'/\∃vs,H' D'=some (.lst vs)/\aQ K H' vs (((OM.cq n).take i).filter λp=>M p.1.toNat p.2.toNat))
   ⟨⟨_,_,rfl⟩,(av.refl H4).put hD',[],ay,.nil⟩ (λi σ' H' _ q=>.inl (.inl (q.2.1 _ _ (s4 _ _ hc)))) ?_ ?_⟩
  ·rintro i x σ' H' hx ⟨⟨_,_,rfl⟩,s5,vs,hv,hpv⟩
   obtain⟨p,hpi,b,rfl,hb⟩:=(hw.same (s4.trans s5)).at hx
   obtain⟨u,v,rfl,hu,hv'⟩:=ub gw (MU hpi)
   refine BK hb ?_
   have T':=T.same s5
   refine⟨_,rfl,_,rfl,D,_,u,_,rfl,rfl,.inl (.inl T'.top),gK hu,_,rfl,r u,_,v,_,rfl,rfl,.inl (.inl (T'.row u hu)),gK hv',_,rfl,?_⟩
   by_cases c1:M u v=true
   ·refine Lm c1 ?_
    refine⟨_,rfl,_,rfl,by show 2<=sizeLine;rw[Ni];omega,λp hp0=>?_⟩
    have hpD:D'≠p:=aL hv hp0
    refine⟨vs,by rw[az hpD];exact hv,?_,⟨_,_,rfl⟩,(s5.put (s5.free hp0)).put hD',_,ay,?_⟩
    ·rw[hpv.len]
     refine Nat.lt_of_le_of_lt (NR ..) ?_
     rw[Nu,fI,Ni];omega
    ·rw[take_snoc hpi,List.filter_append,List.filter_cons_of_pos (by simpa using c1),List.filter_nil]
     have g1:iR H' (upd H' p (.tup [.int u,.int v])):=iR.new hp0
     have g2:∀o,iR (upd H' p (.tup [.int u,.int v])) (upd (upd H' p (.tup [.int u,.int v])) D' o):=λo=>iR.list (by rw[az hpD];exact hv)
     refine aQ.snoc ?_ (hpv.grow (g1.trans (g2 _)))
     exact fL.grow (.inl (.inl ay)) (g2 _)
   ·refine Lg c1 ?_
    refine⟨⟨_,_,rfl⟩,s5,vs,hv,?_⟩
    rw[take_snoc hpi,List.filter_append,List.filter_cons_of_neg (by simpa using c1),List.filter_nil,Oh]
    exact hpv
  ·rintro σ' H' ⟨_,s5,vs,hv,hpv⟩
   rw[hw.len,take_all] at hpv
   refine⟨⟨_,hv⟩,D',vs,rfl,.inl ⟨.inl (.inl hv),λt ht=>?_⟩⟩
   have sA:av H H':=(s1.trans s4).trans s5
   refine k _ t vs (sA.put (sA.free ht)) (sA.free ht) ay ?_
   have e:((OM.cq n).filter λp=>M p.1.toNat p.2.toNat)=OM.bR n (OM.Tr (OM.Mem ps)):=by
    unfold OM.bR
    refine Pl λp hp=>?_
    obtain⟨u,v,rfl,hu,hv⟩:=ub gw hp
    have:=TT.all wn Th u v
    simp only[NJ]
    rw[ND,this]
    simp
   rw[e] at hpv
   exact hpv.grow (iR.new ht)
end
end RO
namespace RO
open PySem L2 RM
section
variable {P:Program}{w:World}{K:Frag}{mg:Str->Option Value}{base:Heap}{ca:Str->Addr}
def Mu {k:Nat}{f:Addr}{fd:FuncData}{ps:List Str}{sp:Sp}(F:gB P w K mg base II k f fd ps sp):gB P w K mg base (oS P w) k f fd ps sp:=
 ⟨F.len,λA outer s H args us vs Q E hr he hb hv hs=>Pc (F.run A outer s H args us vs Q E hr he hb hv hs) λr s' h=>by
  cases r with
  |ok x=>cases x <;> exact h
  |error e=>exact h.elim⟩
def yr {G H:Hp}(s:av G H){ws:List V}{ps:List Pr}(h:aQ K H ws ps):aQ K (nu G H) ws ps:=Paired.mapP h λv p ⟨a,e,q⟩=>⟨a,e,mV s q⟩
def qm {ds:List D}(h:dw ds≠.bad):∃(n:Nat) (d:D) (ps:List Pr),ds= [.int n,d]/\mM d=some (ps.map ao)/\1<=n/\n<=8/\OM.Wn n ps/\dw ds=.ok (.tuple ((OM.bR n (OM.Tr (OM.Mem ps))).map ao)) false:=by
 unfold dw at h
 split at h
 ·rename_i n d
  cases q:mM d with
  |none=>rw[q] at h;exact absurd rfl h
  |some es=>
   rw[q] at h
   dsimp only at h
   cases q2:gn es with
   |none=>rw[q2] at h;exact absurd rfl h
   |some ps=>
    rw[q2] at h
    dsimp only at h
    by_cases c:1<=n/\n<=8/\OM.Wn n.toNat ps
    ·have e:((n.toNat:Nat):Int)=n:=by omega
     refine⟨n.toNat,d,ps,by rw[e],by rw[q,jL q2],by omega,by omega,c.2.2,?_⟩
     unfold dw
     dsimp only
     rw[q]
     dsimp only
     rw[q2]
     dsimp only
     rw[MJ c]
    ·rw[MO c] at h;exact absurd rfl h
 ·exact absurd rfl h
def xP {f g:Addr}{fd gd:FuncData}(F:jw K mg "closed" mT ["many","pairs"] f fd)(E:jw K mg "every_pair" jS ["many"] g gd)(B:jy mg):df P w K mg base ca "closed" ["many","pairs"] 3 dw:=by
 refine⟨⟨f,fd,F.mg,F.F.kp,F.b,((Mu (Au F E (Du E B) B)).mono (by decide)).imp ?_⟩,λds h=>?_⟩
 ·rintro vs H Q X ⟨G,ds,s,hl,r,h⟩
  have hb:dw ds≠.bad:=λz=>by rw[z] at h;exact h
  obtain⟨n,d,ps,rfl,hd,h1,h8,wn,e⟩:=qm hb
  rw[e] at h
  cases r with
  |cons r1 r=>
   cases r with
   |cons r2 r=>
    cases r
    cases r1
    obtain⟨a,xs,rfl,hq,hr⟩:=(kQ.seq (B:=none) (G:=G) (H:=G) (.inl r2) hd (av.refl _))
    refine⟨n,a,xs,ps,rfl,h1,h8,hq.elim (λq=>.inl (s.seq q)) (λq=>.inr (q.grow s.grow)),(hr.pairs).grow s.grow,wn,λH' t ws hh ht ht' hp=>?_⟩
    have s2:=s.trans hh
    refine h (.ref t) (nu G H') H' hh sE (wM s2) (λb m hb=>by rw[yI hh m];exact hb) ?_
    exact .tup (mV s2 (.inl (.inl ht'))) (aQ.rps (yr s2 hp))
 ·obtain⟨n,d,ps,rfl,_⟩:=qm h
  rfl
end
end RO
namespace HD
open PySem PySem.W
noncomputable abbrev CF:=@PySem.W.Fast.tw10156331382660048174
noncomputable abbrev Ik:=@PySem.W.Fast.tw11892475500146522536
noncomputable abbrev L5:=@PySem.W.Fast.tw6613529449190102663
noncomputable abbrev IW:=@PySem.W.Fast.tw14364793385576792824
noncomputable abbrev GL:=@PySem.W.Fast.tw17154629097778926822
noncomputable abbrev DT:=@PySem.W.Fast.tw12822647523644345616
noncomputable def Ed (p:Program):Thread:=
 ⟨do
  let code <-GL p.main
  let frame <-DT code mainNs mainNs
  let _ <-run (.body (behindTheImports p) {scope:=p.main.scope,locals:=mainNs,globals:=mainNs,cells:=[],code,frame:=some frame})
  ret .none,
  .builtin "claim.caller" {},default,[]⟩
def CO (p:Program):topStub p=Ed p:=by
 unfold topStub Ed GL DT
 rw[<-PySem.W.Fast.te17154629097778926822,<-PySem.W.Fast.te12822647523644345616]
noncomputable def o7 (p:Program)(w:World)(n₀:Nat)(ann:Option Value):Nat->SharedT->Thread->Option SharedT
 | 0,_,_=>none
 |n + 1,s,t=>match through t with
  |true=>some s
  |false=>match L5 n₀ ann t with
   |false=>none
   |true=>match CF (Ik IW) p w s t with
    |some (s',t')=>o7 p w n₀ ann n s' t'
    |none=>none
theorem r6 {p:Program}{w:World}{n₀:Nat}{ann:Option Value}:∀{n:Nat} {s s':SharedT} {t:Thread},o7 p w n₀ ann n s t=some s'->topRun treeTable p w n₀ ann n s.abs t=some s'.abs
 | 0,_,_,_,h=>by cases h
 |n + 1,s,s',t,h=>by
  unfold o7 at h
  unfold topRun
  cases ht:through t with
  |true=>rw[ht] at h;cases h;rfl
  |false=>
   rw[ht] at h
   have hq:L5 n₀ ann t=stepOk n₀ ann t:=by unfold L5;rw[<-PySem.W.Fast.te6613529449190102663]
   dsimp only at h
   rw[hq] at h
   cases hk:stepOk n₀ ann t with
   |false=>rw[hk] at h;cases h
   |true=>
    rw[hk] at h
    have hq:CF (Ik IW) p w s t=stepT (denote treeTable) p w s t:=by unfold CF Ik IW;rw[<-PySem.W.Fast.te10156331382660048174,<-PySem.W.Fast.te11892475500146522536,<-PySem.W.Fast.te14364793385576792824]
    dsimp only at h
    rw[hq] at h
    cases hs:stepT (denote treeTable) p w s t with
    |none=>rw[hs] at h;cases h
    |some r=>obtain⟨s₂,t₂⟩:=r;rw[hs] at h;rw[stepT_spec hs];exact r6 h
def treeOf (l:List Obj):BT:=(l.foldl (λ(x:BT×Nat) o=>(x.1.ins x.2 o,x.2 + 1)) (.nil,0)).1
noncomputable def DC (P:Params):BT:=treeOf (boot_heap P).objs.toList
abbrev wK:Nat:=11
abbrev Dl:Life:={}
def boot_abs (P:Params):absHeap (DC P) wK Dl=boot_heap P:=by kernel_rfl
def Ao (w:World):((boot_heap w.params).isNs mainGlobals && (Array.mk ([]:List GenState)).size == 0,(boot_heap w.params).objs.size,(boot_heap w.params).nsMap mainGlobals "__annotations__")=(true,wK,some (.ref 6)):=by kernel_rfl
noncomputable def Cb (w:World)(os:OsState):SharedT:=⟨DC w.params,wK,Dl,Array.mk [],boot_drawn,boot_toks,os⟩
noncomputable def GN (p:Program)(w:World)(s:Shared):Bool:=staticsOk (importedModules p.main.body) (boot_heap w.params) s.heap && namesBound p s.heap && gensDone s && laidKept (boot_heap w.params) s.heap
def Fu {p q:Program}{loose:List Str}{Xt:Shared->Bool}{α:Type}{Yf:Shared->α}{Ya:World->α}{N:Nat}{g0:Bool}
  (e:opening p=plainProg p.main.scope.names) (hN:Nat.ble 600 N=true) (f:∀s,fenceModules? p s=some s)
  (run:∀(w:World) (os:OsState),(o7 p w wK (some (.ref 6)) N (Cb w os) (Ed p)).map (λs=>(GN p w s.abs,openSeen q loose (importedModules p.main.body) Xt g0 s.abs,Yf s.abs))=some (true,openGood q loose,Ya w)):LeftO p q loose Xt Yf Ya N g0:=λw=>by
 obtain⟨⟨h,gs,d,k,os⟩,e,e'⟩:=Option.map_eq_some_iff.mp (boot_open e hN f w)
 obtain⟨rfl,rfl,rfl,rfl⟩:h=boot_heap w.params/\gs=Array.mk []/\d=boot_drawn/\k=boot_toks:=by simpa using e'
 obtain⟨z1,z2,z3⟩:_/\_/\_:=by simpa only [Prod.mk.injEq] using Ao w
 obtain⟨s',r,ls⟩:=Option.map_eq_some_iff.mp (run w os)
 obtain⟨l1,l2,l3⟩:_/\_/\_:=by simpa only [Prod.mk.injEq] using ls
 have r:=r6 r
 have ha:(Cb w os).abs=⟨boot_heap w.params,Array.mk [],boot_drawn,boot_toks,os⟩:=by
  show Shared.mk (absHeap (DC w.params) wK Dl) _ _ _ _=_
  rw[boot_abs]
  rfl
 rw[ha,<-CO] at r
 have t:topFrom treeTable p w N ⟨boot_heap w.params,Array.mk [],boot_drawn,boot_toks,os⟩=some s'.abs:=by
  unfold topFrom
  dsimp only
  rw[z1,z2,z3,r]
  show (match GN p w s'.abs with |true=>_ |false=>_)=_
  rw[l1]
 unfold openEnds
 rw[e]
 show (topFrom treeTable p w N _).map _=_
 rw[t]
 exact congrArg some (Prod.ext l2 l3)
end HD
section
namespace RO
open PySem L2 RM
def yK (K:Frag):Sp:=λvs H Q _=>∃(a:Addr) (ns:List Int),vs= [.ref a]/\gG K H a (ns.map V.int)/\∀H',av H H'->Q (.bl true) H'
def HG {K:Frag}{ca:Str->Addr}(vs:List V)(H:Hp)(Q:VK)(E:XK)(h:yK K vs H Q E):Ei K ca 1 IE vs H Q E:=by
 obtain⟨a,ns,rfl,hS,q⟩:=h
 refine⟨H,[dv ns],av.refl _,rfl,.cons (.scr hS) .nil,?_⟩
 rw[JU]
 intro v G' H' s1 s2 s3 s4 fv
 have fv:Rp K G' v (.bool true):=fv
 cases fv
 exact q H' s1
def yA:a7 "is_whole" RQ.jR ["thing"]:=λ_ _ _ _ _ _=>xt λ_=>rfl
def ym:a7 "is_below" RQ.jO ["thing","bound"]:=λ_ _ _ _ _ _=>ln2 λ_ _=>rfl
def Ap:a7 "is_many" RQ.lx ["thing"]:=λ_ _ _ _ _ _=>xt λ_=>rfl
def AY:a7 "is_pair" RQ.lI ["thing","many"]:=λ_ _ _ _ _ _=>ln2 λ_ _=>rfl
def um:a7 "every_pair" RQ.fx ["many"]:=λ_ _ _ _ _ _=>xt λ_=>rfl
def DU:a7 "closed" mT ["many","pairs"]:=λ_ _ _ _ _ _=>ln2 λ_ _=>rfl
def xD:a7 "has_ring" RQ.kl ["pairs"]:=λ_ _ _ _ _ _=>xt λ_=>rfl
def xk:a7 "is_order" RQ.jQ ["thing"]:=λ_ _ _ _ _ _=>xt λ_=>rfl
def uo:a7 "need_order" RQ.hG ["thing"]:=λ_ _ _ _ _ _=>xt λ_=>rfl
def wm:a7 "are_apart" RQ.jl ["order","a","b"]:=λ_ _ _ _ _ _=>KY λ_ _ _=>rfl
def Fe:a7 "turns" RQ.pA ["order"]:=λ_ _ _ _ _ _=>xt λ_=>rfl
def Am:a7 "is_turn" RQ.lF ["thing","order"]:=λ_ _ _ _ _ _=>ln2 λ_ _=>rfl
def wJ:a7 "are_turns" RQ.i9 ["thing","order"]:=λ_ _ _ _ _ _=>ln2 λ_ _=>rfl
def uP:a7 "turn_table" RQ.g8 ["order"]:=λ_ _ _ _ _ _=>xt λ_=>rfl
def qf:a7 "forced_among" RQ.fm ["table","many","turn"]:=λ_ _ _ _ _ _=>KY λ_ _ _=>rfl
def wR:a7 "back_turn" RQ.ji ["turn"]:=λ_ _ _ _ _ _=>xt λ_=>rfl
def Ae:a7 "is_knot" RQ.lG ["thing","order"]:=λ_ _ _ _ _ _=>ln2 λ_ _=>rfl
def vm:a7 "_law_cell" RQ.i6 ["script","k"]:=λ_ _ _ _ _ _=>ln2 λ_ _=>rfl
def yq:a7 "_law_mix" RQ.fZ ["cell","k"]:=λ_ _ _ _ _ _=>ln2 λ_ _=>rfl
def xT:a7 "_law_box" RQ.jU ["script","k"]:=λ_ _ _ _ _ _=>ln2 λ_ _=>rfl
def wg:a7 "_law_take" RQ.i3 ["box","many"]:=λ_ _ _ _ _ _=>ln2 λ_ _=>rfl
def sS:a7 "_law_whole" RQ.ip ["thing"]:=λ_ _ _ _ _ _=>xt λ_=>rfl
def tw:a7 "_law_truth" RQ.ik ["found","due"]:=λ_ _ _ _ _ _=>ln2 λ_ _=>rfl
def xO:a7 "_law_odd" RQ.kc ["box"]:=λ_ _ _ _ _ _=>xt λ_=>rfl
def oY:a7 "_law_mixed_up" RQ.dP ["box","some"]:=λ_ _ _ _ _ _=>ln2 λ_ _=>rfl
def rz:a7 "_law_closed" RQ.gu ["pairs"]:=λ_ _ _ _ _ _=>xt λ_=>rfl
def uB:a7 "_law_order" RQ.hJ ["box","most"]:=λ_ _ _ _ _ _=>ln2 λ_ _=>rfl
def uf:a7 "_law_apart" RQ.ic ["order","a","b"]:=λ_ _ _ _ _ _=>KY λ_ _ _=>rfl
def tT:a7 "_law_turns" RQ.hW ["order"]:=λ_ _ _ _ _ _=>xt λ_=>rfl
def vL:a7 "_law_told" RQ.jg ["many","rows"]:=λ_ _ _ _ _ _=>ln2 λ_ _=>rfl
def pM:a7 "_law_is_turn" RQ.fD ["order","thing"]:=λ_ _ _ _ _ _=>ln2 λ_ _=>rfl
def rB:a7 "_law_forces" RQ.gq ["order","one","other"]:=λ_ _ _ _ _ _=>KY λ_ _ _=>rfl
def qk:a7 "_law_is_knot" RQ.fG ["thing","order"]:=λ_ _ _ _ _ _=>ln2 λ_ _=>rfl
def uj:a7 "_law_crown" RQ.hX ["box"]:=λ_ _ _ _ _ _=>xt λ_=>rfl
def nP:a7 "_law_any_order" RQ.dh ["box","most"]:=λ_ _ _ _ _ _=>ln2 λ_ _=>rfl
def wb:a7 "_law_gone" RQ.jm ["box","order"]:=λ_ _ _ _ _ _=>ln2 λ_ _=>rfl
def wB:a7 "_law_bent" RQ.i7 ["box","some","many","odd"]:=λ_ _ _ _ _ _=>Ms λ_ _ _ _=>rfl
def all_mk {l:PySem.W.OpenLaw}{w:World}{K:Frag}{h:Heap}{mg:Str->Option Value}{fa f38 x0:Addr}(X:K.In h)(G:h.Ns mainGlobals mg)(hfa:mg "law"=some (.ref fa))
  {od38 an38:Option Addr} {sl38:Array (Option Value)} {oc38 kV38 dc38 pm38 cd38 ct38:Value} {tMOST_THINGS:Tok}
  (F1:Fo K mg "is_whole" RQ.jR ["thing"])
  (F2:Fo K mg "is_below" RQ.jO ["thing","bound"])
  (F3:Fo K mg "is_many" RQ.lx ["thing"])
  (F4:Fo K mg "is_pair" RQ.lI ["thing","many"])
  (F5:Fo K mg "every_pair" RQ.fx ["many"])
  (F6:Fo K mg "closed" mT ["many","pairs"])
  (F7:Fo K mg "has_ring" RQ.kl ["pairs"])
  (F8:Fo K mg "is_order" RQ.jQ ["thing"])
  (F9:Fo K mg "need_order" RQ.hG ["thing"])
  (F10:Fo K mg "are_apart" RQ.jl ["order","a","b"])
  (F11:Fo K mg "turns" RQ.pA ["order"])
  (F12:Fo K mg "is_turn" RQ.lF ["thing","order"])
  (F13:Fo K mg "are_turns" RQ.i9 ["thing","order"])
  (F14:Fo K mg "turn_table" RQ.g8 ["order"])
  (F15:Fo K mg "forced_among" RQ.fm ["table","many","turn"])
  (F16:Fo K mg "back_turn" RQ.ji ["turn"])
  (F17:Fo K mg "is_knot" RQ.lG ["thing","order"])
  (F18:Fo K mg "_law_cell" RQ.i6 ["script","k"])
  (F19:Fo K mg "_law_mix" RQ.fZ ["cell","k"])
  (F20:Fo K mg "_law_box" RQ.jU ["script","k"])
  (F21:Fo K mg "_law_take" RQ.i3 ["box","many"])
  (F22:Fo K mg "_law_whole" RQ.ip ["thing"])
  (F23:Fo K mg "_law_truth" RQ.ik ["found","due"])
  (F24:Fo K mg "_law_odd" RQ.kc ["box"])
  (F25:Fo K mg "_law_mixed_up" RQ.dP ["box","some"])
  (F26:Fo K mg "_law_closed" RQ.gu ["pairs"])
  (F27:Fo K mg "_law_order" RQ.hJ ["box","most"])
  (F28:Fo K mg "_law_apart" RQ.ic ["order","a","b"])
  (F29:Fo K mg "_law_turns" RQ.hW ["order"])
  (F30:Fo K mg "_law_told" RQ.jg ["many","rows"])
  (F31:Fo K mg "_law_is_turn" RQ.fD ["order","thing"])
  (F32:Fo K mg "_law_forces" RQ.gq ["order","one","other"])
  (F33:Fo K mg "_law_is_knot" RQ.fG ["thing","order"])
  (F34:Fo K mg "_law_crown" RQ.hX ["box"])
  (F35:Fo K mg "_law_any_order" RQ.dh ["box","most"])
  (F36:Fo K mg "_law_gone" RQ.jm ["box","order"])
  (F37:Fo K mg "_law_bent" RQ.i7 ["box","some","many","odd"])
  (a38:PySem.W.nsIn K mainGlobals "law"=some (some (.ref f38))) (l38:K.lookup f38=some ⟨oc38,od38,.func (PySem.W.fnOf "law" "law" (je RQ.lR) (cZ RQ.lR) (aw RQ.lR) .none kV38 dc38 pm38 an38 cd38 ct38),sl38⟩) (c38:PySem.W.codeIn K cd38 "law"=true) (k38:PySem.W.keepIn K (.ref f38)=true)
  (zB:Lf K=true)
  (yMOST_THINGS:PySem.W.nsIn K mainGlobals "MOST_THINGS"=some (some (.int 8 tMOST_THINGS)))
  (m0:PySem.W.nsIn K mainGlobals "NoOrder"=some (some (.ref x0)))
  (e0:PySem.W.excIn K x0 [.type "ValueError",.type "Exception",.type "BaseException",.type "object"] "ValueError.__new__"=true)
  (np:nC K=true)
  :∃fd:FuncData,(∀(s:Shared) (v:Value),BindsTo s fd ⟨[v],[]⟩ [("script",v)])/\∀base:Heap,K.In base->base.Ns mainGlobals mg->gB l.prog w K mg base (oS l.prog w) 9 fa fd ["script"] (yK K):=by
 have e:=hfa.symm.trans (PySem.W.mg_of X G a38)
 cases e
 have B:jy mg:=JF X G zB
 have jr:=PySem.W.mg_of X G yMOST_THINGS
 obtain⟨f1,d1,bZ⟩:=F1.ex
 obtain⟨f2,d2,dX⟩:=F2.ex
 obtain⟨f3,d3,iz⟩:=F3.ex
 obtain⟨f4,d4,cg⟩:=F4.ex
 obtain⟨f5,d5,cM⟩:=F5.ex
 obtain⟨f6,d6,jG⟩:=F6.ex
 obtain⟨f7,d7,fR⟩:=F7.ex
 obtain⟨f8,d8,fQ⟩:=F8.ex
 obtain⟨f9,d9,bA⟩:=F9.ex
 obtain⟨f10,d10,bK⟩:=F10.ex
 obtain⟨f11,d11,lA⟩:=F11.ex
 obtain⟨f12,d12,iA⟩:=F12.ex
 obtain⟨f13,d13,eS⟩:=F13.ex
 obtain⟨f14,d14,di⟩:=F14.ex
 obtain⟨f15,d15,cF⟩:=F15.ex
 obtain⟨f16,d16,eQ⟩:=F16.ex
 obtain⟨f17,d17,iy⟩:=F17.ex
 obtain⟨f18,d18,eR⟩:=F18.ex
 obtain⟨f19,d19,fT⟩:=F19.ex
 obtain⟨f20,d20,fW⟩:=F20.ex
 obtain⟨f21,d21,ar⟩:=F21.ex
 obtain⟨f22,d22,dm⟩:=F22.ex
 obtain⟨f23,d23,dD⟩:=F23.ex
 obtain⟨f24,d24,fX⟩:=F24.ex
 obtain⟨f25,d25,aK⟩:=F25.ex
 obtain⟨f26,d26,cT⟩:=F26.ex
 obtain⟨f27,d27,dg⟩:=F27.ex
 obtain⟨f28,d28,bu⟩:=F28.ex
 obtain⟨f29,d29,bB⟩:=F29.ex
 obtain⟨f30,d30,eM⟩:=F30.ex
 obtain⟨f31,d31,cE⟩:=F31.ex
 obtain⟨f32,d32,bt⟩:=F32.ex
 obtain⟨f33,d33,cG⟩:=F33.ex
 obtain⟨f34,d34,dt⟩:=F34.ex
 obtain⟨f35,d35,bW⟩:=F35.ex
 obtain⟨f36,d36,eT⟩:=F36.ex
 obtain⟨f37,d37,eO⟩:=F37.ex
 have U38:=xp (st:=RQ.lR) l38 c38 k38
 have JD:jw K mg "law" RQ.lR ["script"] fa _:=⟨PySem.W.mg_of X G a38,U38,U38.binds (ps:=["script"]) λ_ _ _ _ _ _=>xt λ_=>rfl⟩
 obtain⟨ca,hca⟩:∃ca:Str->Addr,ca "NoOrder"=x0:=⟨λ_=>x0,by first |rfl |decide |simp⟩
 have jH:Exc K mg ca "NoOrder":=⟨by rw[hca];exact PySem.W.mg_of X G m0,by rw[hca];exact e0⟩
 refine⟨PySem.W.fnOf "law" "law" (je RQ.lR) (cZ RQ.lR) (aw RQ.lR) .none kV38 dc38 pm38 an38 cd38 ct38,λs v=>.of_eq rfl,λbase _ _=>?_⟩
 have fV:=(RQ.sX (P:=l.prog) (w:=w) (base:=base) (ca:=ca) bZ B).imp zS
 have iE:=(RQ.tM (P:=l.prog) (w:=w) (base:=base) (ca:=ca) dX B fV).imp EA
 have oj:=(RQ.vg (P:=l.prog) (w:=w) (base:=base) (ca:=ca) iz B fV jr).imp IZ
 have yp:=RQ.oB (P:=l.prog) (w:=w) (base:=base) (ca:=ca) cg B iE
 have jC:=(RQ.oB (P:=l.prog) (w:=w) (base:=base) (ca:=ca) cg B iE).imp Hy
 have j4:=RQ.qh (P:=l.prog) (w:=w) (base:=base) (ca:=ca) cM B
 have pE:=xP (P:=l.prog) (w:=w) (base:=base) (ca:=ca) jG cM B
 have mD:=(RQ.tK (P:=l.prog) (w:=w) (base:=base) (ca:=ca) fR B).imp He
 have mq:=(RQ.tV (P:=l.prog) (w:=w) (base:=base) (ca:=ca) fQ B oj jC pE mD).imp xB
 have dk:=(RQ.qP (P:=l.prog) (w:=w) (base:=base) (ca:=ca) bA B mq jH).imp Fh
 have eV:=RQ.rf (P:=l.prog) (w:=w) (base:=base) (ca:=ca) bK B
 have sR:=RQ.Al (P:=l.prog) (w:=w) (base:=base) (ca:=ca) lA B dk j4 eV
 have nR:=RQ.wz (P:=l.prog) (w:=w) (base:=base) (ca:=ca) iA B yp eV
 have kY:=RQ.qZ (P:=l.prog) (w:=w) (base:=base) (ca:=ca) eS B nR
 have kj:=RQ.p0 (P:=l.prog) (w:=w) (base:=base) (ca:=ca) di B sR np
 have iV:=RQ.oi (P:=l.prog) (w:=w) (base:=base) (ca:=ca) cF B np
 have ll:=RQ.rJ (P:=l.prog) (w:=w) (base:=base) (ca:=ca) eQ B
 have nM:=RQ.u4 (P:=l.prog) (w:=w) (base:=base) (ca:=ca) iy B dk kY ll kj iV
 have lr:=RQ.rg (P:=l.prog) (w:=w) (base:=base) (ca:=ca) eR B
 have mi:=RQ.tS (P:=l.prog) (w:=w) (base:=base) (ca:=ca) fT B
 have my:=RQ.uA (P:=l.prog) (w:=w) (base:=base) (ca:=ca) fW B lr mi
 have aG:=RQ.rC (P:=l.prog) (w:=w) (base:=base) ar B
 have kq:=RQ.qd (P:=l.prog) (w:=w) (base:=base) (ca:=ca) dm B
 have jZ:=RQ.qO (P:=l.prog) (w:=w) (base:=base) (ca:=ca) dD B
 have l8:=RQ.ux (P:=l.prog) (w:=w) (base:=base) fX B aG
 have bw:=RQ.mY (P:=l.prog) (w:=w) (base:=base) aK B aG
 have jo:=RQ.oN (P:=l.prog) (w:=w) (base:=base) (ca:=ca) cT B
 have kg:=RQ.pN (P:=l.prog) (w:=w) (base:=base) (ca:=ca) dg B jo aG bw
 have cN:=RQ.qD (P:=l.prog) (w:=w) (base:=base) (ca:=ca) bu B
 have dC:=RQ.qq (P:=l.prog) (w:=w) (base:=base) (ca:=ca) bB B cN
 have kT:=RQ.rb (P:=l.prog) (w:=w) (base:=base) (ca:=ca) eM B
 have iC:=RQ.nO (P:=l.prog) (w:=w) (base:=base) (ca:=ca) cE B kq dC
 have cS:=RQ.o4 (P:=l.prog) (w:=w) (base:=base) (ca:=ca) bt B cN
 have iI:=RQ.nX (P:=l.prog) (w:=w) (base:=base) (ca:=ca) cG B iC cS
 have ko:=RQ.qV (P:=l.prog) (w:=w) (base:=base) dt B aG bw
 have gc:=RQ.mB (P:=l.prog) (w:=w) (base:=base) (ca:=ca) bW B kT aG ko bw kg
 have kO:=RQ.q8 (P:=l.prog) (w:=w) (base:=base) (ca:=ca) eT B dC cS aG np
 have k7:=RQ.rO (P:=l.prog) (w:=w) (base:=base) eO B aG
 have Jq:=RQ.Fp (P:=l.prog) (w:=w) (base:=base) (ca:=ca) JD B my jZ nM iI gc l8 kO k7
 exact gB.imp (sp:=Ei K ca 1 IE) Jq HG
def walk {l:PySem.W.OpenLaw}{q:Program}{loose:List Str}{XP:(Str->Option Value)->Heap->Prop}{YP:World->Heap->Prop}{d:DefRec}{K:Params->Frag}(hn:l.most=some 63)(hdf:d.params.defaults= [])(hi:PyProof.Rows.importsNone q=true)
  (hY:∀(w:World) (h:Heap),YP w h->(K w.params).In h)
  (F:∀(w:World) (mg:Str->Option Value) (fa:Addr) (h:Heap),(K w.params).In h->h.Ns mainGlobals mg->mg d.name=some (.ref fa)->
   ∃fd:FuncData,(∀(s:Shared) (u:Value),BindsTo s fd ⟨[u],[]⟩ [("script",u)])/\∀base:Heap,(K w.params).In base->base.Ns mainGlobals mg->gB l.prog w (K w.params) mg base (oS l.prog w) 9 fa fd ["script"] (yK (K w.params))) :
  PySem.W.WalkO q loose XP YP l.row.toRowW d [] (λf vs=>PySem.call f vs):=
 L2.EX (n:=63) (k:=9) (x:="script") (CX:=λw=>oS l.prog w) (sp:=λw=>yK (K w.params)) hn (by decide) hdf hi ⟨rfl,by decide,by decide,rfl⟩ hY F (λ_ _ a ns hl _ hS=>⟨a,ns,rfl,hS,λ_ _=>rfl⟩) λ_ _ _ _ _ z=>by
  obtain⟨_,_,_,_,_,_,_,_,_,z⟩:=z
  exact z
end RO
namespace HD
noncomputable def vw:PySem.Program:=PySem.W.view PySem.Challenge.pw_rowsorder_k34_knots_looked_at [1,2,3,4,5,6,8,9,11,12,13,14,15,17,18,19,21,22,23,24,26,27,28,29,30,31,32,33,34,35,36,37,38,39,40,41,42,43,44,45,46]
def Kd:PySem.Challenge.rw_rowsorder_k34_knots_looked_at.wellSaid=true:=by kernel_rfl
end HD
local macro_rules | `(tactic|o_head $H)=>`(tactic| (
 refine PySem.W.holds_open (q:=HD.vw) (loose:=[]) (Xt:=λs=>PySem.W.xlAt HD.vw [] s && PySem.W.recOk (PySem.W.RowW.records _) s) (XP:=PySem.W.XL HD.vw []) (Yf:=PySem.W.Hook.obs $H) (Ya:=PySem.W.Hook.val $H) (YP:=PySem.W.Hook.says $H) (N:=3260) ?hl (PySem.W.Hook.of $H) (PySem.W.Hook.keeps $H) (λs e=>PySem.W.xl_of s (Bool.and_eq_true_iff.mp e).1) PySem.W.XL.keeps (by rfl) (by rfl) (by rfl) (λs e=>PySem.W.recFacts_of (Bool.and_eq_true_iff.mp e).2) (by rfl) (by first |assumption |decide +kernel) (by decide +kernel) ⟨rfl,rfl,rfl,rfl,rfl,by decide +kernel⟩ ?hw ?hc
 case hl=>exact HD.Fu (by kernel_rfl) (by kernel_rfl) (λs=>by kernel_rfl) (λw os=>by kernel_rfl)))
open PySem PySem.W PyProof.Rows L2
set_option maxRecDepth 100000 in
set_option maxHeartbeats 0 in
theorem PySem.Challenge.cw_rowsorder_k34_knots_looked_at_holds : PySem.Challenge.rw_rowsorder_k34_knots_looked_at.Holds := by
 w_on;(refine holds_law HD.Kd λKd=>?_);k_head;(case hw=>w_witness2)
 k_fill
 refine RO.walk (l:=PySem.Challenge.rw_rowsorder_k34_knots_looked_at) rfl rfl ?hi (λw h Y=>PySem.W.kIn_of Y) ?F
 case hi=>kernel_rfl
 case F=>
  intro w mg fa h KX G hmg
  refine' RO.all_mk KX G hmg ?F1 ?F2 ?F3 ?F4 ?F5 ?F6 ?F7 ?F8 ?F9 ?F10 ?F11 ?F12 ?F13 ?F14 ?F15 ?F16 ?F17 ?F18 ?F19 ?F20 ?F21 ?F22 ?F23 ?F24 ?F25 ?F26 ?F27 ?F28 ?F29 ?F30 ?F31 ?F32 ?F33 ?F34 ?F35 ?F36 ?F37 ?a38 ?l38 ?c38 ?k38 ?zB ?yMOST_THINGS ?m0 ?e0 ?np
  case F1=>refine' bH KX G RO.yA ?a ?l ?c ?k;(case a=>k_is);(case l=>k_is);(case c=>k_is);(case k=>k_is)
  case F2=>refine' bH KX G RO.ym ?a ?l ?c ?k;(case a=>k_is);(case l=>k_is);(case c=>k_is);(case k=>k_is)
  case F3=>refine' bH KX G RO.Ap ?a ?l ?c ?k;(case a=>k_is);(case l=>k_is);(case c=>k_is);(case k=>k_is)
  case F4=>refine' bH KX G RO.AY ?a ?l ?c ?k;(case a=>k_is);(case l=>k_is);(case c=>k_is);(case k=>k_is)
  case F5=>refine' bH KX G RO.um ?a ?l ?c ?k;(case a=>k_is);(case l=>k_is);(case c=>k_is);(case k=>k_is)
  case F6=>refine' bH KX G RO.DU ?a ?l ?c ?k;(case a=>k_is);(case l=>k_is);(case c=>k_is);(case k=>k_is)
  case F7=>refine' bH KX G RO.xD ?a ?l ?c ?k;(case a=>k_is);(case l=>k_is);(case c=>k_is);(case k=>k_is)
  case F8=>refine' bH KX G RO.xk ?a ?l ?c ?k;(case a=>k_is);(case l=>k_is);(case c=>k_is);(case k=>k_is)
  case F9=>refine' bH KX G RO.uo ?a ?l ?c ?k;(case a=>k_is);(case l=>k_is);(case c=>k_is);(case k=>k_is)
  case F10=>refine' bH KX G RO.wm ?a ?l ?c ?k;(case a=>k_is);(case l=>k_is);(case c=>k_is);(case k=>k_is)
  case F11=>refine' bH KX G RO.Fe ?a ?l ?c ?k;(case a=>k_is);(case l=>k_is);(case c=>k_is);(case k=>k_is)
  case F12=>refine' bH KX G RO.Am ?a ?l ?c ?k;(case a=>k_is);(case l=>k_is);(case c=>k_is);(case k=>k_is)
  case F13=>refine' bH KX G RO.wJ ?a ?l ?c ?k;(case a=>k_is);(case l=>k_is);(case c=>k_is);(case k=>k_is)
  case F14=>refine' bH KX G RO.uP ?a ?l ?c ?k;(case a=>k_is);(case l=>k_is);(case c=>k_is);(case k=>k_is)
  case F15=>refine' bH KX G RO.qf ?a ?l ?c ?k;(case a=>k_is);(case l=>k_is);(case c=>k_is);(case k=>k_is)
  case F16=>refine' bH KX G RO.wR ?a ?l ?c ?k;(case a=>k_is);(case l=>k_is);(case c=>k_is);(case k=>k_is)
  case F17=>refine' bH KX G RO.Ae ?a ?l ?c ?k;(case a=>k_is);(case l=>k_is);(case c=>k_is);(case k=>k_is)
  case F18=>refine' bH KX G RO.vm ?a ?l ?c ?k;(case a=>k_is);(case l=>k_is);(case c=>k_is);(case k=>k_is)
  case F19=>refine' bH KX G RO.yq ?a ?l ?c ?k;(case a=>k_is);(case l=>k_is);(case c=>k_is);(case k=>k_is)
  case F20=>refine' bH KX G RO.xT ?a ?l ?c ?k;(case a=>k_is);(case l=>k_is);(case c=>k_is);(case k=>k_is)
  case F21=>refine' bH KX G RO.wg ?a ?l ?c ?k;(case a=>k_is);(case l=>k_is);(case c=>k_is);(case k=>k_is)
  case F22=>refine' bH KX G RO.sS ?a ?l ?c ?k;(case a=>k_is);(case l=>k_is);(case c=>k_is);(case k=>k_is)
  case F23=>refine' bH KX G RO.tw ?a ?l ?c ?k;(case a=>k_is);(case l=>k_is);(case c=>k_is);(case k=>k_is)
  case F24=>refine' bH KX G RO.xO ?a ?l ?c ?k;(case a=>k_is);(case l=>k_is);(case c=>k_is);(case k=>k_is)
  case F25=>refine' bH KX G RO.oY ?a ?l ?c ?k;(case a=>k_is);(case l=>k_is);(case c=>k_is);(case k=>k_is)
  case F26=>refine' bH KX G RO.rz ?a ?l ?c ?k;(case a=>k_is);(case l=>k_is);(case c=>k_is);(case k=>k_is)
  case F27=>refine' bH KX G RO.uB ?a ?l ?c ?k;(case a=>k_is);(case l=>k_is);(case c=>k_is);(case k=>k_is)
  case F28=>refine' bH KX G RO.uf ?a ?l ?c ?k;(case a=>k_is);(case l=>k_is);(case c=>k_is);(case k=>k_is)
  case F29=>refine' bH KX G RO.tT ?a ?l ?c ?k;(case a=>k_is);(case l=>k_is);(case c=>k_is);(case k=>k_is)
  case F30=>refine' bH KX G RO.vL ?a ?l ?c ?k;(case a=>k_is);(case l=>k_is);(case c=>k_is);(case k=>k_is)
  case F31=>refine' bH KX G RO.pM ?a ?l ?c ?k;(case a=>k_is);(case l=>k_is);(case c=>k_is);(case k=>k_is)
  case F32=>refine' bH KX G RO.rB ?a ?l ?c ?k;(case a=>k_is);(case l=>k_is);(case c=>k_is);(case k=>k_is)
  case F33=>refine' bH KX G RO.qk ?a ?l ?c ?k;(case a=>k_is);(case l=>k_is);(case c=>k_is);(case k=>k_is)
  case F34=>refine' bH KX G RO.uj ?a ?l ?c ?k;(case a=>k_is);(case l=>k_is);(case c=>k_is);(case k=>k_is)
  case F35=>refine' bH KX G RO.nP ?a ?l ?c ?k;(case a=>k_is);(case l=>k_is);(case c=>k_is);(case k=>k_is)
  case F36=>refine' bH KX G RO.wb ?a ?l ?c ?k;(case a=>k_is);(case l=>k_is);(case c=>k_is);(case k=>k_is)
  case F37=>refine' bH KX G RO.wB ?a ?l ?c ?k;(case a=>k_is);(case l=>k_is);(case c=>k_is);(case k=>k_is)
  case a38=>k_is
  case l38=>k_is
  case c38=>k_is
  case k38=>k_is
  case zB=>kernel_rfl
  case yMOST_THINGS=>k_is
  case m0=>k_is
  case e0=>kernel_rfl
  case np=>kernel_rfl
end
