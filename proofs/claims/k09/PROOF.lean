import PyProof.Rows.All
import Wide.All
import OpenK.AllK
import Wide.FinOn
import Lean
import PyProof.EqAt
import PyProof.EqKinds
import PyProof.TupleCall
import PySem.SetOps
import PyProof.SetKind
import PyProof.TupleKey
import PyProof.DictKinds
import PyProof.Rows.SetFrom
import PyProof.WalksMore
import KE.KSortTup
import PyProof.CollectWalk
import PyProof.ExcArgsOwn
import PyProof.Rows.CountFlat
import PyProof.Rows.SeqMore2
import PyProof.Rows.FStr
import PyProof.Rows.StrWeight2
import PyProof.Rows.StrNews
import PyProof.StrLawsTight
import PyProof.ExcBaseAll.ValueError
import PyProof.ZipIter
import PyProof.CallFns
import PyProof.Draws
import PyProof.EnumMake
import PyProof.SetRoads
import PyProof.Rows.SortWalk
import PyProof.SeqI3
import PyProof.Rows.SortShell
import PyProof.Rows.Range3
import KE.KStateDown
import PyProof.Rows.SumAny
import PyProof.ListRange
import PyProof.MaxThree
import PyProof.IsiH_list
import PyProof.RaisesAny
import KE.KDictOf
import PyProof.Rows.BitMore
import PySem.Challenge.RW_rowsorder_k09_rows_counted_and_numbered
set_option Elab.async false
set_option linter.all false
set_option maxRecDepth 100000
set_option maxHeartbeats 1000000
def Kj:=@List.getElem?_eq_getElem
def Kk:=@PySem.wpAny_bind
def Kl:=@PySem.Heap.get?_push_of_some
def Km:=@Nat.le_refl
def Kn:=@if_pos
def Ko:=@List.mem_cons_of_mem
def Kq:=@List.mem_cons
def Kr:=@List.mem_cons_self
def Ks:=@PySem.wpAny_pure
def Kt:=@decide_eq_true
def Ku:=@if_neg
def Kv:=@List.getElem?_map
def Kw:=@PySem.Heap.lt_size
def Kx:=@List.length_map
def Ky:=@PySem.Heap.get?_push_size
def Kz:=@List.getElem?_eq_some_iff
def KA:=@decide_eq_false
def KC:=@List.mem_map
def KD:=@List.mem_of_getElem?
def KG:=@Bool.false_eq_true
def KH:=@List.getElem?_set_ne
def KI:=@List.length_cons
def KJ:=@List.size_toArray
def KL:=@List.getElem?_set_self
def KN:=@Bool.false_ne_true
def KO:=@List.length_append
def KP:=@Bool.and_eq_true
def KQ:=@List.mem_filter
def KR:=@List.mem_range
def KS:=@List.mem_singleton
def KU:=@List.mem_append
def KW:=@Nat.lt_of_lt_of_le
def KY:=@PySem.sizeLine_eq
def KZ:=@List.getD_eq_getElem?_getD
def K0:=@Array.getElem?_eq_getElem
def K1:=@Nat.ne_of_lt
def K2:=@Int.toNat_natCast
def K3:=@decide_eq_true_eq
def K4:=@List.getElem?_append_right
def K5:=@Nat.zero_le
def K6:=@List.nodup_cons
def K7:=@List.map_cons
def K8:=@List.mem_iff_getElem
def K9:=@List.getElem?_append_left
def Ld:=@Nat.lt_irrefl
def Lf:=@List.mem_append_right
def Lg:=@Array.getD_eq_getD_getElem?
def Lh:=@if_false
def Lj:=@List.append_assoc
def Lk:=@List.not_mem_nil
def Ll:=@List.replicate_succ
def Lm:=@Nat.zero_add
def Ln:=@Bool.eq_iff_iff
def Lo:=@List.map_append
def Lp:=@PySem.W.kia_one
def Lq:=@PySem.Heap.get?_update_self
def Lr:=@Array.getElem?_eq_some_iff
def Ls:=@Nat.le_trans
def Lu:=@PySem.wpAny_setState_of
def Lv:=@PySem.F.called_set
def Lw:=@List.map_congr_left
def Lx:=@List.length_set
def Lz:=@Nat.lt_or_ge
def LA:=@PySem.Heap.get?_update_other
def LB:=@List.getElem_mem
def LC:=@List.pairwise_map
def LD:=@if_true
def LF:=@List.append_nil
def LG:=@PyProof.Rows.callWith_type1
def LH:=@List.mem_append_left
def LI:=@List.length_take
def LJ:=@List.all_eq_true
def LK:=@PySem.wpAny_holding
def LL:=@PySem.boot_len
def LM:=@Bool.not_eq_true'
def LN:=@List.toList_toArray
def LO:=@List.getElem?_range
def LP:=@List.Pairwise.imp_of_mem
def LQ:=@PySem.wpAny_mono
def LR:=@PySem.Heap.size_push
def LS:=@List.getElem?_replicate
def LU:=@PySem.wpAny_truthy_bool
def LV:=@List.flatten_cons
def LW:=@List.take_add_one
def LX:=@List.idxOf_append
def LY:=@decide_eq_decide
def LZ:=@List.mem_filterMap
def L1:=@List.length_singleton
def L3:=@Array.getElem?_toList
def L4:=@List.getElem?_eq_none
def L5:=@Nat.mul_le_mul
def L6:=@List.mem_of_mem_take
def L7:=@or_false
def L8:=@List.set_eq_of_length_le
def L9:=@Nat.eq_of_testBit_eq
def Ma:=@PySem.Value.isInt_shape
def Mb:=@PySem.wpAny_newObj_type
def Mc:=@decide_eq_false_iff_not
def Me:=@PySem.mem_of_lookup
def Mf:=@PySem.wpAny_call_entry
def Mg:=@PySem.wpAny_setField
def Mh:=@List.take_of_length_le
def Mi:=@PyProof.Rows.F.plain_set_update_loop
def Mj:=@PySem.wpAny_passesOwn
def Mk:=@List.length_replicate
def Ml:=@List.take_append_drop
def Mm:=@List.getElem?_toArray
def Mn:=@PySem.codeAny_builtin
def Mo:=@List.length_filter_le
def Mp:=@List.nodup_iff_pairwise_ne
def Mq:=@Array.mem_toList_iff
def Mr:=@List.pairwise_iff_getElem
def Ms:=@PySem.Around.under_plainId
def Mt:=@List.drop_eq_getElem_cons
def Mu:=@List.nodup_nil
def Mv:=@PySem.codeAny_mono
def Mw:=@List.nodup_range
def My:=@List.map_map
def Mz:=@Int.zero_add
def MA:=@List.ext_getElem
def MB:=@List.idxOf_lt_length_iff
def MC:=@List.filter_sublist
def MD:=@Bool.not_true
def ME:=@List.any_cons
def MF:=@PySem.strLen_append
def MG:=@PySem.W.mg_of
def MH:=@List.pairwise_cons
def MI:=@PySem.wpAny_pyIter_tuple
def MJ:=@Array.getElem?_eq_none
def MK:=@PySem.SeqAt.canLay_of_shaped
def ML:=@PySem.wpAny_pyIter_list
def MM:=@List.flatMap_cons
def MN:=@List.length_range
def MO:=@of_decide_eq_true
def MP:=@Nat.mod_lt
def MQ:=@PySem.wpAny_askSetting
def MR:=@List.lookup_cons
def MS:=@List.getElem?_mapIdx
def MT:=@List.filterMap_cons
def MU:=@Array.length_toList
def MV:=@List.foldl_cons
def MW:=@List.nil_append
def MX:=@PySem.F.args_tuple_add_2
def MY:=@List.length_erase_of_mem
def MZ:=@List.getElem_range
def M1:=@PySem.Obj.data_mapFields
def M4:=@List.eq_of_mem_replicate
def M5:=@PySem.AutoSeq1.wpAny_loadPart'
def M6:=@PySem.isSubtype_type
def M7:=@Nat.lt_trichotomy
def M8:=@List.ext_getElem?
def M9:=@PySem.wpAny_pyIter_enum
def Na:=@List.nodup_append
open List (length_nil all_cons all_map set_set filter_cons sum_cons)
open PySem.W (Frag)
open PySem.PyData (int)
section
set_option Elab.async false
namespace L2
open PySem PySem.Spec PyProof.Rows
abbrev Key:=Sum Int Str
def pZ:Key->Value->Bool
 | .inl k,v=>Value.isInt k v
 | .inr x,v=>Value.isStrOf x v
def Jh (w:World):Key->Int
 | .inl k=>hashInt k
 | .inr x=>hashStr w x
theorem bR:∀{k:Key} {v:Value},pZ k v=true->(∃i t,k=Sum.inl i/\v=Value.int i t)\/(∃x t,k=Sum.inr x/\v=Value.str x t)
 | .inl i,v,h=>by
  obtain⟨t,e⟩:=Ma (k:=i) (v:=v) h
  exact .inl ⟨i,t,rfl,e⟩
 | .inr x,v,h=>by
  obtain⟨t,e⟩:=Value.isStrOf_shape (x:=x) (v:=v) h
  exact .inr ⟨x,t,rfl,e⟩
def x6 (i:Int)(t:Tok):pZ (.inl i) (.int i t)=true:=by simp[pZ,Value.isInt]
def yF (x:Str)(t:Tok):pZ (.inr x) (.str x t)=true:=by simp[pZ,Value.isStrOf]
def FX (a b:Int):decide ((Sum.inl a:Key)=Sum.inl b)=(a == b):=by
 by_cases e:a=b
 ·subst e;simp
 ·have h:¬(Sum.inl a:Key)=Sum.inl b:=λq=>e (Sum.inl.inj q)
  rw[KA h]
  exact (beq_eq_false_iff_ne.mpr e).symm
def Ex (a b:Str):decide ((Sum.inr a:Key)=Sum.inr b)=decide (a=b):=by
 by_cases e:a=b
 ·subst e;simp
 ·have h:¬(Sum.inr a:Key)=Sum.inr b:=λq=>e (Sum.inr.inj q)
  rw[KA h,KA e]
def EG (a:Int)(b:Str):decide ((Sum.inl a:Key)=Sum.inr b)=false:=KA (λq=>nomatch q)
def Fu (a:Str)(b:Int):decide ((Sum.inr a:Key)=Sum.inl b)=false:=KA (λq=>nomatch q)
def dq (prog:Program)(w:World):PySem.KeyKind prog w Key where
 is:=pZ
 hash:=Jh w
 inj:=λv a b ha hb=>by
  rcases bR ha with⟨i,t,rfl,rfl⟩ | ⟨x,t,rfl,rfl⟩
  ·rcases bR hb with⟨j,u,rfl,e⟩ | ⟨y,u,rfl,e⟩
   ·injection e with e1 _;rw[e1]
   ·exact nomatch e
  ·rcases bR hb with⟨j,u,rfl,e⟩ | ⟨y,u,rfl,e⟩
   ·exact nomatch e
   ·injection e with e1 _;rw[e1]
 byValue:=λk v h=>by
  rcases bR h with⟨i,t,rfl,rfl⟩ | ⟨x,t,rfl,rfl⟩ <;> rfl
 pyHash:=λhv h=>by
  rcases bR hv with⟨i,t,rfl,rfl⟩ | ⟨x,t,rfl,rfl⟩
  ·exact wpAny_pyHash_int h
  ·exact wpAny_pyHash_str h
 eqBool:=λhu hv h=>by
  rcases bR hu with⟨i,t,rfl,rfl⟩ | ⟨x,t,rfl,rfl⟩
  ·rcases bR hv with⟨j,u,rfl,rfl⟩ | ⟨y,u,rfl,rfl⟩
   ·rw[FX] at h;exact wpAny_eqBool_int h
   ·rw[EG] at h;exact SeqAt.EqAt.int_str i t y u _ _ _ _ h
  ·rcases bR hv with⟨j,u,rfl,rfl⟩ | ⟨y,u,rfl,rfl⟩
   ·rw[Fu] at h;exact SeqAt.EqAt.str_int x t j u _ _ _ _ h
   ·rw[Ex] at h;exact wpAny_eqBool_str h
 «strs»:=λk x t v h=>by
  rcases bR h with⟨i,u,rfl,e⟩ | ⟨y,u,rfl,e⟩
  ·exact nomatch e
  ·injection e with e1 _
   subst e1
   cases v <;> rfl
def sh (prog:Program)(w:World)(i:Int)(t:Tok):(dq prog w).is (.inl i) (.int i t)=true:=x6 i t
def su (prog:Program)(w:World)(x:Str)(t:Tok):(dq prog w).is (.inr x) (.str x t)=true:=yF x t
inductive V where
 |non |bl (b:Bool) |int (i:Int) |str (x:Str) |byt (b:Array UInt8) |flt (b:UInt64) |ref (a:Addr) |ty (n:String)
 deriving DecidableEq
def RelV:V->Value->Prop
 | .non,u=>u=Value.none
 | .bl b,u=>u=Value.bool b
 | .int i,u=>∃t,u=Value.int i t
 | .str x,u=>∃t,u=Value.str x t
 | .byt b,u=>∃t,u=Value.bytes b t
 | .flt b,u=>∃t,u=Value.float b t
 | .ref a,u=>u=Value.ref a
 | .ty n,u=>u=Value.type n
abbrev Vals:List V->List Value->Prop:=Paired RelV
def Vals.length {xs:List V}{us:List Value}(r:Vals xs us):xs.length=us.length:=Paired.length r
theorem Vals.get:∀{xs:List V} {us:List Value} {i:Nat} {x:V},Vals xs us->xs[i]? =some x->∃u,us[i]? =some u/\RelV x u
 |_,_,_,_,.nil,e=>by simp at e
 |_,_,0,_,.cons r _,e=>by simp at e;subst e;exact⟨_,rfl,r⟩
 |_,_,i + 1,x,.cons _ t,e=>by
  obtain⟨u,h1,h2⟩:=Vals.get (i:=i) (x:=x) t (by simpa using e)
  exact⟨u,by simpa using h1,h2⟩
theorem Vals.set {x:V}{u:Value}(r:RelV x u):∀{xs:List V} {us:List Value} (i:Nat),Vals xs us->Vals (xs.set i x) (us.set i u)
 |_,_,_,.nil=>.nil
 |_,_,0,.cons _ t=>.cons r t
 |_,_,i + 1,.cons q t=>.cons q (Vals.set r i t)
theorem Vals.append:∀{xs ys:List V} {us ws:List Value},Vals xs us->Vals ys ws->Vals (xs ++ ys) (us ++ ws)
 |_,_,_,_,.nil,s=>s
 |_,_,_,_,.cons r t,s=>.cons r (Vals.append t s)
theorem Vals.take:∀{xs:List V} {us:List Value} (n:Nat),Vals xs us->Vals (xs.take n) (us.take n)
 |_,_,0,_=>.nil
 |_,_,_ + 1,.nil=>.nil
 |_,_,n + 1,.cons r t=>.cons r (Vals.take n t)
theorem Vals.drop:∀{xs:List V} {us:List Value} (n:Nat),Vals xs us->Vals (xs.drop n) (us.drop n)
 |_,_,0,r=>r
 |_,_,_ + 1,.nil=>.nil
 |_,_,n + 1,.cons _ t=>Vals.drop n t
def EN:Option V->Option Value->Prop
 |some v,some u=>RelV v u
 |none,none=>True
 |_,_=>False
def KV {κ:Type}:List (κ×V)->List (κ×Value)->Prop:=Paired λ(p:κ×V) (q:κ×Value)=>p.1=q.1/\RelV p.2 q.2
def kV:Key->V
 | .inl i=>.int i
 | .inr x=>.str x
inductive HO where
 |lst (xs:List V)
 |tup (xs:List V)
 |dK (kvs:List (Key×V)) |dT (kvs:List (List Key×V))
 |set (S:Int->Bool) (n:Nat)
 |ins (C dx:Addr) (fs:List (Str×V))
 |own (x:Addr)
 |xd (fs:List (Str×V))
 |met (f x:Addr)
 |dZ (lo hi:Int)
 |bb (o:Obj) (u:HO)
 |tbl (ps:Array Value)
 |ext (φ:Heap->Prop)
abbrev Hp:=Addr->Option HO
def upd (H:Hp)(a:Addr)(o:HO):Hp:=λb=>if b=a then some o else H b
def aw {H:Hp}{a:Addr}{o:HO}:upd H a o a=some o:=by unfold upd;rw[Kn rfl]
def ay {H:Hp}{a b:Addr}{o:HO}(h:b≠a):upd H a o b=H b:=by unfold upd;rw[Ku h]
def BW {H:Hp}{a:Addr}{o u:HO}:upd (upd H a o) a u=upd H a u:=by
 funext b;unfold upd;split <;> rfl
def DQ {H:Hp}{a b:Addr}{o u:HO}(h:H a=some o)(h':H b=some u)(d:o≠u):a≠b:=by
 intro e;subst e;rw[h] at h';exact d (Option.some.inj h')
def aG {H:Hp}{a b:Addr}{o:HO}(h:H a=some o)(h':H b=none):a≠b:=by
 intro e;subst e;rw[h] at h';cases h'
section
variable (P:Program)(w:World)
def oO (h:Heap)(a:Addr)(items:Array Value):Prop:=∃o,h.get? a=some o/\o.cls=.type "tuple"/\∃n,o.data=.seq items n/\o.dict=none
def oO.isTup {h:Heap}{a:Addr}{items:Array Value}(x:oO h a items):IsTup h a items:=let ⟨o,e,c,n,d,_⟩:=x;⟨o,e,c,n,d⟩
def oO.new (h:Heap)(items:Array Value):oO (h.push {cls:=.type "tuple",data:=.seq items}) h.objs.size items:=⟨_,Ky _ rfl,rfl,_,rfl,rfl⟩
def bK (H:Hp)(h:Heap)(a:Addr):HO->Prop
 | .lst xs=>xs.length<=sizeLine/\∃(its:List Value) (n:Nat),Vals xs its/\h.get? a=some {cls:=.type "list",data:=.seq its.toArray n}
 | .tup xs=>xs.length<=sizeLine/\∃its:List Value,Vals xs its/\oO h a its.toArray
 | .dK kvs=>kvs.length<=sizeLine/\(a == sysModules)=false/\∃vs,KV kvs vs/\h.DictOf (dq P w) a vs
 | .dT kvs=>kvs.length<=sizeLine/\(a == sysModules)=false/\∃xs:List (List Key×Addr×Value),
   Paired (λ(p:List Key×V) (q:List Key×Addr×Value)=>p.1=q.1/\(H q.2.1=some (.tup (p.1.map kV))\/∃o,H q.2.1=some (.bb o (.tup (p.1.map kV))))/\RelV p.2 q.2.2) kvs xs/\
   ∃o es ep,h.get? a=some o/\o.ExactDict/\o.data=.dict es ep/\es.toList=xs.map (entryOfKey (tupleKind (dq P w)))/\(xs.map (·.1)).Nodup
 | .set S n=>h.SetOf (intKind P w) a S n
 | .ins C dx fs=>H dx=some (.own a)/\fs.length<=1000/\dx≠a/\h.get? a=some (PySem.W.instObj C dx)/\
   ∃mA,h.Ns1 dx mA/\(∀f,EN (fs.lookup f) (mA f))/\PySem.Within mA (fs.map (·.1))
 | .own _=>∃o,h.get? a=some o
 | .xd fs=>∃mA,h.Ns1 a mA/\∀f,EN (fs.lookup f) (mA f)
 | .dZ lo hi=>∃t u v,h.get? a=some {cls:=.type "range",data:=.fields #[.int lo t,.int hi u,.int 1 v]}
 | .bb o u=>h.get? a=some o/\bK H h a u
 | .tbl ps=>h.get? a=some {cls:=.none,data:=.fields ps}
 | .met f x=>h.get? a=some (PySem.W.methodObj (.ref f) (.ref x))
 | .ext φ=>φ h/\(∃o,h.get? a=some o)/\∀h1 h2:Heap,φ h1->(∀o,h1.get? a=some o->h2.get? a=some o)->φ h2
def jz (H:Hp)(h:Heap):Prop:=∀a o,H a=some o->bK P w H h a o
end
section
variable {P:Program}{w:World}{H H':Hp}{h h':Heap}{a:Addr}{o:HO}
theorem bK.lt (x:bK P w H h a o):a < h.objs.size:=by
 cases o with
 |lst xs=>obtain⟨_,_,_,_,e⟩:=x;exact Kw e
 |tup xs=>obtain⟨_,_,_,p⟩:=x;exact p.isTup.lt
 |dK kvs=>obtain⟨_,_,_,_,o,_,_,e,_⟩:=x;exact Kw e
 |dT kvs=>obtain⟨_,_,_,_,o,_,_,e,_⟩:=x;exact Kw e
 |set S n=>obtain⟨o,_,_,_,e,_⟩:=x;exact Kw e
 |ins C dx fs=>obtain⟨_,_,_,e,_⟩:=x;exact Kw e
 |own y=>obtain⟨_,e⟩:=x;exact Kw e
 |xd fs=>obtain⟨_,⟨_,_,_,e,_⟩,_⟩:=x;exact Kw e
 |dZ lo hi=>obtain⟨_,_,_,e⟩:=x;exact Kw e
 |bb ob u=>obtain⟨e,_⟩:=x;exact Kw e
 |tbl ps=>exact Kw (show h.get? a=some _ from x)
 |met f y=>exact Kw (show h.get? a=some _ from x)
 |ext φ=>obtain⟨_,⟨_,e⟩,_⟩:=x;exact Kw e
theorem Paired.mapP {α β:Type}{F G:α->β->Prop}:∀{l₁:List α} {l₂:List β},Paired F l₁ l₂->(∀a b,F a b->G a b)->Paired G l₁ l₂
 |_,_,.nil,_=>.nil
 |_,_,.cons r t,f=>.cons (f _ _ r) (Paired.mapP t f)
theorem bK.stay (x:bK P w H h a o)(k:∀b u,(b=a\/H b=some (.own a))->h.get? b=some u->h'.get? b=some u)
  (ho:∀b,H b=some (.own a)->H' b=some (.own a)) (ht:∀b xs,(H b=some (.tup xs)\/∃o,H b=some (.bb o (.tup xs)))->(H' b=some (.tup xs)\/∃o,H' b=some (.bb o (.tup xs)))):bK P w H' h' a o:=by
 induction o with
 |lst xs=>obtain⟨z,its,n,r,e⟩:=x;exact⟨z,its,n,r,k _ _ (.inl rfl) e⟩
 |tup xs=>obtain⟨z,its,r,ob,e,c⟩:=x;exact⟨z,its,r,ob,k _ _ (.inl rfl) e,c⟩
 |dK kvs=>obtain⟨z,y,vs,r,ob,es,ep,e,c⟩:=x;exact⟨z,y,vs,r,ob,es,ep,k _ _ (.inl rfl) e,c⟩
 |dT kvs=>
  obtain⟨z,y,xs,r,ob,es,ep,e,c⟩:=x
  exact⟨z,y,xs,Paired.mapP r λp q z=>⟨z.1,ht _ _ z.2.1,z.2.2⟩,ob,es,ep,k _ _ (.inl rfl) e,c⟩
 |set S n=>obtain⟨ob,es,ep,t,e,c⟩:=x;exact⟨ob,es,ep,t,k _ _ (.inl rfl) e,c⟩
 |ins C dx fs=>
  obtain⟨d,z,ne,e,mA,⟨od,es,ep,e2,c⟩,r⟩:=x
  exact⟨ho _ d,z,ne,k _ _ (.inl rfl) e,mA,⟨od,es,ep,k _ _ (.inr d) e2,c⟩,r⟩
 |own y=>obtain⟨ob,e⟩:=x;exact⟨ob,k _ _ (.inl rfl) e⟩
 |xd fs=>obtain⟨mA,⟨od,es,ep,e,c⟩,r⟩:=x;exact⟨mA,⟨od,es,ep,k _ _ (.inl rfl) e,c⟩,r⟩
 |dZ lo hi=>obtain⟨t,u,v,e⟩:=x;exact⟨t,u,v,k _ _ (.inl rfl) e⟩
 |bb ob u ih=>obtain⟨e,q⟩:=x;exact⟨k _ _ (.inl rfl) e,ih q⟩
 |tbl ps=>
  have e:h.get? a=some {cls:=.none,data:=.fields ps}:=x
  show h'.get? a=some {cls:=.none,data:=.fields ps}
  exact k a _ (.inl rfl) e
 |met f y=>
  have e:h.get? a=some (PySem.W.methodObj (.ref f) (.ref y)):=x
  show h'.get? a=some (PySem.W.methodObj (.ref f) (.ref y))
  exact k a _ (.inl rfl) e
 |ext φ=>obtain⟨p,⟨o,e⟩,st⟩:=x;exact⟨st _ _ p λo q=>k _ _ (.inl rfl) q,⟨o,k _ _ (.inl rfl) e⟩,st⟩
def jz.lt (x:jz P w H h)(e:H a=some o):a < h.objs.size:=(x a o e).lt
theorem jz.fresh (x:jz P w H h)(e:h.objs.size<=a):H a=none:=by
 cases q:H a with
 |none=>rfl
 |some u=>exact absurd (KW (x.lt q) e) (Ld _)
def jz.kept (x:jz P w H h)(k:∀b u,h.get? b=some u->h'.get? b=some u):jz P w H h':=λa o e=>
 (x a o e).stay (λb u _ q=>k b u q) (λ_ q=>q) λ_ _ q=>q
def jz.laid (x:jz P w H h)(k:∀b u,h.get? b=some u->h'.get? b=some u)(hp:h.objs.size<=a)(new:bK P w (upd H a o) h' a o):jz P w (upd H a o) h':=λb u e=>by
 have hn:=x.fresh hp
 by_cases hb:b=a
 ·subst hb;rw[aw] at e;cases e;exact new
 ·rw[ay hb] at e
  exact (x b u e).stay (λc v _ q=>k c v q) (λc q=>by rw[ay (aG q hn)];exact q) λc xs q=>q.imp (λq=>by rw[ay (aG q hn)];exact q) λ⟨o,q⟩=>⟨o,by rw[ay (aG q hn)];exact q⟩
end
def Rd (H:Hp)(a:Addr)(u:HO):Prop:=H a=some u\/∃o,H a=some (.bb o u)
def Rd.ok {P:Program}{w:World}{H:Hp}{h:Heap}{a:Addr}{u:HO}(r:Rd H a u)(x:jz P w H h):bK P w H h a u:=by
 rcases r with r | ⟨o,r⟩
 ·exact x a u r
 ·obtain⟨_,q⟩:=x a _ r
  exact q
def GO:Option HO->Prop
 |some (.lst _)=>True
 |some (.dK _)=>True
 |some (.dT _)=>True
 |some (.set _ _)=>True
 |some (.ins _ _ _)=>True
 |some (.ext _)=>True
 |_=>False
section
variable {P:Program}{w:World}{H:Hp}{h h':Heap}{x e:Addr}{o':HO}
def jz.write (ok:jz P w H h)(mu:GO (H x))(he:e=x\/H e=some (.own x))(k:∀b u,b≠e->h.get? b=some u->h'.get? b=some u)(heo:∃u,h'.get? e=some u)
  (new:bK P w (upd H x o') h' x o'):jz P w (upd H x o') h':=λb u q=>by
 have nown:∀c y,H c=some (.own y)->c≠x:=λc y r z=>by subst z;rw[r] at mu;exact mu
 have ntup:∀c xs,H c=some (.tup xs)->c≠x:=λc xs r z=>by subst z;rw[r] at mu;exact mu
 by_cases hb:b=x
 ·subst hb;rw[aw] at q;cases q;exact new
 ·rw[ay hb] at q
  by_cases hbe:b=e
  ·have q':H b=some (.own x):=by
    rcases he with z |z
    ·exact absurd (hbe.trans z) hb
    ·rw[hbe];exact z
   rw[q] at q';cases q'
   obtain⟨v,hv⟩:=heo
   exact⟨v,by rw[hbe];exact hv⟩
  ·refine (ok b u q).stay (λc v hc r=>k c v ?_ r) (λc r=>by rw[ay (nown c b r)];exact r) λc xs r=>r.imp (λr=>by rw[ay (ntup c xs r)];exact r) λ⟨o,r⟩=>⟨o,by rw[ay (λz=>by subst z;rw[r] at mu;exact mu)];exact r⟩
   rcases hc with rfl |hc
   ·exact hbe
   ·rintro rfl
    rcases he with z |z
    ·exact nown c b hc z
    ·rw[hc] at z;cases z;exact hb rfl
end
structure Un (fs ex:List Addr)(H H':Hp)(h h':Heap):Prop where
 keep:∀b o,h.get? b=some o->H b=none->b∉fs->b∉ex->h'.get? b=some o
 slot:∀b o,h.get? b=some o->H b=none->b∈fs->b∉ex->∃sl,h'.get? b=some {o with slots:=sl}
 free:∀b o,h.get? b=some o->H b=none->b∉ex->H' b=none
 there:∀b o,h.get? b=some o->b∉ex->∃o',h'.get? b=some o'
 tups:∀b xs,H b=some (.tup xs)->H' b=some (.tup xs)
 frzs:∀b o u,H b=some (.bb o u)->H' b=some (.bb o u)
 tbls:∀b ps,H b=some (.tbl ps)->∃more,H' b=some (.tbl (ps ++ more))
section
variable {fs fs' ex ex':List Addr}{H H1 H2:Hp}{h h1 h2 h':Heap}{a x e:Addr}{o:HO}
def Un.any (u:Un fs ex H H1 h h1){b:Addr}{ob:Obj}(q:h.get? b=some ob)(n:H b=none)(hx:b∉ex):∃sl,h1.get? b=some {ob with slots:=sl}:=by
 by_cases hb:b∈fs
 ·exact u.slot b ob q n hb hx
 ·exact⟨ob.slots,u.keep b ob q n hb hx⟩
def Un.kept (k:∀b u,h.get? b=some u->h'.get? b=some u):Un fs ex H H h h':=
 ⟨λb ob q _ _ _=>k b ob q,λb ob q _ _ _=>⟨ob.slots,k b ob q⟩,λ_ _ _ n _=>n,λb ob q _=>⟨ob,k b ob q⟩,λ_ _ q=>q,λ_ _ _ q=>q,λ_ ps q=>⟨#[],by rw[q];simp⟩⟩
def Un.refl:Un fs ex H H h h:=Un.kept λ_ _ q=>q
def Un.laid (k:∀b u,h.get? b=some u->h'.get? b=some u)(hp:h.objs.size<=a)(hn:H a=none):Un fs ex H (upd H a o) h h' where
 keep:=λb u q _ _ _=>k b u q
 slot:=λb u q _ _ _=>⟨u.slots,k b u q⟩
 free:=λb u q n _=>by rw[ay (K1 (KW (Kw q) hp))];exact n
 there:=λb u q _=>⟨u,k b u q⟩
 tups:=λb xs q=>by rw[ay (aG q hn)];exact q
 frzs:=λb u xs q=>by rw[ay (aG q hn)];exact q
 tbls:=λb ps q=>⟨#[],by rw[ay (aG q hn),q];simp⟩
def Un.write (mu:GO (H x))(he:e=x\/H e=some (.own x))(k:∀b u,b≠e->h.get? b=some u->h'.get? b=some u)(heo:∃u,h'.get? e=some u):Un fs ex H (upd H x o) h h':=by
 have hx:∀b,H b=none->b≠x:=λb n z=>by subst z;rw[n] at mu;exact mu
 have hb:∀b,H b=none->b≠e:=λb n z=>by
  subst z
  rcases he with r |r
  ·exact hx b n r
  ·rw[n] at r;cases r
 have hm:∀b u,H b=some u->¬GO (some u)->b≠x:=λb u q nm z=>by subst z;rw[q] at mu;exact nm mu
 refine⟨λb u q n _ _=>k b u (hb b n) q,λb u q n _ _=>⟨u.slots,k b u (hb b n) q⟩,λb u q n _=>by rw[ay (hx b n)];exact n,λb u q _=>?_,
  λb xs q=>by rw[ay (hm b _ q λz=>z)];exact q,λb u xs q=>by rw[ay (hm b _ q λz=>z)];exact q,λb ps q=>⟨#[],by rw[ay (hm b _ q λz=>z),q];simp⟩⟩
 by_cases hbe:b=e
 ·subst hbe;exact heo
 ·exact⟨u,k b u hbe q⟩
end
def IA (h:Heap)(H:Hp):List Addr:=(List.range h.objs.size).filter λa=>(H a).isSome
def qI (h:Heap)(H:Hp):Heap:=PySem.W.hideAll h (IA h H)
def xT (h:Heap)(H:Hp):(qI h H).objs.size=h.objs.size:=PySem.W.hideAll_size _ _
def zl {h:Heap}{H:Hp}{b:Addr}{o:Obj}(e:h.get? b=some o)(n:H b=none):(qI h H).get? b=some o:=
 PySem.W.hideAll_get _ e λhm=>by
  have q:(H b).isSome=true:=(KQ.mp hm).2
  rw[n] at q;simp at q
theorem CD {h:Heap}{H:Hp}{b:Addr}{o:Obj}(e:(qI h H).get? b=some o):h.get? b=some o/\H b=none:=by
 have e':h.get? b=some o:=PySem.W.of_hideAll (IA h H) e
 refine⟨e',?_⟩
 cases q:H b with
 |none=>rfl
 |some x=>
  have hm:b∈IA h H:=KQ.mpr ⟨KR.mpr (Kw e'),by simp[q]⟩
  have z:(qI h H).get? b=none:=PySem.W.hideAll_none (IA h H) hm
  rw[z] at e;cases e
def Cb (g h:Heap)(L:Addr):List (Addr×Obj):=(List.range h.objs.size).filterMap λa=>if a=L\/(g.get? a).isSome=true then none else (h.get? a).map λo=>(a,o)
def rest (g h:Heap)(L d:Addr):List (Addr×Obj):=(Cb g h L).filter λp=>decide (p.1≠d)
structure Mod (K:Frag)(mg:Str->Option Value)(base:Heap):Prop where
 kin:K.In base
 glob:base.Ns mainGlobals mg
 blt:∃mb,base.Ns builtinsNs mb/\∀x:Str,x≠"__name__"->mb x=bootBuiltins x
 nolimit:base.NoLimit
 sys:∃mm,base.Ns sysModules mm
structure Cx where
 prog:Program
 w:World
 K:Frag
 mg:Str->Option Value
 base:Heap
 A:Around
 N:List Str
 s₀:Shared
 H₀:Hp
 env:Env
 outer:List Env
 stack:List Env
 ex:List Addr
 fn:Str->Bool
 calm:Bool
 pn:List (Addr×Obj)
 xe:Value->Shared->Prop
def gV (l:List Env):List Addr:=l.filterMap (·.frame)
abbrev Cx.fs (X:Cx):List Addr:=gV X.outer
def vL (sc:Scope)(x:Str):Prop:=sc.names.lookup x=some .local\/sc.names.lookup x=some .cell\/sc.names.lookup x=some .free
def Loc (sc:Scope)(x:Str):Prop:=sc.names.lookup x=some .local\/sc.names.lookup x=some .cell
def Look (env:Env)(h:Heap)(m:Str->Option Value)(x:Str)(u:Value):Prop:=
 (env.kindOf x=some .local/\m x=some u)\/((env.kindOf x=some .cell\/env.kindOf x=some .free)/\∃c,env.cells.lookup x=some c/\h.IsCell c (some u))
structure Cx.Ok (X:Cx):Prop where
 mod:Mod X.K X.mg X.base
 kind:X.env.scope.kind=.function
 glob:X.env.globals=mainGlobals
 blt:X.env.builtins=builtinsNs
 above:X.s₀.heap.objs.size<=X.env.locals
 inj:∀x y c,X.env.cells.lookup x=some c->X.env.cells.lookup y=some c->x=y
 has:∀x,(X.env.kindOf x=some .cell\/X.env.kindOf x=some .free)->∃c,X.env.cells.lookup x=some c
 cab:∀x c,X.fn x=true->X.env.cells.lookup x=some c->X.s₀.heap.objs.size<=c
 hd:X.calm=true->X.A.handled=none
 frames:X.A.frames=some X.stack
 stk:X.stack=X.outer\/(X.stack=X.env :: X.outer/\X.env.frame=some X.env.locals)
 exf:∀b∈X.ex,b≠X.env.locals/\∀x c,X.env.cells.lookup x=some c->c≠b
 bs:∀b o,X.base.get? b=some o->X.s₀.heap.get? b=some o/\X.H₀ b=none
 bsz:X.base.objs.size<=X.s₀.heap.objs.size
 noex:∀b o,X.base.get? b=some o->b∉X.ex
 exfs:∀b∈X.ex,b∉X.fs
 funs:X.s₀.heap.FunFrames X.base X.outer
 frf:∀b∈X.fs,X.H₀ b=none
structure Inv (X:Cx)(pins:List (Addr×Obj))(σ:List (Option V))(H:Hp)(s:Shared):Prop where
 ok:X.Ok
 os:s.os=X.s₀.os
 bare:AllBare s.gens
 base:Un X.fs X.ex X.H₀ H X.s₀.heap s.heap
 loc:∃m,s.heap.Ns X.env.locals m/\∀(i:Nat) (x:Str) (v:V),X.N[i]? =some x->σ[i]? =some (some v)->vL X.env.scope x->∃u,RelV v u/\Look X.env s.heap m x u
 cell:∀x c,X.env.cells.lookup x=some c->∃v,s.heap.IsCell c v
 free:H X.env.locals=none
 freeC:∀x c,X.env.cells.lookup x=some c->H c=none
 pin:∀p∈X.pn ++ pins,s.heap.get? p.1=some p.2/\H p.1=none/\p.1≠X.env.locals/\p.1∉X.fs/\∀v,p.2.data≠.cell v
 hok:jz X.prog X.w H s.heap
 len:σ.length=X.N.length
section
variable {X:Cx}{pins:List (Addr×Obj)}{σ:List (Option V)}{H H':Hp}{s:Shared}{h':Heap}
def Cx.Ok.nofr (ok:X.Ok){b:Addr}{o:Obj}(e:X.base.get? b=some o):b∉X.fs:=λhb=>by
 have:=(ok.funs.mem hb).1
 rw[e] at this;cases this
def Inv.bs (I:Inv X pins σ H s):∀b o,X.base.get? b=some o->s.heap.get? b=some o/\H b=none:=λb o e=>
 ⟨I.base.keep b o (I.ok.bs b o e).1 (I.ok.bs b o e).2 (I.ok.nofr e) (I.ok.noex b o e),I.base.free b o (I.ok.bs b o e).1 (I.ok.bs b o e).2 (I.ok.noex b o e)⟩
def Inv.bk (I:Inv X pins σ H s):∀b o,X.base.get? b=some o->s.heap.get? b=some o:=λb o e=>(I.bs b o e).1
def Inv.mod (I:Inv X pins σ H s):Mod X.K X.mg X.base:=I.ok.mod
def Inv.kIn (I:Inv X pins σ H s):X.K.In s.heap:=I.ok.mod.kin.keeps I.bk
def Inv.lt (I:Inv X pins σ H s):X.env.locals < s.heap.objs.size:=let ⟨_,hn,_⟩:=I.loc;hn.lt
def Inv.sz (I:Inv X pins σ H s):X.s₀.heap.objs.size<=s.heap.objs.size:=Ls I.ok.above (Nat.le_of_lt I.lt)
def Inv.nofs (I:Inv X pins σ H s){a:Addr}(h:s.heap.objs.size<=a):a∉X.fs:=λhb=>by
 obtain⟨_,o,ho,_⟩:=I.ok.funs.mem hb
 exact absurd (KW (Kw ho) (Ls I.sz h)) (Ld _)
def Inv.cne (I:Inv X pins σ H s):∀x c,X.env.cells.lookup x=some c->c≠X.env.locals:=λx c e z=>by
 obtain⟨v,o,ho,hd⟩:=I.cell x c e
 obtain⟨m,⟨o',es,ep,ho',hd',_⟩,_⟩:=I.loc
 rw[z,ho'] at ho;cases ho;rw[hd'] at hd;cases hd
def Inv.funs (I:Inv X pins σ H s):s.heap.FunFrames X.base X.outer:=by
 have all:∀(l:List Env),(∀b∈gV l,b∈X.fs)->X.s₀.heap.FunFrames X.base l->s.heap.FunFrames X.base l:=by
  intro l
  induction l with
  |nil=>intro _ _;trivial
  |cons env r ih=>
   intro hs hl
   obtain⟨hk,⟨L,o,hf,hn,ho,hd⟩,hr⟩:=hl
   have hL:L∈X.fs:=hs L (by unfold gV;rw[MT,hf];exact Kr)
   obtain⟨sl,e⟩:=I.base.slot L o ho (I.ok.frf L hL) hL λz=>I.ok.exfs L z hL
   exact⟨hk,⟨L,_,hf,hn,e,hd⟩,ih (λb hb=>hs b (by unfold gV;rw[MT,hf];exact Ko _ hb)) hr⟩
 exact all X.outer (λ_ hb=>hb) I.ok.funs
def Inv.stack (I:Inv X pins σ H s):s.heap.FunFrames X.base X.stack:=by
 rcases I.ok.stk with e | ⟨e,hf⟩
 ·rw[e];exact I.funs
 ·rw[e]
  obtain⟨m,hn,_⟩:=I.loc
  refine .cons (by rw[I.ok.kind];decide) hf hn ?_ I.funs
  exact Heap.get?_none_of_le (Ls I.ok.bsz I.ok.above)
def Inv.stkSub (I:Inv X pins σ H s):∀b∈gV X.stack,b∈X.env.locals :: X.fs:=λb hb=>by
 rcases I.ok.stk with e | ⟨e,hf⟩
 ·rw[e] at hb;exact Ko _ hb
 ·rw[e] at hb
  unfold gV at hb
  rw[MT,hf] at hb
  exact hb
def Inv.stkFree (I:Inv X pins σ H s):∀b∈gV X.stack,H b=none:=λb hb=>by
 rcases Kq.mp (I.stkSub b hb) with e |hb
 ·rw[e];exact I.free
 ·obtain⟨_,o,ho,_⟩:=I.ok.funs.mem hb
  exact I.base.free b o ho (I.ok.frf b hb) λz=>I.ok.exfs b z hb
def Inv.step {g':Array GenState}{t':Nat}{d':Drawn}{ch:List Addr}(I:Inv X pins σ H s)
  (hch:∀b∈ch,(b∈X.ex\/X.s₀.heap.objs.size<=b)/\b≠X.env.locals/\(∀x c,X.env.cells.lookup x=some c->c≠b)/\∀p∈X.pn ++ pins,p.1≠b)
  (keep:∀b o,b≠X.env.locals->b∉X.fs->b∉ch->s.heap.get? b=some o->H b=none->h'.get? b=some o)
  (slot:∀b o,b≠X.env.locals->b∈X.fs->b∉ch->s.heap.get? b=some o->H b=none->∃sl,h'.get? b=some {o with slots:=sl}) (free:∀b o,b∉ch->s.heap.get? b=some o->H b=none->H' b=none)
  (there:∀b o,b∉ch->s.heap.get? b=some o->∃o',h'.get? b=some o')
  (tups:∀b xs,H b=some (.tup xs)->H' b=some (.tup xs)) (frzs:∀b o u,H b=some (.bb o u)->H' b=some (.bb o u)) (tbls:∀b ps,H b=some (.tbl ps)->∃more,H' b=some (.tbl (ps ++ more)))
  (ns:∀m,s.heap.Ns X.env.locals m->h'.Ns X.env.locals m) (hok:jz X.prog X.w H' h') (hg:AllBare g') :
  Inv X pins σ H' {s with heap:=h',gens:=g',drawn:=d',toks:=t'}:=by
 have neL:∀b o,X.s₀.heap.get? b=some o->b≠X.env.locals:=λb o e=>K1 (KW (Kw e) I.ok.above)
 have neC:∀b o,X.s₀.heap.get? b=some o->b∉X.ex->b∉ch:=λb o e hx hb=>by
  rcases (hch b hb).1 with z |z
  ·exact hx z
  ·exact absurd (KW (Kw e) z) (Ld _)
 have cellK:∀x c,X.env.cells.lookup x=some c->∀v,s.heap.IsCell c v->h'.IsCell c v:=λx c e v ⟨o,ho,hd⟩=>by
  have nch:c∉ch:=λz=>(hch c z).2.2.1 x c e rfl
  by_cases hc:c∈X.fs
  ·obtain⟨sl,q⟩:=slot c o (I.cne x c e) hc nch ho (I.freeC x c e)
   exact⟨_,q,hd⟩
  ·exact⟨o,keep c o (I.cne x c e) hc nch ho (I.freeC x c e),hd⟩
 refine⟨I.ok,I.os,hg,⟨λb o e n hb hx=>?_,λb o e n hb hx=>?_,λb o e n hx=>?_,λb o e hx=>?_,λb xs e=>tups b xs (I.base.tups b xs e),λb o xs e=>frzs b o xs (I.base.frzs b o xs e),λb ps e=>?_⟩,?_,λx c e=>?_,?_,λx c e=>?_,λp hp=>?_,hok,I.len⟩
 ·exact keep b o (neL b o e) hb (neC b o e hx) (I.base.keep b o e n hb hx) (I.base.free b o e n hx)
 ·obtain⟨sl,e1⟩:=I.base.slot b o e n hb hx
  obtain⟨sl',e2⟩:=slot b _ (neL b o e) hb (neC b o e hx) e1 (I.base.free b o e n hx)
  exact⟨sl',e2⟩
 ·obtain⟨o',e1⟩:=I.base.there b o e hx
  exact free b o' (neC b o e hx) e1 (I.base.free b o e n hx)
 ·obtain⟨o',e1⟩:=I.base.there b o e hx
  exact there b o' (neC b o e hx) e1
 ·obtain⟨m1,e1⟩:=I.base.tbls b ps e
  obtain⟨m2,e2⟩:=tbls b _ e1
  exact⟨m1 ++ m2,by rw[e2,Array.append_assoc]⟩
 ·obtain⟨m,hn,hl⟩:=I.loc
  refine⟨m,ns m hn,λi x v e1 e2 e3=>?_⟩
  obtain⟨u,r,l⟩:=hl i x v e1 e2 e3
  refine⟨u,r,?_⟩
  rcases l with l | ⟨k,c,e,z⟩
  ·exact .inl l
  ·exact .inr ⟨k,c,e,cellK x c e _ z⟩
 ·obtain⟨v,z⟩:=I.cell x c e
  exact⟨v,cellK x c e v z⟩
 ·obtain⟨m,⟨o,_,_,ho,_⟩,_⟩:=I.loc
  exact free _ o (λz=>(hch _ z).2.1 rfl) ho I.free
 ·obtain⟨v,o,ho,hd⟩:=I.cell x c e
  exact free c o (λz=>(hch c z).2.2.1 x c e rfl) ho (I.freeC x c e)
 ·obtain⟨e,n,ne,nf,d⟩:=I.pin p hp
  have nch:p.1∉ch:=λz=>(hch p.1 z).2.2.2 p hp rfl
  exact⟨keep p.1 p.2 ne nf nch e n,free p.1 p.2 nch e n,ne,nf,d⟩
def Inv.un {t':Nat}(I:Inv X pins σ H s)(u:Un X.fs [] H H' s.heap h')(hok:jz X.prog X.w H' h'):Inv X pins σ H' {s with heap:=h',toks:=t'}:=by
 obtain⟨m,⟨o,es,ep,ho,r⟩,_⟩:=id I.loc
 obtain⟨sl,hL⟩:=u.any ho I.free (by simp)
 exact I.step (g':=s.gens) (d':=s.drawn) (ch:=[]) (λ_ z=>nomatch z) (λb o _ hb _ e n=>u.keep b o e n hb (by simp)) (λb o _ hb _ e n=>u.slot b o e n hb (by simp)) (λb o _ e n=>u.free b o e n (by simp)) (λb o _ e=>u.there b o e (by simp)) u.tups u.frzs u.tbls (λm' hm=>by
  obtain⟨o',es',ep',ho',r'⟩:=hm
  rw[ho] at ho';cases ho'
  exact⟨_,es',ep',hL,r'⟩) hok I.bare
def Inv.call {g':Array GenState}{t':Nat}{d':Drawn}{ch:List Addr}(I:Inv X pins σ H s)(u:Un (gV X.stack) ch H H' s.heap h')(hok:jz X.prog X.w H' h')(hg:AllBare g')
  (hch:∀b∈ch,(b∈X.ex\/X.s₀.heap.objs.size<=b)/\b≠X.env.locals/\(∀x c,X.env.cells.lookup x=some c->c≠b)/\∀p∈X.pn ++ pins,p.1≠b) :
  Inv X pins σ H' {s with heap:=h',gens:=g',drawn:=d',toks:=t'}:=by
 obtain⟨m,⟨o,es,ep,ho,r⟩,_⟩:=id I.loc
 obtain⟨sl,hL⟩:=u.any ho I.free λz=>(hch _ z).2.1 rfl
 exact I.step (ch:=ch) hch (λb o hL hb hc e n=>u.keep b o e n (λz=>(Kq.mp (I.stkSub b z)).elim hL hb) hc) (λb o _ _ hc e n=>u.any e n hc) (λb o hc e n=>u.free b o e n hc) (λb o hc e=>u.there b o e hc) u.tups u.frzs u.tbls (λm' hm=>by
  obtain⟨o',es',ep',ho',r'⟩:=hm
  rw[ho] at ho';cases ho'
  exact⟨_,es',ep',hL,r'⟩) hok hg
def Inv.turned {t':Nat}{it:Addr}(I:Inv X pins σ H s)(k:∀b o,b≠it->s.heap.get? b=some o->h'.get? b=some o)(hn:H it=none)(hL:it≠X.env.locals)
  (h1:it∈X.ex\/X.s₀.heap.objs.size<=it) (h2:∀x c,X.env.cells.lookup x=some c->c≠it) (h3:∀p∈X.pn ++ pins,p.1≠it):Inv X pins σ H {s with heap:=h',toks:=t'}:=by
 have nit:∀b u,H b=some u->b≠it:=λb u e z=>by rw[z,hn] at e;cases e
 refine I.step (g':=s.gens) (d':=s.drawn) (ch:=[it]) (λb hb=>?_) (λb o _ _ hc e _=>k b o (λz=>hc (by simp[z])) e) (λb o _ _ hc e _=>⟨o.slots,k b o (λz=>hc (by simp[z])) e⟩) (λ_ _ _ _ n=>n)
  (λb o hc e=>⟨o,k b o (λz=>hc (by simp[z])) e⟩) (λ_ _ e=>e) (λ_ _ _ e=>e) (λb ps e=>⟨#[],by rw[e];simp⟩) (λm hm=>?_) (λb u e=>?_) I.bare
 ·have e:b=it:=by simpa using hb
  subst e
  exact⟨h1,hL,h2,h3⟩
 ·obtain⟨o,es,ep,ho,r⟩:=hm
  exact⟨o,es,ep,k _ o (Ne.symm hL) ho,r⟩
 ·refine (I.hok b u e).stay (λc v hc q=>k c v ?_ q) (λ_ q=>q) λ_ _ q=>q
  rcases hc with z |z
  ·rw[z];exact nit b u e
  ·exact nit c _ z
def Inv.tok (I:Inv X pins σ H s)(t:Nat):Inv X pins σ H {s with toks:=t}:=I.un (h':=s.heap) (t':=t) Un.refl I.hok
def Inv.kept {t':Nat}(I:Inv X pins σ H s)(k:∀b u,s.heap.get? b=some u->h'.get? b=some u):Inv X pins σ H {s with heap:=h',toks:=t'}:=I.un (Un.kept k) (I.hok.kept k)
def Inv.laid {a:Addr}{o:HO}{t':Nat}(I:Inv X pins σ H s)(k:∀b u,s.heap.get? b=some u->h'.get? b=some u)(hp:s.heap.objs.size<=a)(new:bK X.prog X.w (upd H a o) h' a o) :
  Inv X pins σ (upd H a o) {s with heap:=h',toks:=t'}:=I.un (Un.laid k hp (I.hok.fresh hp)) (I.hok.laid k hp new)
def Inv.write {x e:Addr}{o:HO}{t':Nat}(I:Inv X pins σ H s)(mu:GO (H x))(he:e=x\/H e=some (.own x))(k:∀b u,b≠e->s.heap.get? b=some u->h'.get? b=some u)(heo:∃u,h'.get? e=some u)
  (new:bK X.prog X.w (upd H x o) h' x o):Inv X pins σ (upd H x o) {s with heap:=h',toks:=t'}:=I.un (Un.write mu he k heo) (I.hok.write mu he k heo new)
def Inv.pins_of {pins':List (Addr×Obj)}(I:Inv X pins σ H s)(h:∀p∈pins',s.heap.get? p.1=some p.2/\H p.1=none/\p.1≠X.env.locals/\p.1∉X.fs/\∀v,p.2.data≠.cell v):Inv X pins' σ H s:=
 ⟨I.ok,I.os,I.bare,I.base,I.loc,I.cell,I.free,I.freeC,λp hp=>(KU.mp hp).elim (λz=>I.pin p (LH _ z)) (h p),I.hok,I.len⟩
def uc {N:List Str}(hN:N.Nodup){i j:Nat}{x:Str}(a:N[i]? =some x)(b:N[j]? =some x):i=j:=by
 obtain⟨h1,e1⟩:=Kz.mp a
 obtain⟨h2,e2⟩:=Kz.mp b
 exact (List.getElem_inj hN).mp (e1.trans e2.symm)
def qc {M:Model}{A:Around}{E:Value->Shared->Prop}{i:Nat}{x:Str}{v:V}{u:Value}{Q:Unit->Shared->Prop}(I:Inv X pins σ H s)(hN:X.N.Nodup)(hi:X.N[i]? =some x)(hx:Loc X.env.scope x)(r:RelV v u)
  (h:∀s',Inv X pins (σ.set i (some v)) H s'->(∃a,Heap.SameBut a s.heap s'.heap/\(a=X.env.locals\/X.env.cells.lookup x=some a))->Q () s') (hf:X.fn x=true\/X.env.scope.names.lookup x=some .local:=by first |exact .inl rfl |exact .inr rfl |assumption):wpAny M A (storeName X.env x u) Q E s:=by
 obtain⟨m,hn,hl⟩:=id I.loc
 have hcls:(X.env.scope.kind == .class || (X.env.scope.kind == .module && X.env.locals != X.env.globals))=false:=by rw[I.ok.kind];rfl
 have hiσ:i < σ.length:=by rw[I.len];exact (Kz.mp hi).1
 have cne:=I.cne
 have tracked:∀{a:Addr} {h':Heap},(∃o,s.heap.get? a=some o/\H a=none)->Heap.SameBut a s.heap h'->jz X.prog X.w H h':=λ{a h'} ha hs b ob e=>by
  obtain⟨_,_,hfree⟩:=ha
  refine (I.hok b ob e).stay (λc w' hc q=>(hs.2 c ?_).trans q) (λ_ q=>q) λ_ _ q=>q
  rintro rfl
  rcases hc with rfl |hc
  ·rw[hfree] at e;cases e
  ·rw[hfree] at hc;cases hc
 rcases hx with hk |hk
 ·refine wpAny_storeName_local hk hn (λh' hn' hs=>?_) hcls
  obtain⟨oL,_,_,hoL,_⟩:=id hn
  refine h _ ⟨I.ok,I.os,I.bare,⟨λb o e n hb hx=>?_,λb o e n hb hx=>?_,I.base.free,λb o e hx=>?_,I.base.tups,I.base.frzs,I.base.tbls⟩,⟨_,hn',λj y v' e1 e2 e3=>?_⟩,λy c e=>?_,I.free,I.freeC,λp hp=>?_,tracked ⟨oL,hoL,I.free⟩ hs,by simpa using I.len⟩ ⟨_,hs,.inl rfl⟩
  ·exact (hs.2 b (K1 (KW (Kw e) I.ok.above))).trans (I.base.keep b o e n hb hx)
  ·obtain⟨sl,e1⟩:=I.base.slot b o e n hb hx
   exact⟨sl,(hs.2 b (K1 (KW (Kw e) I.ok.above))).trans e1⟩
  ·obtain⟨o',e1⟩:=I.base.there b o e hx
   exact⟨o',(hs.2 b (K1 (KW (Kw e) I.ok.above))).trans e1⟩
  ·by_cases hj:j=i
   ·subst hj
    rw[hi] at e1;cases e1
    rw[KL hiσ] at e2
    cases e2
    exact⟨u,r,.inl ⟨hk,by simp⟩⟩
   ·rw[KH (Ne.symm hj)] at e2
    obtain⟨u',r',q⟩:=hl j y v' e1 e2 e3
    refine⟨u',r',?_⟩
    rcases q with⟨k,e⟩ | ⟨k,c,e,z⟩
    ·refine .inl ⟨k,?_⟩
     have:y≠x:=λe=>hj (uc hN e1 (e▸hi))
     simp[this,e]
    ·exact .inr ⟨k,c,e,z.sameBut hs (cne y c e)⟩
  ·obtain⟨w',z⟩:=I.cell y c e
   exact⟨w',z.sameBut hs (cne y c e)⟩
  ·obtain⟨e,n,ne,nf,d⟩:=I.pin p hp
   exact⟨(hs.2 p.1 ne).trans e,n,ne,nf,d⟩
 ·have hfn:X.fn x=true:=by
   rcases hf with z |z
   ·exact z
   ·rw[z] at hk;cases hk
  obtain⟨c,hc⟩:=I.ok.has x (.inl hk)
  obtain⟨w',z⟩:=I.cell x c hc
  refine wpAny_storeName_cell I.ok.kind hk hc z (λh' hc' hs=>?_)
  obtain⟨oc,hoc,hocd⟩:=id z
  refine h {s with heap:=h'} ⟨I.ok,I.os,I.bare,⟨λb o e n hb hx=>?_,λb o e n hb hx=>?_,I.base.free,λb o e hx=>?_,I.base.tups,I.base.frzs,I.base.tbls⟩,⟨m,hn.sameBut hs (Ne.symm (cne x c hc)),λj y v' e1 e2 e3=>?_⟩,λy c' e=>?_,I.free,I.freeC,λp hp=>?_,tracked ⟨oc,hoc,I.freeC x c hc⟩ hs,by simpa using I.len⟩ ⟨c,hs,.inr hc⟩
  ·exact (hs.2 b (K1 (KW (Kw e) (I.ok.cab x c hfn hc)))).trans (I.base.keep b o e n hb hx)
  ·obtain⟨sl,e1⟩:=I.base.slot b o e n hb hx
   exact⟨sl,(hs.2 b (K1 (KW (Kw e) (I.ok.cab x c hfn hc)))).trans e1⟩
  ·obtain⟨o',e1⟩:=I.base.there b o e hx
   exact⟨o',(hs.2 b (K1 (KW (Kw e) (I.ok.cab x c hfn hc)))).trans e1⟩
  ·by_cases hj:j=i
   ·subst hj
    rw[hi] at e1;cases e1
    rw[KL hiσ] at e2
    cases e2
    exact⟨u,r,.inr ⟨.inl hk,c,hc,hc'⟩⟩
   ·rw[KH (Ne.symm hj)] at e2
    obtain⟨u',r',q⟩:=hl j y v' e1 e2 e3
    refine⟨u',r',?_⟩
    rcases q with q | ⟨k,c',e,z'⟩
    ·exact .inl q
    ·refine .inr ⟨k,c',e,z'.sameBut hs ?_⟩
     rintro rfl
     exact hj (uc hN e1 (I.ok.inj _ _ _ e hc▸hi))
  ·by_cases hcc:c'=c
   ·subst hcc;exact⟨_,hc'⟩
   ·obtain⟨w2,z2⟩:=I.cell y c' e
    exact⟨w2,z2.sameBut hs hcc⟩
  ·obtain⟨e,n,ne,nf,d⟩:=I.pin p hp
   refine⟨(hs.2 p.1 ?_).trans e,n,ne,nf,d⟩
   intro q
   rw[q,hoc] at e
   have q':oc=p.2:=Option.some.inj e
   exact d w' (by rw[<-q'];exact hocd)
def uf {M:Model}{A:Around}{E:Value->Shared->Prop}{i:Nat}{x:Str}{v:V}{u:Value}{Q:Unit->Shared->Prop}(I:Inv X pins σ H s)(hN:X.N.Nodup)(hi:X.N[i]? =some x)(hx:Loc X.env.scope x)(r:RelV v u)
  (h:∀s',Inv X pins (σ.set i (some v)) H s'->Q () s') (hf:X.fn x=true\/X.env.scope.names.lookup x=some .local:=by first |exact .inl rfl |exact .inr rfl |assumption):wpAny M A (storeName X.env x u) Q E s:=
 qc I hN hi hx r (λs' I' _=>h s' I') hf
def Inv.call' {s':Shared}{ch:List Addr}(I:Inv X pins σ H s)(ho:s'.os=s.os)(u:Un (gV X.stack) ch H H' s.heap s'.heap)(hok:jz X.prog X.w H' s'.heap)(hg:AllBare s'.gens)
  (hch:∀b∈ch,(b∈X.ex\/X.s₀.heap.objs.size<=b)/\b≠X.env.locals/\(∀x c,X.env.cells.lookup x=some c->c≠b)/\∀p∈X.pn ++ pins,p.1≠b):Inv X pins σ H' s':=by
 obtain⟨h',g',d',t',o'⟩:=s'
 have e:o'=s.os:=ho
 subst e
 exact I.call (g':=g') (t':=t') (d':=d') u hok hg hch
end
abbrev XK:=Value->Option Addr->Hp->Prop
abbrev St:=List (Option V)
abbrev VK:=V->Hp->Prop
abbrev TE:=St->Hp->VK->Prop
abbrev TT:=St->Hp->(Bool->Hp->Prop)->Prop
abbrev TA:=St->Hp->(List V->Hp->Prop)->Prop
structure Ends where
 nx:St->Hp->Prop
 rt:VK
 bk:St->Hp->Prop:=λ_ _=>False
 ct:St->Hp->Prop:=λ_ _=>False
abbrev TS:=Ends->St->Hp->Prop
def EP (X:Cx)(pins:List (Addr×Obj))(σ:St)(Q:VK)(u:Value)(s':Shared):Prop:=∃v H',Inv X pins σ H' s'/\RelV v u/\Q v H'
def TP (X:Cx)(pins:List (Addr×Obj))(σ:St)(Q:Bool->Hp->Prop)(b:Bool)(s':Shared):Prop:=∃H',Inv X pins σ H' s'/\Q b H'
def AP (X:Cx)(pins:List (Addr×Obj))(σ:St)(Q:List V->Hp->Prop)(us:List Value)(s':Shared):Prop:=∃vs H',Inv X pins σ H' s'/\Vals vs us/\Q vs H'
def SP (X:Cx)(pins:List (Addr×Obj))(D:Ends)(f:Flow)(s':Shared):Prop:=
 match f with
 | .next=>∃σ' H',Inv X pins σ' H' s'/\D.nx σ' H'
 | .brk=>∃σ' H',Inv X pins σ' H' s'/\D.bk σ' H'
 | .cont=>∃σ' H',Inv X pins σ' H' s'/\D.ct σ' H'
 | .ret u=>∃v σ' H',Inv X pins σ' H' s'/\RelV v u/\D.rt v H'
def PE (X:Cx)(e:Expr)(t:TE):Prop:=
 ∀(pins:List (Addr×Obj)) (s:Shared) (σ:St) (H:Hp) (Q:VK),Inv X pins σ H s->t σ H Q->wpAny (model X.prog X.w) X.A (eval e X.env) (EP X pins σ Q) X.xe s
def PT (X:Cx)(e:Expr)(t:TT):Prop:=
 ∀(pins:List (Addr×Obj)) (s:Shared) (σ:St) (H:Hp) (Q:Bool->Hp->Prop),Inv X pins σ H s->t σ H Q->wpAny (model X.prog X.w) X.A (isTrue e X.env (eval e X.env)) (TP X pins σ Q) X.xe s
def PW (X:Cx)(e:Expr)(t:TT):Prop:=
 ∀(whole:Sem Value) (pins:List (Addr×Obj)) (s:Shared) (σ:St) (H:Hp) (Q:Bool->Hp->Prop),Inv X pins σ H s->t σ H Q->wpAny (model X.prog X.w) X.A (isTrue e X.env whole) (TP X pins σ Q) X.xe s
def PW.pt {X:Cx}{e:Expr}{t:TT}(h:PW X e t):PT X e t:=h _
def PA (X:Cx)(es:List Expr)(t:TA):Prop:=
 ∀(pos:Pos) (pins:List (Addr×Obj)) (s:Shared) (σ:St) (H:Hp) (Q:List V->Hp->Prop),Inv X pins σ H s->t σ H Q->wpAny (model X.prog X.w) X.A (spliced (backTo pos (starEach es X.env))) (AP X pins σ Q) X.xe s
def PS (X:Cx)(st:Stmt)(t:TS):Prop:=
 ∀(pins:List (Addr×Obj)) (s:Shared) (σ:St) (H:Hp) (D:Ends),Inv X pins σ H s->t D σ H->wpAny (model X.prog X.w) X.A (exec st X.env) (SP X pins D) X.xe s
def p8 (X:Cx)(st:List Stmt)(t:TS):Prop:=
 ∀(pins:List (Addr×Obj)) (s:Shared) (σ:St) (H:Hp) (D:Ends),Inv X pins σ H s->t D σ H->wpAny (model X.prog X.w) X.A (execs st X.env) (SP X pins D) X.xe s
def cn {α:Type}{t:Sem α}{Q Q':α->Shared->Prop}{M:Model}{A:Around}{E:Value->Shared->Prop}{s:Shared}(h:wpAny M A t Q E s)(hQ:∀a s,Q a s->Q' a s):wpAny M A t Q' E s:=LQ h hQ λ_ _ x=>x
section
variable {X:Cx}
def bin {a b:Expr}{ta tb:TE}(ha:PE X a ta)(hb:PE X b tb){pins:List (Addr×Obj)}{s:Shared}{σ:St}{H:Hp}{R:V->V->Hp->Prop}(I:Inv X pins σ H s)(h:ta σ H λx H1=>tb σ H1 λy H2=>R x y H2)
  {α:Type} {Q:α->Shared->Prop} {f:Value->Value->Sem α}
  (hf:∀v u s2 x y H2,Inv X pins σ H2 s2->RelV x v->RelV y u->R x y H2->wpAny (model X.prog X.w) X.A (f v u) Q X.xe s2) :
  wpAny (model X.prog X.w) X.A (eval a X.env) (λv s₁=>wpAny (model X.prog X.w) X.A (eval b X.env) (λu s₂=>wpAny (model X.prog X.w) X.A (f v u) Q X.xe s₂) X.xe s₁) X.xe s:=by
 refine cn (ha pins s σ H _ I h) λv s1 ⟨x,H1,I1,r1,q1⟩=>?_
 refine cn (hb pins s1 σ H1 _ I1 q1) λu s2 ⟨y,H2,I2,r2,q2⟩=>?_
 exact hf v u s2 x y H2 I2 r1 r2 q2
def Dw (i:Nat):TE:=λσ H Q=>∃v,σ[i]? =some (some v)/\Q v H
def tC (v:V):TE:=λ_ H Q=>Q v H
def iL {i:Nat}{x:Str}{pos:Pos}(hN:X.N[i]? =some x)(hv:vL X.env.scope x)(hd:(x == ("__debug__":Str))=false:=by decide)(hcd:(x == ("__classdict__":Str))=false:=by decide):PE X (.Name x pos) (Dw i):=by
 intro pins s σ H Q I h
 obtain⟨v,e,h⟩:=h
 obtain⟨m,hn,hl⟩:=I.loc
 obtain⟨u,r,l⟩:=hl i x v hN e hv
 have fin:EP X pins σ Q u s:=⟨v,H,I,r,h⟩
 rcases l with⟨hk,hm⟩ | ⟨hk,c,hc,hcell⟩
 ·exact wpAny_Name (wpAny_loadName_local I.ok.kind hk hn hm fin) hd
 ·rcases hk with hk |hk
  ·exact wpAny_Name (wpAny_loadName_cell I.ok.kind hk hc hcell fin) hd
  ·exact wpAny_Name (wpAny_loadName_free I.ok.kind hk hc hcell fin hcd) hd
def qN {i j pos}:PE X (.Constant (.int i) j pos) (tC (.int i)):=λ_ _ _ H _ I h=>wpAny_Constant_int ⟨.int i,H,I.tok _,⟨_,rfl⟩,h⟩
def wW {b j pos}:PE X (.Constant (.bool b) j pos) (tC (.bl b)):=λ_ _ _ H _ I h=>Constant_bool ⟨.bl b,H,I,rfl,h⟩
def EL {j pos}:PE X (.Constant .none j pos) (tC .non):=λ_ _ _ H _ I h=>Constant_none ⟨.non,H,I,rfl,h⟩
def Ay {x j pos}:PE X (.Constant (.str x) j pos) (tC (.str x)):=λ_ _ _ H _ I h=>Calls.Constant_str ⟨.str x,H,I.tok _,⟨_,rfl⟩,h⟩
def Gl (X:Cx)(x:Str):Prop:=X.env.kindOf x=some .globalImplicit
def rl {E:Value->Shared->Prop}{pins:List (Addr×Obj)}{s:Shared}{σ:St}{H:Hp}{x:Str}{u:Value}{pos:Pos}{Q:Value->Shared->Prop}(I:Inv X pins σ H s)(hg:Gl X x)(hm:X.mg x=some u)(h:Q u s)
  (hd:(x == ("__debug__":Str))=false:=by decide):wpAny (model X.prog X.w) X.A (eval (.Name x pos) X.env) Q E s:=
 Calls.Name_function_global I.ok.kind hg (Calls.loadGlobal_global (by rw[I.ok.glob];exact I.mod.glob.keeps I.bk) hm h) hd
def jm {E:Value->Shared->Prop}{pins:List (Addr×Obj)}{s:Shared}{σ:St}{H:Hp}{x:Str}{u:Value}{pos:Pos}{Q:Value->Shared->Prop}(I:Inv X pins σ H s)(hg:Gl X x)(hm:X.mg x=none)(hv:bootBuiltins x=some u)(h:Q u s)
  (hn:x≠"__name__":=by decide) (hd:(x == ("__debug__":Str))=false:=by decide):wpAny (model X.prog X.w) X.A (eval (.Name x pos) X.env) Q E s:=by
 obtain⟨mb,h1,h2⟩:=I.mod.blt
 exact Calls.Name_function_global I.ok.kind hg (Calls.loadGlobal_builtin (by rw[I.ok.glob];exact I.mod.glob.keeps I.bk) hm (by rw[I.ok.blt];exact h1.keeps I.bk) ((h2 x hn).trans hv) h) hd
def CZ {x:Str}{v:V}{u:Value}{pos:Pos}(hg:Gl X x)(hm:X.mg x=some u)(r:RelV v u)(hd:(x == ("__debug__":Str))=false:=by decide):PE X (.Name x pos) (tC v):=
 λ_ _ _ H _ I h=>rl I hg hm ⟨v,H,I,r,h⟩ hd
def Cs {x:Str}{v:V}{u:Value}{pos:Pos}(hg:Gl X x)(hm:X.mg x=none)(hv:bootBuiltins x=some u)(r:RelV v u)(hn:x≠"__name__":=by decide)(hd:(x == ("__debug__":Str))=false:=by decide):PE X (.Name x pos) (tC v):=
 λ_ _ _ H _ I h=>jm I hg hm hv ⟨v,H,I,r,h⟩ hn hd
variable {a b:Expr}{ta tb:TE}{pos:Pos}
def PC (X:Cx)(op:CmpOp)(a b:Expr)(t:TE):Prop:=
 ∀(pins:List (Addr×Obj)) (s:Shared) (σ:St) (H:Hp) (Q:VK),Inv X pins σ H s->t σ H Q->
  wpAny (model X.prog X.w) X.A (eval a X.env) (λv s₁=>wpAny (model X.prog X.w) X.A (eval b X.env) (λu s₂=>wpAny (model X.prog X.w) X.A (compareOp op v u) (EP X pins σ Q) X.xe s₂) X.xe s₁) X.xe s
def BK (b:Expr){op:CmpOp}(h:op≠.In)(h2:op≠.NotIn):behindInMarks op b=false:=by
 have e1:(op == CmpOp.In)=false:=by cases op <;> first |rfl |exact absurd rfl h
 have e2:(op == CmpOp.NotIn)=false:=by cases op <;> first |rfl |exact absurd rfl h2
 cases b <;> simp[behindInMarks,e1,e2]
def tB (t:TE):TT:=λσ H Q=>t σ H λx H1=>∃c,x=.bl c/\Q c H1
def Jq {op:CmpOp}{t:TE}(h:PC X op a b t)(h1:behindInMarks op b=false:=by first |exact BK _ (by decide) (by decide) |rfl):PT X (.Compare a [op] [b] pos) (tB t):=by
 intro pins s σ H Q I hw
 refine wpAny_isTrue_Compare1 (cn (h pins s σ H _ I hw) λv s1 h1=>cn h1 λu s2 h2=>cn h2 λc s3 ⟨x,H1,I1,r1,q1⟩=>?_) h1
 obtain⟨d,rfl,q⟩:=q1
 cases r1
 exact LU ⟨H1,I1,q⟩
def v3 {e:Expr}{t:TE}(h:PE X e t)(he:∀whole,isTrue e X.env whole=(do let v <-whole;standAt e.pos;holding [v] (truthy v)):=by intro _;rfl):PT X e (tB t):=by
 intro pins s σ H Q I hw
 refine isTrue_plain (cn (h pins s σ H _ I hw) λv s1 ⟨x,H1,I1,r1,q1⟩=>?_) (he _)
 obtain⟨d,rfl,q⟩:=q1
 cases r1
 exact LU ⟨H1,I1,q⟩
variable {tA tB':TT}{rest:List Expr}
def IP (t u:TT):TT:=λσ H Q=>t σ H λc H1=>if c=true then u σ H1 Q else Q false H1
def Ke (t u:TT):TT:=λσ H Q=>t σ H λc H1=>if c=true then Q true H1 else u σ H1 Q
def IX (t:TT):TT:=λσ H Q=>t σ H λc H1=>Q (!c) H1
theorem wA (ha:PT X a tA):PW X (.BoolOp .And [a] pos) tA:=by
 intro wh pins s σ H Q I h
 refine isTrue_and (cn (ha pins s σ H Q I h) λc s1 e=>?_)
 cases c with
 |true=>exact isTrue_and_nil e
 |false=>exact e
theorem EZ (ha:PT X a tA):PW X (.BoolOp .Or [a] pos) tA:=by
 intro wh pins s σ H Q I h
 refine isTrue_or (cn (ha pins s σ H Q I h) λc s1 e=>?_)
 cases c with
 |false=>exact isTrue_or_nil e
 |true=>exact e
theorem zU (ha:PT X a tA)(hb:PW X (.BoolOp .And (b :: rest) pos) tB'):PW X (.BoolOp .And (a :: b :: rest) pos) (IP tA tB'):=by
 intro wh pins s σ H Q I h
 refine isTrue_and (cn (ha pins s σ H _ I h) λc s1 ⟨H1,I1,q1⟩=>?_)
 cases c with
 |true=>exact hb wh pins s1 σ H1 Q I1 q1
 |false=>exact⟨H1,I1,q1⟩
theorem Hk (ha:PT X a tA)(hb:PW X (.BoolOp .Or (b :: rest) pos) tB'):PW X (.BoolOp .Or (a :: b :: rest) pos) (Ke tA tB'):=by
 intro wh pins s σ H Q I h
 refine isTrue_or (cn (ha pins s σ H _ I h) λc s1 ⟨H1,I1,q1⟩=>?_)
 cases c with
 |true=>exact⟨H1,I1,q1⟩
 |false=>exact hb wh pins s1 σ H1 Q I1 q1
def Gh (ha:PT X a tA):PT X (.UnaryOp .Not a pos) (IX tA):=by
 intro pins s σ H Q I h
 exact isTrue_not (ha pins s σ H (λc H1=>Q (!c) H1) I h)
def Ih (ta tb:TE):TE:=λσ H Q=>ta σ H λx H1=>∃c,x=.bl c/\if c=true then tb σ H1 Q else Q (.bl false) H1
def GH (ta:TE):TE:=λσ H Q=>ta σ H λx H1=>∃c,x=.bl c/\Q (.bl (!c)) H1
def Ep {op}{t:TE}(h:PE X a t):PE X (.BoolOp op [a] pos) t:=λpins s σ H Q I hw=>BoolOp_one (h pins s σ H Q I hw)
theorem FN (ha:PE X a ta)(hb:PE X (.BoolOp .And (b :: rest) pos) tb):PE X (.BoolOp .And (a :: b :: rest) pos) (Ih ta tb):=by
 intro pins s σ H Q I h
 refine BoolOp_and (cn (ha pins s σ H _ I h) λv s1 ⟨x,H1,I1,r1,q1⟩=>?_)
 obtain⟨c,rfl,q1⟩:=q1
 cases r1
 refine LU ?_
 cases c with
 |true=>exact hb pins s1 σ H1 Q I1 q1
 |false=>exact⟨.bl false,H1,I1,rfl,q1⟩
def E6 (ha:PE X a ta):PE X (.UnaryOp .Not a pos) (GH ta):=by
 intro pins s σ H Q I h
 refine UnaryOp_ (cn (ha pins s σ H _ I h) λv s1 ⟨x,H1,I1,r1,q1⟩=>?_)
 obtain⟨c,rfl,q1⟩:=q1
 cases r1
 exact not_of (LU ⟨.bl (!c),H1,I1,rfl,q1⟩)
end
def e8 (K:Frag)(H:Hp)(a:Addr)(xs:List V):Prop:=
 Rd H a (.lst xs)\/
  ∃(o:Obj) (its:Array Value) (n:Nat),K.lookup a=some o/\o.cls=.type "list"/\o.dict=none/\o.data=.seq its n/\its.size<=sizeLine/\Vals xs its.toList
def dA (K:Frag)(H:Hp)(a:Addr)(xs:List V):Prop:=
 Rd H a (.tup xs)\/
  ∃(o:Obj) (its:Array Value) (n:Nat),K.lookup a=some o/\o.cls=.type "tuple"/\o.data=.seq its n/\its.size<=sizeLine/\Vals xs its.toList/\o.dict=none
def Ja:Value->Option V
 | .none=>some .non
 | .bool b=>some (.bl b)
 | .int i _=>some (.int i)
 | .str x _=>some (.str x)
 | .bytes b _=>some (.byt b)
 | .float b _=>some (.flt b)
 | .ref a=>some (.ref a)
 | .type n=>some (.ty n)
 |_=>none
theorem RelV.abs {x:V}{u:Value}(r:RelV x u):Ja u=some x:=by
 cases x with
 |non=>cases r;rfl
 |bl _=>cases r;rfl
 |int _=>obtain⟨t,rfl⟩:=r;rfl
 |str _=>obtain⟨t,rfl⟩:=r;rfl
 |byt _=>obtain⟨t,rfl⟩:=r;rfl
 |flt _=>obtain⟨t,rfl⟩:=r;rfl
 |ref _=>cases r;rfl
 |ty _=>cases r;rfl
def RelV.inj {x y:V}{u:Value}(r:RelV x u)(q:RelV y u):x=y:=Option.some.inj (r.abs.symm.trans q.abs)
theorem Vals.inj:∀{xs ys:List V} {us:List Value},Vals xs us->Vals ys us->xs=ys
 |_,_,_,.nil,.nil=>rfl
 |_,_,_,.cons r t,.cons r' t'=>by rw[r.inj r',Vals.inj t t']
section
variable {X:Cx}{pins:List (Addr×Obj)}{σ:St}{H:Hp}{s:Shared}{a:Addr}{xs ys:List V}
def Inv.list (I:Inv X pins σ H s)(h:e8 X.K H a xs):∃its:List Value,Vals xs its/\PlainL s.heap a its.toArray/\xs.length<=sizeLine:=by
 rcases h with h | ⟨o,its,n,hk,hc,hd,hs,hz,r⟩
 ·obtain⟨z,its,n,r,e⟩:=h.ok I.hok
  exact⟨its,r,⟨_,n,e,rfl,rfl,rfl⟩,z⟩
 ·refine⟨its.toList,r,⟨o,n,I.kIn a o hk,hc,hd,by simpa using hs⟩,?_⟩
  have e:=r.length
  simp only[MU] at e
  omega
def Inv.tuple (I:Inv X pins σ H s)(h:dA X.K H a xs):∃its:List Value,Vals xs its/\IsTup s.heap a its.toArray/\xs.length<=sizeLine:=by
 rcases h with h | ⟨o,its,n,hk,hc,hs,hz,r,_⟩
 ·obtain⟨z,its,r,p⟩:=h.ok I.hok
  exact⟨its,r,p.isTup,z⟩
 ·refine⟨its.toList,r,⟨o,I.kIn a o hk,hc,n,by simpa using hs⟩,?_⟩
  have e:=r.length
  simp only[MU] at e
  omega
def Inv.list_inj (I:Inv X pins σ H s)(h:e8 X.K H a xs)(h':e8 X.K H a ys):xs=ys:=by
 obtain⟨its,r,⟨o,n,e,_,_,d⟩,_⟩:=I.list h
 obtain⟨its',r',⟨o',n',e',_,_,d'⟩,_⟩:=I.list h'
 rw[e] at e';cases e'
 rw[d] at d'
 injection d' with d1 _
 have:its=its':=by simpa using congrArg Array.toList d1
 subst this
 exact r.inj r'
def Inv.tuple_inj (I:Inv X pins σ H s)(h:dA X.K H a xs)(h':dA X.K H a ys):xs=ys:=by
 obtain⟨its,r,⟨o,e,_,n,d⟩,_⟩:=I.tuple h
 obtain⟨its',r',⟨o',e',_,n',d'⟩,_⟩:=I.tuple h'
 rw[e] at e';cases e'
 rw[d] at d'
 injection d' with d1 _
 have:its=its':=by simpa using congrArg Array.toList d1
 subst this
 exact r.inj r'
end
abbrev Cx.wish (X:Cx)(E:Value->Shared->Prop):Cx:={X with xe:=E}
abbrev Cx.nox (X:Cx):Cx:=X.wish λ_ _=>False
def Cx.Ok.wish {X:Cx}(ok:X.Ok)(E:Value->Shared->Prop):(X.wish E).Ok:=
 ⟨ok.mod,ok.kind,ok.glob,ok.blt,ok.above,ok.inj,ok.has,ok.cab,ok.hd,ok.frames,ok.stk,ok.exf,ok.bs,ok.bsz,ok.noex,ok.exfs,ok.funs,ok.frf⟩
def Cx.Ok.unwish {X:Cx}{E:Value->Shared->Prop}(ok:(X.wish E).Ok):X.Ok:=
 ⟨ok.mod,ok.kind,ok.glob,ok.blt,ok.above,ok.inj,ok.has,ok.cab,ok.hd,ok.frames,ok.stk,ok.exf,ok.bs,ok.bsz,ok.noex,ok.exfs,ok.funs,ok.frf⟩
section
variable {X:Cx}{pins:List (Addr×Obj)}{σ:St}{H:Hp}{s:Shared}{E:Value->Shared->Prop}
def Inv.wish (I:Inv X pins σ H s)(E:Value->Shared->Prop):Inv (X.wish E) pins σ H s:=⟨I.ok.wish E,I.os,I.bare,I.base,I.loc,I.cell,I.free,I.freeC,I.pin,I.hok,I.len⟩
def Inv.unwish (I:Inv (X.wish E) pins σ H s):Inv X pins σ H s:=⟨I.ok.unwish,I.os,I.bare,I.base,I.loc,I.cell,I.free,I.freeC,I.pin,I.hok,I.len⟩
theorem SP.unwish {D:Ends}{f:Flow}{s':Shared}(h:SP (X.wish E) pins D f s'):SP X pins D f s':=by
 cases f with
 |next=>obtain⟨σ',H',I,q⟩:=h;exact⟨σ',H',I.unwish,q⟩
 |brk=>obtain⟨σ',H',I,q⟩:=h;exact⟨σ',H',I.unwish,q⟩
 |cont=>obtain⟨σ',H',I,q⟩:=h;exact⟨σ',H',I.unwish,q⟩
 |ret u=>obtain⟨v,σ',H',I,r,q⟩:=h;exact⟨v,σ',H',I.unwish,r,q⟩
def p8.nox {st:List Stmt}{t:TS}(h:p8 X.nox st t):p8 X st t:=λpins s σ H D I hw=>
 LQ (h pins s σ H D (I.wish _) hw) (λ_ _ q=>q.unwish) λ_ _ z=>False.elim z
end
section
variable {X:Cx}{st:Stmt}{rest:List Stmt}{t u:TS}{e:Expr}{te:TE}{pos:Pos}
def HA:TS:=λD σ H=>D.nx σ H
def Jl (t u:TS):TS:=λD σ H=>t {D with nx:=u D} σ H
def wF:p8 X [] HA:=λ_ _ σ H _ I h=>wpAny_execs_nil ⟨σ,H,I,h⟩
theorem fY (h1:PS X st t)(h2:p8 X rest u):p8 X (st :: rest) (Jl t u):=by
 intro pins s σ H D I h
 refine wpAny_execs_cons (cn (h1 pins s σ H {D with nx:=u D} I h) λf s1 q=>?_)
 cases f with
 |next=>
  obtain⟨σ',H',I',q⟩:=q
  exact h2 pins s1 σ' H' D I' q
 |ret v=>exact q
 |brk=>exact q
 |cont=>exact q
theorem gA (h1:PS X st t):p8 X [st] t:=by
 intro pins s σ H D I h
 refine wpAny_execs_cons (cn (h1 pins s σ H D I h) λf s1 q=>?_)
 cases f with
 |next=>exact wpAny_execs_nil q
 |ret v=>exact q
 |brk=>exact q
 |cont=>exact q
def Inv.quiet {pins:List (Addr×Obj)}{σ:St}{H:Hp}{s:Shared}(I:Inv X pins σ H s):interactive X.env=false:=by simp[interactive,I.ok.kind]
def GD (te:TE):TS:=λD σ H=>te σ H λ_ H1=>D.nx σ H1
def qh (he:PE X e te)(hs:swapsWith e none pos.line X.env=pure false:=by rfl):PS X (.Expr e pos) (GD te):=by
 intro pins s σ H D I h
 exact wpAny_Expr_any (cn (he pins s σ H _ I h) λv s1 ⟨x,H1,I1,r1,q1⟩=>⟨σ,H1,I1,q1⟩) I.quiet hs
def JP (te:TE):TS:=λD σ H=>te σ H D.rt
def lE (he:PE X e te):PS X (.Return (some e) pos) (JP te):=by
 intro pins s σ H D I h
 exact wpAny_Return_some (cn (he pins s σ H _ I h) λv s1 ⟨x,H1,I1,r1,q1⟩=>⟨x,σ,H1,I1,r1,q1⟩)
def IV (c:TT)(t u:TS):TS:=λD σ H=>c σ H λb H1=>if b=true then t D σ H1 else u D σ H1
theorem Ed {c:Expr}{a b:List Stmt}{tc:TT}(hc:PT X c tc)(ha:p8 X a t)(hb:p8 X b u):PS X (.If c a b pos) (IV tc t u):=by
 intro pins s σ H D I h
 refine wpAny_If (cn (hc pins s σ H _ I h) λd s1 ⟨H1,I1,q1⟩=>?_)
 cases d with
 |true=>exact ha pins s1 σ H1 D I1 q1
 |false=>exact hb pins s1 σ H1 D I1 q1
end
abbrev TG:=V->St->Hp->(St->Hp->Prop)->Prop
abbrev ED:=List V->St->Hp->(St->Hp->Prop)->Prop
def PG (X:Cx)(target:Expr)(t:TG):Prop:=
 ∀(pins:List (Addr×Obj)) (s:Shared) (σ:St) (H:Hp) (v:V) (u:Value) (Q:St->Hp->Prop),Inv X pins σ H s->RelV v u->t v σ H Q->
  wpAny (model X.prog X.w) X.A (assign target X.env u) (λ_ s'=>∃σ' H',Inv X pins σ' H' s'/\Q σ' H') X.xe s
def IG (X:Cx)(ts:List Expr)(t:ED):Prop:=
 ∀(pins:List (Addr×Obj)) (s:Shared) (σ:St) (H:Hp) (vs:List V) (us:List Value) (Q:St->Hp->Prop),Inv X pins σ H s->Vals vs us->t vs σ H Q->
  wpAny (model X.prog X.w) X.A (assignInOrder ((assignEach ts X.env).map (·.2)) us) (λ_ s'=>∃σ' H',Inv X pins σ' H' s'/\Q σ' H') X.xe s
abbrev EM:=V->V->V->Hp->(Hp->Prop)->Prop
def mW (X:Cx)(t:EM):Prop:=
 ∀(pins:List (Addr×Obj)) (s:Shared) (σ:St) (H:Hp) (o i v:V) (ov iv u:Value) (Q:Hp->Prop),Inv X pins σ H s->RelV o ov->RelV i iv->RelV v u->t o i v H Q->
  wpAny (model X.prog X.w) X.A (setItem ov iv u) (λ_ s'=>∃H',Inv X pins σ H' s'/\Q H') X.xe s
section
variable {X:Cx}{pos:Pos}
def j7 (i:Nat):TG:=λv σ H Q=>Q (σ.set i (some v)) H
def cz {i:Nat}{x:Str}(hN:X.N.Nodup)(hi:X.N[i]? =some x)(hx:Loc X.env.scope x)(hf:X.fn x=true\/X.env.scope.names.lookup x=some .local:=by first |exact .inl rfl |exact .inr rfl |assumption):PG X (.Name x pos) (j7 i):=by
 intro pins s σ H v u Q I r h
 exact wpAny_assign_Name (uf I hN hi hx r (λs' I'=>⟨_,H,I',h⟩) hf)
def Cd:ED:=λvs σ H Q=>vs= []/\Q σ H
def n9 (t:TG)(u:ED):ED:=λvs σ H Q=>∃v r,vs=v :: r/\t v σ H λσ' H'=>u r σ' H' Q
def kY:IG X [] Cd:=by
 intro pins s σ H vs us Q I r h
 obtain⟨e,h⟩:=h
 subst e
 cases r
 exact assignInOrder_nil ⟨σ,H,I,h⟩
theorem cW {e:Expr}{es:List Expr}{t:TG}{u:ED}(h1:PG X e t)(h2:IG X es u)
  (hs:(assignEach (e :: es) X.env).map (·.2)=assign e X.env :: (assignEach es X.env).map (·.2):=by rfl):IG X (e :: es) (n9 t u):=by
 intro pins s σ H vs us Q I r h
 obtain⟨v,vr,e1,h⟩:=h
 subst e1
 cases r with
 |cons r rr=>
  rw[hs]
  refine assignInOrder_cons (cn (h1 pins s σ H _ _ _ I r h) λ_ s1 ⟨σ1,H1,I1,q1⟩=>?_)
  exact h2 pins s1 σ1 H1 _ _ Q I1 rr q1
def DE (K:Frag)(n:Nat)(t:ED):TG:=λv σ H Q=>∃a xs,v=.ref a/\dA K H a xs/\xs.length=n/\t xs σ H Q
def nP {es:List Expr}{k:Nat}{t:ED}{n:Nat}(hc:X.calm=true)(h:IG X es t)
  (hn:(assignEach es X.env).length=n:=by rfl) (hst:(assignEach es X.env).findIdx? (·.1)=none:=by rfl):PG X (.Tuple es k pos) (DE X.K n t):=by
 intro pins s σ H v u Q I r hw
 obtain⟨a,xs,e1,hq,hl,hw⟩:=hw
 subst e1
 cases r
 obtain⟨its,rv,ht,hz⟩:=I.tuple hq
 refine assign_Tuple_tuple (I.ok.hd hc) ht (by simp[hn,<-hl,rv.length]) hst λh' hx=>?_
 have I1:Inv X pins σ H {s with heap:=h'}:=I.kept (t':=s.toks) λb o e=>hx b o (K1 (Kw e)) e
 exact h pins _ σ H xs _ Q I1 (by simpa using rv) hw
def IY (to ti:TE)(t:EM):TG:=λv σ H Q=>to σ H λo H1=>ti σ H1 λi H2=>t o i v H2 λH3=>Q σ H3
def rP {o i:Expr}{to ti:TE}{t:EM}(ho:PE X o to)(hi:PE X i ti)(hs:mW X t)
  (ha:∀v,assign (.Subscript o i pos) X.env v=(do
   let ov <-holding [v] (eval o X.env)
   let iv <-holding [v,ov] (eval i X.env)
   standAt pos
   holding [v,ov,iv] (setItem ov iv v)
   release [v,ov,iv] []):=by intro _;rfl):PG X (.Subscript o i pos) (IY to ti t):=by
 intro pins s σ H v u Q I r h
 rw[ha]
 refine Kk (LK (cn (ho pins s σ H _ I h) λov s1 ⟨x,H1,I1,r1,q1⟩=>?_))
 refine Kk (LK (cn (hi pins s1 σ H1 _ I1 q1) λiv s2 ⟨y,H2,I2,r2,q2⟩=>?_))
 refine Kk (wpAny_standAt (Kk (LK (cn (hs pins s2 σ H2 x y v ov iv u _ I2 r1 r2 r q2) λ_ s3 ⟨H3,I3,q3⟩=>?_))))
 exact wpAny_release ⟨σ,H3,I3,q3⟩
def HS (te:TE)(g:TG):TS:=λD σ H=>te σ H λx H1=>g x σ H1 D.nx
def nh {tg e:Expr}{te:TE}{g:TG}(he:PE X e te)(hg:PG X tg g)(hs:swapsWithSole [tg] e pos.line X.env=pure false:=by rfl)(hw:swappedStores [tg] e X.env=pure none:=by rfl)
  (h1:(assignEach [tg] X.env).map (·.2)= [assign tg X.env]:=by rfl):PS X (.Assign [tg] e pos) (HS te g):=by
 intro pins s σ H D I h
 refine wpAny_Assign_stores (cn (he pins s σ H _ I h) λv s1 ⟨x,H1,I1,r1,q1⟩=>?_) hs hw
 rw[h1]
 exact cn (hg pins s1 σ H1 x v _ I1 r1 q1) λ_ s2 q=>q
def oj {i:Nat}{x:Str}{e:Expr}{te:TE}{pos':Pos}(hN:X.N.Nodup)(hi:X.N[i]? =some x)(hx:Loc X.env.scope x)(he:PE X e te)(hs:swapsWith e (some (.Name x pos')) pos.line X.env=pure false:=by rfl)(hf:X.fn x=true\/X.env.scope.names.lookup x=some .local:=by first |exact .inl rfl |exact .inr rfl |assumption) :
  PS X (.Assign [.Name x pos'] e pos) (HS te (j7 i)):=by
 intro pins s σ H D I h
 refine wpAny_Assign_Name (cn (he pins s σ H _ I h) λv s1 ⟨y,H1,I1,r1,q1⟩=>?_) hs
 exact uf I1 hN hi hx r1 (λs2 I2=>⟨_,H1,I2,q1⟩) hf
end
section
variable {X:Cx}{pos:Pos}
def FW (c:TT)(tb:TS):TS:=λD σ H=>∃W:Nat->St->Hp->Prop,(∃m,W m σ H)/\∀m σ H,W m σ H->
 c σ H λb H1=>if b=true then ∃N:St->Hp->Prop,(∀σ' H',N σ' H'->∃m',m' < m/\W m' σ' H')/\tb {D with nx:=N,ct:=N,bk:=D.nx} σ H1 else D.nx σ H1
theorem Ai {c:Expr}{body:List Stmt}{tc:TT}{tb:TS}(hp:PassesOwn (model X.prog X.w) X.A X.env X.xe)(hc:PT X c tc)(hb:p8 X body tb):PS X (.While c body [] pos) (FW tc tb):=by
 intro pins s σ H D I h
 obtain⟨W,⟨m0,w0⟩,turn⟩:=h
 refine wpAny_While (codeAny_whileLoop (λn s'=>∃σ' H',Inv X pins σ' H' s'/\W n σ' H') ?_ m0 ⟨σ,H,I,w0⟩)
 rintro n s1 ⟨σ1,H1,I1,w1⟩
 refine Mj hp (cn (hc pins s1 σ1 H1 _ I1 (turn n σ1 H1 w1)) λb s2 ⟨H2,I2,q2⟩=>?_)
 cases b with
 |true=>
  obtain⟨N,hN,q2⟩:=q2
  rw[Kn rfl]
  refine Mj hp (cn (hb pins s2 σ1 H2 _ I2 q2) λf s3 q3=>?_)
  cases f with
  |next=>
   obtain⟨σ3,H3,I3,n3⟩:=q3
   obtain⟨m',hm,w3⟩:=hN σ3 H3 n3
   exact⟨m',hm,σ3,H3,I3,w3⟩
  |cont=>
   obtain⟨σ3,H3,I3,n3⟩:=q3
   obtain⟨m',hm,w3⟩:=hN σ3 H3 n3
   exact⟨m',hm,σ3,H3,I3,w3⟩
  |brk=>exact q3
  |ret v=>exact q3
 |false=>
  rw[Ku KN]
  exact wpAny_execs_nil ⟨σ1,H2,I2,q2⟩
end
structure It where
 go:Nat->Hp->Prop
 yld:Nat->Hp->V->Hp->Prop
 stop:Nat->Hp->Prop
def lI (X:Cx)(pins:List (Addr×Obj))(H:Hp)(b:Addr):Prop:=
 H b=none/\b≠X.env.locals/\b∉X.fs/\(b∈X.ex\/X.s₀.heap.objs.size<=b)/\(∀x c,X.env.cells.lookup x=some c->c≠b)/\∀p∈X.pn ++ pins,p.1≠b
def Inv.fpOk {X:Cx}{pins:List (Addr×Obj)}{σ:St}{H H':Hp}{s:Shared}{b:Addr}(I:Inv X pins σ H s)(hb:s.heap.objs.size<=b)(hn:H' b=none):lI X pins H' b:=by
 refine⟨hn,Nat.ne_of_gt (KW I.lt hb),I.nofs hb,.inr (Ls I.sz hb),λx c e z=>?_,λp hp z=>?_⟩
 ·obtain⟨v,q⟩:=I.cell x c e
  exact absurd (KW q.lt (by rw[z];exact hb)) (Ld _)
 ·exact absurd (KW (Kw (I.pin p hp).1) (by rw[z];exact hb)) (Ld _)
structure Turn (P:Program)(w:World)(K:Frag)(tg:Expr)(J:It)(fp:List Addr)(it:Addr)(tn:Nat->Heap->Prop):Prop where
 mem:it∈fp
 obj:∀i h,tn i h->∀b∈fp,∃o,h.get? b=some o/\∀v,o.data≠.cell v
 keep:∀i h h',tn i h->(∀b∈fp,∀o,h.get? b=some o->h'.get? b=some o)->tn i h'
 item:∀(X:Cx),X.prog=P->X.w=w->X.K=K->X.calm=true->∀(i:Nat) (pins:List (Addr×Obj)) (s:Shared) (σ:St) (H:Hp) (E:Value->Shared->Prop),Inv X pins σ H s->(∀b∈fp,lI X pins H b)->tn i s.heap->J.go i H->
  wpAny (model P w) X.A (pyNext (.ref it)) (λr s1=>∃u,r=some u/\
   wpAny (model P w) X.A (letOwnedTupleGo tg (.ref it) u) (λ_ s2=>∃x H',Inv X pins σ H' s2/\RelV x u/\J.yld i H x H'/\tn (i + 1) s2.heap/\∀b∈fp,H' b=none) E s1) E s
 done:∀(X:Cx),X.prog=P->X.w=w->X.K=K->X.calm=true->∀(i:Nat) (pins:List (Addr×Obj)) (s:Shared) (σ:St) (H:Hp) (E:Value->Shared->Prop),Inv X pins σ H s->(∀b∈fp,lI X pins H b)->tn i s.heap->J.stop i H->
  wpAny (model P w) X.A (pyNext (.ref it)) (λr s1=>r=none/\Inv X pins σ H s1) E s
 self:∀(A:Around) (i:Nat) (s:Shared) (Q:Value->Shared->Prop) (E:Value->Shared->Prop),tn i s.heap->Q (.ref it) s->wpAny (model P w) A (pyIter (.ref it)) Q E s
abbrev TI:=St->Hp->(It->Hp->Prop)->Prop
def Jx (X:Cx)(pins:List (Addr×Obj))(σ:St)(tg:Expr)(R:It->Hp->Prop)(itv:Value)(s2:Shared):Prop:=
 ∃(it:Addr) (fp:List Addr) (tn:Nat->Heap->Prop) (J:It) (H':Hp),itv=.ref it/\Inv X pins σ H' s2/\Turn X.prog X.w X.K tg J fp it tn/\tn 0 s2.heap/\(∀b∈fp,lI X pins H' b)/\R J H'
def PI (X:Cx)(tg iter:Expr)(wi:TI):Prop:=
 ∀(pins:List (Addr×Obj)) (s:Shared) (σ:St) (H:Hp) (R:It->Hp->Prop),Inv X pins σ H s->wi σ H R->
  wpAny (model X.prog X.w) X.A (eval iter X.env) (λv s1=>wpAny (model X.prog X.w) X.A (pyIter v) (Jx X pins σ tg R) X.xe s1) X.xe s
def v9 {M:Model}{A:Around}{E:Value->Shared->Prop}{s:Shared}{tg:Expr}{it:Addr}{u:Value}{o:Obj}{n:String}{vs:Array Value}{Q:Unit->Shared->Prop}(ho:s.heap.get? it=some o)(hc:o.cls=.type n)(hd:o.data=.fields vs)
  (hn: ["enumerate","zip","dict_itemiterator","dict_reverseitemiterator","odict_iterator","itertools.zip_longest","itertools.pairwise"].contains n=false) (hQ:Q () s):wpAny M A (letOwnedTupleGo tg (.ref it) u) Q E s:=by
 unfold letOwnedTupleGo
 cases tg <;> first
  |exact Ks hQ
  | (cases u <;> first
    |exact Ks hQ
    | (refine Kk (wpAny_load ho ?_)
       rw[hc,hd]
       show wpAny M A (if (["enumerate","zip","dict_itemiterator","dict_reverseitemiterator","odict_iterator","itertools.zip_longest","itertools.pairwise"].contains n && vs[0]? == some (rawInt _))=true then _ else _) Q E s
       rw[Ku (by intro h;rw[hn,Bool.false_and] at h;cases h)]
       exact Ks hQ))
def yQ (K:Frag)(a:Addr):It:=
 ⟨λi H=>∃xs x,e8 K H a xs/\xs[i]? =some x,λi H x H'=>H'=H/\∀xs,e8 K H a xs->xs[i]? =some x,λi H=>∃xs,e8 K H a xs/\xs.length<=i⟩
def D7 (K:Frag)(a:Addr):It:=
 ⟨λi H=>∃xs x,dA K H a xs/\xs[i]? =some x,λi H x H'=>H'=H/\∀xs,dA K H a xs->xs[i]? =some x,λi H=>∃xs,dA K H a xs/\xs.length<=i⟩
def yL (lo:Int)(n:Nat):It:=⟨λi _=>i < n,λi H x H'=>H'=H/\x=.int (lo + i),λi _=>n<=i⟩
def lD {P:Program}{w:World}{K:Frag}{tg:Expr}(a it:Addr):Turn P w K tg (yQ K a) [it] it (λi h=>h.IsListIter it a i) where
 mem:=by simp
 obj:=λi h st b hb=>by
  have e:b=it:=by simpa using hb
  subst e
  obtain⟨o,e,c,d⟩:=st
  exact⟨o,e,λv z=>by rw[d] at z;cases z⟩
 keep:=λi h h' st k=>st.at λo e=>k it (by simp) o e
 item:=by
  intro X hP hw hK hc i pins s σ H E I hf st hg
  subst hP hw hK
  obtain⟨xs,x,hq,hx⟩:=hg
  obtain⟨its,rv,p,hz⟩:=I.list hq
  obtain⟨u,hu,ru⟩:=rv.get hx
  obtain⟨f0,f1,f2,f3,f4,f5⟩:=hf it (by simp)
  refine wpAny_pyNext_list_item st p.isList (x:=u) (by simpa using hu) λh' st' sb=>?_
  have I1:Inv X pins σ H {s with heap:=h'}:=I.turned (t':=s.toks) (λb o hb e=>(sb.2 b hb).trans e) f0 f1 f3 f4 f5
  obtain⟨o,e,c,d⟩:=id st'
  exact⟨u,rfl,v9 (s:={s with heap:=h'}) e c d (by decide) ⟨x,H,I1,ru,⟨rfl,λys hy=>by rw[I.list_inj hy hq];exact hx⟩,st',λb hb=>(hf b hb).1⟩⟩
 done:=by
  intro X hP hw hK hc i pins s σ H E I hf st hg
  subst hP hw hK
  obtain⟨xs,hq,hx⟩:=hg
  obtain⟨its,rv,p,hz⟩:=I.list hq
  obtain⟨f0,f1,f2,f3,f4,f5⟩:=hf it (by simp)
  have hl:=rv.length
  exact wpAny_pyNext_list_end (I.ok.hd hc) st p.isList (by simp;omega) λh' eb=>⟨rfl,I.turned (t':=s.toks) (λb o hb e=>eb b o hb e) f0 f1 f3 f4 f5⟩
 self:=λ_ _ _ _ _ st h=>wpAny_pyIter_listiter st h
def mO {P:Program}{w:World}{K:Frag}{tg:Expr}(a it:Addr):Turn P w K tg (D7 K a) [it] it (λi h=>h.IsTupleIter it a i) where
 mem:=by simp
 obj:=λi h st b hb=>by
  have e:b=it:=by simpa using hb
  subst e
  obtain⟨o,e,c,d⟩:=st
  exact⟨o,e,λv z=>by rw[d] at z;cases z⟩
 keep:=λi h h' st k=>st.at λo e=>k it (by simp) o e
 item:=by
  intro X hP hw hK hc i pins s σ H E I hf st hg
  subst hP hw hK
  obtain⟨xs,x,hq,hx⟩:=hg
  obtain⟨its,rv,p,hz⟩:=I.tuple hq
  obtain⟨u,hu,ru⟩:=rv.get hx
  obtain⟨f0,f1,f2,f3,f4,f5⟩:=hf it (by simp)
  refine wpAny_pyNext_tuple_item st (show s.heap.IsTuple a its.toArray from p) (x:=u) (by simpa using hu) λh' st' sb=>?_
  have I1:Inv X pins σ H {s with heap:=h'}:=I.turned (t':=s.toks) (λb o hb e=>(sb.2 b hb).trans e) f0 f1 f3 f4 f5
  obtain⟨o,e,c,d⟩:=id st'
  exact⟨u,rfl,v9 (s:={s with heap:=h'}) e c d (by decide) ⟨x,H,I1,ru,⟨rfl,λys hy=>by rw[I.tuple_inj hy hq];exact hx⟩,st',λb hb=>(hf b hb).1⟩⟩
 done:=by
  intro X hP hw hK hc i pins s σ H E I hf st hg
  subst hP hw hK
  obtain⟨xs,hq,hx⟩:=hg
  obtain⟨its,rv,p,hz⟩:=I.tuple hq
  obtain⟨f0,f1,f2,f3,f4,f5⟩:=hf it (by simp)
  have hl:=rv.length
  exact wpAny_pyNext_tuple_end (I.ok.hd hc) st (show s.heap.IsTuple a its.toArray from p) (by simp;omega) λh' eb=>⟨rfl,I.turned (t':=s.toks) (λb o hb e=>eb b o hb e) f0 f1 f3 f4 f5⟩
 self:=λ_ _ _ _ _ st h=>wpAny_pyIter_tupleiter st h
def uH {P:Program}{w:World}{K:Frag}{tg:Expr}(it:Addr)(lo:Int)(n:Nat):Turn P w K tg (yL lo n) [it] it (λi h=>IsRangeIter h it (lo + (i:Nat) * 1) ((n:Int) - (i:Nat)) 1) where
 mem:=by simp
 obj:=λi h st b hb=>by
  have e:b=it:=by simpa using hb
  subst e
  exact⟨_,st,λv z=>by
   have z':Data.fields _=Data.cell v:=z
   cases z'⟩
 keep:=λi h h' st k=>k it (by simp) _ st
 item:=by
  intro X hP hw hK hc i pins s σ H E I hf st hg
  subst hP hw hK
  obtain⟨f0,f1,f2,f3,f4,f5⟩:=hf it (by simp)
  have W:=Walks.range (prog:=X.prog) (w:=X.w) (I.ok.hd hc) it lo 1 n
  refine W.item i s _ _ hg st λv h' tk hv st' kk=>?_
  obtain⟨t,rfl⟩:=hv
  have I1:Inv X pins σ H {s with heap:=h',toks:=tk}:=I.turned (λb o hb e=>kk b o (by simpa using hb) e) f0 f1 f3 f4 f5
  refine⟨_,rfl,v9 (s:={s with heap:=h',toks:=tk}) (n:="range_iterator") st' rfl rfl (by decide) ⟨.int (lo + i),H,I1,⟨t,?_⟩,⟨rfl,rfl⟩,st',λb hb=>(hf b hb).1⟩⟩
  rw[Int.mul_one]
 done:=by
  intro X hP hw hK hc i pins s σ H E I hf st hg
  subst hP hw hK
  obtain⟨f0,f1,f2,f3,f4,f5⟩:=hf it (by simp)
  exact wpAny_pyNext_range_end (I.ok.hd hc) st (by have:n<=i:=hg;omega) λh' eb=>⟨rfl,I.turned (t':=s.toks) (λb o hb e=>eb b o hb e) f0 f1 f3 f4 f5⟩
 self:=λ_ _ _ _ _ st h=>wpAny_pyIter_rangeiter st h
section
variable {X:Cx}{tg:Expr}
def G9 (K:Frag)(tl:TE):TI:=λσ H R=>tl σ H λx H1=>∃a,x=.ref a/\(∃xs,e8 K H1 a xs)/\R (yQ K a) H1
def xu {l:Expr}{tl:TE}(hl:PE X l tl):PI X tg l (G9 X.K tl):=by
 intro pins s σ H R I h
 refine cn (hl pins s σ H _ I h) λv s1 ⟨x,H1,I1,r1,q1⟩=>?_
 obtain⟨a,e,⟨xs,hq⟩,q⟩:=q1
 subst e
 cases r1
 obtain⟨its,rv,p,hz⟩:=I1.list hq
 refine ML p.isList ?_
 refine⟨s1.heap.objs.size,[s1.heap.objs.size],_,_,H1,rfl,I1.kept (t':=s1.toks) λb o e=>Kl _ e,lD a _,⟨_,Ky _ rfl,rfl,rfl⟩,λb hb=>?_,q⟩
 have e:b=s1.heap.objs.size:=by simpa using hb
 subst e
 exact I1.fpOk (Km _) (I1.hok.fresh (Km _))
def rZ {pins:List (Addr×Obj)}{σ:St}{H:Hp}{s:Shared}{R:It->Hp->Prop}{E:Value->Shared->Prop}{lo hi:Int}{t u v:Tok}{tk:Nat}(I:Inv X pins σ H s)(h1: -(2 ^ 62)<=lo)(h2:lo < 2 ^ 62)(h3: -(2 ^ 62)<=hi)(h4:hi < 2 ^ 62)
  (q:R (yL lo (hi - lo).toNat) H):wpAny (model X.prog X.w) X.A (pyIter (.ref s.heap.objs.size)) (Jx X pins σ tg R) E {s with heap:=s.heap.push {cls:=.type "range",data:=.fields #[.int lo t,.int hi u,.int 1 v]},toks:=tk}:=by
 refine wpAny_pyIter_range (IsRange.new ..) (small_one h1 h2 h3 h4) ?_
 have I1:Inv X pins σ H {s with heap:=s.heap.push {cls:=.type "range",data:=.fields #[.int lo t,.int hi u,.int 1 v]},toks:=tk}:=I.kept λb o e=>Kl _ e
 refine⟨(s.heap.push {cls:=.type "range",data:=.fields #[.int lo t,.int hi u,.int 1 v]}).objs.size,[(s.heap.push {cls:=.type "range",data:=.fields #[.int lo t,.int hi u,.int 1 v]}).objs.size],_,_,H,rfl,
  I1.kept (t':=tk) λb o e=>Kl _ e,uH _ lo (hi - lo).toNat,?_,λb hb=>?_,q⟩
 ·have e1:lo + ((0:Nat):Int) * 1=lo:=by simp
  have e2:(((hi - lo).toNat:Nat):Int) - ((0:Nat):Int)=Builtin.Range.rangeSize lo hi 1:=by rw[rangeSize_one];split <;> omega
  show IsRangeIter _ _ (lo + ((0:Nat):Int) * 1) ((((hi - lo).toNat:Nat):Int) - ((0:Nat):Int)) 1
  rw[e1,e2]
  exact Ky _ rfl
 ·have e:b=(s.heap.push {cls:=.type "range",data:=.fields #[.int lo t,.int hi u,.int 1 v]}).objs.size:=by simpa using hb
  subst e
  exact I1.fpOk (Km _) (I1.hok.fresh (Km _))
def GU (ta:TA):TI:=λσ H R=>ta σ H λvs H1=>∃j:Int,vs= [.int j]/\ -(2 ^ 62)<=j/\j < 2 ^ 62/\R (yL 0 j.toNat) H1
def HB (ta:TA):TI:=λσ H R=>ta σ H λvs H1=>∃i j:Int,vs= [.int i,.int j]/\(-(2 ^ 62)<=i/\i < 2 ^ 62/\ -(2 ^ 62)<=j/\j < 2 ^ 62)/\R (yL i (j - i).toNat) H1
theorem jN {a:Expr}{ta:TA}{p pos:Pos}(hg:Gl X "range")(hm:X.mg "range"=none)(ha:PA X [a] ta)(hs:starEach [a] X.env= [(false,eval a X.env)]:=by rfl):PI X tg (.Call (.Name "range" p) [a] [] pos) (GU ta):=by
 intro pins s σ H R I h
 refine Call_ (jm I hg hm boot_range (LG (cn (ha pos pins s σ H _ I h) λus s1 ⟨vs,H1,I1,r1,q1⟩=>?_) hs rfl))
 obtain⟨j,e,q1,q2,q⟩:=q1
 subst e
 cases r1 with
 |cons r rr=>
  cases rr
  obtain⟨t,rfl⟩:=r
  exact call_range_1 (rZ I1 (by omega) (by omega) q1 q2 (by simpa using q))
theorem xM {a b:Expr}{ta:TA}{p pos:Pos}(hg:Gl X "range")(hm:X.mg "range"=none)(ha:PA X [a,b] ta)(hs:starEach [a,b] X.env= [(false,eval a X.env),(false,eval b X.env)]:=by rfl)(hs2:starEach [b] X.env= [(false,eval b X.env)]:=by rfl) :
  PI X tg (.Call (.Name "range" p) [a,b] [] pos) (HB ta):=by
 intro pins s σ H R I h
 refine Call_ (jm I hg hm boot_range (LG (cn (ha pos pins s σ H _ I h) λus s1 ⟨vs,H1,I1,r1,q1⟩=>?_) (by rw[hs,hs2]) (by rw[hs2];rfl)))
 obtain⟨i,j,e,⟨q1,q2,q3,q4⟩,q⟩:=q1
 subst e
 cases r1 with
 |cons r rr=>
  cases rr with
  |cons r' rr=>
   cases rr
   obtain⟨t,rfl⟩:=r
   obtain⟨t',rfl⟩:=r'
   exact call_range_2 (rZ I1 q1 q2 q3 q4 q)
def Jc (wi:TI)(g:TG)(tb:TS):TS:=λD σ H=>wi σ H λJ H1=>∃W:Nat->Nat->St->Hp->Prop,(∃m,W 0 m σ H1)/\∀i m σ H,W i m σ H->
 (J.stop i H/\D.nx σ H)\/(J.go i H/\∃N:St->Hp->Prop,(∀σ' H',N σ' H'->∃m',m' < m/\W (i + 1) m' σ' H')/\∀x H',J.yld i H x H'->g x σ H' λσ2 H2=>tb {D with nx:=N,ct:=N,bk:=D.nx} σ2 H2)
def nS (fp:List Addr)(h:Heap):List (Addr×Obj):=fp.filterMap λb=>(h.get? b).map λo=>(b,o)
def iN {fp:List Addr}{h:Heap}{b:Addr}{o:Obj}(hb:b∈fp)(e:h.get? b=some o):(b,o)∈nS fp h:=LZ.mpr ⟨b,hb,by rw[e];rfl⟩
theorem xQ {fp:List Addr}{h:Heap}{p:Addr×Obj}(hp:p∈nS fp h):p.1∈fp/\h.get? p.1=some p.2:=by
 obtain⟨b,hb,e⟩:=LZ.mp hp
 cases q:h.get? b with
 |none=>rw[q] at e;cases e
 |some o=>
  rw[q] at e
  have e':(b,o)=p:=Option.some.inj e
  subst e'
  exact⟨hb,q⟩
def Inv.pinned {pins:List (Addr×Obj)}{σ:St}{H:Hp}{s:Shared}{fp:List Addr}(I:Inv X pins σ H s)(hf:∀b∈fp,lI X pins H b)(ho:∀b∈fp,∃o,s.heap.get? b=some o/\∀v,o.data≠.cell v):Inv X (pins ++ nS fp s.heap) σ H s:=
 I.pins_of λp hp=>(KU.mp hp).elim (λz=>I.pin p (Lf _ z)) λz=>by
  obtain⟨hb,e⟩:=xQ z
  obtain⟨f0,f1,f2,_⟩:=hf p.1 hb
  obtain⟨o,e',d⟩:=ho p.1 hb
  rw[e] at e';cases e'
  exact⟨e,f0,f1,f2,d⟩
def Inv.unpinned {pins pl:List (Addr×Obj)}{σ:St}{H:Hp}{s:Shared}(I:Inv X (pins ++ pl) σ H s):Inv X pins σ H s:=I.pins_of λp hp=>I.pin p (Lf _ (LH _ hp))
def qm {iter:Expr}{body:List Stmt}{wi:TI}{g:TG}{tb:TS}{pos:Pos}(hp:PassesOwn (model X.prog X.w) X.A X.env X.xe)(hc:X.calm=true)(hi:PI X tg iter wi)(hg:PG X tg g)(hb:p8 X body tb)
  (hs:∀x,foldedSetIterable iter X.env x=pure x:=by intro _;rfl):PS X (.For tg iter body [] pos) (Jc wi g tb):=by
 intro pins s σ H D I h
 refine wpAny_For (cn (hi pins s σ H _ I h) λv s1 h1=>cn h1 λitv s2 h2=>?_) hs
 obtain⟨it,fp,tn,J,H2,e,I2,T,st2,f2,W,⟨m0,w0⟩,turn⟩:=h2
 subst e
 have stat:∀{H':Hp},(∀b∈fp,H' b=none)->∀b∈fp,lI X pins H' b:=λhn b hb=>⟨hn b hb,(f2 b hb).2⟩
 refine codeAny_forLoop_any (λn s'=>∃i σ' H',Inv X pins σ' H' s'/\tn i s'.heap/\(∀b∈fp,H' b=none)/\W i n σ' H') ?_ m0 ⟨0,σ,H2,I2,st2,λb hb=>(f2 b hb).1,w0⟩
 rintro n s3 ⟨i,σ3,H3,I3,st3,fr3,w3⟩
 rcases turn i n σ3 H3 w3 with⟨stop,qn⟩ | ⟨go,N,hN,step⟩
 ·refine Mj hp (cn (T.done X rfl rfl rfl hc i pins s3 σ3 H3 X.xe I3 (stat fr3) st3 stop) λr s4 ⟨hr,I4⟩=>?_)
  subst hr
  exact wpAny_execs_nil ⟨σ3,H3,I4,qn⟩
 ·refine Mj hp (cn (T.item X rfl rfl rfl hc i pins s3 σ3 H3 X.xe I3 (stat fr3) st3 go) λr s4 ⟨u,hr,h4⟩=>?_)
  subst hr
  refine Mj hp (cn h4 λ_ s5 ⟨x,H5,I5,r5,y5,st5,fr5⟩=>?_)
  have I5':=I5.pinned (stat fr5) (T.obj _ _ st5)
  refine Mj hp (cn (hg _ s5 σ3 H5 x u _ I5' r5 (step x H5 y5)) λ_ s6 ⟨σ6,H6,I6,q6⟩=>?_)
  refine Mj hp (cn (hb _ s6 σ6 H6 _ I6 q6) λf s7 q7=>?_)
  have again:∀{σ7:St} {H7:Hp},Inv X (pins ++ nS fp s5.heap) σ7 H7 s7->N σ7 H7->∃m,m < n/\∃i σ' H',Inv X pins σ' H' s7/\tn i s7.heap/\(∀b∈fp,H' b=none)/\W i m σ' H':=λ{σ7 H7} I7 n7=>by
   obtain⟨m',hm,w7⟩:=hN σ7 H7 n7
   refine⟨m',hm,i + 1,σ7,H7,I7.unpinned,T.keep _ _ _ st5 λb hb o e=>(I7.pin (b,o) (Lf _ (Lf _ (iN hb e)))).1,λb hb=>?_,w7⟩
   obtain⟨o,e,d⟩:=T.obj _ _ st5 b hb
   exact (I7.pin (b,o) (Lf _ (Lf _ (iN hb e)))).2.1
  cases f with
  |next=>obtain⟨σ7,H7,I7,n7⟩:=q7;exact again I7 n7
  |cont=>obtain⟨σ7,H7,I7,n7⟩:=q7;exact again I7 n7
  |brk=>obtain⟨σ7,H7,I7,q7⟩:=q7;exact⟨σ7,H7,I7.unpinned,q7⟩
  |ret v=>obtain⟨x7,σ7,H7,I7,r7,q7⟩:=q7;exact⟨x7,σ7,H7,I7.unpinned,r7,q7⟩
end
def tT {K:Frag}{a:Addr}{xs:List V}{g:TG}{tb:TS}{D:Ends}{σ:St}{H:Hp}(Pv:Nat->St->Hp->Prop)(h0:Pv 0 σ H)(hl:∀i σ H,i<=xs.length->Pv i σ H->e8 K H a xs)
  (hs:∀i x σ H,xs[i]? =some x->Pv i σ H->g x σ H λσ2 H2=>tb {D with nx:=Pv (i + 1),ct:=Pv (i + 1),bk:=D.nx} σ2 H2) (hd:∀σ H,Pv xs.length σ H->D.nx σ H) :
  ∃W:Nat->Nat->St->Hp->Prop,(∃m,W 0 m σ H)/\∀i m σ H,W i m σ H->
   ((yQ K a).stop i H/\D.nx σ H)\/((yQ K a).go i H/\∃N:St->Hp->Prop,(∀σ' H',N σ' H'->∃m',m' < m/\W (i + 1) m' σ' H')/\∀x H',(yQ K a).yld i H x H'->g x σ H' λσ2 H2=>tb {D with nx:=N,ct:=N,bk:=D.nx} σ2 H2):=by
 refine⟨λi m σ H=>m=xs.length - i/\i<=xs.length/\Pv i σ H,⟨xs.length,by simp,K5 _,h0⟩,?_⟩
 rintro i m σ H ⟨rfl,hi,p⟩
 have q:=hl i σ H hi p
 by_cases hlt:i < xs.length
 ·refine .inr ⟨⟨xs,xs[i],q,by simp[hlt]⟩,Pv (i + 1),λσ' H' p'=>⟨xs.length - (i + 1),by omega,rfl,hlt,p'⟩,λx H' y=>?_⟩
  obtain⟨e,y⟩:=y
  subst e
  exact hs i x σ _ (y xs q) p
 ·have e:i=xs.length:=by omega
  subst e
  exact .inl ⟨⟨xs,q,Km _⟩,hd σ H p⟩
def BX {K:Frag}{a:Addr}{xs:List V}{g:TG}{tb:TS}{D:Ends}{σ:St}{H:Hp}(Pv:Nat->St->Hp->Prop)(h0:Pv 0 σ H)(hl:∀i σ H,i<=xs.length->Pv i σ H->dA K H a xs)
  (hs:∀i x σ H,xs[i]? =some x->Pv i σ H->g x σ H λσ2 H2=>tb {D with nx:=Pv (i + 1),ct:=Pv (i + 1),bk:=D.nx} σ2 H2) (hd:∀σ H,Pv xs.length σ H->D.nx σ H) :
  ∃W:Nat->Nat->St->Hp->Prop,(∃m,W 0 m σ H)/\∀i m σ H,W i m σ H->
   ((D7 K a).stop i H/\D.nx σ H)\/((D7 K a).go i H/\∃N:St->Hp->Prop,(∀σ' H',N σ' H'->∃m',m' < m/\W (i + 1) m' σ' H')/\∀x H',(D7 K a).yld i H x H'->g x σ H' λσ2 H2=>tb {D with nx:=N,ct:=N,bk:=D.nx} σ2 H2):=by
 refine⟨λi m σ H=>m=xs.length - i/\i<=xs.length/\Pv i σ H,⟨xs.length,by simp,K5 _,h0⟩,?_⟩
 rintro i m σ H ⟨rfl,hi,p⟩
 have q:=hl i σ H hi p
 by_cases hlt:i < xs.length
 ·refine .inr ⟨⟨xs,xs[i],q,by simp[hlt]⟩,Pv (i + 1),λσ' H' p'=>⟨xs.length - (i + 1),by omega,rfl,hlt,p'⟩,λx H' y=>?_⟩
  obtain⟨e,y⟩:=y
  subst e
  exact hs i x σ _ (y xs q) p
 ·have e:i=xs.length:=by omega
  subst e
  exact .inl ⟨⟨xs,q,Km _⟩,hd σ H p⟩
def yZ {lo:Int}{n:Nat}{g:TG}{tb:TS}{D:Ends}{σ:St}{H:Hp}(Pv:Nat->St->Hp->Prop)(h0:Pv 0 σ H)
  (hs:∀i σ H,i < n->Pv i σ H->g (.int (lo + i)) σ H λσ2 H2=>tb {D with nx:=Pv (i + 1),ct:=Pv (i + 1),bk:=D.nx} σ2 H2) (hd:∀σ H,Pv n σ H->D.nx σ H) :
  ∃W:Nat->Nat->St->Hp->Prop,(∃m,W 0 m σ H)/\∀i m σ H,W i m σ H->
   ((yL lo n).stop i H/\D.nx σ H)\/((yL lo n).go i H/\∃N:St->Hp->Prop,(∀σ' H',N σ' H'->∃m',m' < m/\W (i + 1) m' σ' H')/\∀x H',(yL lo n).yld i H x H'->g x σ H' λσ2 H2=>tb {D with nx:=N,ct:=N,bk:=D.nx} σ2 H2):=by
 refine⟨λi m σ H=>m=n - i/\i<=n/\Pv i σ H,⟨n,by simp,K5 _,h0⟩,?_⟩
 rintro i m σ H ⟨rfl,hi,p⟩
 by_cases hlt:i < n
 ·refine .inr ⟨hlt,Pv (i + 1),λσ' H' p'=>⟨n - (i + 1),by omega,rfl,hlt,p'⟩,λx H' y=>?_⟩
  obtain⟨e,y⟩:=y
  subst e y
  exact hs i σ _ hlt p
 ·have e:i=n:=by omega
  subst e
  exact .inl ⟨Km _,hd σ H p⟩
abbrev R2:=V->V->Hp->VK->Prop
def jW (X:Cx)(f:Value->Value->Sem Value)(r:R2):Prop:=
 ∀(pins:List (Addr×Obj)) (s:Shared) (σ:St) (H:Hp) (x y:V) (v u:Value) (Q:VK),Inv X pins σ H s->RelV x v->RelV y u->r x y H Q->
  wpAny (model X.prog X.w) X.A (f v u) (EP X pins σ Q) X.xe s
def Iu (X:Cx)(f:Value->Sem Value)(r:V->Hp->VK->Prop):Prop:=
 ∀(pins:List (Addr×Obj)) (s:Shared) (σ:St) (H:Hp) (x:V) (v:Value) (Q:VK),Inv X pins σ H s->RelV x v->r x H Q->
  wpAny (model X.prog X.w) X.A (f v) (EP X pins σ Q) X.xe s
def cp (X:Cx)(f:Value)(r:List V->Hp->VK->Prop):Prop:=
 ∀(pins:List (Addr×Obj)) (s:Shared) (σ:St) (H:Hp) (xs:List V) (us:List Value) (Q:VK),Inv X pins σ H s->Vals xs us->r xs H Q->
  wpAny (model X.prog X.w) X.A (call f us) (EP X pins σ Q) X.xe s
def Jy (X:Cx)(r:V->Hp->(Bool->Hp->Prop)->Prop):Prop:=
 ∀(pins:List (Addr×Obj)) (s:Shared) (σ:St) (H:Hp) (x:V) (v:Value) (Q:Bool->Hp->Prop),Inv X pins σ H s->RelV x v->r x H Q->
  wpAny (model X.prog X.w) X.A (truthy v) (TP X pins σ Q) X.xe s
def Il (r:R2)(ta tb:TE):TE:=λσ H Q=>ta σ H λx H1=>tb σ H1 λy H2=>r x y H2 Q
def J5 (r:V->Hp->VK->Prop)(ta:TE):TE:=λσ H Q=>ta σ H λx H1=>r x H1 Q
def rI (C:Int->Int->Prop)(g:Int->Int->V):R2:=λx y H Q=>∃i j,x=.int i/\y=.int j/\C i j/\Q (g i j) H
def uj (g:Int->Int->V):R2:=λx y H Q=>∃i j,x=.int i/\y=.int j/\Q (g i j) H
def rU (g:Int->V):V->Hp->VK->Prop:=λx H Q=>∃i,x=.int i/\Q (g i) H
section
variable {X:Cx}{a b c:Expr}{ta tb tc:TE}{pos:Pos}
def FE (ha:PE X a ta)(hb:PE X b tb){pins:List (Addr×Obj)}{s:Shared}{σ:St}{H:Hp}{R:V->V->Hp->Prop}(I:Inv X pins σ H s)
  (h:ta σ H λx H1=>tb σ H1 λy H2=>R x y H2) {Q:Value->Shared->Prop} {f:Value->Value->Sem Value}
  (hf:∀v u s2 x y H2,Inv X pins σ H2 s2->RelV x v->RelV y u->R x y H2->wpAny (model X.prog X.w) X.A (f v u) Q X.xe s2) :
  wpAny (model X.prog X.w) X.A (eval a X.env) (λv s₁=>wpAny (model X.prog X.w) X.A (eval b X.env) (λu s₂=>wpAny (model X.prog X.w) X.A (f v u) Q X.xe s₂) X.xe s₁) X.xe s:=by
 refine cn (ha pins s σ H _ I h) λv s1 ⟨x,H1,I1,r1,q1⟩=>?_
 refine cn (hb pins s1 σ H1 _ I1 q1) λu s2 ⟨y,H2,I2,r2,q2⟩=>?_
 exact hf v u s2 x y H2 I2 r1 r2 q2
def pP {op:Operator}{r:R2}(ho:jW X (binaryOp op) r)(ha:PE X a ta)(hb:PE X b tb):PE X (.BinOp a op b pos) (Il r ta tb):=by
 intro pins s σ H Q I h
 exact wpAny_BinOp (FE ha hb I h λv u s2 x y H2 I2 rx ry q=>ho pins s2 σ H2 x y v u Q I2 rx ry q)
def GB {op:UnaryOp}{r:V->Hp->VK->Prop}(ho:Iu X (unaryOp op) r)(ha:PE X a ta):PE X (.UnaryOp op a pos) (J5 r ta):=by
 intro pins s σ H Q I h
 exact UnaryOp_ (cn (ha pins s σ H _ I h) λv s1 ⟨x,H1,I1,r1,q1⟩=>ho pins s1 σ H1 x v Q I1 r1 q1)
def Hu {f:Value->Value->Sem Value}{C:Int->Int->Prop}{g:Int->Int->Int}
  (rule:∀(i j:Int) (t u:Tok) (s:Shared) (Q:Value->Shared->Prop) (E:Value->Shared->Prop),C i j->Q (.int (g i j) s.toks) {s with toks:=s.toks + 1}->wpAny (model X.prog X.w) X.A (f (.int i t) (.int j u)) Q E s) :
  jW X f (rI C λi j=>.int (g i j)):=by
 intro pins s σ H x y v u Q I rx ry h
 obtain⟨i,j,rfl,rfl,hc,q⟩:=h
 obtain⟨t,rfl⟩:=rx
 obtain⟨t',rfl⟩:=ry
 exact rule i j t t' s _ _ hc ⟨.int (g i j),H,I.tok _,⟨_,rfl⟩,q⟩
def CT {f:Value->Value->Sem Value}{g:Int->Int->Int}
  (rule:∀(i j:Int) (t u:Tok) (s:Shared) (Q:Value->Shared->Prop) (E:Value->Shared->Prop),Q (.int (g i j) s.toks) {s with toks:=s.toks + 1}->wpAny (model X.prog X.w) X.A (f (.int i t) (.int j u)) Q E s) :
  jW X f (uj λi j=>.int (g i j)):=by
 intro pins s σ H x y v u Q I rx ry h
 obtain⟨i,j,rfl,rfl,q⟩:=h
 obtain⟨t,rfl⟩:=rx
 obtain⟨t',rfl⟩:=ry
 exact rule i j t t' s _ _ ⟨.int (g i j),H,I.tok _,⟨_,rfl⟩,q⟩
def Ew {f:Value->Value->Sem Value}{g:Int->Int->Bool}
  (rule:∀(i j:Int) (t u:Tok) (s:Shared) (Q:Value->Shared->Prop) (E:Value->Shared->Prop),Q (.bool (g i j)) s->wpAny (model X.prog X.w) X.A (f (.int i t) (.int j u)) Q E s) :
  jW X f (uj λi j=>.bl (g i j)):=by
 intro pins s σ H x y v u Q I rx ry h
 obtain⟨i,j,rfl,rfl,q⟩:=h
 obtain⟨t,rfl⟩:=rx
 obtain⟨t',rfl⟩:=ry
 exact rule i j t t' s _ _ ⟨.bl (g i j),H,I,rfl,q⟩
def CP (i j:Int):Prop:=0 < j/\j < 1073741824
def zN (i j:Int):Prop:=0<=j/\j<=1000000/\i.natAbs < 2 ^ 64
def Bd (i j:Int):Prop:=(-(2 ^ 64) < i/\i < 2 ^ 64)\/(-(2 ^ 64) < j/\j < 2 ^ 64)
def Bd.ok {i j:Int}(h:Bd i j):IntMulOk i j:=by
 rcases h with⟨h1,h2⟩ | ⟨h1,h2⟩
 ·exact .of_left (intBits_le_64 h1 h2)
 ·exact .of_right (intBits_le_64 h1 h2)
def iX:jW X (binaryOp .Add) (uj λi j=>.int (i + j)):=CT λ_ _ _ _ _ _ _ q=>add_int q
def qg:jW X (binaryOp .Sub) (uj λi j=>.int (i - j)):=CT λ_ _ _ _ _ _ _ q=>sub_int q
def jx:jW X (binaryOp .Mult) (rI Bd λi j=>.int (i * j)):=Hu λ_ _ _ _ _ _ _ hc q=>mul_int q hc.ok
def kJ:jW X (binaryOp .FloorDiv) (rI CP λi j=>.int (i / j)):=Hu λi j _ _ _ _ _ hc q=>by
 have h1:(0:Int) < j:=hc.1
 have h2:j < 1073741824:=hc.2
 exact floordiv_int (by omega) (by rw[Int.fdiv_eq_ediv_of_nonneg i (by omega)];exact q) (.inl (PyProof.noPylong_small (by omega)))
def kg:jW X (binaryOp .Mod) (rI (λ_ j=>0 < j) λi j=>.int (i % j)):=Hu λi j _ _ _ _ _ hc q=>by
 have h1:(0:Int) < j:=hc
 exact mod_int' (by omega) (by rw[Int.fmod_eq_emod_of_nonneg i (by omega)];exact q)
def FG:jW X (binaryOp .Pow) (rI zN λi j=>.int (i ^ j.toNat)):=Hu λ_ _ _ _ _ _ _ hc q=>pow_int_small hc.1 hc.2.1 hc.2.2 q
def zS:jW X (binaryOp .LShift) (rI zN λi j=>.int (i * 2 ^ j.toNat)):=Hu λ_ _ _ _ _ _ _ hc q=>lshift_int_small hc.1 hc.2.1 hc.2.2 q
def Gf:jW X (binaryOp .BitAnd) (uj λi j=>.int (Builtin.bitAnd i j)):=CT λ_ _ _ _ _ _ _ q=>and_int q
def GA:jW X (binaryOp .BitOr) (uj λi j=>.int (Builtin.bitOr i j)):=CT λ_ _ _ _ _ _ _ q=>or_int q
def Kb {f:Value->Sem Value}{g:Int->Int}
  (rule:∀(i:Int) (t:Tok) (s:Shared) (Q:Value->Shared->Prop) (E:Value->Shared->Prop),Q (.int (g i) s.toks) {s with toks:=s.toks + 1}->wpAny (model X.prog X.w) X.A (f (.int i t)) Q E s) :
  Iu X f (rU λi=>.int (g i)):=by
 intro pins s σ H x v Q I rx h
 obtain⟨i,rfl,q⟩:=h
 obtain⟨t,rfl⟩:=rx
 exact rule i t s _ _ ⟨.int (g i),H,I.tok _,⟨_,rfl⟩,q⟩
def qx:Iu X (unaryOp .USub) (rU λi=>.int (-i)):=Kb λ_ _ _ _ _ q=>neg_int q
end
def IH:V->V->Bool
 | .non,.non=>true | .non,.int _=>true | .int _,.non=>true | .non,.bl _=>true | .bl _,.non=>true | .non,.str _=>true | .str _,.non=>true
 | .int _,.int _=>true | .bl _,.bl _=>true | .str _,.str _=>true | .byt _,.byt _=>true
 | .int _,.str _=>true | .str _,.int _=>true | .bl _,.str _=>true | .str _,.bl _=>true
 |_,_=>false
def JT:R2:=λx y H Q=>IH x y=true/\Q (.bl (!decide (x=y))) H
def C2 {i j:Int}:decide (V.int i=V.int j)=(i == j):=by
 rw[Ln]
 simp
def Fi {i j:Bool}:decide (V.bl i=V.bl j)=(i == j):=by
 rw[Ln]
 simp
def DC {i j:Str}:decide (V.str i=V.str j)=(i == j):=by
 rw[Ln]
 simp
def BY {i j:Array UInt8}:decide (V.byt i=V.byt j)=(i.toList == j.toList):=by
 rw[Ln]
 cases i
 cases j
 simp
section
variable {X:Cx}{a b c:Expr}{ta tb tc:TE}{pos:Pos}
def c5 {pins:List (Addr×Obj)}{σ:St}{H:Hp}{s:Shared}{Q:VK}{k k':Bool}(I:Inv X pins σ H s)(q:Q (.bl k) H)(e:k=k'):EP X pins σ Q (.bool k') s:=by
 subst e
 exact⟨.bl k,H,I,rfl,q⟩
theorem HM:jW X (compareOp .NotEq) JT:=by
 intro pins s σ H x y v u Q I rx ry h
 obtain⟨hs,q⟩:=h
 cases x with
 |non=>
  cases rx
  cases y with
  |non=>cases ry;exact PySem.EqNone.ne_none_none (c5 I q (by simp))
  |bl j=>cases ry;exact PySem.EqNone.ne_none_bool (c5 I q (by simp))
  |int j=>obtain⟨t',rfl⟩:=ry;exact PySem.EqNone.ne_none_int (c5 I q (by simp))
  |str j=>obtain⟨t',rfl⟩:=ry;exact PySem.EqNone.ne_none_str (c5 I q (by simp))
  |_=>exact absurd (show false=true from hs) KN
 |bl i=>
  cases rx
  cases y with
  |non=>cases ry;exact PySem.EqNone.ne_bool_none (c5 I q (by simp))
  |bl j=>cases ry;exact ne_bool (c5 I q (congrArg not Fi))
  |str j=>obtain⟨t',rfl⟩:=ry;exact PySem.EqMixed.ne_bool_str (c5 I q (by simp))
  |_=>exact absurd (show false=true from hs) KN
 |int i=>
  obtain⟨t,rfl⟩:=rx
  cases y with
  |non=>cases ry;exact PySem.EqNone.ne_int_none (c5 I q (by simp))
  |int j=>obtain⟨t',rfl⟩:=ry;exact ne_int (c5 I q (congrArg not C2))
  |str j=>obtain⟨t',rfl⟩:=ry;exact PySem.EqMixed.ne_int_str (c5 I q (by simp))
  |_=>exact absurd (show false=true from hs) KN
 |str i=>
  obtain⟨t,rfl⟩:=rx
  cases y with
  |non=>cases ry;exact PySem.EqNone.ne_str_none (c5 I q (by simp))
  |bl j=>cases ry;exact PySem.EqMixed.ne_str_bool (c5 I q (by simp))
  |int j=>obtain⟨t',rfl⟩:=ry;exact PySem.EqMixed.ne_str_int (c5 I q (by simp))
  |str j=>obtain⟨t',rfl⟩:=ry;exact ne_str (c5 I q (congrArg not DC))
  |_=>exact absurd (show false=true from hs) KN
 |byt i=>
  obtain⟨t,rfl⟩:=rx
  cases y with
  |byt j=>obtain⟨t',rfl⟩:=ry;exact PySem.W.ne_bytes (c5 I q (congrArg not BY))
  |_=>exact absurd (show false=true from hs) KN
 |_=>cases y <;> exact absurd (show false=true from hs) KN
def wm:jW X (compareOp .Lt) (uj λi j=>.bl (decide (i < j))):=Ew λ_ _ _ _ _ _ _ q=>lt_int q
def Bi:jW X (compareOp .LtE) (uj λi j=>.bl (decide (i<=j))):=Ew λ_ _ _ _ _ _ _ q=>le_int q
def Gw:jW X (compareOp .GtE) (uj λi j=>.bl (decide (j<=i))):=Ew λ_ _ _ _ _ _ _ q=>ge_int q
def bL (b:Expr){op:CmpOp}(h:op≠.In:=by decide)(h2:op≠.NotIn:=by decide):behindInMarks op b=false:=by
 have e1:(op == CmpOp.In)=false:=by cases op <;> first |rfl |exact absurd rfl h
 have e2:(op == CmpOp.NotIn)=false:=by cases op <;> first |rfl |exact absurd rfl h2
 cases b <;> simp[behindInMarks,e1,e2]
def C5 {op:CmpOp}{r:R2}(ho:jW X (compareOp op) r)(ha:PE X a ta)(hb:PE X b tb)(hm:behindInMarks op b=false):PE X (.Compare a [op] [b] pos) (Il r ta tb):=by
 intro pins s σ H Q I h
 exact wpAny_Compare1 (FE ha hb I h λv u s2 x y H2 I2 rx ry q=>ho pins s2 σ H2 x y v u Q I2 rx ry q) hm
def GI (t:TE):TT:=λσ H Q=>t σ H λx H'=>∃k,x=.bl k/\Q k H'
def CA {op:CmpOp}{r:R2}(ho:jW X (compareOp op) r)(ha:PE X a ta)(hb:PE X b tb)(hm:behindInMarks op b=false):PT X (.Compare a [op] [b] pos) (GI (Il r ta tb)):=by
 intro pins s σ H Q I h
 refine wpAny_isTrue_Compare1 (cn (ha pins s σ H _ I h) λv s1 ⟨x,H1,I1,r1,q1⟩=>cn (hb pins s1 σ H1 _ I1 q1) λu s2 ⟨y,H2,I2,r2,q2⟩=>
  cn (ho pins s2 σ H2 x y v u _ I2 r1 r2 q2) λc s3 ⟨z,H3,I3,r3,k,e,q3⟩=>?_) hm
 subst e
 cases r3
 exact LU ⟨H3,I3,q3⟩
def EK (r r':R2)(ta tb tc:TE):TE:=λσ H Q=>ta σ H λx H1=>tb σ H1 λy H2=>r x y H2 λz H3=>∃k,z=.bl k/\
 (if k=true then tc σ H3 λw' H4=>r' y w' H4 Q else Q (.bl false) H3)
theorem zx {op op':CmpOp}{r r':R2}(ho:jW X (compareOp op) r)(ho':jW X (compareOp op') r')(ha:PE X a ta)(hb:PE X b tb)(hc:PE X c tc)
  (hm:lastMarks [op,op'] [b,c]=false:=by with_unfolding_all rfl):PE X (.Compare a [op,op'] [b,c] pos) (EK r r' ta tb tc):=by
 intro pins s σ H Q I h
 refine Compare_chain (cn (ha pins s σ H _ I h) λv s1 ⟨x,H1,I1,r1,q1⟩=>chain_link (cn (hb pins s1 σ H1 _ I1 q1) λu s2 ⟨y,H2,I2,r2,q2⟩=>
  cn (ho pins s2 σ H2 x y v u _ I2 r1 r2 q2) λd s3 ⟨z,H3,I3,r3,k,e,q3⟩=>?_)) hm
 subst e
 cases r3
 refine LU ?_
 cases k with
 |false=>exact ite_ff ⟨.bl false,H3,I3,rfl,q3⟩
 |true=>exact ite_tt (chain_last (cn (hc pins s3 σ H3 _ I3 q3) λw' s4 ⟨z',H4,I4,r4,q4⟩=>ho' pins s4 σ H4 y z' u w' Q I4 r2 r4 q4))
def Hx (K:Frag)(x:V)(H:Hp)(k:Bool):Prop:=
 match x with
 | .non=>k=false
 | .bl b=>k=b
 | .int i=>k=(i != 0)
 | .str y=>y.length<=sizeLine/\k=((y.length:Int) != 0)
 | .byt y=>y.size<=sizeLine/\k=((y.size:Int) != 0)
 | .ref p=>(∃xs,e8 K H p xs/\k= !xs.isEmpty)\/(∃xs,dA K H p xs/\k= !xs.isEmpty)\/∃kvs,H p=some (.dK kvs)/\k= !kvs.isEmpty
 |_=>False
def vn {κ:Type}{kvs:List (κ×V)}{vs:List (κ×Value)}(r:KV kvs vs):(!vs.isEmpty)= !kvs.isEmpty:=by
 cases r <;> rfl
def ng {xs:List V}{its:List Value}(r:Vals xs its):(!its.toArray.isEmpty)= !xs.isEmpty:=by
 cases r <;> simp
def lG:(sizeLine:Nat) < 2 ^ 63:=by rw[KY];decide
theorem Ey:Jy X (λx H Q=>∃k,Hx X.K x H k/\Q k H):=by
 intro pins s σ H x v Q I rx h
 obtain⟨k,e,q⟩:=h
 have hl:=lG
 have hs:sizeLine=16777216:=KY
 cases x with
 |non=>
  cases rx
  have e':k=false:=e
  subst e'
  exact truthy_none ⟨H,I,q⟩
 |bl b=>
  cases rx
  have e':k=b:=e
  subst e'
  exact LU ⟨H,I,q⟩
 |int i=>
  obtain⟨t,rfl⟩:=rx
  have e':k=(i != 0):=e
  subst e'
  exact PySem.P.truthy_int ⟨H,I,q⟩
 |str y=>
  obtain⟨t,rfl⟩:=rx
  obtain⟨hy,e'⟩:y.length<=sizeLine/\k=((y.length:Int) != 0):=e
  subst e'
  exact PySem.P.truthy_str (by omega) ⟨H,I.tok _,q⟩
 |byt y=>
  obtain⟨t,rfl⟩:=rx
  obtain⟨hy,e'⟩:y.size<=sizeLine/\k=((y.size:Int) != 0):=e
  subst e'
  exact PySem.W.truthy_bytes (by omega) ⟨H,I.tok _,q⟩
 |ref p=>
  cases rx
  have e':(∃xs,e8 X.K H p xs/\k= !xs.isEmpty)\/(∃xs,dA X.K H p xs/\k= !xs.isEmpty)\/∃kvs,H p=some (.dK kvs)/\k= !kvs.isEmpty:=e
  rcases e' with⟨xs,hx,e'⟩ | ⟨xs,hx,e'⟩ | ⟨kvs,hx,e'⟩
  ·subst e'
   obtain⟨its,r,pl,hz⟩:=I.list hx
   have hlen:=r.length
   exact wpAny_truthy_list pl.isList (by simp only[KJ];omega) ⟨H,I.tok _,by rw[ng r];exact q⟩
  ·subst e'
   obtain⟨its,r,pl,hz⟩:=I.tuple hx
   have hlen:=r.length
   exact truthy_tuple pl (by simp only[KJ];omega) ⟨H,I.tok _,by rw[ng r];exact q⟩
  ·subst e'
   obtain⟨hz,hS,vs,r,m⟩:kvs.length<=sizeLine/\(p == sysModules)=false/\∃vs,KV kvs vs/\s.heap.DictOf (dq X.prog X.w) p vs:=I.hok p _ hx
   have hlen:kvs.length=vs.length:=Paired.length r
   exact wpAny_truthy_dict hS m (by omega) ⟨H,I.tok _,by rw[vn r];exact q⟩
 |_=>exact (show False from e).elim
def AL (ha:PE X a ta)(he:∀whole,isTrue a X.env whole=(do let v <-whole;standAt a.pos;holding [v] (truthy v))) :
  PT X a (λσ H Q=>ta σ H λx H'=>∃k,Hx X.K x H' k/\Q k H'):=by
 intro pins s σ H Q I h
 exact isTrue_plain (cn (ha pins s σ H _ I h) λv s1 ⟨x,H1,I1,r1,q1⟩=>Ey pins s1 σ H1 x v Q I1 r1 q1) (he _)
theorem vals1 {x:V}{us:List Value}(r:Vals [x] us):∃u,us= [u]/\RelV x u:=by
 cases r with
 |cons r1 r2=>cases r2;exact⟨_,rfl,r1⟩
theorem vals2 {x y:V}{us:List Value}(r:Vals [x,y] us):∃u w',us= [u,w']/\RelV x u/\RelV y w':=by
 cases r with
 |cons r1 r2=>
  cases r2 with
  |cons r3 r4=>cases r4;exact⟨_,_,rfl,r1,r3⟩
def Br:cp X (.builtin "abs") (λxs H Q=>∃i,xs= [.int i]/\Q (.int (if i < 0 then -i else i)) H):=by
 intro pins s σ H xs us Q I r h
 obtain⟨i,rfl,q⟩:=h
 obtain⟨u,rfl,t,rfl⟩:=vals1 r
 exact call_abs_int λu tk=>⟨.int (if i < 0 then -i else i),H,I.tok _,⟨_,rfl⟩,q⟩
def yI (hc:X.calm=true):cp X (.builtin "max") (λxs H Q=>∃i j,xs= [.int i,.int j]/\Q (.int (if j > i then j else i)) H):=by
 intro pins s σ H xs us Q I r h
 obtain⟨i,j,rfl,q⟩:=h
 obtain⟨u,w',rfl,⟨t,rfl⟩,⟨t',rfl⟩⟩:=vals2 r
 refine max_two_ints (I.ok.hd hc) λh' tk k=>⟨_,H,I.kept k,?_,q⟩
 by_cases hj:j > i
 ·rw[Kn hj,Kn hj];exact⟨_,rfl⟩
 ·rw[Ku hj,Ku hj];exact⟨_,rfl⟩
def qe (hc:X.calm=true):cp X (.builtin "min") (λxs H Q=>∃i j,xs= [.int i,.int j]/\Q (.int (if j < i then j else i)) H):=by
 intro pins s σ H xs us Q I r h
 obtain⟨i,j,rfl,q⟩:=h
 obtain⟨u,w',rfl,⟨t,rfl⟩,⟨t',rfl⟩⟩:=vals2 r
 refine min_two_ints (I.ok.hd hc) λh' tk k=>⟨_,H,I.kept k,?_,q⟩
 by_cases hj:j < i
 ·rw[Kn hj,Kn hj];exact⟨_,rfl⟩
 ·rw[Ku hj,Ku hj];exact⟨_,rfl⟩
def He (K:Frag)(x:V)(H:Hp)(n:Nat):Prop:=
 match x with
 | .str y=>y.length<=sizeLine/\n=y.length
 | .byt y=>y.size<=sizeLine/\n=y.size
 | .ref p=>(∃xs,e8 K H p xs/\n=xs.length)\/∃xs,dA K H p xs/\n=xs.length
 |_=>False
theorem cF:cp X (.builtin "len") (λxs H Q=>∃x n,xs= [x]/\He X.K x H n/\Q (.int n) H):=by
 intro pins s σ H xs us Q I r h
 obtain⟨x,n,rfl,e,q⟩:=h
 obtain⟨u,rfl,rx⟩:=vals1 r
 have hl:=lG
 have hs:sizeLine=16777216:=KY
 cases x with
 |str y=>
  obtain⟨t,rfl⟩:=rx
  obtain⟨hy,e'⟩:y.length<=sizeLine/\n=y.length:=e
  subst e'
  exact len_str (by omega) ⟨.int _,H,I.tok _,⟨_,rfl⟩,q⟩
 |byt y=>
  obtain⟨t,rfl⟩:=rx
  obtain⟨hy,e'⟩:y.size<=sizeLine/\n=y.size:=e
  subst e'
  exact PySem.W.len_bytes (by omega) ⟨.int _,H,I.tok _,⟨_,rfl⟩,q⟩
 |ref p=>
  cases rx
  have e':(∃xs,e8 X.K H p xs/\n=xs.length)\/∃xs,dA X.K H p xs/\n=xs.length:=e
  rcases e' with⟨xs,hx,e'⟩ | ⟨xs,hx,e'⟩
  ·subst e'
   obtain⟨its,r',pl,hz⟩:=I.list hx
   have hlen:=r'.length
   exact Calls.call_len_list pl.isList (by simp only[KJ];omega) ⟨.int xs.length,H,I.tok _,⟨_,by simp only[KJ];rw[hlen]⟩,q⟩
  ·subst e'
   obtain⟨its,r',pl,hz⟩:=I.tuple hx
   have hlen:=r'.length
   exact len_tuple pl (by simp only[KJ];omega) ⟨.int xs.length,H,I.tok _,⟨_,by simp only[KJ];rw[hlen]⟩,q⟩
 |_=>exact (show False from e).elim
def ux:cp X (.builtin "divmod") (λxs H Q=>∃i j,xs= [.int i,.int j]/\CP i j/\∀p,H p=none->Q (.ref p) (upd H p (.tup [.int (i / j),.int (i % j)]))):=by
 intro pins s σ H xs us Q I r h
 obtain⟨i,j,rfl,⟨h1,h2⟩,q⟩:=h
 obtain⟨u,w',rfl,⟨t,rfl⟩,⟨t',rfl⟩⟩:=vals2 r
 refine divmod_int (by omega) ?_ (.inl (PyProof.noPylong_small (by omega)))
 rw[Int.fdiv_eq_ediv_of_nonneg i (by omega),Int.fmod_eq_emod_of_nonneg i (by omega)]
 have hn:H s.heap.objs.size=none:=I.hok.fresh (Km _)
 refine⟨.ref s.heap.objs.size,_,?_,rfl,q _ hn⟩
 refine I.laid (λb o e=>Kl _ e) (Km _) ⟨by simp only[KI,length_nil];rw[KY];decide,[.int (i / j) s.toks,.int (i % j) (s.toks + 1)],.cons ⟨_,rfl⟩ (.cons ⟨_,rfl⟩ .nil),?_⟩
 exact⟨_,Ky s.heap rfl,rfl,0,rfl,rfl⟩
end
structure EV (h:Heap)(x dx C:Addr)(mA:Str->Option Value):Prop where
 obj:h.get? x=some (PySem.W.instObj C dx)
 ns:h.Ns1 dx mA
 ne:dx≠x
def yA {h:Heap}{dx:Addr}{mA:Str->Option Value}(n:h.Ns1 dx mA):∃od,h.get? dx=some od/\∀name,PySem.W.lookIn name od=some (mA name):=by
 obtain⟨o,es,ep,ho,hd,hk,_,hm⟩:=n
 refine⟨o,ho,λname=>?_⟩
 have e:=hm name
 unfold nsFind findBy at e
 rw[<-Array.find?_toList] at e
 unfold PySem.W.lookIn
 rw[hd]
 dsimp only
 split
 ·rename_i y q
  rw[q] at e
  exact congrArg some e
 ·rename_i q
  rw[q] at e
  have a:es.toList.any (·.refKey)=false:=by
   rw[List.any_eq_false]
   intro y hy
   obtain⟨z,t,hkey⟩:=hk y (Mq.mp hy)
   simp[DictEntry.refKey,hkey]
  have a':¬es.toList.any (·.refKey)=true:=by rw[a];exact KN
  rw[Ku a']
  exact congrArg some e
def EV.look {h:Heap}{x dx C:Addr}{mA:Str->Option Value}(I:EV h x dx C mA):∃od,PySem.W.InstAt h x (PySem.W.instObj C dx) C (some od)/\∀name,PySem.W.lookIn name od=some (mA name):=
 let ⟨od,ho,hl⟩:=yA I.ns
 ⟨od,⟨I.obj,rfl,rfl,ho⟩,hl⟩
section
variable {P:Program}{w:World}{H H':Hp}{h h':Heap}{a C dx:Addr}{fs fs':List (Str×V)}
def Dv (hok:jz P w H h)(e:H a=some (.ins C dx fs)):∃mA,EV h a dx C mA/\(∀f,EN (fs.lookup f) (mA f))/\PySem.Within mA (fs.map (·.1))/\fs.length<=1000/\H dx=some (.own a):=by
 obtain⟨d,z,ne,ob,mA,n,r,q⟩:=(show bK P w H h a (.ins C dx fs) from hok a _ e)
 exact⟨mA,⟨ob,n,ne⟩,r,q,z,d⟩
end
structure Jm (K:Frag)(C:Addr):Prop where
 pg:PySem.W.plainGet K C Str.empty=true
 hd:PySem.W.hasDictIn K C=true
 po:PySem.W.plainOver K C=true
 sa:PySem.W.findIn K (.ref C) "__setattr__"=some (some (.builtin "object.__setattr__"))
def Jm.get {K:Frag}{C:Addr}(c:Jm K C)(f:Str):PySem.W.plainGet K C f=true:=c.pg
section
variable {X:Cx}{pins:List (Addr×Obj)}{σ:St}{H:Hp}{s:Shared}{A:Around}{E:Value->Shared->Prop}{Q:Value->Shared->Prop}{c:Value}{b:Bool}
inductive mj (K:Frag)(H:Hp):V->Value->Prop where
 |non:mj K H .non (.type "NoneType")
 |bl (x:Bool):mj K H (.bl x) (.type "bool")
 |int (i:Int):mj K H (.int i) (.type "int")
 |str (x:Str):mj K H (.str x) (.type "str")
 |flt (x:UInt64):mj K H (.flt x) (.type "float")
 |lst {a:Addr} {xs:List V} (e:H a=some (.lst xs)):mj K H (.ref a) (.type "list")
 |bb {a:Addr} {o:Obj} {xs:List V} (e:H a=some (.bb o (.lst xs))):mj K H (.ref a) (.type "list")
 |tup {a:Addr} {xs:List V} (e:H a=some (.tup xs)):mj K H (.ref a) (.type "tuple")
 |dK {a:Addr} {kvs:List (Key×V)} (e:H a=some (.dK kvs)):mj K H (.ref a) (.type "dict")
 |dT {a:Addr} {kvs:List (List Key×V)} (e:H a=some (.dT kvs)):mj K H (.ref a) (.type "dict")
 |ins {a C dx:Addr} {fs:List (Str×V)} (e:H a=some (.ins C dx fs)) (cl:Jm K C) (ha:PySem.W.findIn K (.ref C) "__class__"=some (some (.builtin "object.__class__")))
   (hn:PySem.W.specialIn K (.builtin "object.__class__") "__get__"=some (some (.builtin "getset_descriptor.__get__"))) (htk:PySem.W.takesIn K (.builtin "object.__class__")=some true)
   (hm:PySem.W.mroIn K C (.type "object")=some true):mj K H (.ref a) (.ref C)
theorem hX {x:V}{u t:Value}(I:Inv X pins σ H s)(rx:RelV x u)(ty:mj X.K H x t)(e:PySem.W.kitOne X.K t c=some b)(h:∀tk,Q (.bool b) {s with toks:=tk}) :
  wpAny (model X.prog X.w) A (call (.builtin "isinstance") [u,c]) Q E s:=by
 cases ty with
 |non=>cases (show u=Value.none from rx);exact Lp PySem.W.kitx_none I.kIn True.intro e (λz=>nomatch z) h
 |bl y=>cases (show u=Value.bool y from rx);exact Lp PySem.W.kitx_bool I.kIn True.intro e (λz=>nomatch z) h
 |int i=>obtain⟨t,q⟩:=(show ∃t,u=Value.int i t from rx);cases q;exact Lp PySem.W.kitx_int I.kIn True.intro e (λz=>nomatch z) h
 |str y=>obtain⟨t,q⟩:=(show ∃t,u=Value.str y t from rx);cases q;exact Lp PySem.W.kitx_str I.kIn True.intro e (λz=>nomatch z) h
 |flt y=>obtain⟨t,q⟩:=(show ∃t,u=Value.float y t from rx);cases q;exact Lp PySem.W.kitx_float I.kIn True.intro e (λz=>nomatch z) h
 | @lst a xs ea=>
  cases (show u=Value.ref a from rx)
  obtain⟨_,_,n,_,h1⟩:=(show bK X.prog X.w H s.heap a (.lst xs) from I.hok a _ ea)
  exact Lp PySem.W.kitx_list I.kIn ⟨_,h1,rfl⟩ e (λz=>nomatch z) h
 | @bb a ob xs ea=>
  cases (show u=Value.ref a from rx)
  obtain⟨_,_,_,n,_,h1⟩:=(show bK X.prog X.w H s.heap a (.bb ob (.lst xs)) from I.hok a _ ea)
  exact Lp PySem.W.kitx_list I.kIn ⟨_,h1,rfl⟩ e (λz=>nomatch z) h
 | @tup a xs ea=>
  cases (show u=Value.ref a from rx)
  obtain⟨_,_,_,p⟩:=(show bK X.prog X.w H s.heap a (.tup xs) from I.hok a _ ea)
  obtain⟨o,h1,h2,_⟩:=p
  exact Lp PySem.W.kitx_tuple I.kIn ⟨o,h1,h2⟩ e (λz=>nomatch z) h
 | @dK a kvs ea=>
  cases (show u=Value.ref a from rx)
  obtain⟨_,_,vs,_,p⟩:=(show bK X.prog X.w H s.heap a (.dK kvs) from I.hok a _ ea)
  obtain⟨o,es,ep,h1,h2,_⟩:=p
  exact Lp PySem.W.kitx_dict I.kIn ⟨o,h1,h2.1⟩ e (λz=>nomatch z) h
 | @dT a kvs ea=>
  cases (show u=Value.ref a from rx)
  obtain⟨_,_,xs,_,o,es,ep,h1,h2,_⟩:=(show bK X.prog X.w H s.heap a (.dT kvs) from I.hok a _ ea)
  exact Lp PySem.W.kitx_dict I.kIn ⟨o,h1,h2.1⟩ e (λz=>nomatch z) h
 | @ins a C dx fs ea cl ha hn htk hm=>
  cases (show u=Value.ref a from rx)
  obtain⟨mA,O,_⟩:=Dv I.hok ea
  obtain⟨od,J,_⟩:=O.look
  exact Lp (PySem.W.kitx_own (cl.get _) cl.hd ha hn htk hm) I.kIn J e (λz=>nomatch z) h
end
structure dC (k:Nat)(A:Around):Prop where
 hd:A.handled=none
 dp:A.depth + 3 * k + 5 < recursionLimit
 un:A.units + 16 * k + 200 < cLine
 gd:A.guards=some []
def dC.mono {j k:Nat}{A:Around}(r:dC k A)(h:j<=k):dC j A:=⟨r.hd,by have:=r.dp;omega,by have:=r.un;omega,r.gd⟩
def dC.deeper {k:Nat}{A:Around}(r:dC (k + 1) A)(env:Env):dC k (A.deeper env):=
 ⟨r.hd,by have:=r.dp;show A.depth + 1 + 3 * k + 5 < _;omega,by have:=r.un;show A.units + 3 + 16 * k + 200 < _;omega,r.gd⟩
def dC.depth {k:Nat}{A:Around}(r:dC k A):A.depth < recursionLimit:=by have:=r.dp;omega
def dC.units {k:Nat}{A:Around}(r:dC k A):A.units + 64 < cLine:=by have:=r.un;omega
def JI:TA:=λ_ H Q=>Q [] H
def Ia (ta:TE)(tr:TA):TA:=λσ H Q=>ta σ H λx H1=>tr σ H1 λxs H2=>Q (x :: xs) H2
section
variable {X:Cx}{e:Expr}{es:List Expr}{te:TE}{t:TA}{pos:Pos}
def bq:PA X [] JI:=λ_ _ _ _ H Q I h=>Calls.spliced_nil ⟨[],H,I,.nil,h⟩
def aK (ha:PE X e te)(hr:PA X es t)(hs:starEach (e :: es) X.env=(false,eval e X.env) :: starEach es X.env:=by rfl):PA X (e :: es) (Ia te t):=by
 intro pos pins s σ H Q I h
 rw[hs]
 show wpAny _ _ (spliced ((false,eval e X.env) :: backTo pos (starEach es X.env))) _ _ s
 refine Calls.spliced_cons (cn (ha pins s σ H _ I h) λu s1 ⟨x,H1,I1,r1,q1⟩=>?_)
 exact cn (hr pos pins s1 σ H1 _ I1 q1) λus s2 ⟨xs,H2,I2,r2,q2⟩=>⟨x :: xs,H2,I2,.cons r1 r2,q2⟩
def JL (t:TA):TE:=λσ H Q=>t σ H λxs H1=>xs.length<=sizeLine/\∀p,H1 p=none->Q (.ref p) (upd H1 p (.tup xs))
def II (t:TA):TE:=λσ H Q=>t σ H λxs H1=>xs.length<=sizeLine/\∀p,H1 p=none->Q (.ref p) (upd H1 p (.lst xs))
def u4 {x1}(h:PA X es t):PE X (.Tuple es x1 pos) (JL t):=by
 intro pins s σ H Q I hq
 refine wpAny_Tuple_spliced (cn (h pos pins s σ H _ I hq) λus s1 ⟨xs,H1,I1,r,z,q⟩=>⟨by rw[<-r.length];exact z,?_⟩)
 have hf:H1 s1.heap.objs.size=none:=I1.hok.fresh (Km _)
 refine⟨.ref s1.heap.objs.size,upd H1 s1.heap.objs.size (.tup xs),I1.laid (t':=s1.toks) (λb u e=>Kl _ e) (Km _) ?_,rfl,q _ hf⟩
 exact⟨z,us,r,oO.new _ _⟩
def A8 (h:PA X es t):PE X (.List es pos) (II t):=by
 intro pins s σ H Q I hq
 refine wpAny_List_spliced (cn (h pos pins s σ H _ I hq) λus s1 ⟨xs,H1,I1,r,z,q⟩=>⟨by rw[<-r.length];exact z,?_⟩)
 have hf:H1 s1.heap.objs.size=none:=I1.hok.fresh (Km _)
 refine⟨.ref s1.heap.objs.size,upd H1 s1.heap.objs.size (.lst xs),I1.laid (t':=s1.toks) (λb u e=>Kl _ e) (Km _) ?_,rfl,q _ hf⟩
 exact⟨z,us,0,r,Ky _ rfl⟩
end
abbrev Sp:=List V->Hp->VK->XK->Prop
abbrev yy:=List Env->Hp->Shared->XK->Value->Shared->Prop
structure CS (P:Program)(w:World)(K:Frag)(mg:Str->Option Value)(base:Heap)(A:Around)(outer:List Env)(s:Shared)(H:Hp):Prop where
 frames:A.frames=some outer
 mod:Mod K mg base
 bs:∀b o,base.get? b=some o->s.heap.get? b=some o/\H b=none
 bsz:base.objs.size<=s.heap.objs.size
 funs:s.heap.FunFrames base outer
 frf:∀b∈gV outer,H b=none
 hok:jz P w H s.heap
 bare:AllBare s.gens
def CE (outer:List Env)(P:Program)(w:World)(H:Hp)(s:Shared)(Q:VK)(u:Value)(s':Shared):Prop:=
 ∃v H',s'.os=s.os/\AllBare s'.gens/\Un (gV outer) [] H H' s.heap s'.heap/\jz P w H' s'.heap/\RelV v u/\Q v H'
def CR (CX:yy)(outer:List Env)(P:Program)(w:World)(H:Hp)(s:Shared)(Q:VK)(E:XK)(r:Result)(s':Shared):Prop:=
 match r with
 | .ok (.ret u)=>CE outer P w H s Q u s'
 | .ok _=>False
 | .error e=>CX outer H s E e s'
structure eQ (P:Program)(w:World)(K:Frag)(mg:Str->Option Value)(base:Heap)(CX:yy)(k:Nat)(f:Addr)(fd:FuncData)(ps:List Str)(sp:Sp):Prop where
 len:∀vs H Q E,sp vs H Q E->vs.length=ps.length
 run:∀(A:Around) (outer:List Env) (s:Shared) (H:Hp) (args:Args) (us:List Value) (vs:List V) (Q:VK) (E:XK),dC k A->CS P w K mg base A outer s H->BindsTo s fd args (ps.zip us)->Vals vs us->sp vs H Q E->
  codeAny (model P w) A (.call (.ref f) args) (CR CX outer P w H s Q E) s
def eQ.mono {P:Program}{w:World}{K:Frag}{mg:Str->Option Value}{base:Heap}{CX:yy}{j k:Nat}{f:Addr}{fd:FuncData}{ps:List Str}{sp:Sp}(F:eQ P w K mg base CX j f fd ps sp)(h:j<=k) :
  eQ P w K mg base CX k f fd ps sp:=⟨F.len,λA outer s H args us vs Q E hr=>F.run A outer s H args us vs Q E (hr.mono h)⟩
def eQ.imp {P:Program}{w:World}{K:Frag}{mg:Str->Option Value}{base:Heap}{CX:yy}{k:Nat}{f:Addr}{fd:FuncData}{ps:List Str}{sp sp':Sp}(F:eQ P w K mg base CX k f fd ps sp)
  (h:∀vs H Q E,sp' vs H Q E->sp vs H Q E):eQ P w K mg base CX k f fd ps sp':=
 ⟨λvs H Q E q=>F.len vs H Q E (h _ _ _ _ q),λA outer s H args us vs Q E hr he hb hv hs=>F.run A outer s H args us vs Q E hr he hb hv (h _ _ _ _ hs)⟩
section
variable {X:Cx}{pins:List (Addr×Obj)}{σ:St}{H:Hp}{s s':Shared}
def Inv.env0 (I:Inv X pins σ H s):CS X.prog X.w X.K X.mg X.base X.A X.stack s H:=
 ⟨I.ok.frames,I.ok.mod,I.bs,Ls I.ok.bsz I.sz,I.stack,I.stkFree,I.hok,I.bare⟩
def Inv.after {Q:VK}{u:Value}(I:Inv X pins σ H s)(h:CE X.stack X.prog X.w H s Q u s'):EP X pins σ Q u s':=by
 obtain⟨v,H',os,bare,un,hok,r,q⟩:=h
 obtain⟨hh,g,d,t,os'⟩:=s'
 obtain rfl:os'=s.os:=os
 exact⟨v,H',I.call (h':=hh) (g':=g) (d':=d) (t':=t) (ch:=[]) un hok bare (λb z=>absurd z (by simp)),r,q⟩
end
def HV (sp:Sp)(dvs:List V)(E:XK)(t:TA):TE:=λσ H Q=>t σ H λvs H1=>sp (vs ++ dvs) H1 Q E
def Binds (K:Frag)(fd:FuncData)(ps:List Str)(ds:List Value):Prop:=
 ∀(s:Shared) (us:List Value),K.In s.heap->(us ++ ds).length=ps.length->BindsTo s fd ⟨us,[]⟩ (ps.zip (us ++ ds))
def Binds.all {K:Frag}{fd:FuncData}{ps:List Str}(h:∀us:List Value,us.length=ps.length->bindArgs fd ⟨us,[]⟩=pure (ps.zip us)):Binds K fd ps []:=λs us _ hl=>by
 rw[LF] at hl ⊢
 exact .of_eq (h us hl)
def Passes (CX:yy)(X:Cx)(E:XK):Prop:=∀(pins:List (Addr×Obj)) (σ:St) (H:Hp) (s:Shared) (e:Value) (s':Shared),Inv X pins σ H s->CX X.stack H s E e s'->X.xe e s'
section
variable {X:Cx}{CX:yy}{k:Nat}{f C:Addr}{fd:FuncData}{ps:List Str}{sp:Sp}{dvs:List V}{ds:List Value}{E:XK}{x m:Str}{p pos apos:Pos}{e o:Expr}{es:List Expr}{ta:TE}{t:TA}
theorem Fd {pins:List (Addr×Obj)}{σ:St}{H:Hp}{s:Shared}{Q:VK}{us:List Value}{vs:List V}(F:eQ X.prog X.w X.K X.mg X.base CX k f fd ps sp)(hr:dC k X.A)(hb:Binds X.K fd ps ds)(hd:Vals dvs ds)(hx:Passes CX X E)
  (I:Inv X pins σ H s) (r:Vals vs us) (h:sp (vs ++ dvs) H Q E):wpAny (model X.prog X.w) X.A (call (.ref f) us) (EP X pins σ Q) X.xe s:=by
 have r2:Vals (vs ++ dvs) (us ++ ds):=r.append hd
 have hl:(us ++ ds).length=ps.length:=by rw[<-r2.length];exact F.len _ _ _ _ h
 refine wpAny_call (Mv (F.run X.A X.stack s H ⟨us,[]⟩ (us ++ ds) (vs ++ dvs) Q E hr I.env0 (hb s us I.kIn hl) r2 h) λr s' hq=>?_)
 cases r with
 |error e=>exact hx pins σ H s e s' I hq
 |ok fl=>
  cases fl with
  |ret u=>exact I.after hq
  |next=>exact False.elim hq
  |brk=>exact False.elim hq
  |cont=>exact False.elim hq
def my (F:eQ X.prog X.w X.K X.mg X.base CX k f fd ps sp)(hr:dC k X.A)(hg:Gl X x)(hm:X.mg x=some (.ref f))(hk:PySem.W.keepIn X.K (.ref f)=true)(hb:Binds X.K fd ps ds)(hd:Vals dvs ds)(hx:Passes CX X E)
  (ha:PA X (e :: es) t) (hdb:(x == ("__debug__":Str))=false:=by decide) (he:starEach (e :: es) X.env=(false,eval e X.env) :: starEach es X.env:=by rfl) (hpl:(backTo pos (starEach es X.env)).any (·.1)=false:=by rfl) :
  PE X (.Call (.Name x p) (e :: es) [] pos) (HV sp dvs E t):=by
 intro pins s σ H Q I h
 refine wpAny_Call_Name_kw (rl I hg hm ?_ hdb)
 refine PySem.W.callWith_K (h₀:=X.base) I.ok.mod.kin hk (cn (ha pos pins s σ H _ I h) λus s1 ⟨vs,H1,I1,r,q⟩=>⟨I1.kIn,?_⟩) he hpl
 exact Fd F hr hb hd hx I1 r q
end
structure aL (N P:List Str)(sc:Scope):Prop where
 kind:sc.kind=.function
 co:sc.isCoroutine=false
 gen:sc.isGenerator=false
 nd:N.Nodup
 pre:N.take P.length=P
 par:∀x∈P,sc.names.lookup x=some .local\/sc.names.lookup x=some .cell
 nofree:∀y∈sc.names,y.2≠.free
theorem pS {kindOf:Str->Option NameKind}{x:Str}:∀{binds:List (Str×Value)} {m:Str->Option Value},(∀v,(x,v)∉binds)->bindL kindOf binds m x=m x
 | [],_,_=>rfl
 | (n,v) :: r,m,h=>by
  unfold bindL
  rw[pS λw hw=>h w (Ko _ hw)]
  split
  ·have:x≠n:=by rintro rfl;exact h v Kr
   simp[this]
  ·rfl
theorem pD {kindOf:Str->Option NameKind}{x:Str}:∀{binds:List (Str×Value)} {m:Str->Option Value},(∀v,(x,v)∉binds)->bindC kindOf binds m x=m x
 | [],_,_=>rfl
 | (n,v) :: r,m,h=>by
  unfold bindC
  rw[pD λw hw=>h w (Ko _ hw)]
  split
  ·rfl
  ·have:x≠n:=by rintro rfl;exact h v Kr
   simp[this]
theorem pV {kindOf:Str->Option NameKind}{x:Str}{v:Value}:∀{P:List Str} {vs:List Value} {i:Nat} {m:Str->Option Value},P.Nodup->P[i]? =some x->vs[i]? =some v->kindOf x=some .local->
  bindL kindOf (P.zip vs) m x=some v
 | [],_,_,_,_,h,_,_=>by simp at h
 |_ :: _,[],_,_,_,_,h,_=>by simp at h
 |p :: P,w :: vs,0,m,nd,h1,h2,hk=>by
  simp at h1 h2;subst h1;subst h2
  show bindL kindOf ((p,w) :: P.zip vs) m p=_
  unfold bindL
  rw[pS λv hv=>(K6.mp nd).1 (List.of_mem_zip hv).1,Kn hk]
  simp
 |p :: P,w :: vs,i + 1,m,nd,h1,h2,hk=>by
  show bindL kindOf ((p,w) :: P.zip vs) m x=_
  unfold bindL
  exact pV (i:=i) (K6.mp nd).2 (by simpa using h1) (by simpa using h2) hk
theorem p9 {kindOf:Str->Option NameKind}{x:Str}{v:Value}:∀{P:List Str} {vs:List Value} {i:Nat} {m:Str->Option Value},P.Nodup->P[i]? =some x->vs[i]? =some v->kindOf x≠some .local->
  bindC kindOf (P.zip vs) m x=some v
 | [],_,_,_,_,h,_,_=>by simp at h
 |_ :: _,[],_,_,_,_,h,_=>by simp at h
 |p :: P,w :: vs,0,m,nd,h1,h2,hk=>by
  simp at h1 h2;subst h1;subst h2
  show bindC kindOf ((p,w) :: P.zip vs) m p=_
  unfold bindC
  rw[pD λv hv=>(K6.mp nd).1 (List.of_mem_zip hv).1,Ku hk]
  simp
 |p :: P,w :: vs,i + 1,m,nd,h1,h2,hk=>by
  show bindC kindOf ((p,w) :: P.zip vs) m x=_
  unfold bindC
  exact p9 (i:=i) (K6.mp nd).2 (by simpa using h1) (by simpa using h2) hk
def start (N:List Str)(vs:List V):St:=vs.map some ++ List.replicate (N.length - vs.length) none
def jU (CX:yy)(P:Program)(w:World)(K:Frag)(mg:Str->Option Value)(base:Heap)(N:List Str)(qual:Str)(scope:Scope)(f:Addr)(cd:Value)(A:Around)(outer:List Env)(s:Shared)(H:Hp)(E:XK):Cx where
 prog:=P
 w:=w
 K:=K
 mg:=mg
 base:=base
 A:=A.deeper (envOfC qual scope s.heap.objs.size f cd)
 N:=N
 s₀:=s
 H₀:=H
 env:=envOfC qual scope s.heap.objs.size f cd
 outer:=outer
 stack:=envOfC qual scope s.heap.objs.size f cd :: outer
 ex:=[]
 calm:=true
 fn:=λ_=>true
 pn:=[]
 xe:=λe s'=>wpAny (model P w) (A.deeper (envOfC qual scope s.heap.objs.size f cd)) (leaving (envOfC qual scope s.heap.objs.size f cd) e) (λ_ s''=>CX outer H s E e s'') (λe' s''=>CX outer H s E e' s'') s'
def sY {sc:Scope}{n:Nat}{x:Str}(h:sc.names.lookup x=some .cell):∃c,(cellsFrom n sc.names []).lookup x=some c:=by
 have q:=PySem.W.cellsFrom_some sc.names n [] (.inl h)
 exact Option.isSome_iff_exists.mp q
def yW {CX:yy}{P:Program}{w:World}{K:Frag}{mg:Str->Option Value}{base:Heap}{N ps:List Str}{qual:Str}{scope:Scope}{f:Addr}{cd:Value}{A:Around}{outer:List Env}{s s1:Shared}{H:Hp}{E:XK}{us:List Value}{vs:List V}
  (S:aL N ps scope) (hd:A.handled=none) (e0:CS P w K mg base A outer s H) (hl:vs.length=ps.length) (r:Vals vs us)
  (x:InCallC s s.heap.objs.size (bindL (envOfC qual scope s.heap.objs.size f cd).kindOf (ps.zip us) λ_=>none) (cellsFrom (s.heap.objs.size + 1) scope.names []) (bindC (envOfC qual scope s.heap.objs.size f cd).kindOf (ps.zip us) λ_=>none) s1) :
  Inv (jU CX P w K mg base N qual scope f cd A outer s H E) [] (start N vs) H s1:=by
 have hpl:ps.length<=N.length:=by have:=congrArg List.length S.pre;rw[LI] at this;omega
 obtain⟨h1,tk,rfl,hk⟩:=x.done
 have noA:∀b:Addr,b∉(jU CX P w K mg base N qual scope f cd A outer s H E).ex:=λb z=>absurd (show b∈([]:List Addr) from z) (by simp)
 refine⟨⟨e0.mod,S.kind,rfl,rfl,Km _,λy z c h1 h2=>?_,λy hy=>?_,λy c _ h=>?_,λ_=>hd,Around.frames_deeper e0.frames,.inr ⟨rfl,rfl⟩,λb z=>absurd z (noA b),e0.bs,e0.bsz,λb _ _=>noA b,λb z=>absurd z (noA b),e0.funs,e0.frf⟩,
  rfl,e0.bare,Un.kept hk,⟨_,x.toInCall.ns,λi y v h1 h2 h3=>?_⟩,λy c h=>⟨_,x.cell y c h⟩,e0.hok.fresh (Km _),λy c h=>?_,λp hp=>absurd (show p∈([]:List (Addr×Obj)) from hp) (by simp),e0.hok.kept hk,?_⟩
 ·exact name_of_addr x.apart (Me h1) (Me h2)
 ·have hy:scope.names.lookup y=some .cell\/scope.names.lookup y=some .free:=hy
  rcases hy with hy |hy
  ·exact sY hy
  ·exact absurd rfl (S.nofree _ (Me hy))
 ·exact Nat.le_of_lt (x.above y c (Me h))
 ·have hi:i < vs.length:=by
   unfold start at h2
   by_cases hi:i < vs.length
   ·exact hi
   ·rw[K4 (by simpa using hi)] at h2
    rw[LS] at h2
    split at h2 <;> cases h2
  have ha:vs[i]? =some v:=by
   unfold start at h2
   rw[K9 (by simpa using hi),Kv] at h2
   cases e:vs[i]? with
   |none=>rw[e] at h2;cases h2
   |some a=>rw[e] at h2;cases h2;rfl
  obtain⟨u,hu,rv⟩:=r.get ha
  have hp:ps[i]? =some y:=by
   rw[<-S.pre,List.getElem?_take_of_lt (by omega)];exact h1
  have ndP:ps.Nodup:=by rw[<-S.pre];exact S.nd.sublist (List.take_sublist _ _)
  refine⟨u,rv,?_⟩
  rcases S.par y (KD hp) with k |k
  ·exact .inl ⟨k,pV ndP hp hu k⟩
  ·obtain⟨c,e⟩:=sY (n:=s.heap.objs.size + 1) k
   refine .inr ⟨.inl k,c,e,?_⟩
   have q:=x.cell y c e
   rw[p9 ndP hp hu (by show scope.names.lookup y≠_;rw[k];decide)] at q
   exact q
 ·exact e0.hok.fresh (Nat.le_of_lt (x.above y c (Me h)))
 ·unfold start
  show _=N.length
  rw[KO,Kx,Mk]
  omega
theorem D1 {CX:yy}{P:Program}{w:World}{K:Frag}{mg:Str->Option Value}{base:Heap}{k:Nat}{f:Addr}{name qual:Str}{params:Arguments}{body:List Stmt}{scope:Scope}{dV kV doc pm cdv ct oc:Value}{an od:Option Addr}
  {osl:Array (Option Value)} {N ps:List Str} {sp:Sp} (lk:K.lookup f=some ⟨oc,od,.func (PySem.W.fnOf name qual params body scope dV kV doc pm an cdv ct),osl⟩) (hcd:PySem.W.codeIn K cdv qual=true) (S:aL N ps scope)
  (len:∀vs H Q E,sp vs H Q E->vs.length=ps.length)
  (hbody:∀(A:Around) (outer:List Env) (s:Shared) (H:Hp) (vs:List V) (Q:VK) (E:XK),dC k (A.deeper (envOfC qual scope s.heap.objs.size f cdv))->sp vs H Q E->
   ∃t,p8 (jU CX P w K mg base N qual scope f cdv A outer s H E) body t/\t {nx:=λ_ H'=>Q .non H',rt:=Q} (start N vs) H) :
  eQ P w K mg base CX (k + 1) f (PySem.W.fnOf name qual params body scope dV kV doc pm an cdv ct) ps sp:=by
 refine⟨len,λA outer s H args us vs Q E hr e0 hb r hsp=>?_⟩
 have hl:=len _ _ _ _ hsp
 have KX:K.In s.heap:=e0.mod.kin.keeps λb o e=>(e0.bs b o e).1
 have lim:s.heap.NoLimit:=e0.mod.nolimit.keeps λb o e=>(e0.bs b o e).1
 have hkind:∀y∈ps.zip us,scope.names.lookup y.1=some .local\/(scope.names.lookup y.1=some .cell/\((cellsFrom (s.heap.objs.size + 1) scope.names []).lookup y.1).isSome=true):=λ⟨n,v⟩ hy=>by
  rcases S.par n (List.of_mem_zip hy).1 with q |q
  ·exact .inl q
  ·exact .inr ⟨q,PySem.W.cellsFrom_some _ _ _ (.inl q)⟩
 refine codeAny_call_function hr.depth (KX _ _ lk) rfl S.co S.gen rfl (PySem.W.codeRec_of KX hcd) (hb _ _ _ _ ?_)
 refine wpAny_newFunctionEnv_cells S.kind hkind λenv he s1 x=>?_
 subst he
 refine⟨lim.keeps x.toInCall.keep,codeAny_func ?_⟩
 obtain⟨t,ht,hq⟩:=hbody A outer s H vs Q E (hr.deeper _) hsp
 have I:Inv (jU CX P w K mg base N qual scope f cdv A outer s H E) [] (start N vs) H s1:=yW S hr.hd e0 hl r x
 refine LQ (ht [] s1 (start N vs) H _ I hq) (λfl s' hs=>?_) λe s' hs=>hs
 have fin:∀{σ':St} {H':Hp} {v:V} {u:Value},Inv (jU CX P w K mg base N qual scope f cdv A outer s H E) [] σ' H' s'->RelV v u->Q v H'->CE outer P w H s Q u s':=
  λ{σ' H' v u} J rv q=>⟨v,H',J.os,J.bare,J.base,J.hok,rv,q⟩
 cases fl with
 |ret u=>
  obtain⟨v,σ',H',J,rv,q⟩:=hs
  exact fin J rv q
 |next=>
  obtain⟨σ',H',J,q⟩:=hs
  exact fin (v:=V.non) (u:=Value.none) J rfl q
 |brk=>
  obtain⟨_,_,_,q⟩:=hs
  exact False.elim q
 |cont=>
  obtain⟨_,_,_,q⟩:=hs
  exact False.elim q
section
variable {X:Cx}{x:Str}{p pos:Pos}{e:Expr}{es:List Expr}{t:TA}{id T:String}{r:List V->Hp->VK->Prop}
def JU (r:List V->Hp->VK->Prop)(t:TA):TE:=λσ H Q=>t σ H λvs H1=>r vs H1 Q
def g7 (hc:cp X (.builtin id) r)(hg:Gl X x)(hm:X.mg x=none)(hv:bootBuiltins x=some (.builtin id))(ha:PA X (e :: es) t)(hn:x≠"__name__":=by decide)(hdb:(x == ("__debug__":Str))=false:=by decide)
  (he:starEach (e :: es) X.env=(false,eval e X.env) :: starEach es X.env:=by rfl) (hpl:(backTo pos (starEach es X.env)).any (·.1)=false:=by rfl):PE X (.Call (.Name x p) (e :: es) [] pos) (JU r t):=by
 intro pins s σ H Q I h
 refine wpAny_Call_Name_kw (jm I hg hm hv ?_ hn hdb)
 exact PyProof.Rows.callWith_builtin1 (cn (ha pos pins s σ H _ I h) λus s1 ⟨vs,H1,I1,r1,q1⟩=>hc pins s1 σ H1 vs us Q I1 r1 q1) he hpl
def fO (hc:cp X (.type T) r)(hg:Gl X x)(hm:X.mg x=none)(hv:bootBuiltins x=some (.type T))(ha:PA X (e :: es) t)(hn:x≠"__name__":=by decide)(hdb:(x == ("__debug__":Str))=false:=by decide)
  (he:starEach (e :: es) X.env=(false,eval e X.env) :: starEach es X.env:=by rfl) (hpl:(backTo pos (starEach es X.env)).any (·.1)=false:=by rfl):PE X (.Call (.Name x p) (e :: es) [] pos) (JU r t):=by
 intro pins s σ H Q I h
 refine wpAny_Call_Name_kw (jm I hg hm hv ?_ hn hdb)
 exact LG (cn (ha pos pins s σ H _ I h) λus s1 ⟨vs,H1,I1,r1,q1⟩=>hc pins s1 σ H1 vs us Q I1 r1 q1) he hpl
end
end L2
namespace HT
open PySem PyProof.Rows
section
open PySem.SeqAt
open PySem.AutoSeq1 (wpAny_loadPart')
open PySem.MeetsSeq PySem.MeetsSeq2 PySem.MeetsSeq3
end
section
variable {prog:Program}{w:World}{A:Around}{E:Value->Shared->Prop}{s:Shared}
def CC {t b:Addr}{vs ws:List Value}{Q:Value->Shared->Prop}(ht:IsTup s.heap t vs.toArray)(hb:IsTup s.heap b ws.toArray)(hv:vs≠ [])
  (h1:ws= []->Q (.ref t) s) (h2:ws≠ []->Q (.ref s.heap.objs.size) {s with heap:=s.heap.push {cls:=.type "tuple",data:=.seq (vs ++ ws).toArray}})
  (hsz:vs.length + ws.length<=sizeLine):wpAny (model prog w) A (binaryOp .Add (.ref t) (.ref b)) Q E s:=by
 obtain⟨⟨cls,dd,data,sl⟩,ho,hc,n,hd⟩:=id ht
 obtain⟨⟨cls2,dd2,data2,sl2⟩,ho2,hc2,n2,hd2⟩:=id hb
 simp only at hc hd hc2 hd2
 subst hc hd hc2 hd2
 have e:vs.toArray ++ ws.toArray=(vs ++ ws).toArray:=by simp
 by_cases hw:ws= []
 ·exact concat_meets ⟨_,ho,rfl⟩ ⟨_,ho2,rfl⟩ noFill_tuple_add seq_tuple_add PySem.F.slot_tuple_add PySem.F.entry_tuple_add (MX _ _)
   (tuple_addW1 t b vs.toArray ws.toArray n n2 dd dd2 sl sl2 (by simpa using hv) (by simp[hw])) ⟨ho,ho2,h1 hw⟩
 ·refine concat_meets ⟨_,ho,rfl⟩ ⟨_,ho2,rfl⟩ noFill_tuple_add seq_tuple_add PySem.F.slot_tuple_add PySem.F.entry_tuple_add (MX _ _)
   (tuple_addW2 t b vs.toArray ws.toArray n n2 dd dd2 sl sl2 (by simpa using hv) (by simpa using hw) (by rw[KJ,KJ];exact hsz)) ⟨ho,ho2,?_⟩
  rw[e]
  exact h2 hw
def vm (n d:Nat):Option Int->Nat
 |none=>d
 |some v=>if v < 0 then (v + (n:Int)).toNat else min v.toNat n
end
end HT
namespace L2
open PySem PySem.Spec PyProof.Rows
abbrev TO:=St->Hp->(Option Int->Hp->Prop)->Prop
theorem intsAre_of {ns:List Int}:∀{us:List Value},Vals (ns.map V.int) us->IntsAre us ns:=by
 induction ns with
 |nil=>intro us r;rw[List.map_nil] at r;cases r;exact .nil
 |cons n ns ih=>
  intro us r
  rw[K7] at r
  cases r with
  |cons r1 r2=>
   obtain⟨t,e⟩:=r1
   subst e
   exact .cons n t (ih r2)
section
variable {X:Cx}{e:Expr}{te:TE}{lo hi:Option Expr}{tl th:TO}{pos p2:Pos}
def Kh (X:Cx)(r:V->Option Int->Option Int->Hp->VK->Prop):Prop:=
 ∀(pins:List (Addr×Obj)) (s:Shared) (σ:St) (H:Hp) (x:V) (v vl vu:Value) (lo hi:Option Int) (sl:Addr) (Q:VK),Inv X pins σ H s->RelV x v->s.heap.IsSliceOf sl vl vu .none->IsPart vl lo->IsPart vu hi->r x lo hi H Q->
  ∃T id,typeLookup (.type T) "__getitem__"=pure (some (.builtin id))/\s.TypeIs v T/\wpAny (model X.prog X.w) X.A (getItem v (.ref sl)) (EP X pins σ Q) X.xe s
def Cp (xs:List V)(lo hi:Option Int):List V:=(xs.drop (HT.vm xs.length 0 lo)).take (HT.vm xs.length xs.length hi - HT.vm xs.length 0 lo)
def tR (xs:List V)(lo hi:Option Int):(Cp xs lo hi).length<=xs.length:=by
 unfold Cp
 rw[LI,List.length_drop]
 omega
def HH (K:Frag):R2:=λx y H Q=>∃a b xs ys,x=.ref a/\y=.ref b/\dA K H a xs/\dA K H b ys/\xs≠ []/\xs.length + ys.length<=sizeLine/\
 (ys= []->Q (.ref a) H)/\(ys≠ []->∀p,H p=none->Q (.ref p) (upd H p (.tup (xs ++ ys))))
theorem Vals.nil_iff {xs:List V}{us:List Value}(r:Vals xs us):us= []↔xs= []:=by
 cases r with
 |nil=>simp
 |cons _ _=>simp
def Cy:jW X (binaryOp .Add) (HH X.K):=by
 intro pins s σ H x y v u Q I rx ry h
 obtain⟨a,b,xs,ys,rfl,rfl,ha,hb,hx,hz,q1,q2⟩:=h
 cases rx
 cases ry
 obtain⟨its,r1,p1,_⟩:=I.tuple ha
 obtain⟨its2,r2,p2,_⟩:=I.tuple hb
 refine HT.CC p1 p2 (λz=>hx (r1.nil_iff.mp z)) (λz=>⟨.ref a,H,I,rfl,q1 (r2.nil_iff.mp z)⟩) (λz=>?_) (by rw[<-r1.length,<-r2.length];exact hz)
 refine⟨.ref s.heap.objs.size,_,I.laid (t':=s.toks) (o:=.tup (xs ++ ys)) (λb ob q=>Kl _ q) (Km _) ?_,rfl,q2 (λw=>z (r2.nil_iff.mpr w)) _ (I.hok.fresh (Km _))⟩
 exact⟨by rw[KO];exact hz,_,r1.append r2,oO.new _ _⟩
end
def rT (n:Nat)(i:Int):Option Nat:=if 0<=i then (if i < n then some i.toNat else none) else if -(n:Int)<=i then some (i + n).toNat else none
def ij {α:Type}(xs:List α)(i:Int):Option α:=(rT xs.length i).bind λj=>xs[j]?
def wq {n:Nat}{i:Int}{j:Nat}(h:rT n i=some j):seqIndex? i n=some j/\j < n/\ -(n:Int)<=i/\i < n:=by
 unfold rT at h
 by_cases h0:0<=i
 ·rw[Kn h0] at h
  by_cases h1:i < n
  ·rw[Kn h1] at h
   have e:i.toNat=j:=Option.some.inj h
   exact⟨by rw[seqIndex_of h0 h1,e],by omega,by omega,h1⟩
  ·rw[Ku h1] at h;cases h
 ·rw[Ku h0] at h
  by_cases h1: -(n:Int)<=i
  ·rw[Kn h1] at h
   have e:(i + n).toNat=j:=Option.some.inj h
   exact⟨by rw[seqIndex_neg (by omega) h1,e],by omega,h1,by omega⟩
  ·rw[Ku h1] at h;cases h
theorem qk {α:Type}{xs:List α}{i:Int}{v:α}(h:ij xs i=some v):∃j,seqIndex? i xs.length=some j/\xs[j]? =some v/\j < xs.length/\ -(xs.length:Int)<=i/\i < xs.length:=by
 unfold ij at h
 cases e:rT xs.length i with
 |none=>rw[e] at h;cases h
 |some j=>
  rw[e] at h
  obtain⟨h1,h2,h3,h4⟩:=wq e
  exact⟨j,h1,h,h2,h3,h4⟩
def jI {α:Type}{xs:List α}{j:Nat}{v:α}(h:xs[j]? =some v):ij xs (j:Int)=some v:=by
 have hj:j < xs.length:=(Kz.mp h).1
 have e:rT xs.length (j:Int)=some j:=by
  unfold rT
  rw[Kn (by omega),Kn (by omega)];simp
 unfold ij;rw[e];exact h
def xl (b:Expr):Prop:=∀o i,subscripted b false o i=operate [o,i] (getItem o i)
def A5 (X:Cx)(r:R2):Prop:=
 ∀(value slice:Expr) (pins:List (Addr×Obj)) (s:Shared) (σ:St) (H:Hp) (x y:V) (v u:Value) (Q:VK),Inv X pins σ H s->RelV x v->RelV y u->r x y H Q->
  subscripted slice false v u=operate [v,u] (getItem v u)->wpAny (model X.prog X.w) X.A (subscriptTail value slice v u) (EP X pins σ Q) X.xe s
def Ka (X:Cx)(id:String)(r:V->List V->Hp->VK->Prop):Prop:=
 ∀(pins:List (Addr×Obj)) (s:Shared) (σ:St) (H:Hp) (x:V) (xs:List V) (v:Value) (us:List Value) (Q:VK),Inv X pins σ H s->RelV x v->Vals xs us->r x xs H Q->
  wpAny (model X.prog X.w) X.A (call (.builtin id) (v :: us)) (EP X pins σ Q) X.xe s
section
variable {X:Cx}{a b:Expr}{ta tb:TE}{pos:Pos}
def A5.or {r r':R2}(h:A5 X r)(h':A5 X r'):A5 X (λx y H Q=>r x y H Q\/r' x y H Q):=by
 intro value slice pins s σ H x y v u Q I rx ry q hs
 rcases q with q |q
 ·exact h value slice pins s σ H x y v u Q I rx ry q hs
 ·exact h' value slice pins s σ H x y v u Q I rx ry q hs
def jY {r:R2}(hr:A5 X r)(ha:PE X a ta)(hb:PE X b tb)(hs:xl b):PE X (.Subscript a b pos) (Il r ta tb):=by
 intro pins s σ H Q I h
 exact Subscript_ (FE ha hb I h λv u s2 x y H2 I2 rx ry q=>hr a b pins s2 σ H2 x y v u Q I2 rx ry q (hs _ _))
def Ek (K:Frag):R2:=λx y H Q=>∃p xs i v,x=.ref p/\y=.int i/\e8 K H p xs/\ij xs i=some v/\Q v H
def HI (K:Frag):R2:=λx y H Q=>∃p xs i v,x=.ref p/\y=.int i/\dA K H p xs/\ij xs i=some v/\Q v H
def Gx:R2:=λx y H Q=>∃z i c,x=.str z/\y=.int i/\z.length<=sizeLine/\ij z.cps.toList i=some c/\Q (.str ⟨#[c]⟩) H
def fI:A5 X (Ek X.K):=by
 intro value slice pins s σ H x y v u Q I rx ry h hs
 obtain⟨p,xs,i,z,rfl,rfl,hq,he,q⟩:=h
 cases rx
 obtain⟨t,rfl⟩:=ry
 obtain⟨its,r,pl,hz⟩:=I.list hq
 obtain⟨j,h1,h2,h3,h4,h5⟩:=qk he
 obtain⟨w,ew,rw'⟩:=r.get h2
 have hl:=r.length
 have hn:=lG
 have fin:EP X pins σ Q w s:=⟨z,H,I,rw',q⟩
 by_cases h0:0<=i
 ·have hj:i.toNat=j:=by
   rw[seqIndex_of h0 h5] at h1
   exact Option.some.inj h1
  exact item_listR pl.isList h0 (by omega) (by rw[hj];simpa using ew) fin hs
 ·have hj:(i + (its.toArray.size:Int)).toNat=j:=by
   rw[seqIndex_neg (by omega) h4] at h1
   rw[KJ,<-hl]
   exact Option.some.inj h1
  exact subscriptTail_builtinR (x:=w) pl.isList.typeIs slot_list_getitem.lookup
   (wpAny_getItem_list_neg (Q:=λr s'=>r=w/\EP X pins σ Q r s') pl.isList (by omega) (by rw[KJ] <;> omega) (by omega) (by rw[hj];simpa using ew) ⟨rfl,fin⟩) hs
def FP:A5 X (HI X.K):=by
 intro value slice pins s σ H x y v u Q I rx ry h hs
 obtain⟨p,xs,i,z,rfl,rfl,hq,he,q⟩:=h
 cases rx
 obtain⟨t,rfl⟩:=ry
 obtain⟨its,r,pl,hz⟩:=I.tuple hq
 obtain⟨j,h1,h2,h3,h4,h5⟩:=qk he
 obtain⟨w,ew,rw'⟩:=r.get h2
 have hl:=r.length
 have hn:=lG
 have fin:EP X pins σ Q w s:=⟨z,H,I,rw',q⟩
 exact subscriptTail_builtinR (x:=w) pl.typeIs slot_tuple_getitem.lookup
  (getItem_tuple (j:=j) (Q:=λr s'=>r=w/\EP X pins σ Q r s') pl (by omega) (by omega) (by rw[KJ,<-hl];exact h1) (by simpa using ew) ⟨rfl,fin⟩) hs
def FA:A5 X Gx:=by
 intro value slice pins s σ H x y v u Q I rx ry h hs
 obtain⟨z,i,c,rfl,rfl,hz,he,q⟩:=h
 obtain⟨t,rfl⟩:=rx
 obtain⟨t',rfl⟩:=ry
 obtain⟨j,h1,h2,h3,h4,h5⟩:=qk he
 have hl:z.cps.toList.length=z.length:=by simp[Str.length]
 rw[hl] at h1 h4 h5
 have hn:=lG
 exact tail_any (typeIs_str s z t) slot_str_getitem.lookup (getItem_str (c:=c) (by
  have e1:decide (i < -(2 ^ 63:Int))=false:=KA (by omega)
  have e2:decide (i>=2 ^ 63)=false:=KA (by omega)
  rw[e1,e2,Bool.or_false]) (by rw[h1];simpa using h2) ⟨.str ⟨#[c]⟩,H,I.tok _,⟨_,rfl⟩,q⟩) hs
def JR (K:Frag):R2:=λx y H Q=>Ek K x y H Q\/HI K x y H Q\/Gx x y H Q
def aZ:A5 X (JR X.K):=fI.or (FP.or FA)
def uO (its:List Value)(n j:Nat)(u:Value):Obj.mapSeq (·.setIfInBounds j u) {cls:=.type "list",data:=.seq its.toArray n}={cls:=.type "list",data:=.seq (its.set j u).toArray n}:=by
 simp[Obj.mapSeq]
def Inv.lst {pins:List (Addr×Obj)}{σ:St}{H:Hp}{s:Shared}{p:Addr}{xs:List V}(I:Inv X pins σ H s)(h:H p=some (.lst xs)) :
  ∃(its:List Value) (n:Nat),Vals xs its/\s.heap.get? p=some {cls:=.type "list",data:=.seq its.toArray n}/\xs.length<=sizeLine:=by
 obtain⟨z,its,n,r,e⟩:=I.hok p _ h
 exact⟨its,n,r,e,z⟩
def Inv.lstUpd {pins:List (Addr×Obj)}{σ:St}{H:Hp}{s:Shared}{p:Addr}{xs ys:List V}{its its':List Value}{n n':Nat}{f:Obj->Obj}(I:Inv X pins σ H s)(h:H p=some (.lst xs))
  (ho:s.heap.get? p=some {cls:=.type "list",data:=.seq its.toArray n}) (hf:f {cls:=.type "list",data:=.seq its.toArray n}={cls:=.type "list",data:=.seq its'.toArray n'}) (r:Vals ys its') (hz:ys.length<=sizeLine) (t:Nat) :
  Inv X pins σ (upd H p (.lst ys)) {s with heap:=s.heap.update p f,toks:=t}:=by
 have e:(s.heap.update p f).get? p=some {cls:=.type "list",data:=.seq its'.toArray n'}:=by
  rw[Lq f ho (by rw[hf] <;> rfl),hf]
 refine I.write (x:=p) (e:=p) (by rw[h];trivial) (.inl rfl) (λb u hb q=>(LA _ _ (Ne.symm hb)).trans q) ⟨_,e⟩ ?_
 exact⟨hz,its',n',r,e⟩
def Hz:V->V->V->Hp->(Hp->Prop)->Prop:=λo i v H Q=>∃p xs k j,o=.ref p/\i=.int k/\H p=some (.lst xs)/\rT xs.length k=some j/\Q (upd H p (.lst (xs.set j v)))
def set_list:mW X Hz:=by
 intro pins s σ H o i v ov iv u Q I ro ri rv h
 obtain⟨p,xs,k,j,rfl,rfl,hp,hj,q⟩:=h
 cases ro
 obtain⟨t,rfl⟩:=ri
 obtain⟨its,n,r,ho,hz⟩:=I.lst hp
 obtain⟨h1,h2,h3,h4⟩:=wq hj
 have hl:=r.length
 have hn:=lG
 have I':Inv X pins σ (upd H p (.lst (xs.set j v))) {s with heap:=s.heap.update p (Obj.mapSeq (·.setIfInBounds j u))}:=
  I.lstUpd hp ho (uO its n j u) (r.set rv j) (by rw[Lx];exact hz) s.toks
 by_cases h0:0<=k
 ·have hk:k.toNat=j:=by
   rw[seqIndex_of h0 h4] at h1
   exact Option.some.inj h1
  exact PySem.W.ki_setAt ho h0 (by omega) (by rw[KJ,<-hl];exact h4) (by rw[hk];exact⟨_,I',q⟩)
 ·have hk:(k + (its.toArray.size:Int)).toNat=j:=by
   rw[seqIndex_neg (by omega) h3] at h1
   rw[KJ,<-hl]
   exact Option.some.inj h1
  exact PySem.W.ki_setBack ho (by omega) (by rw[KJ,<-hl];exact h3) (by omega) (by rw[hk];exact⟨_,I',q⟩)
def qu (lo hi:Option Int)(n:Nat):(sliceBounds lo hi none n).1=((HT.vm n 0 lo:Nat):Int)/\(sliceBounds lo hi none n).2.1=((HT.vm n n hi:Nat):Int)/\(sliceBounds lo hi none n).2.2=1:=by
 refine⟨?_,?_,rfl⟩
 ·cases lo with
  |none=>simp[sliceBounds,HT.vm]
  |some i=>
   simp only[sliceBounds,HT.vm,Option.getD_none,show (1:Int) > 0 by decide,LD]
   by_cases h:i < 0
   ·simp only[h,LD] <;> omega
   ·simp only[h,Lh] <;> omega
 ·cases hi with
  |none=>simp[sliceBounds,HT.vm]
  |some i=>
   simp only[sliceBounds,HT.vm,Option.getD_none,show (1:Int) > 0 by decide,LD]
   by_cases h:i < 0
   ·simp only[h,LD] <;> omega
   ·simp only[h,Lh] <;> omega
def oV (its:List Value)(lo hi:Option Int):slicePick its.toArray lo hi none=((its.drop (HT.vm its.length 0 lo)).take (HT.vm its.length its.length hi - HT.vm its.length 0 lo)).toArray:=by
 obtain⟨h1,h2,h3⟩:=qu lo hi its.toArray.size
 unfold slicePick
 rw[h1,h2,h3]
 simp only[sliceRange_one,pick_run,KJ] <;> rfl
def IQ (K:Frag):V->Option Int->Option Int->Hp->VK->Prop:=λx lo hi H Q=>∃a xs,x=.ref a/\e8 K H a xs/\∀p,H p=none->Q (.ref p) (upd H p (.lst (Cp xs lo hi)))
def IF:Kh X (IQ X.K):=by
 intro pins s σ H x v vl vu lo hi sl Q I rx hs pl pu h
 obtain⟨a,xs,rfl,hx,q⟩:=h
 cases rx
 obtain⟨its,r,ht,hz⟩:=I.list hx
 have hlen:=r.length
 refine⟨"list",_,slot_list_getitem.lookup,ht.isList.typeIs,?_⟩
 refine wpAny_getItem_list_slice ht.isList hs pl pu .none (by simp) ?_ (by rw[KJ] <;> omega)
 rw[oV,<-hlen]
 refine⟨.ref s.heap.objs.size,_,I.laid (t':=s.toks) (o:=.lst (Cp xs lo hi)) (λb ob q=>Kl _ q) (Km _) ?_,rfl,q _ (I.hok.fresh (Km _))⟩
 exact⟨Ls (tR xs lo hi) hz,_,0,(r.drop (HT.vm xs.length 0 lo)).take (HT.vm xs.length xs.length hi - HT.vm xs.length 0 lo),Ky _ rfl⟩
def qZ:cp X (.type "list") (λxs H Q=>∃p ys,xs= [.ref p]/\(e8 X.K H p ys\/dA X.K H p ys)/\∀l,H l=none->Q (.ref l) (upd H l (.lst ys))):=by
 intro pins s σ H xs us Q I r h
 obtain⟨p,ys,rfl,hq,q⟩:=h
 obtain⟨u,rfl,rx⟩:=vals1 r
 cases rx
 have fin:∀(its:List Value),Vals ys its->ys.length<=sizeLine->∀(h':Heap) (c':Nat),(∀b o',s.heap.get? b=some o'->h'.get? b=some o')->
   h'.get? s.heap.objs.size=some {cls:=.type "list",dict:=none,data:=.seq its.toArray c',slots:=#[]}->EP X pins σ Q (.ref s.heap.objs.size) {s with heap:=h'}:=λits r' hz h' c' kp e=>
  ⟨.ref s.heap.objs.size,_,I.laid (t':=s.toks) kp (Km _) (show bK X.prog X.w _ h' _ (.lst ys) from⟨hz,its,c',r',e⟩),rfl,q _ (I.hok.fresh (Km _))⟩
 rcases hq with hq |hq
 ·obtain⟨its,r',pl,hz⟩:=I.list hq
  have hlen:=r'.length
  obtain⟨o,ho,hc,n,hd⟩:=pl.isList
  exact call_list_seq p (.inl rfl) ho hc hd (λh' c' kp e=>fin its r' hz h' c' kp e) (by simp only[KJ] <;> omega)
 ·obtain⟨its,r',pl,hz⟩:=I.tuple hq
  have hlen:=r'.length
  obtain⟨o,ho,hc,n,hd⟩:=pl
  exact call_list_seq p (.inr rfl) ho hc hd (λh' c' kp e=>fin its r' hz h' c' kp e) (by simp only[KJ] <;> omega)
def gL:cp X (.type "tuple") (λxs H Q=>∃p ys,xs= [.ref p]/\((e8 X.K H p ys/\∀l,H l=none->Q (.ref l) (upd H l (.tup ys)))\/(dA X.K H p ys/\Q (.ref p) H))):=by
 intro pins s σ H xs us Q I r h
 obtain⟨p,ys,rfl,h⟩:=h
 obtain⟨u,rfl,rx⟩:=vals1 r
 cases rx
 rcases h with⟨hq,q⟩ | ⟨hq,q⟩
 ·obtain⟨its,r',pl,hz⟩:=I.list hq
  have hlen:=r'.length
  refine call_tuple_list pl.isList (λh' kp=>?_) (by simp only[KJ] <;> omega)
  have I1:Inv X pins σ H {s with heap:=h'}:=I.kept (t':=s.toks) kp
  have I2:Inv X pins σ (upd H h'.objs.size (.tup ys)) {s with heap:=h'.push {cls:=.type "tuple",data:=.seq its.toArray}}:=
   I1.laid (t':=s.toks) (λb o e=>Kl _ e) (Km _) (show bK X.prog X.w _ _ _ (.tup ys) from⟨hz,its,r',oO.new _ _⟩)
  exact⟨.ref h'.objs.size,_,I2,rfl,q _ (I1.hok.fresh (Km _))⟩
 ·obtain⟨its,r',pl,hz⟩:=I.tuple hq
  exact call_tuple_same pl ⟨.ref p,H,I,rfl,q⟩
def J4 (K:Frag)(T:String)(x:V)(H:Hp):Prop:=match x with
 | .str _=>T="str"
 | .int _=>T="int"
 | .ref p=>(T="list"/\∃xs,e8 K H p xs)\/(T="tuple"/\∃o,K.lookup p=some o/\o.cls=.type "tuple"/\o.dict=none)\/
   (T="dict"/\((∃kvs,H p=some (.dK kvs))\/∃kvs,H p=some (.dT kvs)))\/(T="set"/\∃S n,H p=some (.set S n))
 |_=>False
theorem Eo {pins:List (Addr×Obj)}{σ:St}{H:Hp}{s:Shared}{T:String}{x:V}{v:Value}(I:Inv X pins σ H s)(r:RelV x v)(ty:J4 X.K T x H) :
  s.TypeIs v T/\∀a,v=.ref a->∃ob,s.heap.get? a=some ob/\ob.dict=none:=by
 cases x with
 |str z=>
  obtain⟨t,rfl⟩:=r
  cases (show T="str" from ty)
  exact⟨typeIs_str s z t,λ_ e=>nomatch e⟩
 |int i=>
  obtain⟨t,rfl⟩:=r
  cases (show T="int" from ty)
  exact⟨typeIs_int s i t,λ_ e=>nomatch e⟩
 |ref p=>
  cases r
  rcases ty with⟨rfl,xs,hq⟩ | ⟨rfl,o,hk,hc,hd⟩ | ⟨rfl,hk⟩ | ⟨rfl,S,n,hk⟩
  ·obtain⟨its,_,pl,_⟩:=I.list hq
   refine⟨pl.isList.typeIs,λa e=>?_⟩
   cases e
   obtain⟨o,n,e,c,hd,_⟩:=pl
   exact⟨o,e,hd⟩
  ·refine⟨⟨o,I.kIn p o hk,hc⟩,λa e=>?_⟩
   cases e
   exact⟨o,I.kIn _ o hk,hd⟩
  ·have z:∃o,s.heap.get? p=some o/\o.ExactDict:=by
    rcases hk with⟨kvs,hk⟩ | ⟨kvs,hk⟩
    ·obtain⟨_,_,_,_,o,_,_,e,ex,_⟩:=I.hok p _ hk
     exact⟨o,e,ex⟩
    ·obtain⟨_,_,_,_,o,_,_,e,ex,_⟩:=I.hok p _ hk
     exact⟨o,e,ex⟩
   obtain⟨o,e,ex⟩:=z
   refine⟨⟨o,e,ex.1⟩,λa e2=>?_⟩
   cases e2
   exact⟨o,e,ex.2.1⟩
  ·obtain⟨o,_,_,_,e,ex,_⟩:=I.hok p _ hk
   refine⟨⟨o,e,ex.1⟩,λa e2=>?_⟩
   cases e2
   exact⟨o,e,ex.2.1⟩
 |_=>exact False.elim ty
def J6 (K:Frag)(T:String)(r:V->List V->Hp->VK->Prop)(to:TE)(t:TA):TE:=λσ H Q=>to σ H λx H1=>J4 K T x H1/\t σ H1 λxs H2=>r x xs H2 Q
variable {o e:Expr}{es:List Expr}{to:TE}{t:TA}{name:Str}{apos cpos:Pos}{T id:String}{r:V->List V->Hp->VK->Prop}
def AV (pa:PlainAttrs T)(slot:Slot T name id)(hty:typeOf (.builtin id)=pure (.type "method_descriptor"))(hm:Ka X id r)(ho:PE X o to)(ha:PA X (e :: es) t)
  (hbase:attributeBase o name X.env (eval o X.env)=eval o X.env:=by rfl)
  (hfew:((backTo cpos (starEach (e :: es) X.env)).all (λx=> !x.1) && (backToKw cpos (keywordEach [] X.env)).all (λx=>x.1.isSome)
   && decide ((e :: es).length + ([]:List Keyword).length + (if ([]:List Keyword).isEmpty then 0 else 1) < 30))=true:=by rfl)
  (hline:(apos.endLine == cpos.line)=true:=by rfl) (hs:starEach (e :: es) X.env=(false,eval e X.env) :: starEach es X.env:=by rfl) (hplain:(backTo cpos (starEach es X.env)).any (·.1)=false:=by rfl) :
  PE X (.Call (.Attribute o name apos) (e :: es) [] cpos) (J6 X.K T r to t):=by
 intro pins s σ H Q I h
 refine wpAny_Call_method_late hbase hfew hline rfl (cn (ho pins s σ H _ I h) λv s1 ⟨x,H1,I1,r1,ty,q1⟩=>?_)
 obtain⟨h1,h2⟩:=Eo I1 r1 ty
 refine⟨T,id,pa,slot,hty,h1,h2,?_⟩
 have hA:=ha cpos pins s1 σ H1 _ I1 q1
 rw[hs] at hA ⊢
 refine Calls.callWith_builtin (by show (false || (backTo cpos (starEach es X.env)).any (·.1))=false;rw[hplain] <;> rfl) (Calls.evalArgs_plain ?_)
 exact cn hA λus s2 ⟨vs,H2,I2,r2,q2⟩=>hm pins s2 σ H2 x vs v us Q I2 r1 r2 q2
end
def JY (X:Cx)(id:String)(r:V->List V->Hp->VK->Prop):Prop:=
 ∀(pins:List (Addr×Obj)) (s:Shared) (σ:St) (H:Hp) (x:V) (xs:List V) (v:Value) (us:List Value) (Q:VK),Inv X pins σ H s->RelV x v->Vals xs us->r x xs H Q->
  wpAny (model X.prog X.w) X.A (call (.builtin id) (v :: us)) (EP X pins σ Q) X.xe s
theorem Vals.one:∀{x:V} {us:List Value},Vals [x] us->∃u,us= [u]/\RelV x u
 |_,_,.cons r .nil=>⟨_,rfl,r⟩
theorem Vals.eraseIdx:∀{xs:List V} {us:List Value} (i:Nat),Vals xs us->Vals (xs.eraseIdx i) (us.eraseIdx i)
 |_,_,_,.nil=>.nil
 |_,_,0,.cons _ t=>t
 |_,_,i + 1,.cons r t=>.cons r (Vals.eraseIdx i t)
theorem Vals.rep {xs:List V}{us:List Value}(h:Vals xs us):∀k:Nat,Vals (List.replicate k xs).flatten (List.replicate k us).flatten
 | 0=>.nil
 |k + 1=>by
  rw[Ll,Ll,LV,LV]
  exact Vals.append h (Vals.rep h k)
theorem pG {α:Type}:∀(l:List α) (i:Nat),(l.eraseIdx i).length<=l.length
 | [],_=>Km _
 |_ :: _,0=>Nat.le_succ _
 |_ :: r,i + 1=>Nat.succ_le_succ (pG r i)
theorem foldl_rep (its:List Value):∀(k:Nat) (acc:List Value),
  List.foldl (λx1 x2=>x1 ++ x2) acc.toArray (List.replicate k its.toArray)=(acc ++ (List.replicate k its).flatten).toArray
 | 0,acc=>by simp
 |k + 1,acc=>by
  have e:acc.toArray ++ its.toArray=(acc ++ its).toArray:=by simp
  have e2:(acc ++ its) ++ (List.replicate k its).flatten=acc ++ (List.replicate (k + 1) its).flatten:=by
   rw[Ll,LV,Lj]
  rw[<-e2,<-foldl_rep its k (acc ++ its),<-e,Ll,MV]
section
variable {X:Cx}{pins:List (Addr×Obj)}{σ:St}{H:Hp}{s:Shared}{l b:Addr}{xs ys zs:List V}
def Inv.lset {its its':List Value}{n:Nat}{f:Array Value->Array Value}{t':Nat}(I:Inv X pins σ H s)(hH:H l=some (.lst xs))
  (e:s.heap.get? l=some {cls:=.type "list",data:=.seq its.toArray n}) (hf:f its.toArray=its'.toArray) (hv:Vals ys its') (hz:ys.length<=sizeLine) :
  Inv X pins σ (upd H l (.lst ys)) {s with heap:=s.heap.update l (Obj.mapSeq f),toks:=t'}:=by
 have q:=PySem.IsL.update e f
 rw[hf] at q
 refine I.write (x:=l) (e:=l) (by rw[hH];exact trivial) (.inl rfl) (λb' u hb hu=>(LA s.heap (Obj.mapSeq f) (Ne.symm hb)).trans hu) ⟨_,q⟩ ?_
 exact⟨hz,its',_,hv,q⟩
def Inv.lnew {its:List Value}{t':Nat}(I:Inv X pins σ H s)(hv:Vals ys its)(hz:ys.length<=sizeLine) :
  Inv X pins σ (upd H s.heap.objs.size (.lst ys)) {s with heap:=s.heap.push {cls:=.type "list",data:=.seq its.toArray},toks:=t'}:=
 I.laid (λ_ _ q=>Kl _ q) (Km _) ⟨hz,its,0,hv,Ky _ rfl⟩
def Inv.fresh (I:Inv X pins σ H s):H s.heap.objs.size=none:=I.hok.fresh (Km _)
def Inv.lstM (I:Inv X pins σ H s)(hH:H l=some (.lst xs)):xs.length<=sizeLine/\∃(its:List Value) (n:Nat),Vals xs its/\xs.length=its.length/\s.heap.get? l=some {cls:=.type "list",data:=.seq its.toArray n}:=by
 obtain⟨z,its,n,r,e⟩:=I.hok l _ hH
 exact⟨z,its,n,r,r.length,e⟩
def zT {n:Nat}(h:n<=sizeLine):Builtin.List.listTooLong n=false:=by
 unfold Builtin.List.listTooLong
 exact KA (by omega)
end
section
variable {X:Cx}
def CN:V->List V->Hp->VK->Prop:=λx vs H Q=>∃l xs y,x=.ref l/\vs= [y]/\H l=some (.lst xs)/\xs.length < sizeLine/\Q .non (upd H l (.lst (xs ++ [y])))
def lr:JY X "list.append" CN:=by
 intro pins s σ H x vs v us Q I rx rv h
 obtain⟨l,xs,y,rfl,rfl,hH,hz,q⟩:=h
 cases rx
 obtain⟨u,rfl,ru⟩:=rv.one
 obtain⟨z,its,n,r,hl,e⟩:=I.lstM hH
 refine call_meets F.slot_list_append ⟨_,e,rfl⟩ F.entry_list_append (F.args_list_append_2 _ _) (PySem.list_append l its.toArray n u (by rw[KJ];omega)) ⟨e,?_⟩
 refine⟨.non,_,I.lset (its':=its ++ [u]) hH e (by simp) (r.append (.cons ru .nil)) ?_,rfl,q⟩
 rw[KO,L1]
 omega
def EO:V->List V->Hp->VK->Prop:=λx vs H Q=>∃l xs i k y,x=.ref l/\vs= [.int i]/\H l=some (.lst xs)/\ -(2 ^ 63)<=i/\i < 2 ^ 63/\seqIndex? i xs.length=some k/\xs[k]? =some y/\Q y (upd H l (.lst (xs.eraseIdx k)))
def zu:JY X "list.pop" EO:=by
 intro pins s σ H x vs v us Q I rx rv h
 obtain⟨l,xs,i,k,y,rfl,rfl,hH,h1,h2,hk,hy,q⟩:=h
 cases rx
 obtain⟨u,rfl,ru⟩:=rv.one
 obtain⟨t,rfl⟩:=ru
 obtain⟨z,its,n,r,hl,e⟩:=I.lstM hH
 obtain⟨w,hw,rw'⟩:=r.get hy
 refine call_meets F.slot_list_pop ⟨_,e,rfl⟩ F.entry_list_pop (F.args_list_pop_2 _ _)
  (MeetsSeq.list_pop_at l its.toArray n i t k w (fitsIndex_both h1 h2) (by rw[KJ,<-hl];exact hk) (by rw[<-L3];exact hw) (by rw[KJ];omega)) ⟨e,?_⟩
 refine⟨y,_,I.lset (its':=its.eraseIdx k) hH e ?_ (r.eraseIdx k) ?_,rw',q⟩
 ·show its.toArray.eraseIdxIfInBounds k=(its.eraseIdx k).toArray
  rw[List.eraseIdxIfInBounds_toArray]
 ·have:=pG xs k
  omega
def Js:R2:=λx y H Q=>∃l k xs,x=.ref l/\y=.int k/\H l=some (.lst xs)/\ -(2 ^ 63)<=k/\k < 2 ^ 63/\xs.length * k.toNat<=sizeLine/\
 ∀p,H p=none->Q (.ref p) (upd H p (.lst (List.replicate k.toNat xs).flatten))
theorem len_rep {α:Type}(xs:List α)(k:Nat):(List.replicate k xs).flatten.length=k * xs.length:=by
 induction k with
 |zero=>simp
 |succ k ih=>rw[Ll,LV,KO,ih,Nat.succ_mul,Nat.add_comm]
def Au:jW X (binaryOp .Mult) Js:=by
 intro pins s σ H x y v u Q I rx ry h
 obtain⟨l,k,xs,rfl,rfl,hH,h1,h2,hz,q⟩:=h
 cases rx
 obtain⟨t,rfl⟩:=ry
 obtain⟨z,its,n,r,hl,e⟩:=I.lstM hH
 have hlen:its.toArray.size * k.toNat<=sizeLine:=by rw[KJ,<-hl];exact hz
 have hcap:¬its.toArray.size * k.toNat > (2 ^ 63 - 1) / 8:=by
  have:(sizeLine:Nat)<=(2 ^ 63 - 1) / 8:=by decide
  omega
 have hfit:¬(!Builtin.List.listFitsIndex k)=true:=by
  rw[fitsIndex_both h1 h2]
  exact KN
 have hlong:¬Builtin.List.listTooLong (its.toArray.size * k.toNat)=true:=by
  rw[zT hlen]
  exact KN
 have hnew:List.foldl (λx1 x2=>x1 ++ x2) #[] (List.replicate (if its.toArray.isEmpty=true then 0 else k.toNat) its.toArray)=(List.replicate k.toNat its).flatten.toArray:=by
  have f0:∀m:Nat,List.foldl (λx1 x2=>x1 ++ x2) #[] (List.replicate m its.toArray)=(List.replicate m its).flatten.toArray:=λm=>by
   have:=foldl_rep its m []
   rw[MW] at this
   exact this
  rw[f0]
  cases its with
  |nil=>simp
  |cons a r'=>rw[Ku (by simp)]
 refine wpAny_binaryOp_repeat_ref (T:="list") (U:="int") (by decide) ⟨_,e,rfl⟩ (λs'=>typeIs_int s' k t) noFill_list_mul F.fills_int_mul F.slot_int_rmul repeat_list F.slot_int_index.lookup
  (call_meets F.slot_int_rmul (typeIs_int s k t) F.entry_int_rmul (F.args_int_rmul_2 _ _) (int___rmul___int_list k t l its.toArray n)
   ⟨e,rfl,⟨_,e,rfl⟩,call_meets F.slot_list_mul ⟨_,e,rfl⟩ F.entry_list_mul (F.args_list_mul_2 _ _) (AutoListH.list___mul___list_int_3 l its.toArray n k t hfit hcap hlong) ⟨e,?_⟩⟩)
 rw[hnew]
 exact⟨.ref _,_,I.lnew (t':=s.toks) (r.rep k.toNat) (by rw[len_rep,Nat.mul_comm];exact hz),rfl,q _ I.fresh⟩
end
end L2
namespace Att
open PySem PySem.W PySem.Calls PyProof.Rows
theorem mn {P:Params}{h:Heap}:∀(ns:List Int) (vs:List Value),WellAll P h vs (ns.map WData.int)->IntsAre vs ns:=by
 intro ns
 induction ns with
 |nil=>
  intro vs w
  rw[List.map_nil] at w
  cases w
  exact .nil
 |cons n ns ih=>
  intro vs w
  rw[K7] at w
  cases w with
  |cons a b=>
   cases a
   exact .cons _ _ (ih _ b)
theorem yT {l:OpenLaw}{n:Nat}(hn:l.most=some n){P:Params}{h:Heap}{args:List WData}{vals:List Value}
  (hpre:l.row.toRowW.claim.pre args=true) (hwl:WellAll P h vals args) :
  ∃a vs ns,vals= [Value.ref a]/\args= [WData.list (ns.map WData.int)]/\h.get? a=some {cls:=.type "list",data:=.seq vs.toArray}/\IntsAre vs ns/\ns.length<=n:=by
 have hsh:WShape.hasAll [] args [.list .int]=true:=(pre_splitW hpre).1
 have hc:l.pre.holds [] {args:=args}=true:=(pre_splitW hpre).2
 obtain⟨d,r,rfl,h1,h2⟩:=hasAllW_cons hsh
 obtain rfl:=hasAllW_nil h2
 obtain⟨xs,rfl,h3⟩:=hasW_list h1
 obtain⟨ns,rfl⟩:=items_int h3
 have hlen:ns.length<=n:=by
  unfold OpenLaw.pre at hc
  have h4:(WTm.not (.lt (.lit (.int (n:Int))) (.len (.arg 0)))).holds [] {args:=[.list (ns.map .int)]}=true:=by
   have h4:=(holds_andW hc).1
   rw[hn] at h4
   exact h4
  have h5:=condW_of h4 (w_not (w_lt w_lit (w_len_list (w_arg rfl))))
  rw[Kx] at h5
  refine Nat.le_of_not_lt λq=>?_
  have q':(n:Int) < ((ns.length:Nat):Int):=by omega
  first
   | (rw[Kt q'] at h5;exact absurd h5 (by decide))
   | (simp at h5;omega)
 cases hwl with
 |cons w1 w2=>
  cases w2
  cases w1 with
  |list ho hall=>exact⟨_,_,ns,rfl,rfl,ho,mn ns _ hall,hlen⟩
def za (l:OpenLaw)(args:List WData):l.row.toRowW.claim.post args (.bool true) args=true:=
 postW_of (r:=l.row.toRowW) (X:=(true == true))
  (show WShape.has [] (.bool true) .bool=true by first |rfl |decide |simp[WShape.has,WShape.arms,WShape.armsAll])
  (show (WTm.eq .res (.lit (.bool true))).value [] {args:=args,res:=some (.bool true),after:=args}=some (.bool (true == true)) from w_eq_bool (w_res rfl) w_lit) rfl
def so {l:OpenLaw}{n:Nat}{q:Program}{loose:List Str}{XP:(Str->Option Value)->Heap->Prop}{YP:World->Heap->Prop}{d:DefRec}
  (hn:l.most=some n) (hdf:d.params.defaults= [])
  (call:∀(w:World) (s₀ s₁:Shared) (mg mb:Str->Option Value) (fa:Addr) (o:Obj) (pm cd doc:Value) (a:Addr) (vs:List Value) (ns:List Int),
   Ground q loose [] XP w s₀ mg mb s₁.heap->YP w s₁.heap->
   s₁.heap.get? fa=some o->o.data=.func (docDef d.name d.params d.body d.scope pm cd doc)->s₁.heap.CodeRec cd d.name->mg d.name=some (.ref fa)->
   s₁.heap.get? a=some {cls:=.type "list",data:=.seq vs.toArray}->IntsAre vs ns->ns.length<=n->s₁.gens=#[]->
   codeAny (model l.prog w) callerA (.call (.ref fa) ⟨[.ref a],[]⟩) (λr s'=>r=.ok (.ret (.bool true))/\OldK s₁.heap s'.heap/\s'.os=s₁.os/\AllBare s'.gens) s₁) :
  WalkO q loose XP YP l.row.toRowW d [] (λf vs=>PySem.call f vs):=by
 intro w s₀ s₁ mg mb G Y fa o pm cd doc dV kV ho hd hcd hD hmg hg args vals as hpre hlay hrd hwl hlo
 obtain rfl:dV=.none:=Dflts.none hD hdf
 obtain rfl:kV=.none:=Dflts.noKw hD
 obtain⟨a,vs,ns,rfl,rfl,hobj,hints,hlen⟩:=yT hn hpre hwl
 refine enter_call (Mv (call w s₀ s₁ mg mb fa o pm cd doc a vs ns G Y ho (fd_plain hd) hcd hmg hobj hints hlen hg) λr s' hq=>?_)
 obtain⟨rfl,h2,h3,h4⟩:=hq
 exact⟨.inl ⟨.bool true,.bool true,[],rfl,λ_=>rfl,.bool true,za l _,λ_=>⟨List.Pairwise.nil,λ_ hm=>(nomatch hm)⟩⟩,h2,h3,h4⟩
end Att
namespace L2
open PySem PySem.Spec PyProof.Rows
theorem pQ:∀{vs:List Value} {ns:List Int},IntsAre vs ns->Vals (ns.map V.int) vs
 |_,_,.nil=>.nil
 |_,_,.cons n t h=>.cons ⟨t,rfl⟩ (pQ h)
def FL (H:Hp):Prop:=∀b,H b=none\/∃o xs,H b=some (.bb o (.lst xs))
theorem z6 {P:Program}{w:World}{K:Frag}{mg mb:Str->Option Value}{CX:yy}{k:Nat}{fa a:Addr}{fd:FuncData}{x:Str}{sp:Sp}{s₁:Shared}{vs:List Value}{ns:List Int}
  (KX:K.In s₁.heap) (hns:s₁.heap.Ns mainGlobals mg) (hb:s₁.heap.Ns builtinsNs mb) (hbb:∀x:Str,x≠"__name__"->mb x=bootBuiltins x) (hlim:s₁.heap.NoLimit) (hsys:∃mm,s₁.heap.Ns sysModules mm) (hg:s₁.gens=#[])
  (ha:s₁.heap.get? a=some {cls:=.type "list",data:=.seq vs.toArray}) (hi:IntsAre vs ns) (hl:ns.length<=sizeLine) (hr:dC k callerA)
  (F:∀base:Heap,K.In base->base.Ns mainGlobals mg->eQ P w K mg base CX k fa fd [x] sp) (hbind:∀(s:Shared) (u:Value),BindsTo s fd ⟨[u],[]⟩ [(x,u)])
  (hsp:∀H:Hp,FL H->e8 K H a (ns.map V.int)->sp [.ref a] H (λv _=>v=.bl true) λ_ _ _=>False)
  (hCX:∀H e s',CX [] H s₁ (λ_ _ _=>False) e s'->False) :
  codeAny (model P w) callerA (.call (.ref fa) ⟨[.ref a],[]⟩) (λr s'=>r=.ok (.ret (.bool true))/\OldK s₁.heap s'.heap/\s'.os=s₁.os/\AllBare s'.gens) s₁:=by
 have rv:=pQ hi
 have lenV:=hi.length
 have core:∀H:Hp,FL H->e8 K H a (ns.map V.int)->jz P w H s₁.heap->(∀b,H b≠none->b=a)->(H a≠none->K.lookup a=none)->
   codeAny (model P w) callerA (.call (.ref fa) ⟨[.ref a],[]⟩) (λr s'=>r=.ok (.ret (.bool true))/\OldK s₁.heap s'.heap/\s'.os=s₁.os/\AllBare s'.gens) s₁:=by
  intro H hO hS hok hA hK
  have base_of:∀{b:Addr} {o:Obj},s₁.heap.get? b=some o->H b=none->(qI s₁.heap H).get? b=some o:=λe n=>zl e n
  have noA:∀{b:Addr} {o:Obj} {es:Array DictEntry} {ep:Nat},s₁.heap.get? b=some o->o.data=.dict es ep->H b=none:=λ{b o es ep} e d=>by
   cases q:H b with
   |none=>rfl
   |some u=>
    have e':b=a:=hA b (by rw[q];simp)
    subst e'
    rw[ha] at e;cases e
    have d':Data.seq vs.toArray _=Data.dict es ep:=d
    cases d'
  have nsK:∀{b:Addr} {m:Str->Option Value},s₁.heap.Ns b m->(qI s₁.heap H).Ns b m:=λ{b m} ⟨o,es,ep,e,d,r⟩=>⟨o,es,ep,base_of e (noA e d),d,r⟩
  have hKb:K.In (qI s₁.heap H):=λb o e=>base_of (KX b o e) (by
   cases q:H b with
   |none=>rfl
   |some u=>
    have e':b=a:=hA b (by rw[q];simp)
    subst e'
    rw[hK (by rw[q];simp)] at e;cases e)
  have hM:Mod K mg (qI s₁.heap H):=⟨hKb,nsK hns,⟨mb,nsK hb,hbb⟩,let ⟨mc,h1,h2⟩:=hlim;⟨mc,nsK h1,h2⟩,let ⟨mm,h1⟩:=hsys;⟨mm,nsK h1⟩⟩
  have e0:CS P w K mg (qI s₁.heap H) callerA [] s₁ H:=⟨rfl,hM,λb o e=>CD e,Nat.le_of_eq (xT _ _),trivial,λb hb=>absurd (show b∈([]:List Addr) from hb) (by simp),hok,.of_eq hg⟩
  refine Mv ((F _ hKb (nsK hns)).run callerA [] s₁ H ⟨[.ref a],[]⟩ [.ref a] [.ref a] _ _ hr e0 (hbind s₁ (.ref a)) (.cons rfl .nil) (hsp H hO hS)) λr s' h=>?_
  cases r with
  |error e=>exact (hCX H e s' h).elim
  |ok fl=>
   cases fl with
   |next=>exact False.elim h
   |brk=>exact False.elim h
   |cont=>exact False.elim h
   |ret u=>
    obtain⟨v,H',os,bare,un,hok',r',q⟩:=h
    have q':v=.bl true:=q
    subst q'
    obtain rfl:u=Value.bool true:=r'
    refine⟨rfl,OldK.of_keep λb o e=>?_,os,bare⟩
    cases q:H b with
    |none=>exact un.keep b o e q (by intro z;exact absurd (show b∈([]:List Addr) from z) (by simp)) (by simp)
    |some u=>
     rcases hO b with z | ⟨ob,xs,z⟩
     ·rw[q] at z;cases z
     ·have z2:=un.frzs b ob _ z
      obtain⟨e1,_⟩:=hok b _ z
      obtain⟨e2,_⟩:=hok' b _ z2
      rw[e] at e1;cases e1
      exact e2
 cases hk:K.lookup a with
 |some o=>
  have e:=KX a o hk
  rw[ha] at e
  cases e
  refine core (λ_=>none) (λ_=>.inl rfl) (.inr ⟨_,vs.toArray,_,hk,rfl,rfl,rfl,by rw[KJ,lenV];exact hl,by simpa using rv⟩) (λb u z=>by have z':(none:Option HO)=some u:=z;cases z') (λb z=>absurd rfl z) λz=>absurd rfl z
 |none=>
  refine core (λb=>if b=a then some (.bb {cls:=.type "list",data:=.seq vs.toArray} (.lst (ns.map V.int))) else none) (λb=>?_) (.inl (.inr ⟨{cls:=.type "list",data:=.seq vs.toArray},Kn rfl⟩)) (λb u z=>?_) (λb z=>?_) λ_=>hk
  ·by_cases hb:b=a
   ·exact .inr ⟨_,_,Kn hb⟩
   ·exact .inl (Ku hb)
  ·by_cases hb:b=a
   ·have z':=(Kn hb).symm.trans z
    cases z'
    subst hb
    exact⟨ha,by rw[Kx];exact hl,vs,_,rv,ha⟩
   ·have z':=(Ku hb).symm.trans z
    cases z'
  ·by_cases hb:b=a
   ·exact hb
   ·exact absurd (Ku hb) z
def Ci {l:PySem.W.OpenLaw}{n k:Nat}{q:Program}{loose:List Str}{XP:(Str->Option Value)->Heap->Prop}{YP:World->Heap->Prop}{d:DefRec}{K:Params->Frag}{CX:World->yy}{sp:World->Sp}{x:Str}
  (hn:l.most=some n) (hn2:n<=sizeLine) (hdf:d.params.defaults= []) (hi:PyProof.Rows.importsNone q=true) (hr:dC k callerA)
  (hY:∀(w:World) (h:Heap),YP w h->(K w.params).In h)
  (F:∀(w:World) (mg:Str->Option Value) (fa:Addr) (h:Heap),(K w.params).In h->h.Ns mainGlobals mg->mg d.name=some (.ref fa)->
   ∃fd:FuncData,(∀(s:Shared) (u:Value),BindsTo s fd ⟨[u],[]⟩ [(x,u)])/\
    ∀base:Heap,(K w.params).In base->base.Ns mainGlobals mg->eQ l.prog w (K w.params) mg base (CX w) k fa fd [x] (sp w))
  (hsp:∀(w:World) (H:Hp) (a:Addr) (ns:List Int),ns.length<=n->FL H->e8 (K w.params) H a (ns.map V.int)->sp w [.ref a] H (λv _=>v=.bl true) λ_ _ _=>False)
  (hCX:∀(w:World) (H:Hp) (s:Shared) (e:Value) (s':Shared),CX w [] H s (λ_ _ _=>False) e s'->False) :
  PySem.W.WalkO q loose XP YP l.row.toRowW d [] (λf vs=>PySem.call f vs):=by
 refine Att.so hn hdf λw s₀ s₁ mg mb fa o pm cd doc a vs ns G Y ho hd hcd hmg hobj hints hlen hg=>?_
 have KX:=hY w _ Y
 obtain⟨fd,hb,hF⟩:=F w mg fa _ KX G.T.g hmg
 exact z6 KX G.T.g G.T.b G.T.builtins G.T.nolimit (let ⟨mm,h1,_⟩:=(G.T.seer hi).mods;⟨mm,h1⟩) hg hobj hints (Ls hlen hn2) hr hF hb (λH hO hS=>hsp w H a ns hlen hO hS) λH e s'=>hCX w H s₁ e s'
def gy (s:Stmt):Arguments:=match s with
 | .FunctionDef _ a _ _ _ _ _ _ _ _=>a
 |_=>{posonlyargs:=[],args:=[],vararg:=none,kwonlyargs:=[],kw_defaults:=[],kwarg:=none,defaults:=[]}
def cx (s:Stmt):List Stmt:=match s with
 | .FunctionDef _ _ b _ _ _ _ _ _ _=>b
 |_=>[]
def av (s:Stmt):Scope:=match s with
 | .FunctionDef _ _ _ _ _ _ sc _ _ _=>sc
 |_=>{kind:=.function,names:=[],isGenerator:=false,isCoroutine:=false}
abbrev E8:yy:=λ_ _ _ _ _ _=>False
abbrev E0:XK:=λ_ _ _=>False
def Gu {X:Cx}:Passes E8 X E0:=λ_ _ _ _ _ _ _ h=>h.elim
structure BP (K:Frag)(x qual:Str)(st:Stmt)(f:Addr)(fd:FuncData):Prop where
 ex:∃(oc:Value) (od:Option Addr) (kV doc pm:Value) (an:Option Addr) (cdv ct:Value) (osl:Array (Option Value)),
  fd=PySem.W.fnOf x qual (gy st) (cx st) (av st) .none kV doc pm an cdv ct/\K.lookup f=some ⟨oc,od,.func fd,osl⟩/\PySem.W.codeIn K cdv qual=true
 kp:PySem.W.keepIn K (.ref f)=true
section
variable {P:Program}{w:World}{K:Frag}{mg:Str->Option Value}{base:Heap}
def BP.ok {x qual:Str}{st:Stmt}{f:Addr}{fd:FuncData}{N ps:List Str}{k:Nat}{sp:Sp}(F:BP K x qual st f fd)(S:aL N ps (av st))(len:∀vs H Q E,sp vs H Q E->vs.length=ps.length)
  (hbody:∀(cdv:Value) (A:Around) (outer:List Env) (s:Shared) (H:Hp) (vs:List V) (Q:VK) (E:XK),dC k (A.deeper (envOfC qual (av st) s.heap.objs.size f cdv))->sp vs H Q E->
   ∃t,p8 (jU E8 P w K mg base N qual (av st) f cdv A outer s H E).nox (cx st) t/\t {nx:=λ_ H'=>Q .non H',rt:=Q} (start N vs) H):eQ P w K mg base E8 (k + 1) f fd ps sp:=by
 obtain⟨oc,od,kV,doc,pm,an,cdv,ct,osl,rfl,lk,hcd⟩:=F.ex
 refine D1 lk hcd S len λA outer s H vs Q E hr hsp=>?_
 obtain⟨t,h,q⟩:=hbody cdv A outer s H vs Q E hr hsp
 exact⟨t,h.nox,q⟩
def BP.binds {x qual:Str}{st:Stmt}{f:Addr}{fd:FuncData}{ps:List Str}(F:BP K x qual st f fd)
  (h:∀(kV doc pm:Value) (an:Option Addr) (cdv ct:Value) (us:List Value),us.length=ps.length->bindArgs (PySem.W.fnOf x qual (gy st) (cx st) (av st) .none kV doc pm an cdv ct) ⟨us,[]⟩=pure (ps.zip us)):Binds K fd ps []:=by
 obtain⟨oc,od,kV,doc,pm,an,cdv,ct,osl,rfl,lk,hcd⟩:=F.ex
 exact .all (h kV doc pm an cdv ct)
def uQ {x qual:Str}{st:Stmt}{f:Addr}{oc:Value}{od an:Option Addr}{osl:Array (Option Value)}{kV doc pm cdv ct:Value}(l:K.lookup f=some ⟨oc,od,.func (PySem.W.fnOf x qual (gy st) (cx st) (av st) .none kV doc pm an cdv ct),osl⟩)
  (c:PySem.W.codeIn K cdv qual=true) (k:PySem.W.keepIn K (.ref f)=true):BP K x qual st f (PySem.W.fnOf x qual (gy st) (cx st) (av st) .none kV doc pm an cdv ct):=⟨⟨oc,od,kV,doc,pm,an,cdv,ct,osl,rfl,l,c⟩,k⟩
end
section
variable {X:Cx}
def pv (i:Nat){x:Str}{pos:Pos}(hN:X.N[i]? =some x:=by rfl)(hv:vL X.env.scope x:=by first |exact Or.inl rfl |exact Or.inr (Or.inl rfl) |exact Or.inr (Or.inr rfl))(hd:(x == ("__debug__":Str))=false:=by decide)
  (hcd:(x == ("__classdict__":Str))=false:=by decide):PE X (.Name x pos) (Dw i):=iL hN hv hd hcd
end
def t9 {A B:Prop}(h:B):if false=true then A else B:=by
 rw[Ku KN]
 exact h
def sN {A B:Prop}(h:A):if true=true then A else B:=by
 rw[Kn rfl]
 exact h
def ak (H H':Hp):Prop:=∀b o,H b=some o->H' b=some o
def ak.refl (H:Hp):ak H H:=λ_ _ h=>h
def ak.trans {H H1 H2:Hp}(a:ak H H1)(b:ak H1 H2):ak H H2:=λc o h=>b c o (a c o h)
theorem ak.free {H H':Hp}(e:ak H H'){l:Addr}(h:H' l=Option.none):H l=Option.none:=by
 cases q:H l with
 |none=>rfl
 |some o=>
  rw[e l o q] at h
  cases h
def ak.seq {K:Frag}{H H':Hp}{a:Addr}{xs:List V}(e:ak H H')(h:e8 K H a xs):e8 K H' a xs:=by
 rcases h with (h | ⟨o,h⟩) |h
 ·exact .inl (.inl (e _ _ h))
 ·exact .inl (.inr ⟨o,e _ _ h⟩)
 ·exact .inr h
end L2
end
namespace L2.ST
open PySem PySem.SetTable
abbrev iS (xs:Array Nat):Prop:=xs.toList.Pairwise (· < ·)
def gE {xs:Array Nat}(h:iS xs){i k d:Nat}(hik:i < k)(hk:k < xs.size):xs.getD i d < xs.getD k d:=by
 have hi:i < xs.size:=Nat.lt_trans hik hk
 have:=Mr.mp h i k (by simpa using hi) (by simpa using hk) hik
 simpa[Array.getD,hi,hk] using this
theorem Av {xs:Array Nat}{j:Nat}(h:iS xs):∀(fuel lo hi:Nat),lo<=hi->hi<=xs.size->hi - lo<=fuel->
  (∀i,i < lo->xs.getD i j < j)->(∀i,hi<=i->i < xs.size->j<=xs.getD i j)->
  below.go xs j fuel lo hi<=xs.size/\(∀i,i < below.go xs j fuel lo hi->xs.getD i j < j)/\(∀i,below.go xs j fuel lo hi<=i->i < xs.size->j<=xs.getD i j):=by
 intro fuel
 induction fuel with
 |zero=>
  intro lo hi h1 h2 h3 h4 h5
  have:lo=hi:=by omega
  subst this
  exact⟨h2,h4,h5⟩
 |succ fuel ih=>
  intro lo hi h1 h2 h3 h4 h5
  unfold below.go
  by_cases hlt:lo < hi
  ·rw[Kn hlt]
   dsimp only
   by_cases hm:xs.getD ((lo + hi) / 2) j < j
   ·rw[Kn hm]
    refine ih _ _ (by omega) h2 (by omega) (λi hi'=>?_) h5
    by_cases e:i=(lo + hi) / 2
    ·rw[e];exact hm
    ·exact Nat.lt_trans (gE h (show i < (lo + hi) / 2 by omega) (by omega)) hm
   ·rw[Ku hm]
    refine ih _ _ (by omega) (by omega) (by omega) h4 (λi hi' hs=>?_)
    by_cases e:i=(lo + hi) / 2
    ·rw[e];omega
    ·have:=gE (d:=j) h (show (lo + hi) / 2 < i by omega) hs
     omega
  ·rw[Ku hlt]
   have:lo=hi:=by omega
   subst this
   exact⟨h2,h4,h5⟩
def c6 {xs:Array Nat}(h:iS xs)(j:Nat) :
  below xs j<=xs.size/\(∀i,i < below xs j->xs.getD i j < j)/\(∀i,below xs j<=i->i < xs.size->j<=xs.getD i j):=
 Av h xs.size 0 xs.size (K5 _) (Km _) (by omega) (λi hi=>by omega) (λi h1 h2=>by omega)
def yw {xs:Array Nat}(h:iS xs){i j:Nat}(hi:xs[i]? =some j):below xs j=i:=by
 obtain⟨b1,b2,b3⟩:=c6 h j
 have hs:i < xs.size:=(Lr.mp hi).1
 have hv:xs.getD i j=j:=by rw[Lg,hi];rfl
 rcases M7 i (below xs j) with c |c |c
 ·have:=b2 i c;omega
 ·exact c.symm
 ·have hb:below xs j < xs.size:=by omega
  have q:=b3 (below xs j) (Km _) hb
  have:=gE (d:=j) h c hs
  omega
def wL (j:Nat):has #[] j=false:=by
 unfold has
 simp
def pX {t:SetTable}(h:iS t.place){i j:Nat}(hi:t.place[i]? =some j):t.slot j=.live i:=by
 unfold slot
 dsimp only
 rw[yw h hi,Kn (by simp[hi])]
def vJ {t:SetTable}(hd:t.dummies=#[]){j:Nat}(hj:j∉t.place):t.slot j=.empty:=by
 unfold slot
 dsimp only
 have:¬(t.place[below t.place j]? == some j)=true:=by
  intro e
  have e':t.place[below t.place j]? =some j:=by simpa using e
  obtain⟨h1,h2⟩:=Lr.mp e'
  exact hj (Array.mem_iff_getElem.mpr ⟨_,h1,h2⟩)
 rw[Ku this,hd,wL]
 rfl
def uz (mask:Nat)(p:Probe):Probe:=
 if p.more > 0 then {p with j:=p.j + 1,more:=p.more - 1} else
 {p with j:=(leap mask p.i p.perturb).1,more:=runEnd mask (leap mask p.i p.perturb).1 - (leap mask p.i p.perturb).1,i:=(leap mask p.i p.perturb).1,perturb:=(leap mask p.i p.perturb).2}
def xN (mask i perturb:Nat):Probe:={j:=i,more:=runEnd mask i - i,i,perturb,dummy:=none}
def st (mask:Nat)(h:Int):Probe:=xN mask (bits h % (mask + 1)) (bits h)
def AQ (t:SetTable)(p:Probe):t.advance p=uz t.mask p:=rfl
def D6 (t:SetTable)(h:Int):t.probeStart h=st t.mask h:=rfl
def dI (mask:Nat):Nat->Probe->Probe
 | 0,p=>p
 |n + 1,p=>dI mask n (uz mask p)
theorem jw (mask:Nat):∀(n m:Nat) (p:Probe),dI mask (n + m) p=dI mask m (dI mask n p)
 | 0,m,p=>by rw[Lm];rfl
 |n + 1,m,p=>by rw[Nat.add_right_comm];exact jw mask n m (uz mask p)
def Aw {mask:Nat}{p:Probe}(h:p.dummy=none):(uz mask p).dummy=none:=by
 unfold uz;split <;> exact h
def gZ {mask i:Nat}(h:i<=mask):i<=runEnd mask i/\runEnd mask i<=mask/\runEnd mask i - i<=9:=by
 unfold runEnd;split <;> omega
def In (mask:Nat)(p:Probe):Prop:=p.j + p.more<=mask/\p.more<=9
def EJ {mask i q:Nat}(h:i<=mask):In mask (xN mask i q):=by
 have:=gZ h
 unfold In xN;dsimp only;omega
def kI (mask i q:Nat):(leap mask i q).1<=mask:=by
 unfold leap;exact Nat.lt_succ_iff.mp (MP _ (Nat.succ_pos _))
def FJ {mask:Nat}{p:Probe}(h:In mask p):In mask (uz mask p):=by
 unfold uz
 by_cases hm:p.more > 0
 ·rw[Kn hm];unfold In at *;dsimp only;omega
 ·rw[Ku hm]
  have:=gZ (kI mask p.i p.perturb)
  unfold In;dsimp only;omega
theorem wK {mask:Nat}:∀(n:Nat) {p:Probe},In mask p->In mask (dI mask n p)
 | 0,_,h=>h
 |n + 1,_,h=>wK n (FJ h)
def Gy (mask:Nat)(h:Int):In mask (st mask h):=EJ (Nat.lt_succ_iff.mp (MP _ (Nat.succ_pos _)))
theorem tG (mask:Nat):∀(k:Nat) (p:Probe),p.more=k->dI mask (k + 1) p={p with j:=(leap mask p.i p.perturb).1,more:=runEnd mask (leap mask p.i p.perturb).1 - (leap mask p.i p.perturb).1,i:=(leap mask p.i p.perturb).1,perturb:=(leap mask p.i p.perturb).2}
 | 0,p,h=>by
  show uz mask p=_
  unfold uz
  rw[Ku (by omega)]
 |k + 1,p,h=>by
  have e:uz mask p={p with j:=p.j + 1,more:=p.more - 1}:=by unfold uz;rw[Kn (by omega)]
  show dI mask (k + 1) (uz mask p)=_
  rw[e,tG mask k _ (by dsimp only;omega)]
def lB (mask i q:Nat):dI mask (runEnd mask i - i + 1) (xN mask i q)=xN mask (leap mask i q).1 (leap mask i q).2:=by
 exact tG mask _ (xN mask i q) rfl
theorem iR (mask i q:Nat):∀(k:Nat),k<=runEnd mask i - i->(dI mask k (xN mask i q))={xN mask i q with j:=i + k,more:=runEnd mask i - i - k}
 | 0,_=>rfl
 |k + 1,h=>by
  rw[jw mask k 1,iR mask i q k (by omega)]
  show uz mask _=_
  unfold uz
  rw[Kn (by dsimp only;omega)]
  simp only[Probe.mk.injEq]
  refine⟨by omega,by omega,?_⟩
  trivial
def eV (mask:Nat):Nat->Nat×Nat->Nat×Nat
 | 0,x=>x
 |k + 1,x=>eV mask k (leap mask x.1 x.2)
theorem lV (mask:Nat):∀(k i q:Nat),i<=mask->∃n,n<=10 * k/\dI mask n (xN mask i q)=xN mask (eV mask k (i,q)).1 (eV mask k (i,q)).2
 | 0,i,q,_=>⟨0,Km _,rfl⟩
 |k + 1,i,q,h=>by
  obtain⟨n,hn,e⟩:=lV mask k (leap mask i q).1 (leap mask i q).2 (kI _ _ _)
  have:=gZ h
  refine⟨(runEnd mask i - i + 1) + n,by omega,?_⟩
  rw[jw,lB,e]
  rfl
theorem pO (mask:Nat):∀(a b:Nat) (x:Nat×Nat),eV mask (a + b) x=eV mask b (eV mask a x)
 | 0,b,x=>by rw[Lm];rfl
 |a + 1,b,x=>by rw[Nat.add_right_comm];exact pO mask a b (leap mask x.1 x.2)
theorem sI (mask:Nat):∀(k:Nat) (x:Nat×Nat),x.1<=mask->(eV mask k x).1<=mask
 | 0,_,h=>h
 |k + 1,x,_=>sI mask k _ (kI mask x.1 x.2)
theorem jX (mask:Nat):∀(k:Nat) (x:Nat×Nat),(eV mask k x).2=x.2 / 32 ^ k
 | 0,x=>by simp[eV]
 |k + 1,x=>by
  show (eV mask k (leap mask x.1 x.2)).2=_
  rw[jX mask k,Nat.pow_succ,Nat.mul_comm,<-Nat.div_div_eq_div_mul]
  rfl
def nx (mask i:Nat):Nat:=(i * 5 + 1) % (mask + 1)
def zj (mask:Nat):Nat->Nat->Nat
 | 0,i=>i
 |k + 1,i=>zj mask k (nx mask i)
theorem mK (mask:Nat):∀(a b i:Nat),zj mask (a + b) i=zj mask b (zj mask a i)
 | 0,b,i=>by rw[Lm];rfl
 |a + 1,b,i=>by rw[Nat.add_right_comm];exact mK mask a b (nx mask i)
theorem og (mask:Nat):∀(k i:Nat),eV mask k (i,0)=(zj mask k i,0)
 | 0,_=>rfl
 |k + 1,i=>by
  show eV mask k (leap mask i 0)=_
  have:leap mask i 0=(nx mask i,0):=by simp[leap,nx]
  rw[this,og mask k]
  rfl
def zZ (mask:Nat):Prop:=mask=7\/mask=31\/mask=127
def Hs (mask:Nat)(hm:zZ mask):zj mask (mask + 1) 0=0/\∀j,j<=mask->∃k,k<=mask/\zj mask k 0=j:=by
 have h7:∀j:Nat,j < 8->∃k,k < 8/\zj 7 k 0=j:=by decide +kernel
 have h31:∀j:Nat,j < 32->∃k,k < 32/\zj 31 k 0=j:=by decide +kernel
 have h127:∀j:Nat,j < 128->∃k,k < 128/\zj 127 k 0=j:=by decide +kernel
 rcases hm with rfl |rfl |rfl
 ·exact⟨by decide +kernel,λj hj=>let ⟨k,a,b⟩:=h7 j (by omega);⟨k,by omega,b⟩⟩
 ·exact⟨by decide +kernel,λj hj=>let ⟨k,a,b⟩:=h31 j (by omega);⟨k,by omega,b⟩⟩
 ·exact⟨by decide +kernel,λj hj=>let ⟨k,a,b⟩:=h127 j (by omega);⟨k,by omega,b⟩⟩
def GR {mask:Nat}(hm:zZ mask){i j:Nat}(hi:i<=mask)(hj:j<=mask):∃k,k<=mask/\zj mask k i=j:=by
 obtain⟨z,o⟩:=Hs mask hm
 obtain⟨a,ha,ea⟩:=o i hi
 obtain⟨b,hb,eb⟩:=o j hj
 have back:zj mask (mask + 1 - a) i=0:=by
  rw[<-ea,<-mK,show a + (mask + 1 - a)=mask + 1 by omega];exact z
 by_cases hab:a<=b
 ·refine⟨b - a,by omega,?_⟩
  rw[<-ea,<-mK,show a + (b - a)=b by omega];exact eb
 ·refine⟨mask + 1 - a + b,by omega,?_⟩
  rw[mK,back];exact eb
def nY {mask:Nat}(hm:zZ mask){i q j:Nat}(hi:i<=mask)(hq:q < 2 ^ 64)(hj:j<=mask):∃k,k<=mask + 13/\(eV mask k (i,q)).1=j:=by
 have hz:(eV mask 13 (i,q)).2=0:=by
  rw[jX]
  exact Nat.div_eq_of_lt (KW hq (by decide))
 obtain⟨k,hk,e⟩:=GR hm (sI mask 13 (i,q) hi) hj
 refine⟨13 + k,by omega,?_⟩
 rw[pO]
 have:eV mask 13 (i,q)=((eV mask 13 (i,q)).1,0):=Prod.ext rfl hz
 rw[this,og]
 exact e
def wj (h:Int):bits h < 2 ^ 64:=by
 unfold bits
 have:=Int.emod_lt_of_pos h (show (0:Int) < 2 ^ 64 by decide)
 have:=Int.emod_nonneg h (show (2 ^ 64:Int)≠0 by decide)
 omega
def BN {mask:Nat}(hm:zZ mask)(h:Int){j:Nat}(hj:j<=mask):∃n,n < 10 * turns mask/\(dI mask n (st mask h)).j=j:=by
 have hi:bits h % (mask + 1)<=mask:=Nat.lt_succ_iff.mp (MP _ (Nat.succ_pos _))
 obtain⟨k,hk,e⟩:=nY hm hi (wj h) hj
 obtain⟨n,hn,q⟩:=lV mask k (bits h % (mask + 1)) (bits h) hi
 refine⟨n,by unfold turns;omega,?_⟩
 show (dI mask n (xN mask _ _)).j=j
 rw[q];exact e
theorem AH {t:SetTable}{hashAt:Nat->Int}{h:Int}:∀(n fuel:Nat) (p:Probe),n < fuel->p.dummy=none->
  (∀m,m < n->∃i,t.slot (dI t.mask m p).j=.live i/\hashAt i≠h)->t.slot (dI t.mask n p).j=.empty->
  probe.go t hashAt h fuel p=some (.empty (dI t.mask n p).j none):=by
 intro n
 induction n with
 |zero=>
  intro fuel p hf hd _ he
  obtain⟨f,rfl⟩:∃f,fuel=f + 1:=⟨fuel - 1,by omega⟩
  unfold probe.go
  have he':t.slot p.j=.empty:=he
  rw[he',hd]
  rfl
 |succ n ih=>
  intro fuel p hf hd hl he
  obtain⟨f,rfl⟩:∃f,fuel=f + 1:=⟨fuel - 1,by omega⟩
  unfold probe.go
  obtain⟨i,e,ne⟩:=hl 0 (by omega)
  have e':t.slot p.j=.live i:=e
  rw[e']
  dsimp only
  rw[Ku (by simpa using ne),AQ]
  exact ih f (uz t.mask p) (by omega) (Aw hd) (λm hm=>hl (m + 1) (by omega)) he
theorem z8 {t:SetTable}{hashAt:Nat->Int}{h:Int}:∀(n fuel:Nat) (p:Probe),n < fuel->
  (∀m,m<=n->∃i,t.slot (dI t.mask m p).j=.live i)->(∃i,t.slot (dI t.mask n p).j=.live i/\hashAt i=h)->
  ∃j i next,probe.go t hashAt h fuel p=some (.candidate j i next)/\t.slot j=.live i/\hashAt i=h:=by
 intro n
 induction n with
 |zero=>
  intro fuel p hf _ he
  obtain⟨f,rfl⟩:∃f,fuel=f + 1:=⟨fuel - 1,by omega⟩
  obtain⟨i,e,eh⟩:=he
  have e':t.slot p.j=.live i:=e
  unfold probe.go
  rw[e']
  dsimp only
  rw[Kn (by simpa using eh)]
  exact⟨p.j,i,_,rfl,e',eh⟩
 |succ n ih=>
  intro fuel p hf hl he
  obtain⟨f,rfl⟩:∃f,fuel=f + 1:=⟨fuel - 1,by omega⟩
  obtain⟨i,e⟩:=hl 0 (by omega)
  have e':t.slot p.j=.live i:=e
  unfold probe.go
  rw[e']
  dsimp only
  by_cases hh:hashAt i=h
  ·rw[Kn (by simpa using hh)]
   exact⟨p.j,i,_,rfl,e',hh⟩
  ·rw[Ku (by simpa using hh),AQ]
   exact ih f (uz t.mask p) (by omega) (λm hm=>hl (m + 1) (by omega)) he
def Reach (mask:Nat)(L:Nat->Prop)(h:Int)(j:Nat):Prop:=∃n,n < 10 * turns mask/\(dI mask n (st mask h)).j=j/\∀m,m < n->L (dI mask m (st mask h)).j
def Reach.mono {mask:Nat}{L L':Nat->Prop}{h:Int}{j:Nat}(r:Reach mask L h j)(k:∀x,L x->L' x):Reach mask L' h j:=
 let ⟨n,a,b,c⟩:=r;⟨n,a,b,λm hm=>k _ (c m hm)⟩
structure Tab (t:SetTable)(hs:List Int):Prop where
 mask:zZ t.mask
 dum:t.dummies=#[]
 rise:iS t.place
 le:∀j,j∈t.place->j<=t.mask
 size:t.place.size=hs.length
 load:t.place.size * 5 < t.mask * 3
 reach:∀(i j:Nat) (h:Int),t.place[i]? =some j->hs[i]? =some h->Reach t.mask (· ∈t.place) h j
 plain:t.plain=true
theorem bo {α:Type}[DecidableEq α]:∀{l m:List α},l.Nodup->(∀x,x∈l->x∈m)->l.length<=m.length
 | [],_,_,_=>K5 _
 |a :: l,m,hn,hs=>by
  have ha:=hs a (Kr ..)
  have hl:=K6.mp hn
  have:=bo (l:=l) (m:=m.erase a) hl.2 λx hx=>by
   refine (List.mem_erase_of_ne ?_).mpr (hs x (Ko _ hx))
   rintro rfl;exact hl.1 hx
  rw[MY ha] at this
  have:0 < m.length:=List.length_pos_of_mem ha
  simp only[KI];omega
def v5 {mask:Nat}{xs:Array Nat}(hl:xs.size<=mask):∃j,j<=mask/\j∉xs:=by
 refine Classical.byContradiction λhc=>?_
 have all:∀j,j∈List.range (mask + 1)->j∈xs.toList:=λj hj=>by
  have:=KR.mp hj
  refine Classical.byContradiction λhn=>hc ⟨j,by omega,λz=>hn (by simpa using z)⟩
 have:=bo Mw all
 simp at this
 omega
theorem rb {P:Nat->Prop}(h:∃n,P n):∃n,P n/\∀m,m < n->¬P m:=by
 obtain⟨n,hn⟩:=h
 induction n using Nat.strongRecOn with
 |_ n ih=>
  by_cases hc:∃m,m < n/\P m
  ·obtain⟨m,hm,hp⟩:=hc
   exact ih m hm hp
  ·exact⟨n,hn,λm hm hp=>hc ⟨m,hm,hp⟩⟩
section
variable {t:SetTable}{hs:List Int}
def Tab.load' (T:Tab t hs):t.place.size<=t.mask:=by have:=T.load;omega
def Tab.slotL (T:Tab t hs){j:Nat}(hj:j∈t.place):∃i,t.slot j=.live i/\t.place[i]? =some j:=by
 obtain⟨i,hi,e⟩:=Array.mem_iff_getElem.mp hj
 have q:t.place[i]? =some j:=by rw[K0 hi,e]
 exact⟨i,pX T.rise q,q⟩
def Tab.slotE (T:Tab t hs){j:Nat}(hj:j∉t.place):t.slot j=.empty:=vJ T.dum hj
def Tab.first (T:Tab t hs)(h:Int):∃n,n < 10 * turns t.mask/\(dI t.mask n (st t.mask h)).j∉t.place/\∀m,m < n->(dI t.mask m (st t.mask h)).j∈t.place:=by
 obtain⟨j,hj,hn⟩:=v5 T.load'
 obtain⟨n,h1,h2⟩:=BN T.mask h hj
 obtain⟨k,hk,hlt⟩:=rb (P:=λn=>(dI t.mask n (st t.mask h)).j∉t.place) ⟨n,by rw[h2];exact hn⟩
 refine⟨k,?_,hk,λm hm=>Classical.byContradiction λz=>hlt m hm z⟩
 rcases Lz n k with c |c
 ·exact absurd (show (dI t.mask n (st t.mask h)).j∉t.place by rw[h2];exact hn) (hlt n c)
 ·omega
def Tab.absent (T:Tab t hs){hashAt:Nat->Int}(ha:∀i,i < hs.length->some (hashAt i)=hs[i]?){h:Int}(hn:h∉hs) :
  ∃j,t.probe hashAt h (t.probeStart h)=some (.empty j none)/\j∉t.place/\j<=t.mask/\Reach t.mask (· ∈t.place) h j:=by
 obtain⟨n,h1,h2,h3⟩:=T.first h
 refine⟨(dI t.mask n (st t.mask h)).j,?_,h2,?_,⟨n,h1,rfl,h3⟩⟩
 ·unfold probe
  rw[D6]
  refine AH n _ _ h1 rfl (λm hm=>?_) (T.slotE h2)
  obtain⟨i,e,q⟩:=T.slotL (h3 m hm)
  refine⟨i,e,λz=>hn ?_⟩
  have hi:i < hs.length:=by rw[<-T.size];exact (Lr.mp q).1
  have:=ha i hi
  rw[z] at this
  exact KD this.symm
 ·have:=wK n (Gy t.mask h)
  unfold In at this;omega
def Tab.present (T:Tab t hs){hashAt:Nat->Int}(ha:∀i,i < hs.length->some (hashAt i)=hs[i]?){h:Int}(hm:h∈hs) :
  ∃j i next,t.probe hashAt h (t.probeStart h)=some (.candidate j i next)/\t.slot j=.live i/\i < hs.length/\hs[i]? =some h:=by
 obtain⟨i,hi,e⟩:=K8.mp hm
 have hi':hs[i]? =some h:=by rw[Kj hi,e]
 have hp:i < t.place.size:=by rw[T.size];exact hi
 obtain⟨n,h1,h2,h3⟩:=T.reach i t.place[i] h (K0 hp) hi'
 have hj:(dI t.mask n (st t.mask h)).j∈t.place:=by rw[h2];exact Array.getElem_mem hp
 obtain⟨j',i',nx,g1,g2,g3⟩:=z8 (t:=t) (hashAt:=hashAt) (h:=h) n (10 * turns t.mask) (st t.mask h) h1 (λm hm=>by
   rcases Lz m n with c |c
   ·obtain⟨i,e,_⟩:=T.slotL (h3 m c);exact⟨i,e⟩
   ·have:m=n:=by omega
    subst this
    obtain⟨i,e,_⟩:=T.slotL hj;exact⟨i,e⟩)
  ⟨i,by rw[h2];exact pX T.rise (K0 hp),by
   have:=ha i hi
   rw[hi'] at this
   exact Option.some.inj this⟩
 have hi2:i' < t.place.size:=by
  unfold slot at g2
  dsimp only at g2
  split at g2
  ·rename_i c
   have c':t.place[below t.place j']? =some j':=by simpa using c
   cases g2
   exact (Lr.mp c').1
  ·split at g2 <;> cases g2
 refine⟨j',i',nx,by unfold probe;rw[D6];exact g1,g2,by rw[<-T.size];exact hi2,?_⟩
 have:=ha i' (by rw[<-T.size];exact hi2)
 rw[g3] at this
 exact this.symm
end
def bQ {α:Type}(xs:Array α)(p:Nat)(x:α)(_:p<=xs.size):(insertAt xs p x).toList=xs.toList.take p ++ x :: xs.toList.drop p:=by
 unfold insertAt
 simp[Array.toList_extract,List.extract_eq_take_drop]
 rw[Mh (by simp)]
def pW (t:SetTable)(j:Nat)(hd:t.dummies=#[]):(t.put j).1={t with place:=insertAt t.place (below t.place j) j}/\(t.put j).2=below t.place j:=by
 unfold put
 dsimp only
 rw[hd,wL]
 exact⟨by simp,rfl⟩
section
variable {t:SetTable}{hs:List Int}
def ky {α:Type}{xs:Array α}{p:Nat}{x y:α}(hp:p<=xs.size):y∈insertAt xs p x↔y∈xs\/y=x:=by
 rw[<-Mq,bQ xs p x hp,KU,Kq,<-Mq]
 have:y∈xs.toList↔y∈xs.toList.take p\/y∈xs.toList.drop p:=by
  conv=>lhs;rw[<-Ml p xs.toList]
  exact KU
 rw[this]
 constructor
 ·rintro (a |a |a)
  ·exact .inl (.inl a)
  ·exact .inr a
  ·exact .inl (.inr a)
 ·rintro ((a |a) |a)
  ·exact .inl a
  ·exact .inr (.inr a)
  ·exact .inr (.inl a)
def oS {xs:Array Nat}(h:iS xs){j:Nat}(hj:j∉xs):iS (insertAt xs (below xs j) j):=by
 obtain⟨b1,b2,b3⟩:=c6 h j
 unfold iS
 rw[bQ _ _ _ b1]
 have hl:∀y,y∈xs.toList.take (below xs j)->y < j:=λy hy=>by
  obtain⟨i,hi,e⟩:=K8.mp hy
  have hi1:i < below xs j:=by simp at hi;omega
  have hi2:i < xs.size:=by omega
  have:=b2 i hi1
  rw[Lg,K0 hi2] at this
  simp at e this
  omega
 have hr:∀y,y∈xs.toList.drop (below xs j)->j < y:=λy hy=>by
  obtain⟨i,hi,e⟩:=K8.mp hy
  have hi2:below xs j + i < xs.size:=by simp at hi;omega
  have:=b3 (below xs j + i) (by omega) hi2
  rw[Lg,K0 hi2] at this
  simp at e this
  rcases Lz j y with c |c
  ·exact c
  ·have:j=y:=by omega
   exact absurd (by rw[this,<-e];exact Array.getElem_mem _) hj
 refine List.pairwise_append.mpr ⟨List.Pairwise.sublist (List.take_sublist ..) h,MH.mpr ⟨λy hy=>hr y hy,List.Pairwise.sublist (List.drop_sublist ..) h⟩,λa ha b hb=>?_⟩
 rcases Kq.mp hb with rfl |hb
 ·exact hl a ha
 ·exact Nat.lt_trans (hl a ha) (hr b hb)
def sL {α:Type}(l:List α)(p:Nat)(x:α)(hp:p<=l.length)(i:Nat):(l.take p ++ x :: l.drop p)[i]? =if i < p then l[i]? else if i=p then some x else l[i - 1]?:=by
 rcases M7 i p with c |c |c
 ·rw[Kn c,K9 (by simp;omega),List.getElem?_take_of_lt c]
 ·subst c
  rw[Ku (Ld _),Kn rfl,K4 (by simp;omega),LI,Nat.min_eq_left hp,Nat.sub_self]
  rfl
 ·rw[Ku (by omega),Ku (by omega),K4 (by simp;omega),LI,Nat.min_eq_left hp]
  obtain⟨k,rfl⟩:∃k,i=p + 1 + k:=⟨i - (p + 1),by omega⟩
  rw[show p + 1 + k - p=k + 1 by omega,List.getElem?_cons_succ,List.getElem?_drop]
  congr 1
  omega
def Tab.put (T:Tab t hs){j:Nat}{h:Int}(hj:j∉t.place)(hm:j<=t.mask)(r:Reach t.mask (· ∈t.place) h j)(hf:(t.place.size + 1) * 5 < t.mask * 3) :
  Tab (t.put j).1 (hs.take (t.put j).2 ++ h :: hs.drop (t.put j).2)/\(t.put j).2<=hs.length:=by
 obtain⟨e1,e2⟩:=pW t j T.dum
 obtain⟨b1,b2,b3⟩:=c6 T.rise j
 have hsz:(insertAt t.place (below t.place j) j).size=t.place.size + 1:=by
  rw[<-MU,bQ _ _ _ b1]
  simp;omega
 have hl:below t.place j<=hs.length:=by rw[<-T.size];exact b1
 rw[e1,e2]
 refine⟨⟨T.mask,T.dum,oS T.rise hj,λy hy=>?_,?_,?_,λi y g hy hg=>?_,T.plain⟩,hl⟩
 ·rcases (ky b1).mp hy with z |z
  ·exact T.le y z
  ·rw[z];exact hm
 ·show (insertAt t.place _ j).size=_
  rw[hsz,T.size];simp;omega
 ·show (insertAt t.place _ j).size * 5 < t.mask * 3
  rw[hsz];exact hf
 ·show Reach t.mask (· ∈insertAt t.place (below t.place j) j) g y
  have hy':(t.place.toList.take (below t.place j) ++ j :: t.place.toList.drop (below t.place j))[i]? =some y:=by
   rw[<-bQ _ _ _ b1,L3];exact hy
  rw[sL _ _ _ (by simpa using b1)] at hy'
  rw[sL _ _ _ hl] at hg
  have old:∀{g y},Reach t.mask (· ∈t.place) g y->Reach t.mask (· ∈insertAt t.place (below t.place j) j) g y:=λr=>r.mono λx hx=>(ky b1).mpr (.inl hx)
  split at hy'
  ·rename_i c
   rw[Kn c] at hg
   exact old (T.reach i y g (by simpa using hy') hg)
  ·rename_i c
   rw[Ku c] at hg
   split at hy'
   ·rename_i c2
    rw[Kn c2] at hg
    cases hg;cases hy'
    exact old r
   ·rename_i c2
    rw[Ku c2] at hg
    exact old (T.reach (i - 1) y g (by simpa using hy') hg)
end
abbrev own (o:Array (Option Nat))(j:Nat):Option Nat:=o.getD j none
theorem xK {mask:Nat}{o:Array (Option Nat)}(hsz:o.size=mask + 1):∀(fuel i q:Nat) (j:Nat),i<=mask->layClean.free mask o fuel i q=some j->
  ∃n,n < 10 * fuel/\(dI mask n (xN mask i q)).j=j/\(∀m,m < n->(own o (dI mask m (xN mask i q)).j).isSome=true)/\own o j=none/\j<=mask:=by
 intro fuel
 induction fuel with
 |zero=>intro i q j _ h;unfold layClean.free at h;cases h
 |succ fuel ih=>
  intro i q j hi h
  unfold layClean.free at h
  have hr:=gZ hi
  have ind:∀k,k<=runEnd mask i - i->o.getD (i + k) (some 0)=own o (i + k):=λk hk=>by
   have:i + k < o.size:=by omega
   simp[own,Array.getD,this]
  cases hf:(List.range (runEnd mask i + 1 - i)).find? λk=>(o.getD (i + k) (some 0)).isNone with
  |some k=>
   rw[hf] at h
   dsimp only at h
   have hk:=List.find?_eq_some_iff_getElem.mp hf
   obtain⟨hn,ix,hix,eix,hbef⟩:=hk
   have ek:ix=k:=by simpa using eix
   subst ek
   have hix':ix < runEnd mask i + 1 - i:=by simpa using hix
   cases h
   refine⟨ix,by omega,?_,λm hm=>?_,?_,by omega⟩
   ·rw[iR mask i q ix (by omega)]
   ·rw[iR mask i q m (by omega)]
    have:=hbef m hm
    simp only[MZ] at this
    rw[ind m (by omega)] at this
    dsimp only
    cases e:own o (i + m) with
    |none=>rw[e] at this;simp at this
    |some _=>rfl
   ·rw[ind ix (by omega)] at hn
    cases e:own o (i + ix) with
    |none=>rfl
    |some _=>rw[e] at hn;simp at hn
  |none=>
   rw[hf] at h
   dsimp only at h
   obtain⟨n,h1,h2,h3,h4,h5⟩:=ih _ _ j (kI mask i q) h
   have hnone:=List.find?_eq_none.mp hf
   refine⟨(runEnd mask i - i + 1) + n,by omega,?_,λm hm=>?_,h4,h5⟩
   ·rw[jw,lB];exact h2
   ·rcases Lz m (runEnd mask i - i + 1) with c |c
    ·rw[iR mask i q m (by omega)]
     have:=hnone m (KR.mpr (by omega))
     rw[ind m (by omega)] at this
     dsimp only
     cases e:own o (i + m) with
     |none=>rw[e] at this;simp at this
     |some _=>rfl
    ·obtain⟨k,rfl⟩:∃k,m=(runEnd mask i - i + 1) + k:=⟨m - (runEnd mask i - i + 1),by omega⟩
     rw[jw,lB]
     exact h3 k (by omega)
theorem yO {mask:Nat}{o:Array (Option Nat)}(hsz:o.size=mask + 1):∀(fuel i q k:Nat),i<=mask->k < fuel->own o (eV mask k (i,q)).1=none->∃j,layClean.free mask o fuel i q=some j:=by
 intro fuel
 induction fuel with
 |zero=>intro i q k _ hk;omega
 |succ fuel ih=>
  intro i q k hi hk hn
  unfold layClean.free
  cases hf:(List.range (runEnd mask i + 1 - i)).find? λk=>(o.getD (i + k) (some 0)).isNone with
  |some k=>exact⟨_,rfl⟩
  |none=>
   dsimp only
   cases k with
   |zero=>
    have hr:=gZ hi
    have:=List.find?_eq_none.mp hf 0 (KR.mpr (by omega))
    have e:own o i=none:=hn
    have hi2:i < o.size:=by omega
    simp[own,Array.getD,hi2] at e this
    rw[e] at this;simp at this
   |succ k=>exact ih _ _ k (kI mask i q) (by omega) hn
structure Lay (mask:Nat)(o:Array (Option Nat))(hs:List Int):Prop where
 size:o.size=mask + 1
 all:∀k h,hs[k]? =some h->∃j,own o j=some k/\Reach mask (λx=>(own o x).isSome=true) h j
 one:∀j j' k,own o j=some k->own o j'=some k->j=j'
 le:∀j k,own o j=some k->j<=mask/\k < hs.length
def kO {o:Array (Option Nat)}{j x k:Nat}(hj:j < o.size):own (o.setIfInBounds j (some k)) x=if x=j then some k else own o x:=by
 unfold own
 rw[Lg,Lg,Array.getElem?_setIfInBounds]
 by_cases e:x=j
 ·subst e;simp[hj]
 ·rw[Ku e,Ku (λz=>e z.symm)]
def AZ {mask:Nat}(hm:zZ mask){o:Array (Option Nat)}{hs:List Int}(L:Lay mask o hs)(h:Int)(hl:hs.length<=mask) :
  ∃j,layClean.free mask o (turns mask) (bits h % (mask + 1)) (bits h)=some j/\Lay mask (o.setIfInBounds j (some hs.length)) (hs ++ [h]):=by
 have hi:bits h % (mask + 1)<=mask:=Nat.lt_succ_iff.mp (MP _ (Nat.succ_pos _))
 have hfree:∃j,j<=mask/\own o j=none:=by
  refine Classical.byContradiction λhc=>?_
  have hall:∀j,j<=mask->∃k,own o j=some k:=λj hj=>by
   cases e:own o j with
   |none=>exact absurd ⟨j,hj,e⟩ hc
   |some k=>exact⟨k,rfl⟩
  have nd:((List.range (mask + 1)).map λj=>(own o j).getD 0).Nodup:=by
   refine LC.mpr ?_
   refine LP ?_ Mw
   intro a b ha hb hab e
   obtain⟨ka,ea⟩:=hall a (by have:=KR.mp ha;omega)
   obtain⟨kb,eb⟩:=hall b (by have:=KR.mp hb;omega)
   rw[ea,eb] at e
   simp at e
   subst e
   exact hab (L.one a b ka ea eb)
  have:=bo (m:=List.range hs.length) nd λx hx=>by
   obtain⟨j,hj,rfl⟩:=KC.mp hx
   obtain⟨k,e⟩:=hall j (by have:=KR.mp hj;omega)
   rw[e]
   exact KR.mpr (L.le j k e).2
  simp at this
  omega
 obtain⟨j0,hj0,hn0⟩:=hfree
 obtain⟨k,hk,ek⟩:=nY hm hi (wj h) hj0
 obtain⟨j,hj⟩:=yO L.size (turns mask) _ (bits h) k hi (by unfold turns;omega) (by rw[ek];exact hn0)
 refine⟨j,hj,?_⟩
 obtain⟨n,h1,h2,h3,h4,h5⟩:=xK L.size _ _ _ _ hi hj
 have hjs:j < o.size:=by rw[L.size];omega
 have grow:∀x,(own o x).isSome=true->(own (o.setIfInBounds j (some hs.length)) x).isSome=true:=λx hx=>by
  rw[kO hjs];split
  ·rfl
  ·exact hx
 refine⟨by rw[Array.size_setIfInBounds];exact L.size,λk g hg=>?_,λa b c ea eb=>?_,λa c ea=>?_⟩
 ·rcases Lz k hs.length with c |c
  ·rw[K9 c] at hg
   obtain⟨x,ex,rx⟩:=L.all k g hg
   refine⟨x,?_,rx.mono grow⟩
   rw[kO hjs,Ku (λz=>?_)]
   ·exact ex
   ·subst z;rw[ex] at h4;cases h4
  ·rw[K4 c] at hg
   have:k=hs.length:=by
    have:=(Kz.mp hg).1
    simp at this;omega
   subst this
   simp at hg
   subst hg
   exact⟨j,by rw[kO hjs,Kn rfl],n,h1,h2,λm hm=>grow _ (h3 m hm)⟩
 ·rw[kO hjs] at ea eb
  split at ea
  ·cases ea
   split at eb
   ·omega
   ·have:=(L.le _ _ eb).2;omega
  ·split at eb
   ·cases eb
    have:=(L.le _ _ ea).2;omega
   ·exact L.one _ _ _ ea eb
 ·rw[kO hjs] at ea
  rw[KO]
  split at ea
  ·cases ea;simp;omega
  ·have:=L.le _ _ ea;simp;omega
theorem wJ {mask:Nat}(hm:zZ mask):∀(rest hs:List Int) (o:Array (Option Nat)),Lay mask o hs->hs.length + rest.length<=mask->
  ∃o',rest.foldl (init:=some (o,hs.length)) (λacc h=>do
   let (owner,k) <-acc
   let j <-layClean.free mask owner (turns mask) (bits h % (mask + 1)) (bits h)
   pure (owner.setIfInBounds j (some k),k + 1))=some (o',hs.length + rest.length)/\Lay mask o' (hs ++ rest)
 | [],hs,o,L,_=>⟨o,rfl,by rw[LF];exact L⟩
 |h :: rest,hs,o,L,hl=>by
  simp only[KI] at hl
  obtain⟨j,e,L'⟩:=AZ hm L h (by omega)
  obtain⟨o',e',L2⟩:=wJ hm rest (hs ++ [h]) _ L' (by simp;omega)
  refine⟨o',?_,by rw[Lj] at L2;exact L2⟩
  rw[MV]
  simp only[Option.bind_eq_bind,Option.bind_some,e,Option.pure_def]
  have el:(hs ++ [h]).length=hs.length + 1:=by simp
  rw[el] at e'
  simp only[Option.bind_eq_bind,Option.pure_def] at e'
  rw[e']
  simp;omega
def wG (n j:Nat):own (Array.replicate n none) j=none:=by
 unfold own
 rw[Lg,Array.getElem?_replicate]
 split <;> rfl
def Dj (mask:Nat):Lay mask (Array.replicate (mask + 1) none) []:=
 ⟨by simp,λk h e=>by simp at e,λj j' k e _=>by (rw[wG] at e;cases e),λj k e=>by (rw[wG] at e;cases e)⟩
def yE {mask:Nat}(hm:zZ mask)(hs:Array Int)(hl:hs.size * 5 < mask * 3)(finger moves:Nat)(led:Bool) :
  ∃t order,laid mask finger moves led true hs=some (t,order)/\t.led=led/\t.mask=mask/\order.toList.Nodup/\(∀k,k∈order.toList↔k < hs.size)/\
   Tab t (order.toList.map λk=>hs.toList.getD k 0):=by
 obtain⟨o,e,L⟩:=wJ hm hs.toList [] _ (Dj mask) (by simp;omega)
 simp only[MW] at L
 have ec:layClean mask hs=some o:=by
  unfold layClean
  rw[<-Array.foldl_toList]
  simp only[length_nil] at e
  rw[e];rfl
 have hlive:∀j k,(j,k)∈((List.range (mask + 1)).filterMap λj=>(o.getD j none).map (j, ·))↔own o j=some k:=λj k=>by
  rw[LZ]
  constructor
  ·rintro⟨x,_,q⟩
   cases ex:o.getD x none with
   |none=>rw[ex] at q;cases q
   |some y=>rw[ex] at q;simp at q;rw[<-q.1,<-q.2];exact ex
  ·intro q
   refine⟨j,KR.mpr (by have:=(L.le j k q).1;omega),?_⟩
   have:o.getD j none=some k:=q
   rw[this];rfl
 have hpw:((List.range (mask + 1)).filterMap λj=>(o.getD j none).map (j, ·)).Pairwise (λa b=>a.1 < b.1):=by
  refine List.pairwise_filterMap.mpr ?_
  refine List.Pairwise.imp ?_ List.pairwise_lt_range
  intro a b hab x hx y hy
  cases ea:o.getD a none with
  |none=>rw[ea] at hx;cases hx
  |some u=>
   cases eb:o.getD b none with
   |none=>rw[eb] at hy;cases hy
   |some v=>
    rw[ea] at hx;rw[eb] at hy
    simp at hx hy
    rw[<-hx,<-hy];exact hab
 generalize hlv:((List.range (mask + 1)).filterMap λj=>(o.getD j none).map (j, ·))=live at hlive hpw
 refine⟨{mask,place:=(live.map (·.1)).toArray,dummies:=#[],finger,led,moves,plain:=true},(live.map (·.2)).toArray,?_,rfl,rfl,?_,λk=>?_,?_⟩
 ·unfold laid
  rw[ec]
  simp only[Option.bind_eq_bind,Option.bind_some,Option.pure_def,hlv]
 ·have:(live.map (·.2)).Nodup:=by
   refine LC.mpr (LP ?_ hpw)
   intro a b ha hb hab ee
   have h1:=(hlive a.1 a.2).mp ha
   have h2:=(hlive b.1 b.2).mp hb
   rw[ee] at h1
   have:=L.one _ _ _ h1 h2
   omega
  simpa using this
 ·rw[KC]
  constructor
  ·rintro⟨x,hx,rfl⟩
   have:=(L.le x.1 x.2 ((hlive x.1 x.2).mp hx)).2
   simpa using this
  ·intro hk
   have hk':k < hs.toList.length:=by simpa using hk
   obtain⟨j,ej,_⟩:=L.all k _ (Kj hk')
   exact⟨(j,k),(hlive j k).mpr ej,rfl⟩
 ·have hord:live.length=hs.size:=by
   have a1:(live.map (·.2)).Nodup:=by
    refine LC.mpr (LP ?_ hpw)
    intro a b ha hb hab ee
    have h1:=(hlive a.1 a.2).mp ha
    have h2:=(hlive b.1 b.2).mp hb
    rw[ee] at h1
    have:=L.one _ _ _ h1 h2
    omega
   have b1:=bo (m:=List.range hs.size) a1 λx hx=>by
    obtain⟨y,hy,rfl⟩:=KC.mp hx
    have:=(L.le y.1 y.2 ((hlive y.1 y.2).mp hy)).2
    exact KR.mpr (by simpa using this)
   have b2:=bo (l:=List.range hs.size) (m:=live.map (·.2)) Mw λx hx=>by
    have hk':x < hs.toList.length:=by simpa using KR.mp hx
    obtain⟨j,ej,_⟩:=L.all x _ (Kj hk')
    exact KC.mpr ⟨(j,x),(hlive j x).mpr ej,rfl⟩
   simp at b1 b2
   omega
  refine⟨hm,rfl,?_,λj hj=>?_,?_,?_,λi j h hi hh=>?_,rfl⟩
  ·show (live.map (·.1)).toArray.toList.Pairwise _
   rw[LN]
   exact LC.mpr hpw
  ·have:j∈live.map (·.1):=by simpa using hj
   obtain⟨x,hx,rfl⟩:=KC.mp this
   exact (L.le x.1 x.2 ((hlive x.1 x.2).mp hx)).1
  ·simp
  ·show (live.map (·.1)).toArray.size * 5 < mask * 3
   simp[hord];exact hl
  ·have hi':(live.map (·.1))[i]? =some j:=by simpa using hi
   have hh':((live.map (·.2)).map λk=>hs.toList.getD k 0)[i]? =some h:=by simpa using hh
   rw[Kv] at hi'
   rw[Kv,Kv] at hh'
   cases ex:live[i]? with
   |none=>rw[ex] at hi';cases hi'
   |some x=>
    rw[ex] at hi' hh'
    simp at hi' hh'
    have hxl:=(hlive x.1 x.2).mp (KD ex)
    have hk:=(L.le _ _ hxl).2
    have hk2:x.2 < hs.size:=by simpa using hk
    obtain⟨j2,ej2,r⟩:=L.all x.2 h (by
     rw[Kj hk]
     simp[hk2] at hh'
     simpa using hh')
    have:j2=j:=by rw[<-hi'];exact L.one _ _ _ ej2 hxl
    subst this
    refine r.mono λy hy=>?_
    show y∈(live.map (·.1)).toArray
    cases ey:own o y with
    |none=>rw[ey] at hy;cases hy
    |some k=>
     have:y∈live.map (·.1):=KC.mpr ⟨(y,k),(hlive y k).mpr ey,rfl⟩
     simpa using this
abbrev Pr:=Int×Int
def hp (p:Pr):Int:=reduceHash (Builtin.Tuple.tupleHashOf [hashInt p.1,hashInt p.2])
def Sm (p:Pr):Prop:=(0<=p.1/\p.1 < 8)/\(0<=p.2/\p.2 < 8)
def mZ:List Pr:=(List.range 64).map λk=>(((k / 8:Nat):Int),((k % 8:Nat):Int))
def kf {p:Pr}(h:Sm p):p∈mZ:=by
 unfold mZ
 obtain⟨⟨a,b⟩,c,d⟩:=h
 refine KC.mpr ⟨p.1.toNat * 8 + p.2.toNat,KR.mpr (by omega),?_⟩
 refine Prod.ext ?_ ?_ <;> dsimp only <;> omega
def zR:(mZ.map hp).Nodup:=by decide +kernel
theorem kA {α β:Type}{f:α->β}:∀{l:List α},(l.map f).Nodup->∀a b,a∈l->b∈l->f a=f b->a=b
 | [],_,_,_,h,_,_=>by cases h
 |x :: l,hn,a,b,ha,hb,e=>by
  have hn':=K6.mp hn
  rcases Kq.mp ha with ea |ha
  ·rcases Kq.mp hb with eb |hb
   ·rw[ea,eb]
   ·exact absurd (KC.mpr ⟨b,hb,by rw[<-e,ea]⟩) hn'.1
  ·rcases Kq.mp hb with eb |hb
   ·exact absurd (KC.mpr ⟨a,ha,by rw[e,eb]⟩) hn'.1
   ·exact kA hn'.2 a b ha hb e
def EA {p q:Pr}(hp1:Sm p)(hq:Sm q)(e:hp p=hp q):p=q:=kA zR p q (kf hp1) (kf hq) e
def nj {l:List Pr}(hn:l.Nodup)(h:∀p,p∈l->Sm p):l.length<=64:=by
 have:=bo (m:=mZ) hn λx hx=>kf (h x hx)
 simpa[mZ] using this
section
variable {prog:Program}{w:World}{A:Around}{E:Value->Shared->Prop}{s:Shared}
abbrev bG (prog:Program)(w:World)(h:Heap)(p:Pr)(a:Addr):Prop:=IsTupleKey (intKind prog w) h [p.1,p.2] a
def bG.inj {h:Heap}{p q:Pr}{a:Addr}(x:bG prog w h p a)(y:bG prog w h q a):p=q:=by
 have:=IsTupleKey.inj x y
 simp at this
 exact Prod.ext this.1 this.2
structure mW (f:Pr->Int)(prog:Program)(w:World)(led:Bool)(h:Heap)(S:Addr)(ps:List (Addr×Pr)):Prop where
 ex:∃o ep t,h.get? S=some o/\o.ExactSet/\o.data=.set (ps.map λq=>(f q.2,Value.ref q.1)).toArray ep t/\Tab t (ps.map λq=>f q.2)/\t.led=led
 at':∀q,q∈ps->bG prog w h q.2 q.1/\Sm q.2
 nd:(ps.map (·.2)).Nodup
def mW.len {f:Pr->Int}{led:Bool}{h:Heap}{S:Addr}{ps:List (Addr×Pr)}(P:mW f prog w led h S ps):ps.length<=64:=by
 have:=nj P.nd λp hp=>by
  obtain⟨q,hq,rfl⟩:=KC.mp hp
  exact (P.at' q hq).2
 simpa using this
def oq {t:SetTable}{hs:List Int}(T:Tab t hs){n:Nat}(e:n=hs.length):t.fits n=true:=by
 unfold SetTable.fits SetTable.fill
 have:=T.load'
 simp[T.size,T.dum,e]
 rw[T.size] at this;exact this
def BJ (a:Addr)(wanted:Nat):setRelay a wanted=(do
  let (es,_,t) <-setState a
  if SetTable.sizeAbove wanted > sizeLine then unsupported "set:memory"
  let (es,t) <-(do
   let some (t,order):=t.relaid (es.map (·.1)) wanted |unsupported "internal:set-table-without-room"
   let es':=order.filterMap (es[·]?)
   if es'.size != es.size then unsupported "internal:set-table-lost-an-element"
   pure (es',t))
  storeSet a es t):=rfl
def yP (a:Addr)(x:Value)(h:Int)(fuel:Nat):setSearchFrom a x h true (fuel + 1) none=(do
  let (es,_,t) <-setState a
  if t.gaveWay then unsupported "set:on-a-table-that-gave-way"
  let some met:=t.probe (λi=>(es[i]?.map (·.1)).getD 0) h (t.probeStart h) |unsupported "internal:set-table-without-an-empty-slot"
  match met with
  | .empty j dummy=>
   match dummy with
   |none=>return .free j false
   |some d=>
    if true && t.slot d != .dummy then rule "set.search.the-dummy-was-taken";return <-setSearchFrom a x h true fuel none
    return .free d true
  | .candidate j i next=>
   if !t.led then
    if <-searchCouldBeSeen x ((es.filter (·.1 == h)).toList.map (·.2)) then unsupported "set:the-search-would-show-the-table"
   let some (_,y):=es[i]? |unsupported "internal:set-entry"
   let equal <-holding [y] (eqBool y x)
   let (es',_,t') <-setState a
   if true && equal then return .there none
   let some same:=t'.sameMemory t.moves t.mask |unsupported "set.changed-during-lookup:is-the-new-block-at-the-old-address"
   let still <-match (if same then t'.slot j else .empty) with
    | .live i'=>match es'[i']? with
     |some (_,y')=>do pure (if <-isSame y' y then some i' else none)
     |none=>pure none
    |_=>pure none
   match still with
   |none=>rule "set.search.anew";setSearchFrom a x h true fuel none
   |some i'=>if equal then return .there (some i') else setSearchFrom a x h true fuel (some next)):=rfl
theorem tm (n:Nat){v:Value}(h:carriedByValue v=true):ofAClassStatement n v=pure false:=by
 cases v with
 |ref a=>simp[carriedByValue] at h
 |_=>first |rfl | (unfold ofAClassStatement;rfl)
def vc (n:Nat){v:Value}{k:Int}(h:(intKind prog w).is k v=true):hashByValue n v=pure true:=by
 obtain⟨t,rfl⟩:=Ma h
 cases n <;> rfl
def k6 {p:Pr}{a:Addr}{Q:Bool->Shared->Prop}(hk:bG prog w s.heap p a)(h:Q false s):wpAny (model prog w) A (ofAClassStatement 8 (.ref a)) Q E s:=by
 have hT:=hk.typeIs
 obtain⟨o,items,n,ho,hc,hd,hi⟩:=hk
 unfold ofAClassStatement
 refine Kk (wpAny_typeOf hT ?_)
 dsimp only
 rw[Kn (by decide)]
 refine Kk (Ks ?_)
 simp only[MD,KG,Lh]
 refine Kk (wpAny_seqItems ho hd ?_)
 dsimp only
 refine Kk ?_
 rw[<-Array.forIn_toList]
 refine wpAny_forIn_list _ (λrest r s'=>r.1=none/\s'=s/\∀v∈rest,carriedByValue v=true) _ ?_ ?_ _ _ ⟨rfl,rfl,hi.byValue⟩
 ·rintro v rest r s' ⟨hr,rfl,hall⟩
  rw[tm _ (hall v Kr)]
  refine Kk (Ks ?_)
  simp only[KG,Lh]
  exact Ks ⟨rfl,rfl,λu hu'=>hall u (Ko _ hu')⟩
 ·rintro⟨r1,r2⟩ s' ⟨hr,rfl,_⟩
  simp only at hr
  subst hr
  exact Ks h
def tX {p:Pr}{a:Addr}{Q:Bool->Shared->Prop}(hk:bG prog w s.heap p a)(h:Q true s):wpAny (model prog w) A (hashByValue 8 (.ref a)) Q E s:=by
 have hT:=hk.typeIs
 obtain⟨o,items,n,ho,hc,hd,hi⟩:=hk
 unfold hashByValue
 refine Kk (wpAny_specialOf hT F.slot_tuple_hash.lookup ?_)
 dsimp only
 refine Kk (wpAny_seqItems ho hd ?_)
 simp only[Option.getD_some]
 refine Kk ?_
 rw[<-Array.forIn_toList]
 refine wpAny_forIn_list _ (λrest r s'=>r.1=none/\s'=s/\∀v∈rest,∃k,(intKind prog w).is k v=true) _ ?_ ?_ _ _ ⟨rfl,rfl,λv hv=>?_⟩
 ·rintro v rest r s' ⟨hr,rfl,hall⟩
  obtain⟨k,hk⟩:=hall v Kr
  rw[vc _ hk]
  refine Kk (Ks ?_)
  simp only[MD,KG,Lh]
  exact Ks ⟨rfl,rfl,λu hu'=>hall u (Ko _ hu')⟩
 ·rintro⟨r1,r2⟩ s' ⟨hr,rfl,_⟩
  simp only at hr
  subst hr
  exact Ks h
 ·generalize items.toList=l at *
  cases hi with
  |cons h1 hi=>
   cases hi with
   |cons h2 hi=>
    cases hi
    rcases Kq.mp hv with rfl |hv
    ·exact⟨_,h1⟩
    ·rcases Kq.mp hv with rfl |hv
     ·exact⟨_,h2⟩
     ·cases hv
def vO {p:Pr}{a:Addr}(hk:bG prog w s.heap p a):∀(l:List Value) {Q:Bool->Shared->Prop},(∀v∈l,∃q b,v=.ref b/\bG prog w s.heap q b)->Q false s->wpAny (model prog w) A (searchCouldBeSeen (.ref a) l) Q E s:=by
 intro l Q hl h
 unfold searchCouldBeSeen
 refine Kk ?_
 refine wpAny_forIn_list _ (λrest r s'=>r.1=none/\s'=s/\∀v∈rest,∃q b,v=.ref b/\bG prog w s.heap q b) _ ?_ ?_ _ _ ⟨rfl,rfl,hl⟩
 ·rintro v rest r s' ⟨hr,rfl,hall⟩
  obtain⟨q,b,rfl,hb⟩:=hall v Kr
  have hrest:=λu hu'=>hall u (Ko _ hu')
  dsimp only
  split
  ·exact Ks ⟨rfl,rfl,hrest⟩
  ·refine Kk (wpAny_eqIsQuiet_tuple hk ?_)
   simp only[MD,KG,Lh]
   refine Kk (wpAny_eqIsQuiet_tuple hb ?_)
   simp only[MD,KG,Lh]
   refine Kk (k6 hk ?_)
   simp only[KG,Lh]
   refine Kk (k6 hb ?_)
   simp only[KG,Lh]
   exact Ks ⟨rfl,rfl,hrest⟩
 ·rintro⟨r1,r2⟩ s' ⟨hr,rfl,_⟩
  simp only at hr
  subst hr
  exact Ks h
end
section
variable {prog:Program}{w:World}{A:Around}{E:Value->Shared->Prop}{s:Shared}
def sM (t:SetTable)(hs:Array Int)(wanted:Nat)(hp:t.plain=true):t.relaid hs wanted=laid (sizeAbove wanted - 1) t.finger (t.movedTo (sizeAbove wanted - 1)) t.led true hs:=by
 unfold relaid;rw[hp]
def DP:sizeAbove (grown 5)=32/\sizeAbove (grown 19)=128:=by decide +kernel
theorem filterMap_get {α:Type}(es:Array α):∀(order:List Nat),(∀k,k∈order->k < es.size)->∃l:List α,order.filterMap (λi=>es[i]?)=l/\l.length=order.length/\(∀(i k:Nat),order[i]? =some k->l[i]? =es[k]?)/\∀x,x∈l->∃k,k∈order/\es[k]? =some x
 | [],_=>⟨[],rfl,rfl,λi k h=>by simp at h,λx hx=>by cases hx⟩
 |k :: r,h=>by
  obtain⟨l,e1,e2,e3,e4⟩:=filterMap_get es r λx hx=>h x (Ko _ hx)
  have hk:=h k (Kr ..)
  refine⟨es[k] :: l,by rw[MT,K0 hk,e1],by simp[e2],λi x hi=>?_,λx hx=>?_⟩
  ·cases i with
   |zero=>simp at hi;subst hi;simp[hk]
   |succ i=>simp at hi;simpa using e3 i x hi
  ·rcases Kq.mp hx with rfl |hx
   ·exact⟨k,Kr ..,by simp[hk]⟩
   ·obtain⟨y,hy,q⟩:=e4 x hx
    exact⟨y,Ko _ hy,q⟩
abbrev dm (f:Pr->Int)(q:Addr×Pr):Int×Value:=(f q.2,Value.ref q.1)
def qU (f:Pr->Int){mask:Nat}(hm:zZ mask){ps:List (Addr×Pr)}(hl:ps.length * 5 < mask * 3)(finger moves:Nat)(led:Bool) :
  ∃(t:SetTable) (order:Array Nat) (ps':List (Addr×Pr)),laid mask finger moves led true ((ps.map (dm f)).toArray.map (·.1))=some (t,order)/\order.filterMap (λi=>(ps.map (dm f)).toArray[i]?)=(ps'.map (dm f)).toArray/\ps'.length=ps.length/\
   (∀q,q∈ps'↔q∈ps)/\Tab t (ps'.map λq=>f q.2)/\t.led=led:=by
 obtain⟨t,order,e,el,em,nd,mem,T⟩:=yE hm ((ps.map (dm f)).toArray.map (·.1)) (by simpa using hl) finger moves led
 have hsz:((ps.map (dm f)).toArray.map (·.1)).size=ps.length:=by simp
 obtain⟨ps',f1,f2,f3,f4⟩:=filterMap_get ps.toArray order.toList λk hk=>by
  have:=(mem k).mp hk;rw[hsz] at this;simpa using this
 have hlen:order.toList.length=ps.length:=by
  have a1:=bo (m:=List.range ps.length) nd λx hx=>KR.mpr (by have:=(mem x).mp hx;rwa [hsz] at this)
  have a2:=bo (l:=List.range ps.length) (m:=order.toList) Mw λx hx=>(mem x).mpr (by rw[hsz];exact KR.mp hx)
  simp at a1 a2 ⊢;omega
 refine⟨t,order,ps',e,?_,by omega,λq=>⟨λhq=>?_,λhq=>?_⟩,?_,el⟩
 ·apply Array.toList_inj.mp
  rw[Array.toList_filterMap,<-f1]
  simp only[LN]
  rw[List.map_filterMap]
  congr 1
  funext i
  simp
 ·obtain⟨k,_,q2⟩:=f4 q hq
  rw[Mm] at q2
  exact KD q2
 ·obtain⟨k,hk,q2⟩:=K8.mp hq
  have hko:k∈order.toList:=(mem k).mpr (by rw[hsz];exact hk)
  obtain⟨i,hi,e2⟩:=K8.mp hko
  have:=f3 i k (by rw[Kj hi,e2])
  rw[Mm,Kj hk,q2] at this
  exact KD this
 ·have:(order.toList.map λk=>((ps.map (dm f)).toArray.map (·.1)).toList.getD k 0)=ps'.map λq=>f q.2:=by
   apply M8
   intro i
   rw[Kv,Kv]
   cases hi:order.toList[i]? with
   |none=>
    have:ps'[i]? =none:=List.getElem?_eq_none_iff.mpr (by rw[f2];exact List.getElem?_eq_none_iff.mp hi)
    rw[this];rfl
   |some k=>
    have hk:k < ps.length:=by have:=(mem k).mp (KD hi);rwa [hsz] at this
    have:=f3 i k hi
    rw[Mm,Kj hk] at this
    rw[this]
    simp[hk]
  rw[<-this];exact T
theorem l5:∀{l m:List Int},m.Nodup->(∀x,x∈m->x∈l)->l.length<=m.length->l.Nodup
 | [],_,_,_,_=>Mu
 |a :: l,m,hn,hs,hl=>by
  by_cases ha:a∈m
  ·have hnot:a∉l:=λz=>by
    have:=bo (m:=l) hn λx hx=>by
     rcases Kq.mp (hs x hx) with e |e
     ·rw[e];exact z
     ·exact e
    simp only[KI] at hl;omega
   refine K6.mpr ⟨hnot,l5 (m:=m.erase a) (hn.erase a) (λx hx=>?_) ?_⟩
   ·have:=(hn.mem_erase_iff).mp hx
    rcases Kq.mp (hs x this.2) with e |e
    ·exact absurd e this.1
    ·exact e
   ·rw[MY ha];simp only[KI] at hl;omega
  ·have:=bo (m:=l) hn λx hx=>by
    rcases Kq.mp (hs x hx) with e |e
    ·exact absurd (e▸hx) ha
    ·exact e
   simp only[KI] at hl;omega
def qj (a:Addr)(es:Array (Int×Value)):byScan (.ref a) es=false:=by unfold byScan Value.scannable;simp
def vW {t:SetTable}(h:zZ t.mask):t.gaveWay=false:=by
 unfold SetTable.gaveWay
 rcases h with e |e |e <;> rw[e] <;> decide
def mW.add {f:Pr->Int}(hinj:∀p q,Sm p->Sm q->f p=f q->p=q){led:Bool}{S a:Addr}{ps:List (Addr×Pr)}{p:Pr}{Q:Bool->Shared->Prop}(P:mW f prog w led s.heap S ps)(hk:bG prog w s.heap p a)(hs:Sm p)(hu:A.units < cLine)
  (h:∀(b:Bool) (h':Heap) (ps':List (Addr×Pr)),Heap.SameBut S s.heap h'->mW f prog w led h' S ps'->(∀q,q∈ps'->q∈ps\/q=(a,p))->(∀q,q∈ps->q∈ps')->(∃q,q∈ps'/\q.2=p)->Q b {s with heap:=h'}) :
  wpAny (model prog w) A (setAddHashed S (.ref a) (f p)) Q E s:=by
 obtain⟨o,ep,t,ho,hex,hd,T,hled⟩:=P.ex
 have hfit:t.fits (ps.map (dm f)).toArray.size=true:=oq T (by simp)
 have ha:∀i,i < (ps.map λq=>f q.2).length->some ((((ps.map (dm f)).toArray)[i]?.map (·.1)).getD 0)=(ps.map λq=>f q.2)[i]?:=λi hi=>by
  have hi':i < ps.length:=by simpa using hi
  simp[hi']
 unfold setAddHashed
 refine LK ?_
 unfold setAddHashedIn
 refine Kk (Lu ho hd hfit ?_)
 dsimp only
 rw[qj]
 simp only[KG,Lh]
 unfold setSearch
 rw[yP]
 refine Kk (Kk (Lu ho hd hfit ?_))
 dsimp only
 rw[vW T.mask]
 simp only[KG,Lh]
 by_cases hm:f p∈ps.map λq=>f q.2
 ·
  obtain⟨j,i,nx,e1,e2,e3,e4⟩:=T.present ha hm
  rw[e1]
  dsimp only
  have hi:i < ps.length:=by simpa using e3
  have e5:f (ps[i].2)=f p:=by
   rw[Kv,Kj hi] at e4
   simpa using e4
  have hq:=P.at' ps[i] (LB hi)
  have e6:ps[i].2=p:=hinj _ _ hq.2 hs e5
  have hget:((ps.map (dm f)).toArray)[i]? =some (f ps[i].2,.ref ps[i].1):=by simp[hi]
  have rest:wpAny (model prog w) A (do
    let some (_,y):=((ps.map (dm f)).toArray)[i]? |unsupported "internal:set-entry"
    let equal <-holding [y] (eqBool y (.ref a))
    let (es',_,t') <-setState S
    if true && equal then return SetFound.there none
    let some same:=t'.sameMemory t.moves t.mask |unsupported "set.changed-during-lookup:is-the-new-block-at-the-old-address"
    let still <-match (if same then t'.slot j else .empty) with
     | .live i'=>match es'[i']? with
      |some (_,y')=>do pure (if <-isSame y' y then some i' else none)
      |none=>pure none
     |_=>pure none
    match still with
    |none=>rule "set.search.anew";setSearchFrom S (.ref a) (f p) true 99999 none
    |some i'=>if equal then return .there (some i') else setSearchFrom S (.ref a) (f p) true 99999 (some nx))
    (λr s'=>s'=s/\r=.there none) E s:=by
   rw[hget]
   dsimp only
   refine Kk (LK (wpAny_eqBool_tuple hu hq.1 hk ?_))
   rw[Kt (by rw[e6])]
   refine Kk (Lu ho hd hfit ?_)
   dsimp only
   simp only[Bool.and_self,LD]
   exact Ks ⟨rfl,rfl⟩
  have fin:∀r s',s'=s/\r=SetFound.there none->wpAny (model prog w) A (match r with
    | .free slot wasDummy=>(do
     let (es,_,t) <-setState S
     let (t,p'):=t.put slot
     let byValue <-if t.plain then hashByValue 8 (.ref a) else pure true
     let t:=if byValue then t else {t with plain:=false}
     storeSet S (SetTable.insertAt es p' (f p,.ref a)) t
     if !wasDummy && t.tooFull then setRelay S (SetTable.grown (es.size + 1))
     return true)
    |_=>pure false) Q E s':=by
   rintro r s' ⟨rfl,rfl⟩
   exact Ks (h false s'.heap ps (Heap.SameBut.refl ..) P (λq hq=>.inl hq) (λq hq=>hq) ⟨ps[i],LB hi,e6⟩)
  cases hl:led with
  |true=>
   rw[hled,hl]
   simp only[MD,KG,Lh]
   exact LQ rest (λr s' hr=>fin r s' hr) λ_ _ x=>x
  |false=>
   rw[hled,hl]
   simp only[Bool.not_false,LD]
   refine Kk (vO hk _ (λv hv=>?_) ?_)
   ·obtain⟨x,hx,rfl⟩:=KC.mp hv
    have hx':x∈(ps.map (dm f)).toArray:=(Array.mem_filter.mp (Mq.mp hx)).1
    have hx2:x∈ps.map (dm f):=by simpa using hx'
    obtain⟨q,hq,rfl⟩:=KC.mp hx2
    exact⟨q.2,q.1,rfl,(P.at' q hq).1⟩
   ·simp only[KG,Lh]
    exact LQ rest (λr s' hr=>fin r s' hr) λ_ _ x=>x
 ·
  obtain⟨j,e1,e2,e3,e4⟩:=T.absent ha hm
  rw[e1]
  dsimp only
  refine Ks ?_
  dsimp only
  refine Kk (Lu ho hd hfit ?_)
  dsimp only
  obtain⟨q1,q2⟩:=pW t j T.dum
  have hpl:(t.put j).1.plain=true:=by rw[q1];exact T.plain
  rw[hpl]
  simp only[LD]
  refine Kk (tX hk ?_)
  simp only[LD]
  have hb:(t.put j).2<=ps.length:=by
   rw[q2]
   have:=(c6 T.rise j).1
   rw[T.size] at this;simpa using this
  have hins:insertAt (ps.map (dm f)).toArray (t.put j).2 (f p,Value.ref a)=((ps.take (t.put j).2 ++ (a,p) :: ps.drop (t.put j).2).map (dm f)).toArray:=by
   apply Array.toList_inj.mp
   rw[bQ _ _ _ (by simpa using hb)]
   simp[List.map_take,List.map_drop]
  rw[hins]
  generalize hps':ps.take (t.put j).2 ++ (a,p) :: ps.drop (t.put j).2=ps1
  have mem1:∀q,q∈ps1↔q∈ps\/q=(a,p):=λq=>by
   rw[<-hps',KU,Kq]
   conv=>rhs;rw[<-Ml (t.put j).2 ps,KU]
   constructor
   ·rintro (z |z |z)
    ·exact .inl (.inl z)
    ·exact .inr z
    ·exact .inl (.inr z)
   ·rintro ((z |z) |z)
    ·exact .inl z
    ·exact .inr (.inr z)
    ·exact .inr (.inl z)
  have len1:ps1.length=ps.length + 1:=by rw[<-hps'];simp;omega
  have nd1:(ps1.map (·.2)).Nodup:=by
   have hnot:p∉ps.map (·.2):=λz=>by
    obtain⟨q,hq,e⟩:=KC.mp z
    exact hm (KC.mpr ⟨q,hq,by rw[e]⟩)
   have perm:(ps1.map (·.2)).Perm (p :: ps.map (·.2)):=by
    rw[<-hps']
    have:(ps.take (t.put j).2 ++ (a,p) :: ps.drop (t.put j).2).Perm ((a,p) :: ps):=by
     refine List.perm_middle.trans ?_
     rw[Ml]
    exact this.map (·.2)
   exact perm.nodup_iff.mpr (K6.mpr ⟨hnot,P.nd⟩)
  have ne:∀b q,bG prog w s.heap q b->b≠S:=λb q ⟨o',_,_,ho',_,hd',_⟩ e=>by
   subst e
   rw[ho] at ho';cases ho'
   rw[hd] at hd';cases hd'
  have at1:∀{h':Heap},Heap.SameBut S s.heap h'->∀q,q∈ps1->bG prog w h' q.2 q.1/\Sm q.2:=λ{h'} hsb q hq=>by
   have key:∀{b:Addr} {q:Pr},bG prog w s.heap q b->bG prog w h' q b:=λ{b q} hb=>by
    have hne:=ne b q hb
    obtain⟨o',i',n',ho',r'⟩:=hb
    exact⟨o',i',n',(hsb.2 b hne).trans ho',r'⟩
   rcases (mem1 q).mp hq with z |z
   ·exact⟨key (P.at' q z).1,(P.at' q z).2⟩
   ·subst z;exact⟨key hk,hs⟩
  have hlen64:ps1.length<=64:=by
   have:=nj nd1 λx hx=>by
    obtain⟨q,hq,rfl⟩:=KC.mp hx
    exact (at1 (Heap.SameBut.refl ..) q hq).2
   simpa using this
  have hsize:((ps1.map (dm f)).toArray).size<=sizeLine:=by rw[KY];simp;omega
  refine Kk (wpAny_storeSet_of ho hd ?_ hsize)
  have ho1:(s.heap.update S (Obj.putSet (ps1.map (dm f)).toArray (t.put j).1)).get? S=some {o with data:=.set (ps1.map (dm f)).toArray (ep + 1) (t.put j).1}:=by
   have:=Lq (Obj.putSet (ps1.map (dm f)).toArray (t.put j).1) ho (by rw[putSet_of _ _ hd];rfl)
   rw[putSet_of _ _ hd] at this;exact this
  have sb1:=Heap.SameBut.update s.heap S (Obj.putSet (ps1.map (dm f)).toArray (t.put j).1)
  have hex1:({o with data:=.set (ps1.map (dm f)).toArray (ep + 1) (t.put j).1}:Obj).ExactSet:=hex
  have psz:(t.put j).1.place.size=ps.length + 1:=by
   rw[q1]
   show (insertAt t.place (below t.place j) j).size=_
   rw[<-MU,bQ _ _ _ (c6 T.rise j).1]
   have:=T.size
   simp at this ⊢
   have:=(c6 T.rise j).1
   omega
  have dum1:(t.put j).1.dummies=#[]:=by rw[q1];exact T.dum
  have mask1:(t.put j).1.mask=t.mask:=by rw[q1]
  have tsz:t.place.size=ps.length:=by simpa using T.size
  simp only[Bool.not_false,Bool.true_and]
  cases htf:(t.put j).1.tooFull with
  |false=>
   simp only[KG,Lh]
   have hload:(t.place.size + 1) * 5 < t.mask * 3:=by
    unfold SetTable.tooFull SetTable.fill at htf
    rw[psz,dum1,mask1] at htf
    simp at htf
    rw[tsz];exact htf
   obtain⟨T1,_⟩:=T.put e2 e3 e4 hload
   refine Kk (Ks (Ks (h true _ ps1 sb1 ⟨⟨_,ep + 1,_,ho1,hex1,rfl,?_,?_⟩,at1 sb1,nd1⟩ (λq hq=>(mem1 q).mp hq) (λq hq=>(mem1 q).mpr (.inl hq)) ⟨(a,p),(mem1 _).mpr (.inr rfl),rfl⟩)))
   ·rw[<-hps']
    simpa[List.map_take,List.map_drop] using T1
   ·rw[q1];exact hled
  |true=>
   simp only[LD]
   have hfull:t.mask * 3<=(ps.length + 1) * 5:=by
    unfold SetTable.tooFull SetTable.fill at htf
    rw[psz,dum1,mask1] at htf
    simpa using htf
   have hload:=T.load
   rw[tsz] at hload
   have hcase:∃mask',zZ mask'/\sizeAbove (grown (ps.length + 1)) - 1=mask'/\sizeAbove (grown (ps.length + 1))<=sizeLine/\(ps.length + 1) * 5 < mask' * 3:=by
    rcases T.mask with e |e |e
    ·have:ps.length + 1=5:=by rw[e] at hfull hload;omega
     rw[this,DP.1]
     exact⟨31,.inr (.inl rfl),rfl,by rw[KY];decide,by decide⟩
    ·have:ps.length + 1=19:=by rw[e] at hfull hload;omega
     rw[this,DP.2]
     exact⟨127,.inr (.inr rfl),rfl,by rw[KY];decide,by decide⟩
    ·rw[e] at hfull;omega
   obtain⟨mask',hm3,em,hline,hl2⟩:=hcase
   have hes:(ps.map (dm f)).toArray.size + 1=ps.length + 1:=by simp
   rw[hes,BJ]
   have hfit1:(t.put j).1.fits ((ps1.map (dm f)).toArray).size=true:=by
    unfold SetTable.fits SetTable.fill
    have hpl2:ps.length + 1<=t.mask:=by
     rcases T.mask with e |e |e <;> rw[e] at hload ⊢ <;> omega
    rw[psz,dum1,mask1]
    simp[len1,hpl2]
   refine Kk (Kk (Lu ho1 rfl hfit1 ?_))
   dsimp only
   rw[Ku (by omega)]
   rw[sM _ _ _ hpl,em]
   obtain⟨t2,order,ps2,g1,g2,g3,g4,g5,g6⟩:=qU f hm3 (ps:=ps1) (by rw[len1];exact hl2) (t.put j).1.finger ((t.put j).1.movedTo mask') (t.put j).1.led
   rw[g1]
   simp only[bind_pure_comp,pure_bind]
   rw[g2]
   have hne:((ps2.map (dm f)).toArray.size != (ps1.map (dm f)).toArray.size)=false:=by simp[g3]
   rw[hne]
   simp only[KG,Lh]
   have hsize2:((ps2.map (dm f)).toArray).size<=sizeLine:=by rw[KY];simp;omega
   refine Kk (Ks ?_)
   refine wpAny_storeSet_of ho1 rfl ?_ hsize2
   have ho2:((s.heap.update S (Obj.putSet (ps1.map (dm f)).toArray (t.put j).1)).update S (Obj.putSet (ps2.map (dm f)).toArray t2)).get? S=some {o with data:=.set (ps2.map (dm f)).toArray (ep + 1 + 1) t2}:=by
    have:=Lq (Obj.putSet (ps2.map (dm f)).toArray t2) ho1 (by rw[putSet_of (ep:=ep + 1) _ _ rfl];rfl)
    rw[putSet_of (ep:=ep + 1) _ _ rfl] at this;exact this
   have sb2:=sb1.trans (Heap.SameBut.update _ S (Obj.putSet (ps2.map (dm f)).toArray t2))
   have nd2:(ps2.map (·.2)).Nodup:=by
    have hmem:∀q,q∈ps2.map (·.2)↔q∈ps1.map (·.2):=λq=>by
     rw[KC,KC]
     exact⟨λ⟨x,hx,e⟩=>⟨x,(g4 x).mp hx,e⟩,λ⟨x,hx,e⟩=>⟨x,(g4 x).mpr hx,e⟩⟩
    have hnd:(ps2.map λq=>f q.2).Nodup:=by
     refine l5 (m:=ps1.map λq=>f q.2) ?_ (λx hx=>?_) (by simp[g3])
     ·have:(ps1.map λq=>f q.2)=(ps1.map (·.2)).map f:=by simp
      rw[this]
      refine LC.mpr (LP ?_ nd1)
      intro x y hx hy hxy e
      obtain⟨q,hq,rfl⟩:=KC.mp hx
      obtain⟨r,hr,rfl⟩:=KC.mp hy
      exact hxy (hinj _ _ (at1 sb1 q hq).2 (at1 sb1 r hr).2 e)
     ·obtain⟨q,hq,rfl⟩:=KC.mp hx
      exact KC.mpr ⟨q,(g4 q).mpr hq,rfl⟩
    have:(ps2.map λq=>f q.2)=(ps2.map (·.2)).map f:=by simp
    rw[this] at hnd
    exact (LC.mp hnd).imp λhxy e=>hxy (by rw[e])
   refine Ks (h true _ ps2 sb2 ⟨⟨_,ep + 1 + 1,t2,ho2,hex,rfl,g5,?_⟩,λq hq=>at1 sb2 q ((g4 q).mp hq),nd2⟩ (λq hq=>(mem1 q).mp ((g4 q).mp hq)) (λq hq=>(g4 q).mpr ((mem1 q).mpr (.inl hq))) ⟨(a,p),(g4 _).mpr ((mem1 _).mpr (.inr rfl)),rfl⟩)
   rw[g6,q1];exact hled
end
def eB (w:World):Bool:= !(w.params.followText "set-order")
def zg (prog:Program)(w:World)(p:Pr):Int:=tupleKeyHash (intKind prog w) [p.1,p.2]
def CW (prog:Program)(w:World):∀p q,Sm p->Sm q->zg prog w p=zg prog w q->p=q:=λp q h1 h2 e=>EA h1 h2 e
section
variable {prog:Program}{w:World}{A:Around}{E:Value->Shared->Prop}{s:Shared}{R:Result->Shared->Prop}{I:Addr}{fp wr:List Addr}{n:Nat}{P:Nat->Value->Prop}{St:Nat->Heap->Prop}
def cL (prog:Program)(w:World)(h:Heap)(vs:List Value)(ps:List Pr):Prop:=vs.length=ps.length/\∀(i:Nat) (v:Value) (p:Pr),vs[i]? =some v->ps[i]? =some p->∃a,v=.ref a/\bG prog w h p a/\Sm p
abbrev mD (prog:Program)(w:World)(h:Heap)(S:Addr)(vs:List Value)(ps:List Pr)(k:Nat):Prop:=∃qs:List (Addr×Pr),mW (zg prog w) prog w (eB w) h S qs/\
 (∀q,q∈qs->Value.ref q.1∈vs.take k/\q.2∈ps.take k)/\∀p,p∈ps.take k->p∈qs.map (·.2)
theorem kK (W:Walks prog w A.in1 I fp wr n P St)(S:Addr)(hSf:S∉fp){vs:List Value}{ps:List Pr}(hn:vs.length=n)(hP:∀i v,P i v->vs[i]? =some v)(hu:A.in1.units < cLine)(h₀:Heap)
  (hps:cL prog w h₀ vs ps) (hwr:∀b o,b∈S :: wr->h₀.get? b=some o->False):∀(k i:Nat) (s:Shared),n - i=k->i<=n->St i s.heap->(∀b o,h₀.get? b=some o->s.heap.get? b=some o)->mD prog w s.heap S vs ps i->
   (∀h' tk,(∀b o,b∉S :: wr->s.heap.get? b=some o->h'.get? b=some o)->mD prog w h' S vs ps n->R (.ok (.ret .none)) {s with heap:=h',toks:=tk})->
   codeAny (model prog w) A (.builtin "set.update.loop" ⟨[.ref S,.ref I],[]⟩) R s:=by
 have nw:S∉wr:=λh=>hSf (W.sub _ h)
 intro k
 induction k with
 |zero=>
  intro i s hk hi hst hk0 hF hR
  obtain rfl:i=n:=by omega
  refine Mn PyProof.Rows.F.entry_set_update_loop ?_
  rw[Ms Mi _]
  show wpAny _ A.in1 (pyNext (.ref I) >>= λr=>_) _ _ s
  refine Kk (W.done s _ _ hst λh' tk hm=>?_)
  show wpAny _ A.in1 (ret Value.none) _ _ _
  refine Ks (hR h' tk (λb o hb e=>hm b o (λz=>hb (Ko _ z)) e) ?_)
  obtain⟨qs,Q1,Q2,Q3⟩:=hF
  obtain⟨o,ep,t,ho,r⟩:=Q1.ex
  refine⟨qs,⟨⟨o,ep,t,hm S o nw ho,r⟩,λq hq=>⟨?_,(Q1.at' q hq).2⟩,Q1.nd⟩,Q2,Q3⟩
  obtain⟨m,hm1,hm2⟩:=K8.mp (L6 (Q2 q hq).1)
  have hm1':m < ps.length:=by rw[<-hps.1];exact hm1
  obtain⟨a,ea,ha,_⟩:=hps.2 m vs[m] ps[m] (Kj hm1) (Kj hm1')
  rw[hm2] at ea
  cases ea
  obtain⟨o',it',n',ho',r'⟩:=(Q1.at' q hq).1
  obtain⟨o2,it2,n2,ho2,r2⟩:=ha
  have:o'=o2:=Option.some.inj (ho'.symm.trans (hk0 _ _ ho2))
  subst this
  exact⟨o',it',n',hm _ _ (λz=>hwr _ _ (Ko _ z) ho2) ho',r'⟩
 |succ k ih=>
  intro i s hk hi hst hk0 hF hR
  have hlt:i < n:=by omega
  refine Mn PyProof.Rows.F.entry_set_update_loop ?_
  rw[Ms Mi _]
  show wpAny _ A.in1 (pyNext (.ref I) >>= λr=>_) _ _ s
  refine Kk (W.item i s _ _ hlt hst λv h1 tk1 hv hst1 hm=>?_)
  have hvi:=hP i v hv
  have hip:i < ps.length:=by rw[<-hps.1,hn];exact hlt
  obtain⟨a,rfl,ha,hsm⟩:=hps.2 i v ps[i] hvi (Kj hip)
  have k1:∀b o,h₀.get? b=some o->h1.get? b=some o:=λb o e=>hm b o (λz=>hwr b o (Ko _ z) e) (hk0 b o e)
  obtain⟨qs,Q1,Q2,Q3⟩:=hF
  have old:∀{q:Addr×Pr} {h:Heap},q∈qs->(∀b o,h₀.get? b=some o->h.get? b=some o)->bG prog w h q.2 q.1:=λ{q h} hq kk=>by
   obtain⟨m,hm1,hm2⟩:=K8.mp (L6 (Q2 q hq).1)
   have hm1':m < ps.length:=by rw[<-hps.1];exact hm1
   obtain⟨a,ea,ha,_⟩:=hps.2 m vs[m] ps[m] (Kj hm1) (Kj hm1')
   rw[hm2] at ea
   cases ea
   obtain⟨o',it',n',ho',r'⟩:=(Q1.at' q hq).1
   obtain⟨o2,it2,n2,ho2,r2⟩:=ha
   have:o'=o2:=Option.some.inj (ho'.symm.trans (hk0 _ _ ho2))
   subst this
   exact⟨o',it',n',kk _ _ ho2,r'⟩
  have P1:mW (zg prog w) prog w (eB w) h1 S qs:=by
   obtain⟨o,ep,t,ho,r⟩:=Q1.ex
   exact⟨⟨o,ep,t,hm S o nw ho,r⟩,λq hq=>⟨old hq k1,(Q1.at' q hq).2⟩,Q1.nd⟩
  have ha1:bG prog w h1 ps[i] a:=by
   obtain⟨o',it',n',ho',r'⟩:=ha
   exact⟨o',it',n',k1 _ _ ho',r'⟩
  show wpAny _ A.in1 (holding [Value.ref a] (setAdd S (.ref a)) >>= λ_=>_) _ _ _
  refine Kk (LK ?_)
  unfold setAdd
  refine LK (Kk (wpAny_pyHash_tuple hu ha1 ?_))
  refine mW.add (CW prog w) (s:={s with heap:=h1,toks:=tk1 + ([ps[i].1,ps[i].2].length + 1)}) P1 ha1 hsm hu λb h2 qs' sb P2 m1 m2 m3=>?_
  have sbS:∀b o,h₀.get? b=some o->h2.get? b=some o:=λb o e=>(sb.2 b (λz=>hwr b o (by rw[z];exact Kr) e)).trans (k1 b o e)
  refine Ks ⟨plainId_quiet Mi _,ih (i + 1) _ (by omega) hlt (W.frame _ _ _ hst1 λb hb o e=>?_) sbS ⟨qs',P2,λq hq=>?_,λp hp=>?_⟩ λh' tk hm' F'=>?_⟩
  ·rw[sb.2 b λz=>hSf (by rw[<-z];exact hb)];exact e
  ·have htk:∀{α:Type} {l:List α} {x:α},x∈l.take i->x∈l.take (i + 1):=λ{α l x} hx=>by
    rw[LW];exact LH _ hx
   rcases m1 q hq with z |z
   ·exact⟨htk (Q2 q z).1,htk (Q2 q z).2⟩
   ·subst z
    refine⟨?_,?_⟩
    ·rw[LW,hvi];exact Lf _ (by simp)
    ·rw[LW,Kj hip];exact Lf _ (by simp)
  ·rw[LW,Kj hip] at hp
   rcases KU.mp hp with z |z
   ·obtain⟨q,hq,rfl⟩:=KC.mp (Q3 p z)
    exact KC.mpr ⟨q,m2 q hq,rfl⟩
   ·have:p=ps[i]:=by simpa using z
    obtain⟨q,hq,e⟩:=m3
    exact KC.mpr ⟨q,hq,by rw[e,this]⟩
  ·refine hR h' tk (λb o hb e=>hm' b o hb ?_) F'
   show h2.get? b=some o
   rw[sb.2 b λz=>hb (by rw[z];exact Kr)]
   exact hm b o (λz=>hb (Ko _ z)) e
def lQ (a:Value){Q1:Value->Shared->Prop}
  (h:Q1 (.ref s.heap.objs.size) {s with heap:=s.heap.push {cls:=.type "set",dict:=none,data:=.set #[] 0 (.fresh 0 0 (eB w))}}) :
  codeAny (model prog w) A (.call (.builtin "set.__new__") ⟨[.type "set",a],[]⟩) (wants Q1 E) s:=by
 refine codeAny_of_tree ?_
 show wpAny _ A.in1 (do (checkBuiltinCall "set.__new__" ⟨[.type "set",a],[]⟩);again (.builtin "set.__new__" ⟨[.type "set",a],[]⟩)) _ _ s
 refine Kk (wpAny_of_eq (F.newCall_set_1 a) (Ks ⟨plainId_quiet F.plain_set_new _,Mn F.entry_set_new ?_⟩))
 rw[Ms F.plain_set_new _]
 (unfold Builtin.«set.__new__» Builtin.Frozenset.newClass)
 have hsub0:=sub_set_self
 obtain⟨hp0,g0,d0,tk0,os0⟩:=s
 dsimp only
 wp_walk
 (refine MQ (Ks ?_))
 dsimp only
 simp only[newObj]
 (refine Kk (wpAny_alloc (Ks ?_)))
 exact Ks h
def yS (led:Bool):Tab (.fresh 0 0 led) []:=
 ⟨.inl rfl,rfl,List.Pairwise.nil,λj h=>(by cases (Mq.mpr h)),rfl,(by show (0:Nat) * 5 < 7 * 3;decide),λi j h e=>(by simp[SetTable.fresh] at e),rfl⟩
structure Src (prog:Program)(w:World)(h:Heap)(l:Addr)(vs:List Value)(T:String)(itO:Obj)(St:Addr->Nat->Heap->Prop):Prop where
 ty:∃o,h.get? l=some o/\o.cls=.type T
 ns:isSubtype (.type T) (.type "set")=pure false
 nf:isSubtype (.type T) (.type "frozenset")=pure false
 nd:(Value.type T == Value.type "dict")=false
 it:∀(A:Around) (s1:Shared) (Q:Value->Shared->Prop) (E:Value->Shared->Prop),(∀b o,h.get? b=some o->s1.heap.get? b=some o)->Q (.ref s1.heap.objs.size) {s1 with heap:=s1.heap.push itO}->wpAny (model prog w) A (pyIter (.ref l)) Q E s1
 st:∀(h1:Heap),(∀b o,h.get? b=some o->h1.get? b=some o)->St h1.objs.size 0 (h1.push itO)
 wk:∀(A:Around) (I:Addr),A.handled=none->l≠I->Walks prog w A I [I,l] [I] vs.length (λi v=>vs[i]? =some v) (St I)
def Src.list {h:Heap}{l:Addr}{vs:List Value}(hl:h.IsList l vs.toArray):Src prog w h l vs "list" {cls:=.type "list_iterator",data:=.fields #[.ref l,.int 0 0]} (λI i h'=>h'.IsListIter I l i/\h'.IsList l vs.toArray):=by
 obtain⟨o,ho,hc,n,hd⟩:=id hl
 refine⟨⟨o,ho,hc⟩,F.sub_list_set,F.sub_list_frozenset,by decide,λA s1 Q E k hQ=>ML ⟨o,k _ _ ho,hc,n,hd⟩ hQ,λh1 k=>⟨⟨_,Ky _ rfl,rfl,rfl⟩,⟨o,Kl _ (k _ _ ho),hc,n,hd⟩⟩,λA I hh hne=>?_⟩
 have:=Walks.list (prog:=prog) (w:=w) hh I l hne vs.toArray
 simpa using this
def sub_tuple_set:isSubtype (.type "tuple") (.type "set")=pure false:=by rw[M6];kernel_rfl
def sub_tuple_frozenset:isSubtype (.type "tuple") (.type "frozenset")=pure false:=by rw[M6];kernel_rfl
def Src.tuple {h:Heap}{l:Addr}{vs:List Value}(hl:h.IsTuple l vs.toArray):Src prog w h l vs "tuple" {cls:=.type "tuple_iterator",data:=.fields #[.ref l,.int 0 0]} (λI i h'=>h'.IsTupleIter I l i/\h'.IsTuple l vs.toArray):=by
 obtain⟨o,ho,hc,n,hd⟩:=id hl
 refine⟨⟨o,ho,hc⟩,sub_tuple_set,sub_tuple_frozenset,by decide,λA s1 Q E k hQ=>MI ⟨o,k _ _ ho,hc,n,hd⟩ hQ,λh1 k=>⟨⟨_,Ky _ rfl,rfl,rfl⟩,⟨o,Kl _ (k _ _ ho),hc,n,hd⟩⟩,λA I hh hne=>?_⟩
 have:=Walks.tuple (prog:=prog) (w:=w) hh I l hne vs.toArray
 simpa using this
set_option maxHeartbeats 3200000 in
theorem nK {l:Addr}{vs:List Value}{ps:List Pr}{T:String}{itO:Obj}{St:Addr->Nat->Heap->Prop}{Q:Value->Shared->Prop}(X:Src prog w s.heap l vs T itO St)(hh:A.handled=none)(hu:A.units + 64 < cLine)(hps:cL prog w s.heap vs ps)
  (h:∀(h':Heap) (tk:Nat),mD prog w h' s.heap.objs.size vs ps vs.length->(∀b o,s.heap.get? b=some o->h'.get? b=some o)->Q (.ref s.heap.objs.size) {s with heap:=h',toks:=tk}) :
  wpAny (model prog w) A (call (.type "set") [.ref l]) Q E s:=by
 obtain⟨c0,tl0,hmro0⟩:=Lv.mro
 have hmade0:=Lv.made
 have hsub0:=Lv.sub
 refine wpAny_call (codeAny_of_tree ?_)
 show wpAny _ _ (callAny (.type "set") ⟨[.ref l],[]⟩) _ _ _
 refine Ks ⟨Code.quiet_builtin _ (by decide +kernel),Mn F.entry_type_call ?_⟩
 (rw[Around.under_plain (weight_type_call_type "set" [.ref l] []) rfl])
 have g1:=Lv.notType
 have g2:=Lv.canCreate
 have g3:=F.typeCall_set_1 (.ref l)
 repeat (any_goals (first |assumption |wp_step))
 refine Mv (lQ (.ref l) (E:=E) (Q1:=λobj s1=>obj=.ref s.heap.objs.size/\s1={s with heap:=s.heap.push {cls:=.type "set",dict:=none,data:=.set #[] 0 (.fresh 0 0 (eB w))}}) ⟨rfl,rfl⟩) λr s1 hr=>?_
 cases r with
 |error e=>exact hr
 |ok fl=>
  cases fl with
  |ret obj=>
   obtain⟨rfl,rfl⟩:=hr
   generalize hO:({cls:=.type "set",dict:=none,data:=.set #[] 0 (.fresh 0 0 (eB w))}:Obj)=O
   have hS0:(s.heap.push O).get? s.heap.objs.size=some O:=Ky _ (by rw[<-hO];rfl)
   have hT0:Shared.TypeIs {s with heap:=s.heap.push O} (.ref s.heap.objs.size) "set":=⟨_,hS0,by rw[<-hO]⟩
   have g4:=Lv.init.lookup
   have g5:=Lv.init.bind (.ref s.heap.objs.size)
   repeat (any_goals (first |assumption |wp_step))
   refine Mv (codeAny_call_builtin (R:=wants (λr s2=>r=.none/\∃h' tk,s2={s with heap:=h',toks:=tk}/\mD prog w h' s.heap.objs.size vs ps vs.length/\(∀b o,s.heap.get? b=some o->h'.get? b=some o)) E)
    Lv.init.plain F.entry_set_init (check_set_init_1 hT0 ?_)) λr2 s2 hr2=>?_
   ·obtain⟨ol,hol,hcl⟩:=X.ty
    have hol':(s.heap.push O).get? l=some ol:=Kl _ hol
    have e1:=X.ns
    have e2:=X.nf
    have e3:=X.nd
    have hTl:Shared.TypeIs {s with heap:=s.heap.push O} (.ref l) T:=⟨ol,hol',hcl⟩
    have hdat:O.data=.set #[] 0 (.fresh 0 0 (eB w)):=by rw[<-hO]
    (unfold Builtin.«set.__init__» noKeywords Builtin.Frozenset.updateFrom)
    subst hO
    obtain⟨oc,od,odt,osl⟩:=ol
    simp only at hcl
    subst hcl
    (generalize hPI0:pyIter=PI0)
    wp_walk
    subst hPI0
    have kp:∀b o,s.heap.get? b=some o->(s.heap.push {cls:=.type "set",dict:=none,data:=.set #[] 0 (.fresh 0 0 (eB w))}).get? b=some o:=λb o e=>Kl _ e
    refine X.it _ _ _ _ kp ?_
    refine Kk (wpAny_runValue ?_)
    have hlS:l < s.heap.objs.size:=Kw hol
    have hh3:A.in1.in1.in1.handled=none:=by simp[hh]
    have hneI:l≠(s.heap.push {cls:=.type "set",dict:=none,data:=.set #[] 0 (.fresh 0 0 (eB w))}).objs.size:=by
     rw[LR];exact K1 (Nat.lt_succ_of_lt hlS)
    have hSf:s.heap.objs.size∉ [(s.heap.push {cls:=.type "set",dict:=none,data:=.set #[] 0 (.fresh 0 0 (eB w))}).objs.size,l]:=by
     rw[LR]
     intro z
     rcases Kq.mp z with e |z
     ·exact absurd e (K1 (Nat.lt_succ_self _))
     ·exact absurd (KS.mp z) (Nat.ne_of_gt hlS)
    refine kK (X.wk _ _ hh3 hneI) s.heap.objs.size hSf rfl (λi v e=>e) (by simp;omega) s.heap hps (λb o hb e=>?_) (vs.length - 0) 0 _ (by omega) (K5 _) (X.st _ kp) (λb o e=>Kl _ (kp b o e)) ?_ ?_
    ·have hlt:=Kw e
     rw[LR] at hb
     rcases Kq.mp hb with z |z
     ·exact absurd hlt (by rw[z];exact Ld _)
     ·rw[KS.mp z] at hlt
      exact absurd hlt (Nat.not_lt.mpr (Nat.le_succ _))
    ·refine⟨[],⟨⟨_,0,_,Kl _ hS0,⟨rfl,rfl,rfl⟩,rfl,yS _,rfl⟩,λq hq=>(by cases hq),Mu⟩,λq hq=>(by cases hq),λp hp=>(by simp at hp)⟩
    ·intro h' tk hm F'
     show wpAny _ _ _ _ _ _
     refine Ks ?_
     show wpAny _ _ (ret Value.none) _ _ _
     refine Ks ⟨rfl,h',tk,rfl,F',λb o e=>hm b o (λz=>?_) (Kl _ (kp b o e))⟩
     have hlt:=Kw e
     rw[LR] at z
     rcases Kq.mp z with z |z
     ·exact absurd hlt (by rw[z];exact Ld _)
     ·rw[KS.mp z] at hlt
      exact absurd hlt (Nat.not_lt.mpr (Nat.le_succ _))
   ·cases r2 with
    |error e=>exact hr2
    |ok fl2=>
     cases fl2 with
     |ret r=>
      obtain⟨rfl,h',tk,rfl,hF,hk⟩:=hr2
      repeat (any_goals (first |assumption |wp_step))
      exact h _ _ hF hk
     |_=>exact hr2.elim
  |_=>exact hr.elim
end
end L2.ST
namespace L2.SO
open PySem PySem.W PyProof.Rows
def i5 {α:Type}(lt:Nat->Nat->Bool):KasT α->α
 | .ret a=>a
 | .ask i j k=>i5 lt (k (lt i j))
theorem dO {α β:Type}(lt:Nat->Nat->Bool)(f:α->KasT β):∀t:KasT α,i5 lt (t.bind f)=i5 lt (f (i5 lt t))
 | .ret _=>rfl
 | .ask i j k=>dO lt f (k (lt i j))
def rW {α:Type}(n:Nat)(lt:Nat->Nat->Bool):KasT α->Prop
 | .ret _=>True
 | .ask i j k=>i < n/\j < n/\rW n lt (k (lt i j))
theorem gf {α β:Type}{n:Nat}{lt:Nat->Nat->Bool}{f:α->KasT β}:∀{t:KasT α},rW n lt t->rW n lt (f (i5 lt t))->rW n lt (t.bind f)
 | .ret _,_,h=>h
 | .ask i j k,h,h'=>⟨h.1,h.2.1,gf h.2.2 h'⟩
section
variable {n:Nat}{key:Nat->Int}
abbrev lT (key:Nat->Int)(i j:Nat):Bool:=decide (key i < key j)
abbrev Kp (key:Nat->Int)(p:Array Nat)(k:Nat):Int:=key (p.getD k 0)
structure Pm (n:Nat)(p:Array Nat):Prop where
 sz:p.size=n
 nd:p.toList.Nodup
 lt:∀x,x∈p->x < n
def Pm.at {p:Array Nat}(P:Pm n p){k:Nat}(hk:k < n):p.getD k 0 < n:=by
 have h:k < p.size:=by rw[P.sz];exact hk
 simp only[Array.getD,h,dif_pos]
 exact P.lt _ (Array.getElem_mem h)
def Pm.ne {p:Array Nat}(P:Pm n p){i k:Nat}(hi:i < n)(hk:k < n)(hne:i≠k):p.getD i 0≠p.getD k 0:=by
 have h1:i < p.toList.length:=by simpa using (by rw[P.sz];exact hi:i < p.size)
 have h2:k < p.toList.length:=by simpa using (by rw[P.sz];exact hk:k < p.size)
 have h1':i < p.size:=by rw[P.sz];exact hi
 have h2':k < p.size:=by rw[P.sz];exact hk
 have a1:p.getD i 0=p.toList[i]:=by simp[Array.getD,h1']
 have a2:p.getD k 0=p.toList[k]:=by simp[Array.getD,h2']
 rw[a1,a2]
 have q:=Mr.mp P.nd
 rcases Lz i k with c |c
 ·exact q i k h1 h2 c
 ·exact (q k i h2 h1 (by omega)).symm
def Pm.perm {p q:Array Nat}(P:Pm n p)(h:q.Perm p):Pm n q:=by
 have h':=Array.perm_iff_toList_perm.mp h
 exact⟨by rw[h.size_eq];exact P.sz,h'.nodup_iff.mpr P.nd,λx hx=>P.lt x (by simpa using h'.mem_iff.mp (by simpa using hx))⟩
def tQ (n:Nat):Pm n (List.toArray (List.range n)):=⟨by simp,by simpa using Mw,λx hx=>by simpa using hx⟩
def Inj (n:Nat)(key:Nat->Int):Prop:=∀i j,i < n->j < n->key i=key j->i=j
def Pm.tri {p:Array Nat}(P:Pm n p)(hi:Inj n key){i k:Nat}(h1:i < n)(h2:k < n)(hne:i≠k):Kp key p i < Kp key p k\/Kp key p k < Kp key p i:=by
 have:Kp key p i≠Kp key p k:=λe=>P.ne h1 h2 hne (hi _ _ (P.at h1) (P.at h2) e)
 omega
def Up (key:Nat->Int)(p:Array Nat)(m:Nat):Prop:=∀i j,i < j->j < m->Kp key p i < Kp key p j
def Dn (key:Nat->Int)(p:Array Nat)(m:Nat):Prop:=∀i j,i < j->j < m->Kp key p j < Kp key p i
def Up.snoc {p:Array Nat}{m:Nat}(U:Up key p m)(h1:1<=m)(h:Kp key p (m - 1) < Kp key p m):Up key p (m + 1):=λi j hij hj=>by
 rcases Lz j m with c |c
 ·exact U i j hij c
 ·have:j=m:=by omega
  subst this
  rcases Lz i (j - 1) with d |d
  ·exact Int.lt_trans (U i (j - 1) d (by omega)) h
  ·have:i=j - 1:=by omega
   rw[this];exact h
def Dn.snoc {p:Array Nat}{m:Nat}(U:Dn key p m)(h1:1<=m)(h:Kp key p m < Kp key p (m - 1)):Dn key p (m + 1):=λi j hij hj=>by
 rcases Lz j m with c |c
 ·exact U i j hij c
 ·have:j=m:=by omega
  subst this
  rcases Lz i (j - 1) with d |d
  ·exact Int.lt_trans h (U i (j - 1) d (by omega))
  ·have:i=j - 1:=by omega
   rw[this];exact h
theorem n6 {p:Array Nat}(P:Pm n p)(hi:Inj n key):∀(f m:Nat),1<=m->m + f<=n->Up key p m->
  ∃r,(i5 (lT key) (kas_asc p f m)=r/\rW n (lT key) (kas_asc p f m))/\m<=r/\r<=m + f/\Up key p r/\(r < m + f->Kp key p r < Kp key p (r - 1))
 | 0,m,_,_,U=>⟨m,⟨rfl,trivial⟩,Km _,Km _,U,λh=>absurd h (Ld _)⟩
 |f + 1,m,h1,hn,U=>by
  have b1:p.getD m 0 < n:=P.at (by omega)
  have b2:p.getD (m - 1) 0 < n:=P.at (by omega)
  unfold kas_asc i5 rW
  by_cases c:Kp key p m < Kp key p (m - 1)
  ·rw[show lT key (p.getD m 0) (p.getD (m - 1) 0)=true from Kt c]
   simp only[LD]
   exact⟨m,⟨rfl,b1,b2,trivial⟩,Km _,by omega,U,λ_=>c⟩
  ·rw[show lT key (p.getD m 0) (p.getD (m - 1) 0)=false from KA c]
   simp only[KG,Lh]
   have up:Kp key p (m - 1) < Kp key p m:=(P.tri hi (by omega) (by omega) (by omega)).resolve_right c
   obtain⟨r,⟨e,o⟩,a,b,u,d⟩:=n6 P hi f (m + 1) (by omega) (by omega) (U.snoc h1 up)
   exact⟨r,⟨e,b1,b2,o⟩,by omega,by omega,u,λh=>d (by omega)⟩
theorem p5 {p:Array Nat}(P:Pm n p)(hi:Inj n key):∀(f m:Nat),1<=m->m + f<=n->Dn key p m->
  ∃r,(i5 (lT key) (kas_desc f p m 0)=(p,r,0)/\rW n (lT key) (kas_desc f p m 0))/\m<=r/\r<=m + f/\Dn key p r
 | 0,m,_,_,U=>⟨m,⟨rfl,trivial⟩,Km _,Km _,U⟩
 |f + 1,m,h1,hn,U=>by
  have b1:p.getD m 0 < n:=P.at (by omega)
  have b2:p.getD (m - 1) 0 < n:=P.at (by omega)
  unfold kas_desc i5 rW
  by_cases c:Kp key p m < Kp key p (m - 1)
  ·rw[show lT key (p.getD m 0) (p.getD (m - 1) 0)=true from Kt c]
   simp only[LD,Ld,gt_iff_lt,Lh]
   obtain⟨r,⟨e,o⟩,a,b,u⟩:=p5 P hi f (m + 1) (by omega) (by omega) (U.snoc h1 c)
   exact⟨r,⟨e,b1,b2,o⟩,by omega,by omega,u⟩
  ·rw[show lT key (p.getD m 0) (p.getD (m - 1) 0)=false from KA c]
   simp only[KG,Lh]
   unfold i5 rW
   have up:Kp key p (m - 1) < Kp key p m:=(P.tri hi (by omega) (by omega) (by omega)).resolve_right c
   rw[show lT key (p.getD (m - 1) 0) (p.getD m 0)=true from Kt up]
   simp only[LD]
   exact⟨m,⟨rfl,b1,b2,b2,b1,trivial⟩,Km _,by omega,U⟩
def AB {p:Array Nat}{j k:Nat}(hj:j<=p.size)(hk:k < j):(kas_rev p 0 j).getD k 0=p.getD (j - 1 - k) 0:=by
 unfold kas_rev
 rw[Lg,getElem?_mirror_all hj k,Kn ⟨K5 _,hk⟩,Lg]
 congr 2
 omega
def Fw {p:Array Nat}{m:Nat}(hm:m<=p.size)(D:Dn key p m):Up key (kas_rev p 0 m) m:=λi j hij hj=>by
 unfold Kp
 rw[AB hm (by omega),AB hm hj]
 exact D (m - 1 - j) (m - 1 - i) (by omega) (by omega)
def Pm.rev {p:Array Nat}(P:Pm n p)(j:Nat):Pm n (kas_rev p 0 j):=P.perm (mirror_perm ..)
def va {p:Array Nat}(P:Pm n p)(hi:Inj n key)(h1:1<=n) :
  ∃m q,(i5 (lT key) (kas_count n p)=(m,q)/\rW n (lT key) (kas_count n p))/\Pm n q/\1<=m/\m<=n/\Up key q m:=by
 obtain⟨r,⟨e,o⟩,a,b,u,d⟩:=n6 P hi (n - 1) 1 (Km _) (by omega) (λi j hij hj=>by omega)
 have rest:∃m q,(i5 (lT key) (if (r == n)=true then KasT.ret (r,p) else if r > 1 then .ask (p.getD 0 0) (p.getD (r - 1) 0) λc=>if c=true then .ret (r,p) else kas_descPart r n (kas_rev p 0 r) else kas_descPart r n p)=(m,q)/\
   rW n (lT key) (if (r == n)=true then KasT.ret (r,p) else if r > 1 then .ask (p.getD 0 0) (p.getD (r - 1) 0) λc=>if c=true then .ret (r,p) else kas_descPart r n (kas_rev p 0 r) else kas_descPart r n p))/\Pm n q/\1<=m/\m<=n/\Up key q m:=by
  by_cases c:(r == n)=true
  ·rw[Kn c]
   exact⟨r,p,⟨rfl,trivial⟩,P,a,by omega,u⟩
  ·rw[Ku c]
   have hrn:r≠n:=by simpa using c
   have dd:=d (by omega)
   by_cases c2:r > 1
   ·rw[Kn c2]
    unfold i5 rW
    rw[show lT key (p.getD 0 0) (p.getD (r - 1) 0)=true from Kt (u 0 (r - 1) (by omega) (by omega))]
    simp only[LD]
    exact⟨r,p,⟨rfl,P.at (by omega),P.at (by omega),trivial⟩,P,a,by omega,u⟩
   ·rw[Ku c2]
    have hr1:r=1:=by omega
    subst hr1
    unfold kas_descPart
    rw[dO]
    have D2:Dn key p 2:=λi j hij hj=>by
     have e1:i=0:=by omega
     have e2:j=1:=by omega
     rw[e1,e2];exact dd
    obtain⟨x,⟨e2,o2⟩,a2,b2,u2⟩:=p5 P hi (n - 2) 2 (by omega) (by omega) D2
    obtain⟨y,⟨e3,o3⟩,a3,b3,u3,_⟩:=n6 (P.rev x) hi (n - x) x (by omega) (by omega) (Fw (by rw[P.sz];omega) u2)
    rw[show n - (1 + 1)=n - 2 from rfl,show (1 + 1:Nat)=2 from rfl]
    have t3:rW n (lT key) (kas_tail3 x n p):=by
     unfold kas_tail3
     exact gf o3 trivial
    refine⟨y,kas_rev p 0 x,⟨?_,gf o2 ?_⟩,P.rev x,by omega,by omega,u3⟩
    ·rw[e2]
     simp only[Ld,gt_iff_lt,Lh]
     unfold kas_tail3
     rw[dO,e3]
     rfl
    ·rw[e2]
     simp only[Ld,gt_iff_lt,Lh]
     exact t3
 obtain⟨m,q,⟨f1,f2⟩,f3⟩:=rest
 refine⟨m,q,⟨?_,?_⟩,f3⟩
 ·unfold kas_count
  rw[dO,e]
  exact f1
 ·unfold kas_count
  refine gf o ?_
  rw[e]
  exact f2
theorem place_spec {p:Array Nat}{k:Nat}(P:Pm n p)(hi:Inj n key)(hk:k < n)(U:Up key p k):∀(f l r:Nat),l<=r->r<=k->r - l<=f->(∀i,i < l->Kp key p i < Kp key p k)->(∀i,r<=i->i < k->Kp key p k < Kp key p i)->
  ∃x,(i5 (lT key) (kas_place p k f l r)=x/\rW n (lT key) (kas_place p k f l r))/\x<=k/\(∀i,i < x->Kp key p i < Kp key p k)/\(∀i,x<=i->i < k->Kp key p k < Kp key p i)
 | 0,l,r,h1,h2,h3,a,b=>⟨l,⟨rfl,trivial⟩,by omega,a,λi hi=>b i (by omega)⟩
 |f + 1,l,r,h1,h2,h3,a,b=>by
  unfold kas_place
  by_cases c:l>=r
  ·rw[Kn c]
   exact⟨l,⟨rfl,trivial⟩,by omega,a,λi hi=>b i (by omega)⟩
  ·rw[Ku c]
   have b1:p.getD k 0 < n:=P.at hk
   have b2:p.getD ((l + r) / 2) 0 < n:=P.at (by omega)
   unfold i5 rW
   by_cases d:Kp key p k < Kp key p ((l + r) / 2)
   ·rw[show lT key (p.getD k 0) (p.getD ((l + r) / 2) 0)=true from Kt d]
    simp only[LD]
    have side:∀i,(l + r) / 2<=i->i < k->Kp key p k < Kp key p i:=λi h1 h2=>by
     rcases Lz ((l + r) / 2) i with z |z
     ·exact Int.lt_trans d (U _ _ z h2)
     ·have:i=(l + r) / 2:=by omega
      rw[this];exact d
    obtain⟨x,⟨e1,e2⟩,e3⟩:=place_spec P hi hk U f l ((l + r) / 2) (by omega) (by omega) (by omega) a side
    exact⟨x,⟨e1,b1,b2,e2⟩,e3⟩
   ·rw[show lT key (p.getD k 0) (p.getD ((l + r) / 2) 0)=false from KA d]
    simp only[KG,Lh]
    have d':Kp key p ((l + r) / 2) < Kp key p k:=(P.tri hi (by omega) hk (by omega)).resolve_right d
    have side:∀i,i < (l + r) / 2 + 1->Kp key p i < Kp key p k:=λi h=>by
     rcases Lz i ((l + r) / 2) with z |z
     ·exact Int.lt_trans (U _ _ z (by omega)) d'
     ·have:i=(l + r) / 2:=by omega
      rw[this];exact d'
    obtain⟨x,⟨e1,e2⟩,e3⟩:=place_spec P hi hk U f ((l + r) / 2 + 1) r (by omega) h2 (by omega) side b
    exact⟨x,⟨e1,b1,b2,e2⟩,e3⟩
def zO {p:Array Nat}{k l j:Nat}(hk:k < p.size)(hl:l<=k):(bubble p k (k - l)).getD j 0=if j=l then p.getD k 0 else if l < j/\j<=k then p.getD (j - 1) 0 else p.getD j 0:=by
 rw[Lg,getElem?_bubble hk (k - l) (by omega) j,show k - (k - l)=l by omega]
 simp only[Lg]
 split
 ·rfl
 ·split <;> rfl
theorem sX (hi:Inj n key):∀(f k:Nat) (p:Array Nat),Pm n p->1<=k->k + f=n->Up key p k->∃q,(i5 (lT key) (kas_bin f p k)=q/\rW n (lT key) (kas_bin f p k))/\Pm n q/\Up key q n
 | 0,k,p,P,_,e,U=>⟨p,⟨rfl,trivial⟩,P,by rw[<-e];exact U⟩
 |f + 1,k,p,P,h1,e,U=>by
  have hk:k < n:=by omega
  obtain⟨l,⟨el,ol⟩,hl,a,b⟩:=place_spec P hi hk U k 0 k (K5 _) (Km _) (by omega) (λi h=>by omega) (λi h h'=>by omega)
  have side:Up key (bubble p k (k - l)) (k + 1):=λi j hij hj=>by
   have hks:k < p.size:=by rw[P.sz];exact hk
   unfold Kp
   rw[zO hks hl,zO hks hl]
   by_cases i1:i=l
   ·rw[Kn i1,Ku (by omega)]
    by_cases j2:l < j/\j<=k
    ·rw[Kn j2];exact b _ (by omega) (by omega)
    ·omega
   ·rw[Ku i1]
    by_cases i2:l < i/\i<=k
    ·rw[Kn i2,Ku (by omega),Kn (by omega)]
     exact U _ _ (by omega) (by omega)
    ·rw[Ku i2]
     by_cases j1:j=l
     ·rw[Kn j1];exact a _ (by omega)
     ·rw[Ku j1]
      by_cases j2:l < j/\j<=k
      ·rw[Kn j2]
       rcases Lz i (j - 1) with z |z
       ·exact U _ _ z (by omega)
       ·omega
      ·rw[Ku j2];exact U _ _ hij (by omega)
  obtain⟨q,⟨q1,q2⟩,q3⟩:=sX hi f (k + 1) (bubble p k (k - l)) (P.perm (bubble_perm ..)) (by omega) (by omega) side
  refine⟨q,⟨?_,?_⟩,q3⟩
  ·unfold kas_bin;rw[dO,el];exact q1
  ·unfold kas_bin;refine gf ol ?_;rw[el];exact q2
def yB (hi:Inj n key)(h2:2<=n):∃q,(i5 (lT key) (kas_sort n)=q/\rW n (lT key) (kas_sort n))/\Pm n q/\Up key q n:=by
 obtain⟨m,q,⟨e,o⟩,P,a,b,u⟩:=va (tQ n) hi (by omega)
 by_cases c:m < n
 ·obtain⟨q',⟨e1,o1⟩,r⟩:=sX hi (n - m) m q P a (by omega) u
  refine⟨q',⟨?_,?_⟩,r⟩
  ·unfold kas_sort;rw[dO,e];dsimp only;rw[Kn c,Nat.max_eq_left a];exact e1
  ·unfold kas_sort;refine gf o ?_;rw[e];dsimp only;rw[Kn c,Nat.max_eq_left a];exact o1
 ·refine⟨q,⟨?_,?_⟩,P,λi j hij hj=>u i j hij (by omega)⟩
  ·unfold kas_sort;rw[dO,e];dsimp only;rw[Ku c];rfl
  ·unfold kas_sort;refine gf o ?_;rw[e];dsimp only;rw[Ku c];trivial
theorem wp_run {α:Type}{n:Nat}{lt:Nat->Nat->Bool}{cmp:Nat->Nat->(Bool->Shared->Prop)->Shared->Prop}{Q:α->Shared->Prop}{s:Shared} :
  ∀(t:KasT α),(∀i j C,i < n->j < n->C (lt i j) s->cmp i j C s)->rW n lt t->Q (i5 lt t) s->t.kasWp cmp Q s
 | .ret a,_,_,h=>h
 | .ask i j k,hc,ho,h=>hc i j _ ho.1 ho.2.1 (wp_run (k (lt i j)) hc ho.2.2 h)
end
end L2.SO
namespace L2.ST
open PySem PySem.SetTable PySem.W PyProof.Rows
def code (p:Pr):Int:=p.1 * 8 + p.2
def xp {p q:Pr}(h1:Sm p)(h2:Sm q):code p < code q↔p.1 < q.1\/(p.1=q.1/\p.2 < q.2):=by
 unfold code Sm at *;omega
def code_inj {p q:Pr}(h1:Sm p)(h2:Sm q)(e:code p=code q):p=q:=by
 unfold code Sm at *
 refine Prod.ext ?_ ?_ <;> omega
section
variable {prog:Program}{w:World}{A:Around}{E:Value->Shared->Prop}{s:Shared}
abbrev oP (ps:List Pr)(i:Nat):Int:=code (ps.getD i (0,0))
def AX {ps:List Pr}(nd:ps.Nodup)(hs:∀p,p∈ps->Sm p):L2.SO.Inj ps.length (oP ps):=λi j hi hj e=>by
 have a1:ps.getD i (0,0)=ps[i]:=by simp[hi]
 have a2:ps.getD j (0,0)=ps[j]:=by simp[hj]
 unfold oP at e
 rw[a1,a2] at e
 have e':=code_inj (hs _ (LB hi)) (hs _ (LB hj)) e
 have q:=Mr.mp nd
 rcases M7 i j with c |c |c
 ·exact absurd e' (q i j hi hj c)
 ·exact c
 ·exact absurd e'.symm (q j i hj hi c)
theorem BZ {a b:Addr}{p q:Pr}{Q:Bool->Shared->Prop}(ha:bG prog w s.heap p a)(hb:bG prog w s.heap q b)(hp:Sm p)(hq:Sm q)(h:Q (decide (code p < code q)) s) :
  wpAny (model prog w) A (keyLt' (tuples' true) (.ref a) (.ref b)) Q E s:=by
 obtain⟨oa,ia,na,hoa,hca,hda,hia⟩:=ha
 obtain⟨ob,ib,nb,hob,hcb,hdb,hib⟩:=hb
 obtain⟨l1,rfl⟩:∃l,ia=List.toArray l:=⟨ia.toList,by simp⟩
 obtain⟨l2,rfl⟩:∃l,ib=List.toArray l:=⟨ib.toList,by simp⟩
 simp only[LN] at hia hib
 cases hia with
 | @cons _ v1 _ _ h1 hia=>
  cases hia with
  | @cons _ v2 _ _ h2 hia=>
   cases hia
   cases hib with
   | @cons _ u1 _ _ g1 hib=>
    cases hib with
    | @cons _ u2 _ _ g2 hib=>
     cases hib
     obtain⟨t1,rfl⟩:=Ma h1
     obtain⟨t2,rfl⟩:=Ma h2
     obtain⟨t3,rfl⟩:=Ma g1
     obtain⟨t4,rfl⟩:=Ma g2
     refine kat_lt hoa hda hob hdb ?_
     have hc:=xp hp hq
     refine kat_cons (wpAny_eqBool_int ?_)
     by_cases e1:p.1=q.1
     ·rw[show (p.1 == q.1)=true by simpa using e1]
      refine kat_yes (kat_cons (wpAny_eqBool_int ?_))
      by_cases e2:p.2=q.2
      ·rw[show (p.2 == q.2)=true by simpa using e2]
       refine kat_yes (kat_nil ?_)
       have:decide (code p < code q)=false:=KA (by rw[hc];omega)
       rw[this] at h
       simpa using h
      ·rw[show (p.2 == q.2)=false by simpa using e2]
       refine kat_no ?_
       show wpAny _ _ (oneLt' false _ _) _ _ _
       refine kat_one _ _ (lt_int ?_)
       have:decide (code p < code q)=decide (p.2 < q.2):=by
        by_cases z:p.2 < q.2
        ·rw[Kt z];exact Kt (hc.mpr (.inr ⟨e1,z⟩))
        ·rw[KA z];exact KA (by rw[hc];omega)
       rw[this] at h;exact h
     ·rw[show (p.1 == q.1)=false by simpa using e1]
      refine kat_no ?_
      show wpAny _ _ (oneLt' true _ _) _ _ _
      refine oneLt_int ?_
      have:decide (code p < code q)=decide (p.1 < q.1):=by
       by_cases z:p.1 < q.1
       ·rw[Kt z];exact Kt (hc.mpr (.inl z))
       ·rw[KA z];exact KA (by rw[hc];omega)
      rw[this] at h;exact h
theorem wc:∀{vs:List Value} {ps:List Pr},cL prog w s.heap vs ps->∃fs,KatTups s.heap vs fs/\fs.length=vs.length/\∀v∈fs,∃(i:Int) (t:Tok),v=.int i t
 | [],ps,_=>⟨[],KatTups.nil,rfl,λv hv=>by cases hv⟩
 |v :: vs,[],h=>by have:=h.1;simp at this
 |v :: vs,p :: ps,h=>by
  obtain⟨a,rfl,⟨o,items,n,ho,hc,hd,hi⟩,_⟩:=h.2 0 v p rfl rfl
  obtain⟨fs,k,e,f⟩:=wc (vs:=vs) (ps:=ps) ⟨by simpa using h.1,λi v p h1 h2=>h.2 (i + 1) v p (by simpa using h1) (by simpa using h2)⟩
  obtain⟨l1,rfl⟩:∃l,items=List.toArray l:=⟨items.toList,by simp⟩
  simp only[LN] at hi
  cases hi with
  | @cons _ v1 _ _ h1 hi=>
   obtain⟨t1,rfl⟩:=Ma h1
   exact⟨_ :: fs,KatTups.cons ho hc hd rfl k,by simp[e],λv hv=>by
    rcases Kq.mp hv with z |z
    ·exact⟨_,_,z⟩
    ·exact f v z⟩
def sH {a:Addr}{vs:List Value}{ps:List Pr}{n:Nat}{P:PySem.Fin->Shared->Prop}(ho:s.heap.get? a=some (seqObj "list" vs.toArray n))(hps:cL prog w s.heap vs ps)(nd:ps.Nodup)(h64:vs.length < 64)
  (h:∀(h':Heap) (c:Nat) (ix:Array Nat),L2.SO.Pm vs.length ix->L2.SO.Up (oP ps) ix vs.length->(∀b o,b≠a->s.heap.get? b=some o->h'.get? b=some o)->
   h'.get? a=some (seqObj "list" (ix.toList.map λi=>vs.getD i Value.none).toArray c)->P (.done (.ret .none)) {s with heap:=h'}) :
  wpAny (model prog w) A (Builtin.«list.sort» ⟨[.ref a],[]⟩) P E s:=by
 have ha:a < s.heap.objs.size:=Kw ho
 obtain⟨e1,ho1⟩:∃e1,(s.heap.update a (Obj.mapSeq λ_=>(#[]:Array Value))).get? a=some (seqObj "list" #[] e1):=⟨_,get?_update_seq ho λ_=>#[]⟩
 generalize hH1:(s.heap.update a (Obj.mapSeq λ_=>(#[]:Array Value)))=H1 at ho1
 have sb1:Heap.SameBut a s.heap H1:=by rw[<-hH1];exact Heap.SameBut.update ..
 have kp2:∀b o,H1.get? b=some o->((H1.push (seqObj "tuple" vs.toArray 0)).push (seqObj "list" #[] 0)).get? b=some o:=λb o e=>Kl _ (Kl _ e)
 generalize hH2:((H1.push (seqObj "tuple" vs.toArray 0)).push (seqObj "list" #[] 0))=H2 at kp2
 have kp:∀b o,b≠a->s.heap.get? b=some o->H2.get? b=some o:=λb o hb e=>kp2 b o ((sb1.2 b hb).trans e)
 have ho2:=kp2 _ _ ho1
 have hps2:cL prog w H2 vs ps:=⟨hps.1,λi v p h1 h2=>by
  obtain⟨b,e,⟨o,it,m,hb,hc,hd,r⟩,hs⟩:=hps.2 i v p h1 h2
  refine⟨b,e,⟨o,it,m,kp b o (λz=>?_) hb,hc,hd,r⟩,hs⟩
  subst z
  rw[ho] at hb;cases hb
  exact absurd hc (by simp[seqObj])⟩
 have hz:vs.length<=sizeLine:=by rw[KY];omega
 rw[list_sort_plain]
 refine Kk (listItems_at ho rfl (Kk (listUpdate_at ho rfl ?_ (by simpa using hz) (K5 _))))
 rw[hH1]
 refine Kk (seqEpoch_at (s:={s with heap:=H1}) ho1 rfl (Kk (wpAny_newTuple ?_ (by simpa using hz))))
 refine Kk (wpAny_newList ?_ (K5 _))
 refine LK ?_
 show wpAny (model prog w) A _ P E {s with heap:=(H1.push (seqObj "tuple" vs.toArray 0)).push (seqObj "list" #[] 0)}
 rw[hH2]
 have fin:∀(ix:Array Nat) (st:SortSt),L2.SO.Pm vs.length ix->L2.SO.Up (oP ps) ix vs.length->(arrOf st).map (·.2)=List.toArray (ix.toList.map λi=>vs.getD i Value.none)->failedOf st=none->
   wpAny (model prog w) A (do
    let sorted:=(arrOf st).map (·.2)
    let touched:=(<-seqEpoch a) != e1
    Builtin.List.listUpdate (.ref a) λ_=>sorted
    if let some e:=failedOf st then rule "list.sort.comparison-raised";throw e
    if touched then rule "list.sort.modified";raiseError "ValueError" "list modified during sort"
    ret .none) P E {s with heap:=H2}:=λix st P1 U1 hout hf=>by
  dsimp only
  rw[hout]
  have hsz:(List.toArray (ix.toList.map λi=>vs.getD i Value.none)).size=vs.length:=by simp[P1.sz]
  refine Kk (seqEpoch_at (s:={s with heap:=H2}) ho2 rfl ?_)
  refine Kk (listUpdate_at (s:={s with heap:=H2}) ho2 rfl ?_ (K5 _) (Ls (Nat.le_of_eq hsz) (Nat.le_succ_of_le hz)))
  rw[hf]
  simp only[bne_self_eq_false,KG,Lh]
  obtain⟨c2,hc2⟩:∃c2,(H2.update a (Obj.mapSeq λ_=>List.toArray (ix.toList.map λi=>vs.getD i Value.none))).get? a=some (seqObj "list" (List.toArray (ix.toList.map λi=>vs.getD i Value.none)) c2):=⟨_,get?_update_seq ho2 λ_=>List.toArray (ix.toList.map λi=>vs.getD i Value.none)⟩
  exact Ks (h _ c2 ix P1 U1 (λb o hb e=>((Heap.SameBut.update H2 a _).2 b hb).trans (kp b o hb e)) hc2)
 by_cases h2:vs.length < 2
 ·have h2':vs.toArray.size < 2:=by simpa using h2
  dsimp only
  rw[Kn h2',Kn h2']
  refine Kk (Ks ?_)
  rw[StateT.run_pure]
  refine Kk (Ks ?_)
  refine fin (List.toArray (List.range vs.length)) (SortSt.mk' general' (vs.toArray.zip vs.toArray) #[] 7 none) (L2.SO.tQ _) (λi j hij hj=>by omega) ?_ rfl
  have:∀{l:List Value},l.length < 2->((l.toArray.zip l.toArray).map (·.2))=List.toArray ((List.range l.length).map λi=>l.getD i Value.none):=λ{l} hl=>by
   match l,hl with
   | [],_=>simp
   | [x],_=>simp
  exact (this h2).trans (by simp)
 ·have h2':¬vs.toArray.size < 2:=by simpa using h2
  dsimp only
  rw[Ku h2',Ku h2']
  obtain⟨fs,kt,fl,ff⟩:=wc (s:={s with heap:=H2}) hps2
  refine Kk (kat_kind (s:={s with heap:=H2}) (T:=.type "int") kt (by omega) (λv hv=>?_) (by decide) ?_)
  ·obtain⟨i,t,rfl⟩:=ff v hv
   exact .now
  ·rw[show ((Value.type "int" != Value.type "tuple"):Bool)=true by decide]
   have hinj:L2.SO.Inj vs.length (oP ps):=by
    rw[hps.1]
    refine AX nd λp hp=>?_
    obtain⟨i,hi,e⟩:=K8.mp hp
    have hi':i < vs.length:=by rw[hps.1];exact hi
    obtain⟨_,_,_,hs⟩:=hps.2 i vs[i] p (Kj hi') (by rw[Kj hi,e])
    exact hs
   obtain⟨ix,⟨er,ok⟩,P1,U1⟩:=L2.SO.yB hinj (by omega)
   refine Kk (LQ (kat_run (s:={s with heap:=H2}) (κ:=tuples' true) (ks:=vs) (Q:=λst s'=>s'={s with heap:=H2}/\arrOf st=ix.map (kas_item (vs.toArray.zip vs.toArray))/\failedOf st=none)
    (G:=λp s'=>p=ix/\s'={s with heap:=H2}) rfl (by omega) h64 (λp st s' a1 a2 a3 a4=>?_) (L2.SO.wp_run (n:=vs.length) (lt:=L2.SO.lT (oP ps)) _ (λi j C hi hj hC=>?_) ok ⟨er,rfl⟩)) ?_ λ_ _ x=>x)
   ·obtain⟨rfl,rfl⟩:=a4
    exact⟨rfl,a2,a3⟩
   ·unfold kas_ask
    have hi':i < ps.length:=by rw[<-hps.1];exact hi
    have hj':j < ps.length:=by rw[<-hps.1];exact hj
    obtain⟨b1,eb1,hb1,s1⟩:=hps2.2 i vs[i] ps[i] (Kj hi) (Kj hi')
    obtain⟨b2,eb2,hb2,s2⟩:=hps2.2 j vs[j] ps[j] (Kj hj) (Kj hj')
    have e1:vs.getD i Value.none=.ref b1:=by rw[<-eb1];simp[hi]
    have e2:vs.getD j Value.none=.ref b2:=by rw[<-eb2];simp[hj]
    rw[e1,e2]
    refine BZ (s:={s with heap:=H2}) hb1 hb2 s1 s2 ?_
    have:L2.SO.lT (oP ps) i j=decide (code ps[i] < code ps[j]):=by
     unfold L2.SO.lT oP;simp[hi',hj']
    rw[<-this];exact hC
   ·rintro⟨⟨⟩,st⟩ s' ⟨rfl,har,hf⟩
    exact fin ix st P1 U1 (kat_snds rfl har) hf
end
def bP:Slot "set_iterator" "__next__" "set_iterator.__next__":=
 Slot.of (owner:="set_iterator") (n:="__next__") (by rw[typeLookup_type,builtinLookup_eq_fast];kernel_rfl) (by decide +kernel) (by decide +kernel) (by decide +kernel) (by first |exact .inl (by decide +kernel) |exact .inr (by decide +kernel)) (by rw[M6];kernel_rfl)
def ic:entryFor table "set_iterator.__next__"=some Builtin.«set_iterator.__next__»:=entryFor_of_tree (by kernel_rfl)
def i3 (a:Value):argsOk "set_iterator.__next__" ⟨[a],[]⟩:=by unfold argsOk;kernel_rfl
def nM:entryFor table "set.__iter__"=some Builtin.«frozenset.__iter__»:=entryFor_alias (id':="frozenset.__iter__") (by kernel_rfl) rfl (by decide +kernel) (by kernel_rfl)
def i0:Slot "set_iterator" "__iter__" "set_iterator.__iter__":=
 Slot.of (owner:="set_iterator") (n:="__iter__") (by rw[typeLookup_type,builtinLookup_eq_fast];kernel_rfl) (by decide +kernel) (by decide +kernel) (by decide +kernel) (by first |exact .inl (by decide +kernel) |exact .inr (by decide +kernel)) (by rw[M6];kernel_rfl)
def lM:entryFor table "set_iterator.__iter__"=some Builtin.«dict_keyiterator.__iter__»:=entryFor_alias (id':="dict_keyiterator.__iter__") (by kernel_rfl) rfl (by decide +kernel) (by kernel_rfl)
def l9 (a:Value):argsOk "set_iterator.__iter__" ⟨[a],[]⟩:=by unfold argsOk;kernel_rfl
def C3 (a:Addr)(slot given ep0:Nat):setNext a slot given ep0=(do
  let (es,epoch,t) <-setState a
  if (<-ask).params.followText "set-order" then
   if epoch != ep0 then unsupported "set_iterator.__next__:elements-changed"
   return ((<-setWalk a)[given]?).map λe=>(e.2,slot)
  if !t.plain && es.size > 1 then unsupported "set_iterator.__next__:the-table-is-plain-no-more"
  let u:Unit <-(show Sem Unit from do if !t.led && !es.isEmpty then unsupported "set:maker-not-led")
  let i:=SetTable.below t.place slot
  return match es[i]?,t.place[i]? with
   |some (_,x),some j=>some (x,j + 1)
   |_,_=>none):=by
 unfold setNext setsByText
 simp only[bind_assoc,pure_bind]
 rfl
def Cg (a:Addr):setWalk a=(do
  let (es,epoch,t) <-setState a
  if (<-ask).params.followText "set-order" then return pickOrder ((<-ask).params.setOrder a epoch) es
  if !t.plain && es.size > 1 then return (<-drawOrder es.size es.toList).toArray
  let u:Unit <-(show Sem Unit from do if !t.led && es.size > 1 then unsupported "set:maker-not-led")
  return es):=by
 unfold setWalk setsByText
 simp only[bind_assoc,pure_bind]
 rfl
def Ba (a:Addr):setDrawn a=(do
  let (es,_,t) <-setState a
  let byText <-(do return (<-ask).params.followText "set-order")
  return !byText && (!t.plain && es.size > 1)):=rfl
theorem fZ {α:Type}:∀(l:List α) (i:Nat) (h:i < l.length),(l[i] :: l.eraseIdx i).Perm l
 |a :: l,0,_=>List.Perm.refl _
 |a :: l,i + 1,h=>by
  have hi:i < l.length:=by simpa using h
  show (l[i] :: a :: l.eraseIdx i).Perm (a :: l)
  exact (List.Perm.swap ..).trans ((fZ l i hi).cons a)
theorem p0 {α:Type}(next:Nat->Nat):∀(fuel k:Nat) (left:List α) (out:Array α),left.length=fuel->(pickOrder.go next fuel k left out).toList.Perm (out.toList ++ left)
 | 0,k,left,out,h=>by
  have:left= []:=List.length_eq_zero_iff.mp h
  subst this
  unfold pickOrder.go
  simp
 |fuel + 1,k,left,out,h=>by
  unfold pickOrder.go
  have hlt:next k % left.length < left.length:=MP _ (by omega)
  rw[Kj hlt]
  dsimp only
  refine (p0 next fuel (k + 1) _ _ (by rw[List.length_eraseIdx_of_lt hlt];omega)).trans ?_
  rw[Array.toList_push,Lj]
  refine List.Perm.append_left _ ?_
  exact fZ left _ hlt
def jl {α:Type}(next:Nat->Nat)(xs:Array α):(pickOrder next xs).toList.Perm xs.toList:=by
 have:=p0 next xs.size 0 xs.toList #[] (by simp)
 simpa[pickOrder] using this
section
variable {prog:Program}{w:World}{A:Around}{E:Value->Shared->Prop}{s:Shared}
def told (w:World)(S:Addr)(ep:Nat)(es:Array (Int×Value)):Array (Int×Value):=if w.params.followText "set-order" then pickOrder (w.params.setOrder S ep) es else es
def pF (w:World)(S:Addr)(ep:Nat)(es:Array (Int×Value)):(told w S ep es).toList.Perm es.toList:=by
 unfold told;split
 ·exact jl _ _
 ·exact List.Perm.refl _
abbrev ue (S:Addr)(slot k n ep:Nat):Obj:={cls:=.type "set_iterator",data:=.fields #[.int (slot:Int) 0,.int (k:Int) 0,.ref S,.int (n:Int) 0,.int (ep:Int) 0]}
structure k8 (w:World)(S:Addr)(o:Obj)(es:Array (Int×Value))(ep:Nat)(t:SetTable)(I:Addr)(k:Nat)(h:Heap):Prop where
 set:h.get? S=some o
 data:o.data=.set es ep t
 cls:o.cls=.type "set"
 tab:Tab t (es.toList.map (·.1))
 led:t.led=eB w
 it:∃slot,h.get? I=some (ue S slot k es.size ep)/\(eB w=true->slot=if k=0 then 0 else t.place.getD (k - 1) 0 + 1)
def k8.fits {S I:Addr}{o:Obj}{es:Array (Int×Value)}{ep k:Nat}{t:SetTable}{h:Heap}(X:k8 w S o es ep t I k h):t.fits es.size=true:=oq X.tab (by simp)
theorem wZ {S I:Addr}{o:Obj}{es:Array (Int×Value)}{ep k slot:Nat}{t:SetTable}{Q:Option (Value×Nat)->Shared->Prop}(X:k8 w S o es ep t I k s.heap)(hk:k<=es.size)(hs:eB w=true->slot=if k=0 then 0 else t.place.getD (k - 1) 0 + 1)
  (h:∀(r:Option (Value×Nat)),(k < es.size->∃x nx,r=some (x,nx)/\(told w S ep es)[k]?.map (·.2)=some x/\(eB w=true->nx=t.place.getD k 0 + 1))->(k=es.size->r=none)->Q r s) :
  wpAny (model prog w) A (setNext S slot k ep) Q E s:=by
 rw[C3]
 refine Kk (Lu X.set X.data X.fits ?_)
 dsimp only
 refine Kk (MQ ?_)
 dsimp only
 cases hb:w.params.followText "set-order" with
 |true=>
  rw[Kn (show (model prog w).w.params.followText "set-order"=true from hb)]
  simp only[bne_self_eq_false,KG,Lh]
  rw[Cg]
  refine Kk (Kk (Lu X.set X.data X.fits ?_))
  dsimp only
  refine Kk (MQ ?_)
  dsimp only
  rw[Kn (show (model prog w).w.params.followText "set-order"=true from hb)]
  refine Kk (MQ (Ks (Ks ?_)))
  have et:told w S ep es=pickOrder (w.params.setOrder S ep) es:=by unfold told;rw[Kn hb]
  have hsz:(pickOrder (w.params.setOrder S ep) es).size=es.size:=by
   have:=(jl (w.params.setOrder S ep) es).length_eq;simpa using this
  refine h _ (λhlt=>?_) (λe=>?_)
  ·have hlt':k < (pickOrder (w.params.setOrder S ep) es).size:=by rw[hsz];exact hlt
   refine⟨(pickOrder (w.params.setOrder S ep) es)[k].2,slot,?_,?_,λz=>?_⟩
   ·show Option.map _ (pickOrder (w.params.setOrder S ep) es)[k]? =_
    rw[K0 hlt'];rfl
   ·rw[et,K0 hlt'];rfl
   ·unfold eB at z;rw[hb] at z;cases z
  ·show Option.map _ (pickOrder (w.params.setOrder S ep) es)[k]? =_
   rw[MJ (by rw[hsz];omega)];rfl
 |false=>
  rw[Ku (show ¬(model prog w).w.params.followText "set-order"=true by intro z;rw[show (model prog w).w.params.followText "set-order"=false from hb] at z;cases z)]
  have hl:eB w=true:=by unfold eB;rw[hb];rfl
  rw[X.tab.plain,X.led,hl]
  simp only[MD,Bool.false_and,KG,Lh]
  have et:told w S ep es=es:=by unfold told;rw[hb];simp
  have hps:t.place.size=es.size:=by simpa using X.tab.size
  have hbl:below t.place slot=k:=by
   rw[hs hl]
   obtain⟨b1,b2,b3⟩:=c6 X.tab.rise (if k=0 then 0 else t.place.getD (k - 1) 0 + 1)
   by_cases k0:k=0
   ·subst k0
    simp only[LD] at b1 b2 b3 ⊢
    rcases Nat.eq_zero_or_pos (below t.place 0) with z |z
    ·exact z
    ·have:=b2 0 z;omega
   ·rw[Ku k0] at b1 b2 b3 ⊢
    have hk1:k - 1 < t.place.size:=by omega
    rcases M7 (below t.place (t.place.getD (k - 1) 0 + 1)) k with z |z |z
    ·have q:=b3 (k - 1) (by omega) hk1
     have e:t.place.getD (k - 1) (t.place.getD (k - 1) 0 + 1)=t.place.getD (k - 1) 0:=by simp[Array.getD,hk1]
     omega
    ·exact z
    ·have hks:k < t.place.size:=by omega
     have q:=b2 k z
     have e:t.place.getD k (t.place.getD (k - 1) 0 + 1)=t.place.getD k 0:=by simp[Array.getD,hks]
     have:=gE (d:=0) X.tab.rise (show k - 1 < k by omega) hks
     omega
  refine Ks ?_
  rw[hbl]
  refine h _ (λhlt=>?_) (λe=>?_)
  ·have hlt2:k < t.place.size:=by omega
   refine⟨es[k].2,t.place[k] + 1,?_,?_,λ_=>?_⟩
   ·rw[K0 hlt,K0 hlt2]
   ·rw[et,K0 hlt];rfl
   ·simp[Array.getD,hlt2]
  ·rw[MJ (by omega)]
def x9 {S I:Addr}{o:Obj}{es:Array (Int×Value)}{ep:Nat}{t:SetTable}(hh:A.handled=none)(hne:S≠I) :
  Walks prog w A I [I,S] [I] es.size (λi v=>(told w S ep es)[i]?.map (·.2)=some v) (λi h=>k8 w S o es ep t I i h) where
 sub:=λb hb=>Kq.mpr (.inl (KS.mp hb))
 frame:=λi h h' X k=>by
  obtain⟨slot,e,r⟩:=X.it
  exact⟨k S (by simp) _ X.set,X.data,X.cls,X.tab,X.led,slot,k I (by simp) _ e,r⟩
 item:=λi s Q E hi X hQ=>by
  obtain⟨slot,e,r⟩:=X.it
  have hT:s.TypeIs (.ref I) "set_iterator":=⟨_,e,rfl⟩
  unfold pyNext
  refine Kk (wpAny_attempt (wpAny_callSpecial?_slot (name:=Str.ofString "__next__") hT bP (Mf bP hT ic ?_ (i3 _))))
  unfold Builtin.«set_iterator.__next__»
  refine Kk (m:=slotArgs "__next__" 0 _) (Ks ?_)
  dsimp only
  unfold fieldsOf
  refine Kk (Kk (wpAny_load e (Ks ?_)))
  dsimp only
  unfold setEntries
  refine Kk (Kk (Lu X.set X.data X.fits (Ks ?_)))
  dsimp only
  rw[Ku (by simp)]
  refine Kk ?_
  simp only[K2]
  refine wZ X (Nat.le_of_lt hi) r λrr h1 _=>?_
  obtain⟨x,nx,rfl,h2,h3⟩:=h1 hi
  dsimp only
  refine Kk (Mg e rfl (by simp) ?_)
  have e2:=Lq (Obj.mapFields λvs=>vs.setIfInBounds 0 (rawInt (nx:Int))) e rfl
  refine Kk (Mg e2 rfl (by simp) ?_)
  refine Ks ⟨x,rfl,Ks ?_⟩
  have sb:=(Heap.SameBut.update s.heap I (Obj.mapFields λvs=>vs.setIfInBounds 0 (rawInt (nx:Int)))).trans (Heap.SameBut.update _ I (Obj.mapFields λvs=>vs.setIfInBounds 1 (rawInt ((i:Int) + 1))))
  refine hQ x _ _ h2 ⟨(sb.2 S hne).trans X.set,X.data,X.cls,X.tab,X.led,nx,?_,λz=>?_⟩ λb o hb eb=>(sb.2 b (by simpa using hb)).trans eb
  ·exact Lq (Obj.mapFields λvs=>vs.setIfInBounds 1 (rawInt ((i:Int) + 1))) e2 rfl
  ·rw[Ku (by omega)];exact h3 z
 done:=λs Q E X hQ=>by
  obtain⟨slot,e,r⟩:=X.it
  have hT:s.TypeIs (.ref I) "set_iterator":=⟨_,e,rfl⟩
  unfold pyNext
  refine Kk (wpAny_attempt (wpAny_callSpecial?_slot (name:=Str.ofString "__next__") hT bP (Mf bP hT ic ?_ (i3 _))))
  unfold Builtin.«set_iterator.__next__»
  refine Kk (m:=slotArgs "__next__" 0 _) (Ks ?_)
  dsimp only
  unfold fieldsOf
  refine Kk (Kk (wpAny_load e (Ks ?_)))
  dsimp only
  unfold setEntries
  refine Kk (Kk (Lu X.set X.data X.fits (Ks ?_)))
  dsimp only
  rw[Ku (by simp)]
  refine Kk ?_
  simp only[K2]
  refine wZ X (Km _) r λrr _ h1=>?_
  rw[h1 rfl]
  dsimp only
  refine Kk (Mg e rfl (by simp) ?_)
  (show wpAny _ _ (newExc (.type "StopIteration") [] >>= λx=>raiseNew x) _ _ _)
  refine Kk ?_
  simp only[newExc,newTuple]
  (refine Kk (Mb ?_ (by size_fits)))
  (refine Kk (m:=firstArgMember _ _) (wpAny_of_eq (a:=Value.none) (by first |rfl | (simp only[firstArgMember];rfl)) ?_))
  (refine Mb ?_ (by size_fits))
  simp only[raiseNew]
  refine Kk (wpAny_handled ?_)
  (rw[show A.in1.handled=none from hh])
  refine Kk (Ks (wpAny_throw ?_))
  refine Kk (wpAny_isInstance (T:="StopIteration") (b:=true) ⟨_,Ky _ rfl,rfl⟩ isSubtype_stop (Ks (hQ _ _ λb o hb eb=>?_)))
  exact Kl _ (Kl _ (((Heap.SameBut.update ..).2 b (by simpa using hb)).trans eb))
 self:=λi s Q E X hQ=>by
  obtain⟨slot,e,r⟩:=X.it
  have hT:s.TypeIs (.ref I) "set_iterator":=⟨_,e,rfl⟩
  refine wpAny_pyIter_slot hT i0 (Mf i0 hT lM ?_ (l9 _))
  show wpAny _ _ (ret (.ref I)) _ _ s
  exact Ks ⟨_,rfl,"set_iterator",_,hT,bP.lookup,hQ⟩
def zY {S:Addr}{o:Obj}{es:Array (Int×Value)}{ep:Nat}{t:SetTable}{Q:Value->Shared->Prop}(ho:s.heap.get? S=some o)(hd:o.data=.set es ep t)(hc:o.cls=.type "set")(T:Tab t (es.toList.map (·.1)))(hl:t.led=eB w)
  (h:Q (.ref s.heap.objs.size) {s with heap:=s.heap.push (ue S 0 0 es.size ep)}):wpAny (model prog w) A (pyIter (.ref S)) Q E s:=by
 have hT:s.TypeIs (.ref S) "set":=⟨o,ho,hc⟩
 have hf:t.fits es.size=true:=oq T (by simp)
 refine wpAny_pyIter_slot hT F.slot_set_iter (Mf F.slot_set_iter hT nM ?_ (F.args_set_iter_1 _))
 unfold Builtin.«frozenset.__iter__» Builtin.Frozenset.slot0
 refine Kk (Kk (m:=slotArgs "__iter__" 0 _) (Ks (Ks ?_)))
 unfold Builtin.Frozenset.sizeOf setEntries
 refine Kk (Kk (Kk (Lu ho hd hf (Ks (Ks ?_)))))
 rw[Ba]
 refine Kk (Kk (Lu ho hd hf ?_))
 dsimp only
 refine Kk (Kk (MQ (Ks (Ks ?_))))
 rw[T.plain]
 simp only[MD,Bool.false_and,Bool.and_false,KG,Lh]
 refine Kk (Ks ?_)
 unfold setEpoch
 refine Kk (Kk (Lu ho hd hf (Ks ?_)))
 refine Kk (Mb (Ks ⟨_,rfl,"set_iterator",_,⟨_,Ky _ rfl,rfl⟩,bP.lookup,h⟩))
def sg {S:Addr}{o:Obj}{es:Array (Int×Value)}{ep:Nat}{t:SetTable}{Q:List Value->Shared->Prop}(hh:A.handled=none)(ho:s.heap.get? S=some o)(hd:o.data=.set es ep t)(hc:o.cls=.type "set")(T:Tab t (es.toList.map (·.1)))(hl:t.led=eB w)
  (hn:es.size<=64) (h:∀h' tk vs,vs=(told w S ep es).toList.map (·.2)->(∀b o,s.heap.get? b=some o->h'.get? b=some o)->Q vs {s with heap:=h',toks:=tk}):wpAny (model prog w) A (collect (.ref S)) Q E s:=by
 have hz:es.size<=sizeLine:=by rw[KY];omega
 unfold collect
 (refine Kk (wpAny_runValue (Mn F.entry_proto_collect ?_)))
 (rw[Ms F.plain_proto_collect _])
 show wpAny _ A.in1 (newList [] >>= λl=>again (.builtin "list.__iadd__" ⟨[l,.ref S],[]⟩)) _ _ s
 refine Kk (Mb ?_)
 (refine Ks ⟨plainId_quiet F.plain_list_iadd _,Mn F.entry_list_iadd ?_⟩)
 (rw[Ms F.plain_list_iadd _])
 show wpAny _ A.in1 (Builtin.List.listExtendWith (.ref s.heap.objs.size) (.ref S) (.ref s.heap.objs.size)) _ _ {s with heap:=s.heap.push (seqObj "list" #[] 0)}
 generalize hH:s.heap.push (seqObj "list" #[] 0)=H1
 have kp1:∀b o,s.heap.get? b=some o->H1.get? b=some o:=λb o e=>by rw[<-hH];exact Kl _ e
 have hD:H1.get? s.heap.objs.size=some (seqObj "list" #[] 0):=by rw[<-hH];exact Ky _ rfl
 have hHs:H1.objs.size=s.heap.objs.size + 1:=by rw[<-hH];exact LR ..
 have hSD:S≠s.heap.objs.size:=K1 (Kw ho)
 have hT:Shared.TypeIs {s with heap:=H1} (.ref S) "set":=⟨o,kp1 _ _ ho,hc⟩
 unfold Builtin.List.listExtendWith
 refine Kk (wpAny_typeOf hT ?_)
 have h1:Builtin.List.listSameRef (.ref s.heap.objs.size) (.ref S)=false:=by simp[Builtin.List.listSameRef,Ne.symm hSD]
 have h2:(Value.type "set" == Value.type "list")=false:=by decide
 have h3:(Value.type "set" == Value.type "tuple")=false:=by decide
 rw[h1,h2,h3]
 simp only[Bool.or_false,KG,Lh]
 refine Kk (zY (s:={s with heap:=H1}) (kp1 _ _ ho) hd hc T hl ?_)
 refine Kk (LK ?_)
 unfold Builtin.List.listLengthHint
 have hT2:Shared.TypeIs {s with heap:=H1.push (ue S 0 0 es.size ep)} (.ref S) "set":=⟨o,Kl _ (kp1 _ _ ho),hc⟩
 refine Kk (wpAny_specialOf hT2 F.slot_set_len.lookup ?_)
 wp_delta
 refine Kk (wpAny_isInstance hT2 (b:=true) (by rw[M6];kernel_rfl) ?_)
 show wpAny _ A.in1 (typeOf (Value.ref S) >>= λ_=>_) _ _ _
 refine Kk (wpAny_typeOf hT2 ?_)
 refine Ks ?_
 show wpAny _ A.in1 (rule "list.extend.makes-room" >>= λ_=>Builtin.List.listTouch (.ref s.heap.objs.size) >>= λ_=>again (.builtin "list.extend.loop" ⟨[.ref s.heap.objs.size,.ref H1.objs.size,.ref s.heap.objs.size],[]⟩)) _ _ _
 refine Kk (wpAny_rule (Kk ?_))
 generalize hH2:H1.push (ue S 0 0 es.size ep)=H2
 have kp2:∀b o,H1.get? b=some o->H2.get? b=some o:=λb o e=>by rw[<-hH2];exact Kl _ e
 have hI:H2.get? H1.objs.size=some (ue S 0 0 es.size ep):=by rw[<-hH2];exact Ky _ rfl
 have hS0:=kp2 _ _ hD
 show wpAny _ A.in1 (updateSeq s.heap.objs.size (·.push .none) >>= λ_=>updateSeq s.heap.objs.size (·.pop)) _ _ _
 refine Kk (wpAny_updateSeq (s:={s with heap:=H2}) hS0 rfl ?_)
 have hS2:=Lq (Obj.mapSeq (·.push Value.none)) hS0 rfl
 refine wpAny_updateSeq (hz:=by seq_fits) hS2 rfl ?_
 have hS3:=Lq (Obj.mapSeq (·.pop)) hS2 rfl
 have oth:∀b o,b≠s.heap.objs.size->H2.get? b=some o->((H2.update s.heap.objs.size (Obj.mapSeq (·.push Value.none))).update s.heap.objs.size (Obj.mapSeq (·.pop))).get? b=some o:=λb o hb e=>
  ((Heap.SameBut.update _ s.heap.objs.size (Obj.mapSeq (·.pop))).2 b hb).trans (((Heap.SameBut.update H2 s.heap.objs.size (Obj.mapSeq (·.push Value.none))).2 b hb).trans e)
 have hIS:S≠H1.objs.size:=by rw[hHs];exact K1 (Nat.lt_succ_of_lt (Kw ho))
 have hID:H1.objs.size≠s.heap.objs.size:=by rw[hHs];exact Nat.succ_ne_self _
 have hDf:s.heap.objs.size∉ [H1.objs.size,S]:=λz=>by
  rcases Kq.mp z with e |z
  ·exact hID e.symm
  ·exact hSD (KS.mp z).symm
 have X0:k8 w S o es ep t H1.objs.size 0 ((H2.update s.heap.objs.size (Obj.mapSeq (·.push Value.none))).update s.heap.objs.size (Obj.mapSeq (·.pop))):=
  ⟨oth _ _ hSD (kp2 _ _ (kp1 _ _ ho)),hd,hc,T,hl,0,oth _ _ hID hI,λ_=>rfl⟩
 refine Ks ⟨plainId_quiet F.plain_extend_loop _,codeAny_extend_loopS (x9 (A:=A.in1) (o:=o) (t:=t) hh hIS).toS hz _ hDf _ es.size 0 _ _ _ rfl (K5 _) X0 hS3 (ItemsOf.nil _) λs' acc' c' hm hS' hacc=>?_⟩
 show wpAny _ A (load s.heap.objs.size >>= λ_=>_) _ _ s'
 refine Kk (wpAny_load hS' (Ks ?_))
 obtain⟨h',g',d',tk',os'⟩:=s'
 have eg:g'=s.gens:=hm.gens
 have ed:d'=s.drawn:=hm.drawn
 have eo:os'=s.os:=hm.os
 subst eg ed eo
 refine h h' tk' acc'.toList ?_ λb ob e=>hm.heap b ob (λhb=>?_) (oth b ob (K1 (Kw e)) (kp2 _ _ (kp1 _ _ e)))
 ·have hts:(told w S ep es).size=es.size:=by have:=(pF w S ep es).length_eq;simpa using this
  apply M8
  intro i
  rw[Kv]
  by_cases hi:i < es.size
  ·have hi1:i < acc'.size:=by rw[hacc.1];exact hi
   have q:=hacc.2 i acc'[i] (K0 hi1)
   rw[L3,L3,K0 hi1]
   exact q.symm
  ·rw[L3,L3,MJ (by rw[hacc.1];omega),MJ (by omega)];rfl
 ·have hlt:=Kw e
  rcases Kq.mp hb with z |z
  ·rw[z] at hlt;exact Ld _ hlt
  ·rw[KS.mp z,hHs] at hlt;exact absurd hlt (Nat.not_lt.mpr (Nat.le_succ _))
end
end L2.ST
namespace OM
abbrev Pr:=Int×Int
def D4 (p q:Pr):Prop:=p.1 < q.1\/(p.1=q.1/\p.2 < q.2)
def iI (p:Pr):¬D4 p p:=by unfold D4;omega
def yx {p q r:Pr}(a:D4 p q)(b:D4 q r):D4 p r:=by unfold D4 at *;omega
abbrev tZ (l:List Pr):Prop:=l.Pairwise D4
theorem ik:∀{l m:List Pr},tZ l->tZ m->(∀x,x∈l↔x∈m)->l=m
 | [],[],_,_,_=>rfl
 | [],b :: m,_,_,h=>absurd ((h b).mpr (Kr ..)) (by simp)
 |a :: l,[],_,_,h=>absurd ((h a).mp (Kr ..)) (by simp)
 |a :: l,b :: m,hl,hm,h=>by
  have hl':=MH.mp hl
  have hm':=MH.mp hm
  have e:a=b:=by
   rcases Kq.mp ((h a).mp (Kr ..)) with e |e
   ·exact e
   ·rcases Kq.mp ((h b).mpr (Kr ..)) with e' |e'
    ·exact e'.symm
    ·exact absurd (yx (hm'.1 a e) (hl'.1 b e')) (iI _)
  subst e
  congr 1
  refine ik hl'.2 hm'.2 λx=>⟨λhx=>?_,λhx=>?_⟩
  ·rcases Kq.mp ((h x).mp (Ko _ hx)) with e |e
   ·subst e;exact absurd (hl'.1 x hx) (iI _)
   ·exact e
  ·rcases Kq.mp ((h x).mpr (Ko _ hx)) with e |e
   ·subst e;exact absurd (hm'.1 x hx) (iI _)
   ·exact e
def gX {l:List Pr}(h:tZ l):l.Nodup:=h.imp λ{a b} hab e=>by subst e;exact iI _ hab
def u5 {l:List Pr}(p:Pr->Bool)(h:tZ l):tZ (l.filter p):=h.sublist MC
def gc (n:Nat):List Pr:=(List.range (n * n)).map λk=>(((k / n:Nat):Int),((k % n:Nat):Int))
def fT {n:Nat}{p:Pr}:p∈gc n↔(0<=p.1/\p.1 < n)/\(0<=p.2/\p.2 < n):=by
 unfold gc
 rw[KC]
 constructor
 ·rintro⟨k,hk,rfl⟩
  have hk:=KR.mp hk
  have hn:0 < n:=by
   rcases Nat.eq_zero_or_pos n with e |e
   ·subst e;omega
   ·exact e
  have h1:k / n < n:=Nat.div_lt_of_lt_mul hk
  have h2:k % n < n:=MP _ hn
  generalize k / n=q at h1
  generalize k % n=r at h2
  exact⟨⟨Int.natCast_nonneg _,by dsimp only;omega⟩,⟨Int.natCast_nonneg _,by dsimp only;omega⟩⟩
 ·rintro⟨⟨a0,a1⟩,⟨b0,b1⟩⟩
  have hn:0 < n:=by omega
  refine⟨p.1.toNat * n + p.2.toNat,KR.mpr ?_,?_⟩
  ·have h1:p.1.toNat + 1<=n:=by omega
   have h2:p.2.toNat < n:=by omega
   have:=Nat.mul_le_mul_right n h1
   rw[Nat.add_mul] at this
   omega
  ·have h2:p.2.toNat < n:=by omega
   have e1:(p.1.toNat * n + p.2.toNat) / n=p.1.toNat:=by
    rw[Nat.mul_comm,Nat.mul_add_div hn,Nat.div_eq_of_lt h2];rfl
   have e2:(p.1.toNat * n + p.2.toNat) % n=p.2.toNat:=by
    rw[Nat.mul_comm,Nat.mul_add_mod,Nat.mod_eq_of_lt h2]
   rw[e1,e2]
   refine Prod.ext ?_ ?_ <;> dsimp only <;> omega
def uh (n:Nat):tZ (gc n):=by
 unfold gc
 refine LC.mpr (LP ?_ List.pairwise_lt_range)
 intro a b ha hb hab
 have ha:=KR.mp ha
 have hb:=KR.mp hb
 have hn:0 < n:=by
  rcases Nat.eq_zero_or_pos n with e |e
  ·subst e;omega
  ·exact e
 have h1:a / n<=b / n:=Nat.div_le_div_right (Nat.le_of_lt hab)
 have e1:=Nat.div_add_mod a n
 have e2:=Nat.div_add_mod b n
 unfold D4
 dsimp only
 rcases Lz (a / n) (b / n) with c |c
 ·left;omega
 ·right
  have e:a / n=b / n:=by omega
  rw[e] at e1
  omega
open Classical in
noncomputable def bX (n:Nat)(R:Int->Int->Prop):List Pr:=(gc n).filter λp=>decide (R p.1 p.2)
def a8 {n:Nat}{R:Int->Int->Prop}{p:Pr}:p∈bX n R↔((0<=p.1/\p.1 < n)/\(0<=p.2/\p.2 < n))/\R p.1 p.2:=by
 unfold bX
 rw[KQ,fT]
 simp
def cY (n:Nat)(R:Int->Int->Prop):tZ (bX n R):=u5 _ (uh n)
def uC {n:Nat}{R S:Int->Int->Prop}(h:∀a b:Int,0<=a->a < n->0<=b->b < n->(R a b↔S a b)):bX n R=bX n S:=by
 refine ik (cY n R) (cY n S) λx=>?_
 rw[a8,a8]
 constructor
 ·rintro⟨⟨⟨a,b⟩,c,d⟩,r⟩;exact⟨⟨⟨a,b⟩,c,d⟩,(h _ _ a b c d).mp r⟩
 ·rintro⟨⟨⟨a,b⟩,c,d⟩,r⟩;exact⟨⟨⟨a,b⟩,c,d⟩,(h _ _ a b c d).mpr r⟩
def Wn (n:Nat)(l:List Pr):Prop:=∀p,p∈l->(0<=p.1/\p.1 < n)/\(0<=p.2/\p.2 < n)
abbrev Mem (l:List Pr)(a b:Int):Prop:=(a,b)∈l
def yM {n:Nat}{l:List Pr}(w:Wn n l)(r:tZ l):bX n (Mem l)=l:=by
 refine ik (cY n _) r λx=>?_
 rw[a8]
 exact⟨λh=>h.2,λh=>⟨w x h,h⟩⟩
def rO (n:Nat)(R:Int->Int->Prop):Wn n (bX n R):=λ_ h=>(a8.mp h).1
def zv (n:Nat)(R:Int->Int->Prop):(bX n R).length<=n * n:=by
 unfold bX
 refine Ls (Mo ..) ?_
 unfold gc;simp
inductive Tr (R:Int->Int->Prop):Int->Int->Prop
 |one {a b}:R a b->Tr R a b
 |more {a b c}:R a b->Tr R b c->Tr R a c
theorem Tr.trans {R:Int->Int->Prop}{a b c:Int}(h:Tr R a b)(k:Tr R b c):Tr R a c:=by
 induction h with
 |one r=>exact .more r k
 |more r _ ih=>exact .more r (ih k)
theorem Tr.least {R S:Int->Int->Prop}(f:∀a b,R a b->S a b)(t:∀a b c,S a b->S b c->S a c){a b:Int}(h:Tr R a b):S a b:=by
 induction h with
 |one r=>exact f _ _ r
 |more r _ ih=>exact t _ _ _ (f _ _ r) ih
structure Ord (n:Nat)(l:List Pr):Prop where
 lo:1<=n
 hi:n<=8
 wn:Wn n l
 ris:tZ l
 irr:∀a,(a,a)∉l
 tr:∀a b c,(a,b)∈l->(b,c)∈l->(a,c)∈l
def Ord.tr_mem {n:Nat}{l:List Pr}(O:Ord n l){a b:Int}:Tr (Mem l) a b↔(a,b)∈l:=
 ⟨λh=>h.least (λ_ _ r=>r) λa b c=>O.tr a b c,λh=>.one h⟩
def Ord.closed {n:Nat}{l:List Pr}(O:Ord n l):bX n (Tr (Mem l))=l:=by
 rw[uC (S:=Mem l) λa b _ _ _ _=>O.tr_mem,yM O.wn O.ris]
def A6 {n:Nat}{l:List Pr}(h1:1<=n)(h8:n<=8)(w:Wn n l)(hr:∀a,¬Tr (Mem l) a a):Ord n (bX n (Tr (Mem l))):=
 ⟨h1,h8,rO n _,cY n _,λa h=>hr a (a8.mp h).2,λa b c h k=>a8.mpr ⟨⟨(a8.mp h).1.1,(a8.mp k).1.2⟩,(a8.mp h).2.trans (a8.mp k).2⟩⟩
theorem nZ {l m:List Pr}(hl:l.Nodup)(h:∀x,x∈l->x∈m):l.length<=m.length:=by
 induction l generalizing m with
 |nil=>exact K5 _
 |cons a l ih=>
  have ha:=h a (Kr ..)
  have hl':=K6.mp hl
  have:=ih (m:=m.erase a) hl'.2 λx hx=>by
   refine (List.mem_erase_of_ne ?_).mpr (h x (Ko _ hx))
   rintro rfl;exact hl'.1 hx
  rw[MY ha] at this
  have:0 < m.length:=List.length_pos_of_mem ha
  simp only[KI];omega
def sub_eq {l m:List Pr}(hl:tZ l)(hm:tZ m)(h:∀x,x∈l->x∈m)(e:l.length=m.length):l=m:=by
 refine ik hl hm λx=>⟨h x,λhx=>Classical.byContradiction λhn=>?_⟩
 have:=nZ (l:=x :: l) (m:=m) (K6.mpr ⟨hn,gX hl⟩) λy hy=>by
  rcases Kq.mp hy with e |e
  ·subst e;exact hx
  ·exact h y e
 simp only[KI] at this
 omega
def more (l:List Pr):List Pr:=l.flatMap λp=>(l.filter λq=>decide (q.1=p.2)).map λq=>(p.1,q.2)
def nA {l:List Pr}{x:Pr}:x∈more l↔∃b,(x.1,b)∈l/\(b,x.2)∈l:=by
 unfold more
 rw[List.mem_flatMap]
 constructor
 ·rintro⟨p,hp,hx⟩
  obtain⟨q,hq,rfl⟩:=KC.mp hx
  obtain⟨hq,e⟩:=KQ.mp hq
  have e:q.1=p.2:=by simpa using e
  exact⟨p.2,hp,by rw[<-e];exact hq⟩
 ·rintro⟨b,h1,h2⟩
  exact⟨(x.1,b),h1,KC.mpr ⟨(b,x.2),KQ.mpr ⟨h2,by simp⟩,rfl⟩⟩
noncomputable def jt (n:Nat)(l:List Pr):List Pr:=bX n (Mem (l ++ more l))
structure DJ (n:Nat)(ps l:List Pr):Prop where
 wn:Wn n l
 ris:tZ l
 sub:∀x,x∈ps->x∈l
 sup:∀x,x∈l->Tr (Mem ps) x.1 x.2
def yp {n:Nat}{ps:List Pr}(w:Wn n ps):DJ n ps (bX n (Mem ps)):=
 ⟨rO n _,cY n _,λx hx=>a8.mpr ⟨w x hx,hx⟩,λ_ hx=>.one (a8.mp hx).2⟩
def z7 {n:Nat}{ps l:List Pr}(B:DJ n ps l):Wn n (l ++ more l):=λx hx=>by
 rcases KU.mp hx with h |h
 ·exact B.wn x h
 ·obtain⟨b,h1,h2⟩:=nA.mp h
  exact⟨(B.wn _ h1).1,(B.wn _ h2).2⟩
def sQ {n:Nat}{ps l:List Pr}(B:DJ n ps l):DJ n ps (jt n l)/\∀x,x∈l->x∈jt n l:=by
 have hs:∀x,x∈l->x∈jt n l:=λx hx=>a8.mpr ⟨B.wn x hx,LH _ hx⟩
 refine⟨⟨rO n _,cY n _,λx hx=>hs x (B.sub x hx),λx hx=>?_⟩,hs⟩
 rcases KU.mp (a8.mp hx).2 with h |h
 ·exact B.sup _ h
 ·obtain⟨b,h1,h2⟩:=nA.mp h
  exact (B.sup _ h1).trans (B.sup _ h2)
def zI {n:Nat}{ps l:List Pr}(B:DJ n ps l)(e:(jt n l).length=l.length):jt n l=bX n (Tr (Mem ps)):=by
 obtain⟨B2,hs⟩:=sQ B
 have q:l=jt n l:=sub_eq B.ris B2.ris hs e.symm
 refine ik B2.ris (cY n _) λx=>⟨λh=>a8.mpr ⟨B2.wn x h,B2.sup x h⟩,λh=>?_⟩
 rw[<-q]
 have tr:∀a b c:Int,(a,b)∈l->(b,c)∈l->(a,c)∈l:=λa b c h1 h2=>by
  rw[q]
  exact a8.mpr ⟨⟨(B.wn _ h1).1,(B.wn _ h2).2⟩,Lf _ (nA.mpr ⟨b,h1,h2⟩)⟩
 exact (a8.mp h).2.least (S:=Mem l) (λa b r=>B.sub _ r) tr
abbrev Tb:=Nat->Nat->Bool
def Tb.set (M:Tb)(a b:Nat):Tb:=λx y=>if x=a/\y=b then true else M x y
def Dd (M:Tb)(m:Nat):Prop:=∀k a b,k < m->M a k=true->M k b=true->M a b=true
def Phase (M0 M:Tb)(m:Nat)(D:Nat->Nat->Prop):Prop:=∀a b,M a b=true↔M0 a b=true\/(D a b/\M0 a m=true/\M0 m b=true)
def Phase.start (M:Tb)(m:Nat):Phase M M m λ_ _=>False:=λa b=>by simp
def Phase.row {M0 M:Tb}{m:Nat}{D:Nat->Nat->Prop}(P:Phase M0 M m D)(a:Nat):M a m=true↔M0 a m=true:=by
 rw[P]
 exact⟨λh=>h.elim id λh=>h.2.1,.inl⟩
def Phase.col {M0 M:Tb}{m:Nat}{D:Nat->Nat->Prop}(P:Phase M0 M m D)(b:Nat):M m b=true↔M0 m b=true:=by
 rw[P]
 exact⟨λh=>h.elim id λh=>h.2.2,.inl⟩
def Phase.step {M0 M:Tb}{m:Nat}{D:Nat->Nat->Prop}(P:Phase M0 M m D)(x y:Nat) :
  Phase M0 (if M x m=true/\M m y=true then M.set x y else M) m (λa b=>D a b\/(a=x/\b=y)):=λa b=>by
 have r:=P.row x
 have c:=P.col y
 by_cases h:M x m=true/\M m y=true
 ·rw[Kn h]
  unfold Tb.set
  by_cases e:a=x/\b=y
  ·rw[Kn e]
   obtain⟨rfl,rfl⟩:=e
   simp only[true_iff]
   exact .inr ⟨.inr (by simp),r.mp h.1,c.mp h.2⟩
  ·rw[Ku e,P]
   constructor
   ·rintro (q | ⟨d,q⟩)
    ·exact .inl q
    ·exact .inr ⟨.inl d,q⟩
   ·rintro (q | ⟨d |d,q⟩)
    ·exact .inl q
    ·exact .inr ⟨d,q⟩
    ·exact absurd d e
 ·rw[Ku h,P]
  constructor
  ·rintro (q | ⟨d,q⟩)
   ·exact .inl q
   ·exact .inr ⟨.inl d,q⟩
  ·rintro (q | ⟨d | ⟨rfl,rfl⟩,q1,q2⟩)
   ·exact .inl q
   ·exact .inr ⟨d,q1,q2⟩
   ·exact absurd ⟨r.mpr q1,c.mpr q2⟩ h
def Phase.done {M0 M:Tb}{m n:Nat}{D:Nat->Nat->Prop}(P:Phase M0 M m D)(hD:∀a b,a < n->b < n->D a b)(hM:∀a b,M0 a b=true->a < n/\b < n)(T:Dd M0 m) :
  Dd M (m + 1)/\∀a b,M a b=true->a < n/\b < n:=by
 have hM':∀a b,M a b=true->a < n/\b < n:=λa b h=>by
  rcases (P a b).mp h with q | ⟨_,q1,q2⟩
  ·exact hM a b q
  ·exact⟨(hM _ _ q1).1,(hM _ _ q2).2⟩
 have put:∀a b,M0 a m=true->M0 m b=true->M a b=true:=λa b h1 h2=>(P a b).mpr (.inr ⟨hD a b (hM _ _ h1).1 (hM _ _ h2).2,h1,h2⟩)
 refine⟨λk a b hk h1 h2=>?_,hM'⟩
 rcases Lz k m with c |c
 ·rcases (P a k).mp h1 with q1 | ⟨_,q1,q1'⟩
  ·rcases (P k b).mp h2 with q2 | ⟨_,q2,q2'⟩
   ·exact (P a b).mpr (.inl (T k a b c q1 q2))
   ·exact put a b (T k a m c q1 q2) q2'
  ·rcases (P k b).mp h2 with q2 | ⟨_,q2,q2'⟩
   ·exact put a b q1 (T k m b c q1' q2)
   ·exact put a b q1 q2'
 ·have e:k=m:=by omega
  subst e
  exact put a b ((P.row a).mp h1) ((P.col b).mp h2)
structure Tab (n:Nat)(ps:List Pr)(M:Tb):Prop where
 inn:∀a b,M a b=true->a < n/\b < n
 sub:∀a b:Nat,((a:Int),(b:Int))∈ps->M a b=true
 sup:∀a b:Nat,M a b=true->Tr (Mem ps) a b
def Tab.phase {n:Nat}{ps:List Pr}{M0 M:Tb}{m:Nat}{D:Nat->Nat->Prop}(T:Tab n ps M0)(P:Phase M0 M m D):Tab n ps M:=
 ⟨λa b h=>by
  rcases (P a b).mp h with q | ⟨_,q1,q2⟩
  ·exact T.inn a b q
  ·exact⟨(T.inn _ _ q1).1,(T.inn _ _ q2).2⟩,
  λa b h=>(P a b).mpr (.inl (T.sub a b h)),
  λa b h=>by
  rcases (P a b).mp h with q | ⟨_,q1,q2⟩
  ·exact T.sup a b q
  ·exact (T.sup _ _ q1).trans (T.sup _ _ q2)⟩
def Tab.all {n:Nat}{ps:List Pr}{M:Tb}(w:Wn n ps)(T:Tab n ps M)(H:Dd M n)(a b:Nat):M a b=true↔Tr (Mem ps) a b:=by
 refine⟨T.sup a b,λh=>?_⟩
 have key:∀{x y:Int},Tr (Mem ps) x y->M x.toNat y.toNat=true:=λ{x y} h=>by
  induction h with
  | @one x y r=>
   have:=w _ r
   refine T.sub _ _ ?_
   have e1:((x.toNat:Nat):Int)=x:=by simp only at this;omega
   have e2:((y.toNat:Nat):Int)=y:=by simp only at this;omega
   rw[e1,e2];exact r
  | @more x y z r _ ih=>
   have:=w _ r
   have e1:((x.toNat:Nat):Int)=x:=by simp only at this;omega
   have e2:((y.toNat:Nat):Int)=y:=by simp only at this;omega
   have q:M x.toNat y.toNat=true:=T.sub _ _ (by rw[e1,e2];exact r)
   exact H y.toNat _ _ (T.inn _ _ q).2 q ih
 have:=key h
 simpa using this
end OM
namespace L2.ST
open PySem PySem.SetTable PySem.W PyProof.Rows
section
variable {prog:Program}{w:World}{A:Around}{E:Value->Shared->Prop}{s:Shared}
def EU {ps:List Pr}(hs:∀p,p∈ps->Sm p){ix:Array Nat}(P:L2.SO.Pm ps.length ix)(U:L2.SO.Up (oP ps) ix ps.length):OM.tZ (ix.toList.map λi=>ps.getD i (0,0)):=by
 refine LC.mpr (Mr.mpr λi j hi hj hij=>?_)
 have hi':i < ix.size:=by simpa using hi
 have hj':j < ix.size:=by simpa using hj
 have q:=U i j hij (by rw[<-P.sz];exact hj')
 unfold L2.SO.Kp oP at q
 have ei:ix.getD i 0=ix.toList[i]:=by simp[Array.getD,hi']
 have ej:ix.getD j 0=ix.toList[j]:=by simp[Array.getD,hj']
 rw[ei,ej] at q
 have ai:ix.toList[i] < ps.length:=P.lt _ (by simp)
 have aj:ix.toList[j] < ps.length:=P.lt _ (by simp)
 have bi:Sm (ps.getD ix.toList[i] (0,0)):=by rw[KZ,Kj ai];exact hs _ (LB ai)
 have bj:Sm (ps.getD ix.toList[j] (0,0)):=by rw[KZ,Kj aj];exact hs _ (LB aj)
 exact (xp bi bj).mp q
def Fs {n:Nat}{ix:Array Nat}(P:L2.SO.Pm n ix){k:Nat}(hk:k < n):k∈ix.toList:=by
 refine Classical.byContradiction λhn=>?_
 have:=bo (l:=k :: ix.toList) (m:=List.range n) (K6.mpr ⟨hn,P.nd⟩) λx hx=>by
  rcases Kq.mp hx with e |e
  ·rw[e];exact KR.mpr hk
  ·exact KR.mpr (P.lt x (by simpa using e))
 simp[P.sz] at this
 omega
theorem Hf {h:Heap}{vs:List Value}{ps:List Pr}(hps:cL prog w h vs ps){ix:Array Nat}(P:L2.SO.Pm vs.length ix) :
  cL prog w h (ix.toList.map λi=>vs.getD i Value.none) (ix.toList.map λi=>ps.getD i (0,0)):=by
 refine⟨by simp,λi v p h1 h2=>?_⟩
 rw[Kv] at h1 h2
 cases e:ix.toList[i]? with
 |none=>rw[e] at h1;cases h1
 |some k=>
  rw[e] at h1 h2
  have hk:k < vs.length:=P.lt k (by simpa using KD e)
  have hk':k < ps.length:=by rw[<-hps.1];exact hk
  simp[hk,hk'] at h1 h2
  exact hps.2 k v p (by rw[Kj hk,h1]) (by rw[Kj hk',h2])
def yX {v:Value}{vs:List Value}{ps:List Pr}{Q:Value->Shared->Prop}(hps:cL prog w s.heap vs ps)(nd:ps.Nodup)(h64:vs.length < 64)
  (hcol:∀(Q':List Value->Shared->Prop),(∀h' tk,(∀b o,s.heap.get? b=some o->h'.get? b=some o)->Q' vs {s with heap:=h',toks:=tk})->wpAny (model prog w) A.in1 (collect v) Q' (λe s'=>E e s') s)
  (h:∀(h1 h':Heap) (tk:Nat) (D:Addr) (out:List Value) (qs:List Pr) (c:Nat),(∀b o,s.heap.get? b=some o->h1.get? b=some o)->D=h1.objs.size->(∀b o,h1.get? b=some o->h'.get? b=some o)->h'.get? D=some (seqObj "list" out.toArray c)->cL prog w h' out qs->(∀u,u∈out->u∈vs)->OM.tZ qs->(∀p,p∈qs↔p∈ps)->
   Q (.ref D) {s with heap:=h',toks:=tk}):wpAny (model prog w) A (call (.builtin "sorted") [v]) Q E s:=by
 have hsm:∀p,p∈ps->Sm p:=λp hp=>by
  obtain⟨i,hi,e⟩:=K8.mp hp
  have hi':i < vs.length:=by rw[hps.1];exact hi
  obtain⟨_,_,_,hs⟩:=hps.2 i vs[i] p (Kj hi') (by rw[Kj hi,e])
  exact hs
 (refine Calls.call_function_entry kind_sorted plain_sorted entry_sorted (args_sorted1 _) ?_)
 unfold Builtin.«sorted»
 refine Kk (m:=checkCount "sorted" 1 1 ([v]:List Value).length) (Ks ?_)
 refine Kk (hcol _ λh1 tk1 k1=>?_)
 have hz:vs.length<=sizeLine:=by rw[KY];omega
 refine Kk (wpAny_newList ?_ hz)
 show wpAny _ _ _ _ _ {s with heap:=h1.push (seqObj "list" vs.toArray 0),toks:=tk1}
 have hoL:(h1.push (seqObj "list" vs.toArray 0)).get? h1.objs.size=some (seqObj "list" vs.toArray 0):=Ky _ rfl
 have kp:∀b o,s.heap.get? b=some o->(h1.push (seqObj "list" vs.toArray 0)).get? b=some o:=λb o e=>Kl _ (k1 b o e)
 have hp1:cL prog w (h1.push (seqObj "list" vs.toArray 0)) vs ps:=⟨hps.1,λi v p a b=>by
  obtain⟨c,e,⟨o,it,n,ho,r⟩,hs⟩:=hps.2 i v p a b
  exact⟨c,e,⟨o,it,n,kp _ _ ho,r⟩,hs⟩⟩
 have hne:∀b o,s.heap.get? b=some o->b≠h1.objs.size:=λb o e=>K1 (Kw (k1 b o e))
 refine Kk (LK (Mf slot_list_sort ⟨_,hoL,rfl⟩ entry_list_sort ?_ (args_list_sort _)))
 refine sH (s:={s with heap:=h1.push (seqObj "list" vs.toArray 0),toks:=tk1}) hoL hp1 nd h64 λh' c ix P U hk ho=>?_
 refine⟨_,rfl,Ks ⟨_,rfl,?_⟩⟩
 have kk:∀b o,s.heap.get? b=some o->h'.get? b=some o:=λb o e=>hk b o (hne b o e) (kp b o e)
 have P':L2.SO.Pm ps.length ix:=by rw[<-hps.1];exact P
 have k2:∀b o,h1.get? b=some o->h'.get? b=some o:=λb o e=>hk b o (K1 (Kw e)) (Kl _ e)
 refine h h1 h' tk1 h1.objs.size _ (ix.toList.map λi=>ps.getD i (0,0)) c k1 rfl k2 ho (Hf ⟨hps.1,λi v p a b=>?_⟩ P) (λu hu=>?_) (EU hsm P' (by rw[<-hps.1];exact U)) λp=>⟨λhp=>?_,λhp=>?_⟩
 ·obtain⟨c,e,⟨o,it,n,ho,r⟩,hs⟩:=hps.2 i v p a b
  exact⟨c,e,⟨o,it,n,kk _ _ ho,r⟩,hs⟩
 ·obtain⟨i,hi,rfl⟩:=KC.mp hu
  have:i < vs.length:=P.lt i (by simpa using hi)
  rw[KZ,Kj this]
  exact LB this
 ·obtain⟨i,hi,rfl⟩:=KC.mp hp
  have:i < ps.length:=P'.lt i (by simpa using hi)
  rw[KZ,Kj this]
  exact LB this
 ·obtain⟨i,hi,e⟩:=K8.mp hp
  refine KC.mpr ⟨i,Fs P' hi,?_⟩
  rw[KZ,Kj hi,e];rfl
end
end L2.ST
namespace L2
open PySem PySem.Spec PyProof.Rows
abbrev Pr:=Int×Int
abbrev Sm:=L2.ST.Sm
section
variable {X:Cx}{pins:List (Addr×Obj)}{σ:St}{H H':Hp}{s:Shared}
def fC (H H':Hp):Prop:=(∀b xs,H b=some (.tup xs)->H' b=some (.tup xs))/\∀b o u,H b=some (.bb o u)->H' b=some (.bb o u)
def fC.refl (H:Hp):fC H H:=⟨λ_ _ h=>h,λ_ _ _ h=>h⟩
def fC.trans {H H1 H2:Hp}(a:fC H H1)(b:fC H1 H2):fC H H2:=⟨λc xs h=>b.1 c xs (a.1 c xs h),λc o u h=>b.2 c o u (a.2 c o u h)⟩
def ak.grow {H H':Hp}(e:ak H H'):fC H H':=⟨λb xs h=>e b _ h,λb o u h=>e b _ h⟩
def fC.new {H:Hp}{l:Addr}{o:HO}(h:H l=none):fC H (upd H l o):=⟨λb xs e=>by rw[ay (aG e h)];exact e,λb o' u e=>by rw[ay (aG e h)];exact e⟩
def ak.new {H:Hp}{l:Addr}{o:HO}(h:H l=none):ak H (upd H l o):=λb u e=>by rw[ay (aG e h)];exact e
def dA.grow {K:Frag}{a:Addr}{xs:List V}(h:dA K H a xs)(g:fC H H'):dA K H' a xs:=by
 rcases h with (h | ⟨o,h⟩) |h
 ·exact .inl (.inl (g.1 _ _ h))
 ·exact .inl (.inr ⟨o,g.2 _ _ _ h⟩)
 ·exact .inr h
def fC.list {a:Addr}{ys:List V}{o:HO}(h:H a=some (.lst ys)):fC H (upd H a o):=
 ⟨λb xs e=>by rw[ay (DQ e h (by intro z;cases z))];exact e,λb o' u e=>by rw[ay (DQ e h (by intro z;cases z))];exact e⟩
theorem oU {α β:Type}{f:α->β}:∀{l:List α} {m:List β},m.Perm (l.map f)->∃l':List α,m=l'.map f/\l'.Perm l:=by
 intro l m h
 generalize hk:l.map f=k at h
 induction h generalizing l with
 |nil=>
  have:l= []:=by simpa using hk
  exact⟨[],rfl,by rw[this]⟩
 | @cons x m1 m2 _ ih=>
  cases l with
  |nil=>cases hk
  |cons a l=>
   simp only[K7,List.cons.injEq] at hk
   obtain⟨l',e,p⟩:=ih hk.2
   exact⟨a :: l',by rw[K7,hk.1,e],p.cons a⟩
 |swap x y m1=>
  cases l with
  |nil=>cases hk
  |cons a l=>
   cases l with
   |nil=>simp at hk
   |cons b l=>
    simp only[K7,List.cons.injEq] at hk
    exact⟨b :: a :: l,by rw[K7,K7,hk.1,hk.2.1,hk.2.2],List.Perm.swap ..⟩
 |trans _ _ ih1 ih2=>
  obtain⟨l1,e1,p1⟩:=ih2 hk
  obtain⟨l2,e2,p2⟩:=ih1 e1.symm
  exact⟨l2,e2,p2.trans p1⟩
def aS (K:Frag)(H:Hp):List V->List Pr->Prop:=Paired λv p=>∃a,v=.ref a/\dA K H a [.int p.1,.int p.2]
def aS.grow {K:Frag}{vs:List V}{ps:List Pr}(h:aS K H vs ps)(g:fC H H'):aS K H' vs ps:=Paired.mapP h λv p ⟨a,e,q⟩=>⟨a,e,q.grow g⟩
theorem Paired.getP {α β:Type}{F:α->β->Prop}:∀{l:List α} {m:List β} {i:Nat} {x:α},Paired F l m->l[i]? =some x->∃y,m[i]? =some y/\F x y
 |_,_,_,_,.nil,e=>by simp at e
 |_,_,0,_,.cons r _,e=>by simp at e;subst e;exact⟨_,rfl,r⟩
 |_,_,i + 1,x,.cons _ t,e=>by
  obtain⟨u,h1,h2⟩:=Paired.getP (i:=i) (x:=x) t (by simpa using e)
  exact⟨u,by simpa using h1,h2⟩
theorem Paired.getQ {α β:Type}{F:α->β->Prop}:∀{l:List α} {m:List β} {i:Nat} {y:β},Paired F l m->m[i]? =some y->∃x,l[i]? =some x/\F x y
 |_,_,_,_,.nil,e=>by simp at e
 |_,_,0,_,.cons r _,e=>by simp at e;subst e;exact⟨_,rfl,r⟩
 |_,_,i + 1,x,.cons _ t,e=>by
  obtain⟨u,h1,h2⟩:=Paired.getQ (i:=i) (y:=x) t (by simpa using e)
  exact⟨u,by simpa using h1,h2⟩
theorem ra (I:Inv X pins σ H s){a:Addr}{p:Pr}(h:dA X.K H a [.int p.1,.int p.2]):L2.ST.bG X.prog X.w s.heap p a:=by
 obtain⟨its,r,⟨o,ho,hc,n,hd⟩,_⟩:=I.tuple h
 cases r with
 |cons r1 r=>
  cases r with
  |cons r2 r=>
   cases r
   obtain⟨t1,rfl⟩:=r1
   obtain⟨t2,rfl⟩:=r2
   exact⟨o,_,n,ho,hc,hd,.cons (intKind_is ..) (.cons (intKind_is ..) .nil)⟩
def pairs_at (I:Inv X pins σ H s){vs:List V}{us:List Value}{ps:List Pr}(hv:Vals vs us)(h:aS X.K H vs ps)(hs:∀p,p∈ps->Sm p):L2.ST.cL X.prog X.w s.heap us ps:=by
 refine⟨by rw[<-hv.length];exact Paired.length h,λi u p e1 e2=>?_⟩
 obtain⟨v,ev,a,rfl,q⟩:=Paired.getQ h e2
 obtain⟨u',eu,ru⟩:=hv.get ev
 rw[e1] at eu;cases eu
 cases ru
 exact⟨a,rfl,ra I q,hs p (KD e2)⟩
theorem ot (I:Inv X pins σ H s){vs:List V}{us:List Value}{ps:List Pr}(hv:Vals vs us)(h:aS X.K H vs ps){h':Heap}(k:∀b o,s.heap.get? b=some o->h'.get? b=some o):∀{out:List Value} {qs:List Pr},
  (∀u,u∈out->u∈us)->L2.ST.cL X.prog X.w h' out qs->∃ws,Vals ws out/\aS X.K H ws qs
 | [],[],_,_=>⟨[],.nil,.nil⟩
 | [],_ :: _,_,hp=>by have:=hp.1;simp at this
 |_ :: _,[],_,hp=>by have:=hp.1;simp at this
 |u :: out,q :: qs,hm,hp=>by
  obtain⟨ws,a1,a2⟩:=ot I hv h k (out:=out) (qs:=qs) (λx hx=>hm x (Ko _ hx)) ⟨by have:=hp.1;simpa using this,λi v p e1 e2=>hp.2 (i + 1) v p (by simpa using e1) (by simpa using e2)⟩
  obtain⟨i,hi,e⟩:=K8.mp (hm u (Kr ..))
  have hi':i < vs.length:=by rw[hv.length];exact hi
  obtain⟨u',eu,ru⟩:=hv.get (Kj hi')
  rw[Kj hi,e] at eu
  cases eu
  obtain⟨p,ep,a,ea,qa⟩:=Paired.getP h (Kj hi')
  rw[ea] at ru
  cases ru
  obtain⟨b,eb,hb,_⟩:=hp.2 0 (.ref a) q rfl rfl
  cases eb
  have pa:L2.ST.bG X.prog X.w h' p a:=by
   obtain⟨o,it,n,ho,r⟩:=ra I qa
   exact⟨o,it,n,k _ _ ho,r⟩
  have:p=q:=L2.ST.bG.inj pa hb
  subst this
  exact⟨.ref a :: ws,.cons rfl a1,.cons ⟨a,rfl,qa⟩ a2⟩
def uB (I:Inv X pins σ H s){vs:List V}{us:List Value}{ps:List Pr}(hv:Vals vs us)(hp:aS X.K H vs ps)(hlen:ps.length < 64){Q:VK}
  (q:∀l ws qs,H l=none->aS X.K H ws qs->OM.tZ qs->(∀p,p∈qs↔p∈ps)->Q (.ref l) (upd H l (.lst ws)))
  {h1 h':Heap} {tk:Nat} {D:Addr} {out:List Value} {qs:List Pr} {c:Nat} (k1:∀b o,s.heap.get? b=some o->h1.get? b=some o) (eD:D=h1.objs.size) (k2:∀b o,h1.get? b=some o->h'.get? b=some o)
  (ho:h'.get? D=some (seqObj "list" out.toArray c)) (hpq:L2.ST.cL X.prog X.w h' out qs) (hm:∀u,u∈out->u∈us) (hr:OM.tZ qs) (hmem:∀p,p∈qs↔p∈ps):EP X pins σ Q (.ref D) {s with heap:=h',toks:=tk}:=by
 obtain⟨ws,r1,r2⟩:=ot I hv hp (λb o e=>k2 b o (k1 b o e)) hm hpq
 have I1:Inv X pins σ H {s with heap:=h1,toks:=tk}:=I.kept k1
 have hf:H D=none:=by rw[eD];exact I1.hok.fresh (Km _)
 have hz:ws.length<=sizeLine:=by
  have e1:=r1.length
  have e2:out.length=qs.length:=hpq.1
  have e3:=OM.nZ (OM.gX hr) λx hx=>(hmem x).mp hx
  rw[KY];omega
 have I2:Inv X pins σ (upd H D (.lst ws)) {s with heap:=h',toks:=tk}:=I1.laid (t':=tk) k2 (by rw[eD];exact Km _) (show bK X.prog X.w _ h' _ (.lst ws) from⟨hz,out,c,r1,ho⟩)
 exact⟨.ref D,_,I2,rfl,q D ws qs hf r2 hr hmem⟩
abbrev vq (qs:List (Addr×Pr)):List V:=qs.map λq=>V.ref q.1
abbrev pq (qs:List (Addr×Pr)):List Pr:=qs.map (·.2)
def D8 (prog:Program)(w:World)(S:Addr)(qs:List (Addr×Pr))(h:Heap):Prop:=∃o ep t,h.get? S=some o/\o.ExactSet/\o.data=.set (qs.map λq=>(L2.ST.zg prog w q.2,Value.ref q.1)).toArray ep t/\L2.ST.Tab t (qs.map λq=>L2.ST.zg prog w q.2)/\t.led=L2.ST.eB w
def xY (prog:Program)(w:World)(S:Addr)(qs:List (Addr×Pr)):HO:=.ext (D8 prog w S qs)
def Ht (P:Program)(w:World)(K:Frag):List V->Hp->VK->Prop:=λxs H Q=>∃a vs ps,xs= [.ref a]/\(e8 K H a vs\/dA K H a vs)/\aS K H vs ps/\(∀p,p∈ps->Sm p)/\
 ∀S qs,H S=none->aS K H (vq qs) (pq qs)->(pq qs).Nodup->(∀p,p∈pq qs↔p∈ps)->Q (.ref S) (upd H S (xY P w S qs))
def Bw (hc:X.calm=true)(hu:X.A.units + 64 < cLine):cp X (.type "set") (Ht X.prog X.w X.K):=by
 intro pins s σ H xs us Q I r h
 obtain⟨a,vs,ps,rfl,hq,hp,hs,q⟩:=h
 obtain⟨u,rfl,rx⟩:=vals1 r
 cases rx
 have hh:=I.ok.hd hc
 have core:∀{its:List Value} {T:String} {itO:Obj} {St:Addr->Nat->Heap->Prop},Vals vs its->L2.ST.Src X.prog X.w s.heap a its T itO St->wpAny (model X.prog X.w) X.A (call (.type "set") [.ref a]) (EP X pins σ Q) X.xe s:=λ{its T itO St} rv src=>by
  refine L2.ST.nK src hh hu (pairs_at I rv hp hs) λh' tk F k=>?_
  obtain⟨qs,P1,P2,P3⟩:=F
  have hlen:its.length=vs.length:=rv.length.symm
  have back:∀qv:Addr×Pr,qv∈qs->∃b,b=qv.1/\dA X.K H b [.int qv.2.1,.int qv.2.2]:=λqv hqv=>by
   obtain⟨i,hi,e⟩:=K8.mp (L6 (P2 qv hqv).1)
   have hi':i < vs.length:=by rw[<-hlen];exact hi
   obtain⟨u',eu,ru⟩:=rv.get (Kj hi')
   rw[Kj hi,e] at eu
   cases eu
   obtain⟨p,ep,b,eb,qb⟩:=Paired.getP hp (Kj hi')
   rw[eb] at ru
   cases ru
   have pa:L2.ST.bG X.prog X.w h' p qv.1:=by
    obtain⟨o,it,n,ho,r⟩:=ra I qb
    exact⟨o,it,n,k _ _ ho,r⟩
   have:p=qv.2:=L2.ST.bG.inj pa (P1.at' qv hqv).1
   subst this
   exact⟨_,rfl,qb⟩
  have hpv:∀{l:List (Addr×Pr)},(∀x,x∈l->x∈qs)->aS X.K H (vq l) (pq l):=λ{l}=>by
   induction l with
   |nil=>intro _;exact .nil
   |cons y l ih=>
    intro hl
    obtain⟨b,eb,qb⟩:=back y (hl y (Kr ..))
    subst eb
    exact .cons ⟨_,rfl,qb⟩ (ih λx hx=>hl x (Ko _ hx))
  have hmem:∀p,p∈pq qs↔p∈ps:=λp=>by
   have hpl:ps.length=its.length:=by rw[hlen];exact (Paired.length hp).symm
   constructor
   ·intro hx
    obtain⟨qv,hqv,rfl⟩:=KC.mp hx
    exact L6 (P2 qv hqv).2
   ·intro hx
    exact P3 p (by rw[<-hpl,Mh (Km _)];exact hx)
  have hf:H s.heap.objs.size=none:=I.hok.fresh (Km _)
  obtain⟨o,ep,t,ho,r1⟩:=P1.ex
  have new:bK X.prog X.w (upd H s.heap.objs.size (xY X.prog X.w s.heap.objs.size qs)) h' s.heap.objs.size (xY X.prog X.w s.heap.objs.size qs):=
   ⟨⟨o,ep,t,ho,r1⟩,⟨o,ho⟩,λh1 h2 ⟨o1,ep1,t1,g1,g2⟩ kk=>⟨o1,ep1,t1,kk _ g1,g2⟩⟩
  exact⟨.ref _,_,I.laid (t':=tk) k (Km _) new,rfl,q _ qs hf (hpv λx hx=>hx) P1.nd hmem⟩
 rcases hq with hq |hq
 ·obtain⟨its,rv,pl,hz⟩:=I.list hq
  exact core rv (L2.ST.Src.list pl.isList)
 ·obtain⟨its,rv,pl,hz⟩:=I.tuple hq
  exact core rv (L2.ST.Src.tuple pl)
def sJ (P:Program)(w:World)(K:Frag):List V->Hp->VK->Prop:=λxs H Q=>∃S qs,xs= [.ref S]/\H S=some (xY P w S qs)/\aS K H (vq qs) (pq qs)/\(∀p,p∈pq qs->Sm p)/\(pq qs).Nodup/\qs.length < 64/\
 ∀l ws rs,H l=none->aS K H ws rs->OM.tZ rs->(∀p,p∈rs↔p∈pq qs)->Q (.ref l) (upd H l (.lst ws))
def qE (hc:X.calm=true):cp X (.builtin "sorted") (sJ X.prog X.w X.K):=by
 intro pins s σ H xs us Q I r h
 obtain⟨S,qs,rfl,hS,hp,hs,nd,hl,q⟩:=h
 obtain⟨u,rfl,rx⟩:=vals1 r
 cases rx
 have hh:=I.ok.hd hc
 obtain⟨⟨o,ep,t,ho,hex,hd,T,hled⟩,_,_⟩:D8 X.prog X.w S qs s.heap/\_:=I.hok S _ hS
 have T':L2.ST.Tab t ((qs.map λq=>(L2.ST.zg X.prog X.w q.2,Value.ref q.1)).toArray.toList.map (·.1)):=by
  rw[LN,My];exact T
 have htp:=L2.ST.pF X.w S ep (qs.map λq=>(L2.ST.zg X.prog X.w q.2,Value.ref q.1)).toArray
 have hmem:∀x,x∈(L2.ST.told X.w S ep (qs.map λq=>(L2.ST.zg X.prog X.w q.2,Value.ref q.1)).toArray).toList->∃q,q∈qs/\x=(L2.ST.zg X.prog X.w q.2,Value.ref q.1):=λx hx=>by
  have:=htp.mem_iff.mp hx
  simp only[LN] at this
  obtain⟨q,hq,e⟩:=KC.mp this
  exact⟨q,hq,e.symm⟩
 obtain⟨q2,e2,p2⟩:∃q2:List (Addr×Pr),(L2.ST.told X.w S ep (qs.map λq=>(L2.ST.zg X.prog X.w q.2,Value.ref q.1)).toArray).toList=q2.map (λq=>(L2.ST.zg X.prog X.w q.2,Value.ref q.1))/\q2.Perm qs:=by
  have:=htp
  simp only[LN] at this
  exact oU this
 have hp2:aS X.K H (vq q2) (pq q2):=by
  have key:∀{l:List (Addr×Pr)},(∀x,x∈l->x∈qs)->aS X.K H (vq l) (pq l):=λ{l}=>by
   induction l with
   |nil=>intro _;exact .nil
   |cons y l ih=>
    intro hl
    obtain⟨i,hi,e⟩:=K8.mp (hl y (Kr ..))
    obtain⟨p,ep',a,ea,qa⟩:=Paired.getP (l:=vq qs) (m:=pq qs) (i:=i) (x:=.ref y.1) hp (by simp[hi,e])
    have:p=y.2:=by simp[hi,e] at ep';exact ep'.symm
    subst this
    exact .cons ⟨a,ea,qa⟩ (ih λx hx=>hl x (Ko _ hx))
  exact key λx hx=>p2.mem_iff.mp hx
 have hv2:Vals (vq q2) (q2.map λq=>Value.ref q.1):=by
  induction q2 with
  |nil=>exact .nil
  |cons y l ih=>exact .cons rfl (by
    clear ih e2 p2 hp2
    induction l with
    |nil=>exact .nil
    |cons z l ih2=>exact .cons rfl ih2)
 have hm2:∀p,p∈pq q2↔p∈pq qs:=λp=>(p2.map (·.2)).mem_iff
 have hpa:=pairs_at I hv2 hp2 λp hpp=>hs p ((hm2 p).mp hpp)
 have hl2:q2.length < 64:=by rw[p2.length_eq];exact hl
 refine L2.ST.yX (v:=.ref S) hpa ((p2.map (·.2)).nodup_iff.mpr nd) (by simpa using hl2) (λQ' hQ'=>L2.ST.sg (by simpa using hh) ho hd hex.1 T' hled (by simp;omega) λh' tk vs ev k=>?_) λh1 h' tk D out qs' c k1 eD k2 ho' hpq hm hr hmem'=>?_
 ·rw[ev,e2]
  rw[My]
  exact hQ' h' tk k
 ·exact uB I hv2 hp2 (by simpa using hl2) (λl ws rs a1 a2 a3 a4=>q l ws rs a1 a2 a3 λp=>(a4 p).trans (hm2 p)) k1 eD k2 ho' hpq hm hr hmem'
end
def lJ (cells:List (Str×Addr)):List (Str×NameKind)->List (Str×Addr)->List (Str×Addr)
 | [],cs=>cs
 | (n,k) :: r,cs=>lJ cells r (if k == .free then (n,(cells.lookup n).getD 0) :: cs else cs)
def m8 {scope:Scope}{env:Env}(h:∀y∈scope.names,y.2=.free->∃c,env.cells.lookup y.1=some c):closureFor scope env=pure (lJ env.cells scope.names []):=by
 unfold closureFor
 have key:∀(l:List (Str×NameKind)) (cs:List (Str×Addr)),(∀y∈l,y.2=.free->∃c,env.cells.lookup y.1=some c)->
   (forIn l cs (λ(x:Str×NameKind) (r:List (Str×Addr))=>if (x.2 == NameKind.free)=true then (do let a <-cellOf env x.1;pure (ForInStep.yield ((x.1,a) :: r)):Sem _) else pure (ForInStep.yield r)):Sem (List (Str×Addr)))=pure (lJ env.cells l cs):=by
  intro l
  induction l with
  |nil=>intro cs _;rfl
  |cons y l ih=>
   intro cs hy
   obtain⟨n,k⟩:=y
   rw[List.forIn_cons]
   unfold lJ
   by_cases hk:(k == NameKind.free)=true
   ·have hk':k=.free:=by simpa using hk
    obtain⟨c,hc⟩:=hy (n,k) (Kr ..) hk'
    have hce:cellOf env n=pure c:=by unfold cellOf;rw[hc]
    simp only[hk,LD]
    have hc':env.cells.lookup n=some c:=hc
    rw[hce,hc']
    simp only[pure_bind,Option.getD_some]
    exact ih _ λz hz=>hy z (Ko _ hz)
   ·simp only[hk,Lh,KG]
    simp only[pure_bind]
    exact ih _ λz hz=>hy z (Ko _ hz)
 have:=key scope.names [] h
 simp only[bind_pure_comp] at this ⊢
 first
  |exact this
  | (rw[this];rfl)
  | (simpa using this)
theorem lN {cells:List (Str×Addr)}{x:Str}:∀{l:List (Str×NameKind)} {cs:List (Str×Addr)},((x,NameKind.free)∈l\/cs.lookup x=some ((cells.lookup x).getD 0))->(lJ cells l cs).lookup x=some ((cells.lookup x).getD 0)
 | [],cs,h=>by
  rcases h with h |h
  ·cases h
  ·exact h
 | (n,k) :: r,cs,h=>by
  unfold lJ
  refine lN ?_
  by_cases hk:(k == NameKind.free)=true
  ·rw[Kn hk]
   by_cases hx:x=n
   ·subst hx;right;simp
   ·rcases h with h |h
    ·rcases Kq.mp h with e |e
     ·injection e with e1 _;exact absurd e1 hx
     ·exact .inl e
    ·right
     rw[MR,show (x == n)=false by simpa using hx]
     exact h
  ·rw[Ku hk]
   rcases h with h |h
   ·rcases Kq.mp h with e |e
    ·injection e with _ e2;exact absurd (by rw[<-e2];rfl) hk
    ·exact .inl e
   ·exact .inr h
theorem lO {cells:List (Str×Addr)}{x:Str}{c:Addr}:∀{l:List (Str×NameKind)} {cs:List (Str×Addr)},(lJ cells l cs).lookup x=some c->((x,NameKind.free)∈l/\c=(cells.lookup x).getD 0)\/cs.lookup x=some c
 | [],cs,h=>.inr h
 | (n,k) :: r,cs,h=>by
  unfold lJ at h
  rcases lO h with⟨a,b⟩ |a
  ·exact .inl ⟨Ko _ a,b⟩
  ·by_cases hk:(k == NameKind.free)=true
   ·rw[Kn hk,MR] at a
    by_cases hx:x=n
    ·subst hx
     simp at a
     have:k=.free:=by simpa using hk
     subst this
     exact .inl ⟨Kr ..,a.symm⟩
    ·rw[show (x == n)=false by simpa using hx] at a
     exact .inr a
   ·rw[Ku hk] at a
    exact .inr a
theorem lU {f:Str->NameKind->NameKind}{x:Str}:∀(l:List (Str×NameKind)),(l.map λy=>(y.1,f y.1 y.2)).lookup x=(l.lookup x).map (f x)
 | []=>rfl
 | (n,k) :: l=>by
  rw[K7,MR,MR]
  by_cases hx:x=n
  ·subst hx;simp
  ·have hb:(x == n)=false:=by simpa using hx
   simp only[hb]
   exact lU l
def nF (scope:Scope)(env:Env)(x:Str):(relabel scope env).names.lookup x=(scope.names.lookup x).map λk=>if (k == .free && env.scope.kind == .function && env.kindOf x == some .cell) then .cell else k:=by
 have e:(relabel scope env).names=scope.names.map λy=>(y.1,if (y.2 == .free && env.scope.kind == .function && env.kindOf y.1 == some .cell) then .cell else y.2):=by
  unfold relabel
  dsimp only
  refine Lw λy _=>?_
  obtain⟨n,k⟩:=y
  dsimp only
  split <;> rfl
 rw[e]
 exact lU (f:=λn k=>if (k == .free && env.scope.kind == .function && env.kindOf n == some .cell) then .cell else k) scope.names
def gS (X:Cx)(NB:List Str)(scope:Scope)(C:Addr)(ex:List Addr)(s3:Shared)(H3:Hp)(pn:List (Addr×Obj)):Cx:=
 {X with N:=NB,s₀:=s3,H₀:=H3,env:=compEnvC scope (lJ X.env.cells scope.names []) C X.env,outer:=X.stack,ex:=ex,fn:=λ_=>false,pn:=pn,xe:=λ_ _=>False}
def bD (own:Nat)(ixs:List Nat)(σ:St):St:=List.replicate own none ++ ixs.map λi=>(σ[i]?).join
structure cM (X:Cx)(NB:List Str)(own:Nat)(ixs:List Nat)(scope:Scope):Prop where
 kind:scope.kind=.function
 nocell:∀y∈scope.names,y.2≠.cell
 names:∀y∈scope.names,scope.names.lookup y.1=some y.2
 frees:∀y∈scope.names,y.2=.free->X.env.kindOf y.1=some .cell\/X.env.kindOf y.1=some .free
 nd:NB.Nodup
 len:NB.length=own + ixs.length
 at':∀k,k < ixs.length->NB[own + k]? =X.N[ixs.getD k 0]?/\∀x,NB[own + k]? =some x->(x,NameKind.free)∈scope.names
section
variable {X:Cx}{NB:List Str}{own:Nat}{ixs:List Nat}{scope:Scope}{pins:List (Addr×Obj)}{σ:St}{H:Hp}{s:Shared}
def zc (S:cM X NB own ixs scope)(I:Inv X pins σ H s){fp:List Addr}(hfp:∀b∈fp,lI X pins H b)(hob:∀b∈fp,∃o,s.heap.get? b=some o){h1:Heap}{tk:Nat}
  (hn:h1.Ns s.heap.objs.size (λ_=>none)) (hk:∀b o,s.heap.get? b=some o->h1.get? b=some o) :
  Inv (gS X NB scope s.heap.objs.size fp s H (X.pn ++ pins)) [] (bD own ixs σ) H {s with heap:=h1,toks:=tk}:=by
 have stk:=I.stack
 have frees:∀{x:Str},(x,NameKind.free)∈scope.names->∃c,X.env.cells.lookup x=some c:=λ{x} hx=>I.ok.has x (S.frees _ hx rfl)
 have clE:∀{x:Str} {c:Addr},(lJ X.env.cells scope.names []).lookup x=some c->(x,NameKind.free)∈scope.names/\X.env.cells.lookup x=some c:=λ{x c} h=>by
  rcases lO h with⟨a,b⟩ |a
  ·obtain⟨c',e⟩:=frees a
   rw[e] at b
   exact⟨a,by rw[e,b];rfl⟩
  ·simp at a
 have kindB:∀x,(gS X NB scope s.heap.objs.size fp s H (X.pn ++ pins)).env.kindOf x=(scope.names.lookup x).map λk=>if (k == .free && X.env.scope.kind == .function && X.env.kindOf x == some .cell) then .cell else k:=λx=>nF scope X.env x
 have isFree:∀{x:Str},((gS X NB scope s.heap.objs.size fp s H (X.pn ++ pins)).env.kindOf x=some .cell\/(gS X NB scope s.heap.objs.size fp s H (X.pn ++ pins)).env.kindOf x=some .free)->(x,NameKind.free)∈scope.names:=λ{x} h=>by
  rw[kindB] at h
  cases e:scope.names.lookup x with
  |none=>rw[e] at h;simp at h
  |some k=>
   have hm:=Me e
   cases k with
   |free=>exact hm
   |cell=>exact absurd rfl (S.nocell _ hm)
   |_=>rw[e] at h;simp at h
 have neN:∀b o,s.heap.get? b=some o->b≠s.heap.objs.size:=λb o e=>K1 (Kw e)
 have cellN:∀{x:Str} {c:Addr},X.env.cells.lookup x=some c->c < s.heap.objs.size:=λ{x c} e=>by
  obtain⟨v,o,ho,_⟩:=I.cell x c e
  exact Kw ho
 have ok:(gS X NB scope s.heap.objs.size fp s H (X.pn ++ pins)).Ok:=by
  refine⟨I.ok.mod,S.kind,I.ok.glob,I.ok.blt,Km _,λx y c h1 h2=>I.ok.inj x y c (clE h1).2 (clE h2).2,λx hx=>?_,λx c h=>(by cases h),I.ok.hd,I.ok.frames,.inl rfl,λb hb=>?_,I.bs,Ls I.ok.bsz I.sz,λb o e hb=>?_,λb hb hs=>?_,stk,I.stkFree⟩
  ·have hm:=isFree hx
   exact⟨_,lN (.inl hm)⟩
  ·obtain⟨_,f1,f2,f3,f4,f5⟩:=hfp b hb
   refine⟨?_,λx c h z=>f4 x c (clE h).2 z⟩
   obtain⟨o,ho⟩:=hob b hb
   exact neN b o ho
  ·obtain⟨_,f1,f2,f3,f4,f5⟩:=hfp b hb
   rcases f3 with f3 |f3
   ·exact I.ok.noex b o e f3
   ·exact absurd (KW (Kw e) (Ls I.ok.bsz f3)) (Ld _)
  ·obtain⟨_,f1,f2,f3,f4,f5⟩:=hfp b hb
   rcases Kq.mp (I.stkSub b hs) with z |z
   ·exact f1 z
   ·exact f2 z
 refine⟨ok,rfl,I.bare,Un.kept hk,⟨_,hn,λi x v h1' h2' h3'=>?_⟩,λx c h=>?_,I.hok.fresh (Km _),λx c h=>I.freeC x c (clE h).2,λp hp=>?_,I.hok.kept hk,?_⟩
 ·
  have h1':NB[i]? =some x:=h1'
  have hown:own<=i:=by
   refine Classical.byContradiction λhc=>?_
   have hlt:i < own:=Nat.lt_of_not_le hc
   unfold bD at h2'
   rw[K9 (by simpa using hlt),LS,Kn hlt] at h2'
   cases h2'
  obtain⟨k,rfl⟩:∃k,i=own + k:=⟨i - own,by omega⟩
  have hk':k < ixs.length:=by
   have:=(Kz.mp h1').1
   rw[S.len] at this;omega
  obtain⟨e1,e2⟩:=S.at' k hk'
  have hm:=e2 x h1'
  unfold bD at h2'
  rw[K4 (by simp),Mk,Nat.add_sub_cancel_left,Kv,Kj hk'] at h2'
  simp only[Option.map_some,Option.some.injEq] at h2'
  have hix:ixs.getD k 0=ixs[k]:=by simp[hk']
  have hσ:σ[ixs[k]]? =some (some v):=by
   cases e:σ[ixs[k]]? with
   |none=>rw[e] at h2';cases h2'
   |some o=>rw[e] at h2';simp at h2';rw[h2']
  rw[e1,hix] at h1'
  have hkind:=S.frees _ hm rfl
  have hvis:vL X.env.scope x:=hkind.elim (λz=>.inr (.inl z)) (λz=>.inr (.inr z))
  obtain⟨m,hm',hl⟩:=I.loc
  obtain⟨u,r,look⟩:=hl _ x v h1' hσ hvis
  refine⟨u,r,.inr ⟨?_,?_⟩⟩
  ·rw[kindB]
   have hfr:scope.names.lookup x=some .free:=S.names _ hm
   rw[hfr]
   simp only[Option.map_some]
   split
   ·exact .inl rfl
   ·exact .inr rfl
  ·rcases look with⟨z,_⟩ | ⟨_,c,hc,hcell⟩
   ·rcases hkind with q |q
    ·rw[q] at z;cases z
    ·rw[q] at z;cases z
   ·refine⟨c,?_,?_⟩
    ·have:=lN (cells:=X.env.cells) (cs:=[]) (.inl hm)
     rw[hc] at this
     exact this
    ·obtain⟨o,ho,hd⟩:=hcell
     exact⟨o,hk _ _ ho,hd⟩
 ·obtain⟨v,o,ho,hd⟩:=I.cell x c (clE h).2
  exact⟨v,o,hk _ _ ho,hd⟩
 ·have hp':p∈X.pn ++ pins:=by
   rcases KU.mp hp with z |z
   ·exact z
   ·cases z
  obtain⟨e,n,ne,nf,d⟩:=I.pin p hp'
  refine⟨hk _ _ e,n,neN _ _ e,λz=>?_,d⟩
  rcases Kq.mp (I.stkSub _ z) with q |q
  ·exact ne q
  ·exact nf q
 ·show (bD own ixs σ).length=NB.length
  unfold bD
  rw[S.len];simp
end
abbrev wX (ifs:List Expr)(env:Env):Sem Bool:=forIn ifs true λc r=>if r=true then do let ok <-isTrue c env (eval c env);pure (ForInStep.yield ok) else pure (ForInStep.yield r)
theorem xJ {prog:Program}{w:World}{A:Around}{R:Result->Shared->Prop}{s:Shared}{elt target iter:Expr}{ifs:List Expr}{scope:Scope}{pos:Pos}{it acc:Value}{env:Env}(I:Nat->Shared->Prop)
  (turn:∀n s,I n s->wpAny (model prog w) A (pyNext it) (λr s1=>match r with
   |none=>R (.ok .next) s1
   |some v=>wpAny (model prog w) A (letOwnedTupleGo target it v) (λ_ s1'=>wpAny (model prog w) A (assign target env v) (λ_ s2=>
     wpAny (model prog w) A (wX ifs env) (λok s3=>
      if ok=true then wpAny (model prog w) A (eval elt env) (λx s4=>wpAny (model prog w) A (call (.builtin "list.append") [acc,x]) (λ_ s5=>∃m,m < n/\I m s5) (λ_ _=>False) s4) (λ_ _=>False) s3
      else ∃m,m < n/\I m s3) (λ_ _=>False) s2) (λ_ _=>False) s1') (λ_ _=>False) s1) (λ_ _=>False) s)
  (n:Nat) (h:I n s):codeAny (model prog w) A (.compLoop (.ListComp elt [⟨target,iter,ifs,0⟩] scope pos) 0 it acc env) R s:=by
 refine codeAny_loop rfl I (λn s hI=>?_) n h
 (show wpAny _ A ((compTurn (.ListComp elt [⟨target,iter,ifs,0⟩] scope pos) 0 it acc env).onRaise (λx=>do (noteFrame x env);theTreesLotGoes x)) _ _ s)
 refine wpAny_noted ?_
 rw[compTurn_list]
 refine Kk (wpAny_standAt (Kk (LQ (turn n s hI) (λr s1 h1=>?_) λ_ _ z=>z.elim)))
 cases r with
 |none=>exact Ks h1
 |some v=>
  refine Kk (LQ h1 (λ_ s1' h1'=>?_) λ_ _ z=>z.elim)
  refine Kk (LQ h1' (λ_ s2 h2=>Kk (LQ h2 (λok s3 h3=>?_) λ_ _ z=>z.elim)) λ_ _ z=>z.elim)
  cases ok with
  |false=>exact Ks ⟨rfl,h3⟩
  |true=>exact Kk (Kk (LQ h3 (λx s4 h4=>Kk (LQ h4 (λ_ s5 h5=>Ks (Ks ⟨rfl,h5⟩)) λ_ _ z=>z.elim)) λ_ _ z=>z.elim))
def Bm (X:Cx)(ifs:List Expr)(t:TT):Prop:=
 ∀(pins:List (Addr×Obj)) (s:Shared) (σ:St) (H:Hp) (Q:Bool->Hp->Prop),Inv X pins σ H s->t σ H Q->wpAny (model X.prog X.w) X.A (wX ifs X.env) (TP X pins σ Q) X.xe s
def Gk:TT:=λ_ H Q=>Q true H
def qB {X:Cx}:Bm X [] Gk:=λpins s σ H Q I h=>Ks ⟨H,I,h⟩
def xc {X:Cx}{c:Expr}{t:TT}(h:PT X c t):Bm X [c] t:=λpins s σ H Q I q=>wpAny_tests_one (h pins s σ H Q I q)
def vH (own:Nat)(ixs:List Nat)(wi:TI)(g:TG)(tt:TT)(te:TE)(σ:St)(H:Hp)(Q:VK):Prop:=wi σ H λJ H1=>∀D,H1 D=none->∃W:Nat->Nat->St->Hp->Prop,(∃m,W 0 m (bD own ixs σ) (upd H1 D (.lst [])))/\∀i m σ' H',W i m σ' H'->
 (J.stop i H'/\(∃acc,H' D=some (.lst acc))/\Q (.ref D) H')\/
 (J.go i H'/\∃N:St->Hp->Prop,(∀σ2 H2,N σ2 H2->∃m',m' < m/\W (i + 1) m' σ2 H2)/\∀x H2,J.yld i H' x H2->g x σ' H2 λσ3 H3=>tt σ3 H3 λb H4=>
  if b=true then te σ3 H4 λv H5=>∃acc,H5 D=some (.lst acc)/\acc.length < sizeLine/\N σ3 (upd H5 D (.lst (acc ++ [v]))) else N σ3 H4)
section
variable {X:Cx}{NB:List Str}{own:Nat}{ixs:List Nat}{scope:Scope}{elt tg iter:Expr}{ifs:List Expr}{pos:Pos}{wi:TI}{g:TG}{tt:TT}{te:TE}
def pA (hc:X.calm=true)(S:cM X NB own ixs scope)
  (hg:∀C ex s3 H3 pn,PG (gS X NB scope C ex s3 H3 pn) tg g) (ht:∀C ex s3 H3 pn,Bm (gS X NB scope C ex s3 H3 pn) ifs tt) (he:∀C ex s3 H3 pn,PE (gS X NB scope C ex s3 H3 pn) elt te)
  {pins:List (Addr×Obj)} {σ:St} {H1:Hp} {s2:Shared} {it:Addr} {fp:List Addr} {tn:Nat->Heap->Prop} {J:It} {Q:VK} (I2:Inv X pins σ H1 s2) (T:Turn X.prog X.w X.K tg J fp it tn) (st2:tn 0 s2.heap) (f2:∀b∈fp,lI X pins H1 b)
  (hQ:∀D,H1 D=none->∃W:Nat->Nat->St->Hp->Prop,(∃m,W 0 m (bD own ixs σ) (upd H1 D (.lst [])))/\∀i m σ' H',W i m σ' H'->
   (J.stop i H'/\(∃acc,H' D=some (.lst acc))/\Q (.ref D) H')\/
   (J.go i H'/\∃N:St->Hp->Prop,(∀σ2 H2,N σ2 H2->∃m',m' < m/\W (i + 1) m' σ2 H2)/\∀x H2,J.yld i H' x H2->g x σ' H2 λσ3 H3=>tt σ3 H3 λb H4=>
    if b=true then te σ3 H4 λv H5=>∃acc,H5 D=some (.lst acc)/\acc.length < sizeLine/\N σ3 (upd H5 D (.lst (acc ++ [v]))) else N σ3 H4))
  {E:Value->Shared->Prop} {RR:Value->Addr->Result->Shared->Prop}
  (fin:∀D C H' s' m,Inv X pins σ H' s'->Q (.ref D) H'->s'.heap.Ns C m->H' C=none->C≠X.env.locals->(∀x c,X.env.cells.lookup x=some c->c≠C)->X.s₀.heap.objs.size<=C->(∀p∈X.pn ++ pins,p.1≠C)->RR (.ref D) C (.ok .next) s') :
  wpAny (model X.prog X.w) X.A (newList []) (λacc s3=>wpAny (model X.prog X.w) X.A (newFunctionEnv scope X.env.globals (lJ X.env.cells scope.names []) [] X.env.qual none .none (some X.env)) (λcenv s4=>
   codeAny (model X.prog X.w) X.A (.compStart (.ListComp elt [⟨tg,iter,ifs,0⟩] scope pos) 0 (.ref it) acc {cenv with scope:=relabel scope X.env}) (RR acc cenv.locals) s4) E s3) E s2:=by
 refine wpAny_newList ?_ (K5 _)
 have hD:H1 s2.heap.objs.size=none:=I2.hok.fresh (Km _)
 obtain⟨W,⟨m0,w0⟩,turn⟩:=hQ s2.heap.objs.size hD
 generalize hs3:({s2 with heap:=s2.heap.push (seqObj "list" ([]:List Value).toArray 0)}:Shared)=s3
 have I3:Inv X pins σ (upd H1 s2.heap.objs.size (.lst [])) s3:=by
  rw[<-hs3]
  exact I2.lnew (ys:=[]) (its:=[]) (t':=s2.toks) .nil (K5 _)
 have k3:∀b o,s2.heap.get? b=some o->s3.heap.get? b=some o:=λb o e=>by rw[<-hs3];exact Kl _ e
 have sz3:s3.heap.objs.size=s2.heap.objs.size + 1:=by rw[<-hs3];exact LR ..
 have ob2:∀b∈fp,∃o,s2.heap.get? b=some o:=λb hb=>let ⟨o,e,_⟩:=T.obj 0 _ st2 b hb;⟨o,e⟩
 have neD:∀b∈fp,b≠s2.heap.objs.size:=λb hb=>let ⟨o,e⟩:=ob2 b hb;K1 (Kw e)
 have f3:∀b∈fp,lI X pins (upd H1 s2.heap.objs.size (.lst [])) b:=λb hb=>by
  obtain⟨a1,a2⟩:=f2 b hb
  exact⟨by rw[ay (neD b hb)];exact a1,a2⟩
 have st3:tn 0 s3.heap:=T.keep _ _ _ st2 λb _ o e=>k3 b o e
 refine wpAny_newFunctionEnv S.nocell (λy hy=>by simp at hy) (λh4 hn4 sb4=>?_) S.kind
 have k4:∀b o,s3.heap.get? b=some o->h4.get? b=some o:=λb o e=>sb4.extBut b o (K1 (Kw e)) (Kl _ e)
 have I4:Inv (gS X NB scope s3.heap.objs.size fp s3 (upd H1 s2.heap.objs.size (.lst [])) (X.pn ++ pins)) [] (bD own ixs σ) (upd H1 s2.heap.objs.size (.lst [])) {s3 with heap:=h4,toks:=s3.toks + ([]:List (Str×Value)).length}:=
  zc S I3 f3 (λb hb=>let ⟨o,e⟩:=ob2 b hb;⟨o,k3 _ _ e⟩) (by simpa using hn4) k4
 have st4:tn 0 h4:=T.keep _ _ _ st3 λb _ o e=>k4 b o e
 generalize hB:gS X NB scope s3.heap.objs.size fp s3 (upd H1 s2.heap.objs.size (.lst [])) (X.pn ++ pins)=B at I4
 have hgB:PG B tg g:=by rw[<-hB];exact hg _ _ _ _ _
 have htB:Bm B ifs tt:=by rw[<-hB];exact ht _ _ _ _ _
 have heB:PE B elt te:=by rw[<-hB];exact he _ _ _ _ _
 have eP:B.prog=X.prog:=by rw[<-hB];rfl
 have eW:B.w=X.w:=by rw[<-hB];rfl
 have eK:B.K=X.K:=by rw[<-hB];rfl
 have eA:B.A=X.A:=by rw[<-hB];rfl
 have eC:B.calm=true:=by rw[<-hB];exact hc
 have eX:B.xe=λ_ _=>False:=by rw[<-hB];rfl
 have eE:B.env=compEnvC scope (lJ X.env.cells scope.names []) s3.heap.objs.size X.env:=by rw[<-hB];rfl
 have ex:B.ex=fp:=by rw[<-hB];rfl
 have eL:B.env.locals=s3.heap.objs.size:=by rw[eE];rfl
 have stat:∀{H':Hp},(∀b∈fp,H' b=none)->∀b∈fp,lI B [] H' b:=λ{H'} hn b hb=>by
  obtain⟨a1,a2,a3,a4,a5,a6⟩:=f3 b hb
  obtain⟨o,eo⟩:=ob2 b hb
  refine⟨hn b hb,?_,λz=>?_,.inl (by rw[ex];exact hb),λx c e z=>?_,λp hp z=>?_⟩
  ·rw[eL];exact K1 (Kw (k3 _ _ eo))
  ·have hz:b∈gV X.stack:=by rw[<-hB] at z;exact z
   rcases Kq.mp (I3.stkSub b hz) with q |q
   ·exact a2 q
   ·exact a3 q
  ·rw[eE] at e
   rcases lO e with⟨m1,m2⟩ |m1
   ·obtain⟨c',e'⟩:=I3.ok.has x (S.frees _ m1 rfl)
    rw[e'] at m2
    exact a5 x c' e' (by rw[<-z,m2];rfl)
   ·simp at m1
  ·have hp':p∈X.pn ++ pins:=by
    rw[<-hB] at hp
    rcases KU.mp hp with q |q
    ·exact q
    ·cases q
   exact a6 p hp' z
 have back:∀{σ':St} {H':Hp} {s':Shared},Inv B [] σ' H' s'->Inv X pins σ H' s':=λ{σ' H' s'} J'=>by
  have u:=J'.base
  have os:=J'.os
  have bare:=J'.bare
  have hok:=J'.hok
  subst hB
  exact I3.call' (ch:=fp) os u hok bare λb hb=>by
   obtain⟨a1,a2,a3,a4,a5,a6⟩:=f3 b hb
   exact⟨a4,a2,a5,a6⟩
 have loop:∀s5:Shared,s5={s3 with heap:=h4,toks:=s3.toks + ([]:List (Str×Value)).length}->
   codeAny (model X.prog X.w) X.A (.compLoop (.ListComp elt [⟨tg,iter,ifs,0⟩] scope pos) 0 (.ref it) (.ref s2.heap.objs.size) (compEnvC scope (lJ X.env.cells scope.names []) s3.heap.objs.size X.env)) (RR (.ref s2.heap.objs.size) s3.heap.objs.size) s5:=by
  rintro s5 rfl
  refine xJ (λn s'=>∃i σ' H',Inv B [] σ' H' s'/\tn i s'.heap/\(∀b∈fp,H' b=none)/\W i n σ' H') ?_ m0 ⟨0,_,_,I4,st4,λb hb=>(f3 b hb).1,w0⟩
  rintro n s6 ⟨i,σ6,H6,I6,st6,fr6,w6⟩
  rcases turn i n σ6 H6 w6 with⟨stop,⟨acc,hacc⟩,qn⟩ | ⟨go,N,hN,step⟩
  ·have:=T.done B eP eW eK eC i [] s6 σ6 H6 (λ_ _=>False) I6 (stat fr6) st6 stop
   rw[eA] at this
   refine cn this λr s7 ⟨hr,I7⟩=>?_
   subst hr
   obtain⟨m7,hn7,_⟩:=I7.loc
   rw[eL] at hn7
   have J7:=back I7
   refine fin _ _ H6 s7 m7 J7 qn hn7 (by rw[<-eL];exact I7.free) (λz=>?_) (λx c e z=>?_) ?_ λp hp z=>?_
   ·have:=I3.lt
    rw[<-z] at this
    exact Ld _ this
   ·obtain⟨v,o,ho,_⟩:=I3.cell x c e
    exact absurd (Kw ho) (by rw[z];exact Ld _)
   ·exact I3.sz
   ·have:=Kw (I3.pin p hp).1
    rw[z] at this
    exact Ld _ this
  ·have hitem:=T.item B eP eW eK eC i [] s6 σ6 H6 (λ_ _=>False) I6 (stat fr6) st6 go
   rw[eA] at hitem
   refine cn hitem λr s7 ⟨u,hr,h7⟩=>?_
   subst hr
   refine cn h7 λ_ s8 ⟨x,H8,I8,r8,y8,st8,fr8⟩=>?_
   have I8':=I8.pinned (stat fr8) (T.obj _ _ st8)
   have ha:=hgB _ s8 σ6 H8 x u _ I8' r8 (step x H8 y8)
   rw[eP,eW,eA,eE,eX] at ha
   refine cn ha λ_ s9 ⟨σ9,H9,I9,q9⟩=>?_
   have hb:=htB _ s9 σ9 H9 _ I9 q9
   rw[eP,eW,eA,eE,eX] at hb
   refine cn hb λok s10 ⟨H10,I10,q10⟩=>?_
   have again:∀{σ7:St} {H7:Hp} {s7:Shared},Inv B ([] ++ nS fp s8.heap) σ7 H7 s7->N σ7 H7->∃m,m < n/\∃i σ' H',Inv B [] σ' H' s7/\tn i s7.heap/\(∀b∈fp,H' b=none)/\W i m σ' H':=λ{σ7 H7 s7} I7 n7=>by
    obtain⟨m',hm,w7⟩:=hN σ7 H7 n7
    refine⟨m',hm,i + 1,σ7,H7,I7.unpinned,T.keep _ _ _ st8 λb hb o e=>(I7.pin (b,o) (Lf _ (Lf _ (iN hb e)))).1,λb hb=>?_,w7⟩
    obtain⟨o,e,d⟩:=T.obj _ _ st8 b hb
    exact (I7.pin (b,o) (Lf _ (Lf _ (iN hb e)))).2.1
   cases ok with
   |false=>
    simp only[KG,Lh] at q10 ⊢
    exact again I10 q10
   |true=>
    simp only[LD] at q10 ⊢
    have hv:=heB _ s10 σ9 H10 _ I10 q10
    rw[eP,eW,eA,eE,eX] at hv
    refine cn hv λy s11 ⟨v,H11,I11,r11,acc,hacc,hz,q11⟩=>?_
    have hap:=lr (X:=B) _ s11 σ9 H11 (.ref s2.heap.objs.size) [v] (.ref s2.heap.objs.size) [y] (λz H'=>z=.non/\N σ9 H') I11 rfl (.cons r11 .nil) ⟨_,acc,v,rfl,rfl,hacc,hz,rfl,q11⟩
    rw[eP,eW,eA,eX] at hap
    exact cn hap λ_ s12 ⟨_,H12,I12,_,_,q12⟩=>again I12 q12
 exact codeAny_compStart_list (loop _ rfl) (T.self X.A 0 _ _ _ st4 (loop _ rfl))
def sE (hc:X.calm=true)(S:cM X NB own ixs scope)(hi:PI X tg iter wi)
  (hg:∀C ex s3 H3 pn,PG (gS X NB scope C ex s3 H3 pn) tg g) (ht:∀C ex s3 H3 pn,Bm (gS X NB scope C ex s3 H3 pn) ifs tt) (he:∀C ex s3 H3 pn,PE (gS X NB scope C ex s3 H3 pn) elt te)
  (hs:∀x,foldedSetIterable iter X.env x=pure x:=by intro _;rfl) :
  PE X (.ListComp elt [⟨tg,iter,ifs,0⟩] scope pos) (vH own ixs wi g tt te):=by
 intro pins s σ H Q I h
 rw[eval_ListComp]
 refine wpAny_comprehension_free (use:=none) rfl hs (m8 λy hy e=>I.ok.has _ (S.frees y hy e)) S.kind (λy hy e=>by rw[S.names y hy,e]) ?_
 refine cn (hi pins s σ H _ I h) λv s1 h1=>cn h1 λitv s2 h2=>?_
 obtain⟨it,fp,tn,J,H2,e,I2,T,st2,f2,q2⟩:=h2
 subst e
 refine pA hc S hg ht he I2 T st2 f2 q2 (RR:=λacc C=>compPost (model X.prog X.w) X.A X.xe none (EP X pins σ Q) acc C) λD C H' s' m J' q hn hC n1 n2 n3 n4=>?_
 refine⟨m,hn,λh'' sb=>⟨.ref D,H',?_,rfl,q⟩⟩
 exact J'.turned (t':=s'.toks) (it:=C) (λb o hb e=>sb.extBut b o hb e) hC n1 (.inr n3) n2 n4
def AJ {i:Nat}{y:Str}{py spos:Pos}(hc:X.calm=true)(S:cM X NB own ixs scope)(hi:PI X tg iter wi)
  (hg:∀C ex s3 H3 pn,PG (gS X NB scope C ex s3 H3 pn) tg g) (ht:∀C ex s3 H3 pn,Bm (gS X NB scope C ex s3 H3 pn) ifs tt) (he:∀C ex s3 H3 pn,PE (gS X NB scope C ex s3 H3 pn) elt te)
  (hN:X.N.Nodup) (hy:X.N[i]? =some y) (hl:X.env.scope.names.lookup y=some .local)
  (hsw:swapsWith (.ListComp elt [⟨tg,iter,ifs,0⟩] scope pos) (some (.Name y py)) spos.line X.env=pure true)
  (hs:∀x,foldedSetIterable iter X.env x=pure x:=by intro _;rfl) :
  PS X (.Assign [.Name y py] (.ListComp elt [⟨tg,iter,ifs,0⟩] scope pos) spos) (λD σ H=>vH own ixs wi g tt te σ H λv H'=>D.nx (σ.set i (some v)) H'):=by
 intro pins s σ H D I h
 rw[exec_Assign_Name_used _ _ _ _ hsw]
 refine Kk (wpAny_standAt (Kk ?_))
 show wpAny _ X.A (comprehension (.ListComp elt [⟨tg,iter,ifs,0⟩] scope pos) scope X.env _ (newList []) false (eval iter X.env) (some (assign (.Name y py) X.env)) >>= λ_=>pure ()) _ _ s
 refine Kk (LQ (wpAny_comprehension_free (use:=some (assign (.Name y py) X.env)) (Q:=λ_ s'=>SP X pins D .next s') rfl hs (m8 λy hy e=>I.ok.has _ (S.frees y hy e)) S.kind (λy hy e=>by rw[S.names y hy,e]) ?_)
  (λ_ s' hq=>Ks (Ks hq)) λ_ _ e=>e)
 refine cn (hi pins s σ H _ I h) λv s1 h1=>cn h1 λitv s2 h2=>?_
 obtain⟨it,fp,tn,J,H2,e,I2,T,st2,f2,q2⟩:=h2
 subst e
 refine pA hc S hg ht he I2 T st2 f2 q2 (Q:=λv H'=>D.nx (σ.set i (some v)) H') (RR:=λacc C=>compPost (model X.prog X.w) X.A X.xe (some (assign (.Name y py) X.env)) (λ_ s'=>SP X pins D .next s') acc C) λD' C H' s' m J' q hn hC n1 n2 n3 n4=>?_
 show wpAny _ X.A (assign (.Name y py) X.env (.ref D')) _ _ s'
 refine wpAny_assign_Name (qc J' hN hy (.inl hl) (v:=.ref D') rfl (λs'' I'' ⟨a,sb,ha⟩=>?_) (.inr hl))
 have hCa:C≠a:=by
  rcases ha with z |z
  ·rw[z];exact n1
  ·exact (n2 _ _ z).symm
 refine⟨m,hn.sameBut sb hCa,λh3 sb3=>⟨_,H',?_,q⟩⟩
 exact I''.turned (t':=s''.toks) (it:=C) (λb o hb e=>sb3.extBut b o hb e) hC n1 (.inr n3) n2 n4
end
section
variable {own:Nat}{ixs:List Nat}{g:TG}{tt:TT}{te:TE}{σ:St}{H:Hp}{Q:VK}{K:Frag}{D a:Addr}{xs:List V}
abbrev du (g:TG)(tt:TT)(te:TE)(D:Addr)(x:V)(σ:St)(H:Hp)(N:St->Hp->Prop):Prop:=g x σ H λσ3 H3=>tt σ3 H3 λb H4=>
  if b=true then te σ3 H4 λv H5=>∃acc,H5 D=some (.lst acc)/\acc.length < sizeLine/\N σ3 (upd H5 D (.lst (acc ++ [v]))) else N σ3 H4
def yJ (Pv:Nat->St->Hp->Prop)(h0:Pv 0 (bD own ixs σ) (upd H D (.lst [])))(hl:∀i σ H,i<=xs.length->Pv i σ H->e8 K H a xs)
  (hs:∀i x σ H,xs[i]? =some x->Pv i σ H->du g tt te D x σ H (Pv (i + 1))) (hd:∀σ H,Pv xs.length σ H->(∃acc,H D=some (.lst acc))/\Q (.ref D) H) :
  ∃W:Nat->Nat->St->Hp->Prop,(∃m,W 0 m (bD own ixs σ) (upd H D (.lst [])))/\∀i m σ' H',W i m σ' H'->
   ((yQ K a).stop i H'/\(∃acc,H' D=some (.lst acc))/\Q (.ref D) H')\/
   ((yQ K a).go i H'/\∃N:St->Hp->Prop,(∀σ2 H2,N σ2 H2->∃m',m' < m/\W (i + 1) m' σ2 H2)/\∀x H2,(yQ K a).yld i H' x H2->du g tt te D x σ' H2 N):=by
 refine⟨λi m σ H=>m=xs.length - i/\i<=xs.length/\Pv i σ H,⟨xs.length,by simp,K5 _,h0⟩,?_⟩
 rintro i m σ H ⟨rfl,hi,p⟩
 have q:=hl i σ H hi p
 by_cases hlt:i < xs.length
 ·refine .inr ⟨⟨xs,xs[i],q,by simp[hlt]⟩,Pv (i + 1),λσ' H' p'=>⟨xs.length - (i + 1),by omega,rfl,hlt,p'⟩,λx H' y=>?_⟩
  obtain⟨e,y⟩:=y
  subst e
  exact hs i x σ _ (y xs q) p
 ·have e:i=xs.length:=by omega
  subst e
  exact .inl ⟨⟨xs,q,Km _⟩,hd σ H p⟩
def vP {lo:Int}{n:Nat}(Pv:Nat->St->Hp->Prop)(h0:Pv 0 (bD own ixs σ) (upd H D (.lst [])))
  (hs:∀i σ H,i < n->Pv i σ H->du g tt te D (.int (lo + i)) σ H (Pv (i + 1))) (hd:∀σ H,Pv n σ H->(∃acc,H D=some (.lst acc))/\Q (.ref D) H) :
  ∃W:Nat->Nat->St->Hp->Prop,(∃m,W 0 m (bD own ixs σ) (upd H D (.lst [])))/\∀i m σ' H',W i m σ' H'->
   ((yL lo n).stop i H'/\(∃acc,H' D=some (.lst acc))/\Q (.ref D) H')\/
   ((yL lo n).go i H'/\∃N:St->Hp->Prop,(∀σ2 H2,N σ2 H2->∃m',m' < m/\W (i + 1) m' σ2 H2)/\∀x H2,(yL lo n).yld i H' x H2->du g tt te D x σ' H2 N):=by
 refine⟨λi m σ H=>m=n - i/\i<=n/\Pv i σ H,⟨n,by simp,K5 _,h0⟩,?_⟩
 rintro i m σ H ⟨rfl,hi,p⟩
 by_cases hlt:i < n
 ·refine .inr ⟨hlt,Pv (i + 1),λσ' H' p'=>⟨n - (i + 1),by omega,rfl,hlt,p'⟩,λx H' y=>?_⟩
  obtain⟨e,y⟩:=y
  subst e y
  exact hs i σ _ hlt p
 ·have e:i=n:=by omega
  subst e
  exact .inl ⟨Km _,hd σ H p⟩
end
mutual
inductive Rep (K:Frag)(H:Hp):V->PyData->Prop
 |non:Rep K H .non .none
 |bl (b:Bool):Rep K H (.bl b) (.bool b)
 |int (i:Int):Rep K H (.int i) (.int i)
 |str (x:Str):Rep K H (.str x) (.str x)
 |tup {a:Addr} {xs:List V} {ds:List PyData}:dA K H a xs->gY K H xs ds->Rep K H (.ref a) (.tuple ds)
 |lst {a:Addr} {xs:List V} {ds:List PyData}:e8 K H a xs->gY K H xs ds->Rep K H (.ref a) (.list ds)
inductive gY (K:Frag)(H:Hp):List V->List PyData->Prop
 |nil:gY K H [] []
 |cons {x:V} {xs:List V} {d:PyData} {ds:List PyData}:Rep K H x d->gY K H xs ds->gY K H (x :: xs) (d :: ds)
end
section
variable {X:Cx}{pins:List (Addr×Obj)}{σ:St}{H H':Hp}{s:Shared}
mutual
theorem Rep.reads (I:Inv X pins σ H s):∀{x:V} {d:PyData} {u:Value},Rep X.K H x d->RelV x u->∃as,Reads s.heap u d as
 |_,_,_,.non,r=>by cases r;exact⟨_,.none⟩
 |_,_,_,.bl b,r=>by cases r;exact⟨_,.bool b⟩
 |_,_,_,.int i,r=>by obtain⟨t,rfl⟩:=r;exact⟨_,.int i t⟩
 |_,_,_,.str x,r=>by obtain⟨t,rfl⟩:=r;exact⟨_,.str x t⟩
 |_,_,_,.tup h hs,r=>by
  cases r
  obtain⟨its,rv,⟨o,ho,hc,n,hd⟩,_⟩:=I.tuple h
  obtain⟨as,q⟩:=gY.reads I hs rv
  exact⟨_,.tuple ho hc hd (by simpa using q)⟩
 |_,_,_,.lst h hs,r=>by
  cases r
  obtain⟨its,rv,pl,_⟩:=I.list h
  obtain⟨o,ho,hc,n,hd⟩:=pl.isList
  obtain⟨as,q⟩:=gY.reads I hs rv
  exact⟨_,.list ho hc hd (by simpa using q)⟩
theorem gY.reads (I:Inv X pins σ H s):∀{xs:List V} {ds:List PyData} {us:List Value},gY X.K H xs ds->Vals xs us->∃as,ReadsAll s.heap us ds as
 |_,_,_,.nil,r=>by cases r;exact⟨_,.nil⟩
 |_,_,_,.cons h hs,r=>by
  cases r with
  |cons r1 r2=>
   obtain⟨as,q⟩:=Rep.reads I h r1
   obtain⟨bs,q'⟩:=gY.reads I hs r2
   exact⟨_,.cons q q'⟩
end
def FZ (K:Frag)(neg:Bool):R2:=λx y H Q=>∃d e,Rep K H x d/\Rep K H y e/\SeqAt.shaped d=true/\SeqAt.shaped e=true/\Q (.bl (if neg then !PyData.eqv d e else PyData.eqv d e)) H
def gQ (hu:X.A.units + 64 < cLine):jW X (compareOp .Eq) (FZ X.K false):=by
 intro pins s σ H x y v u Q I rx ry h
 obtain⟨d,e,h1,h2,s1,s2,q⟩:=h
 obtain⟨as,r1⟩:=h1.reads I rx
 obtain⟨bs,r2⟩:=h2.reads I ry
 exact SeqAt.compareEq_shaped r1 r2 s1 s2 hu ⟨.bl _,H,I,rfl,q⟩
def jd (hu:X.A.units + 64 < cLine):jW X (compareOp .NotEq) (FZ X.K true):=by
 intro pins s σ H x y v u Q I rx ry h
 obtain⟨d,e,h1,h2,s1,s2,q⟩:=h
 obtain⟨as,r1⟩:=h1.reads I rx
 obtain⟨bs,r2⟩:=h2.reads I ry
 exact SeqAt.compareNe_shaped r1 r2 s1 s2 hu ⟨.bl _,H,I,rfl,q⟩
def HE (K:Frag)(neg:Bool):R2:=λx y H Q=>∃p xs d ds,y=.ref p/\(e8 K H p xs\/dA K H p xs)/\gY K H xs ds/\Rep K H x d/\SeqAt.shaped d=true/\(∀e,e∈ds->SeqAt.shaped e=true)/\
 Q (.bl (if neg then !(ds.any λe=>PyData.eqv e d) else ds.any λe=>PyData.eqv e d)) H
theorem gY.at' {K:Frag}:∀{xs:List V} {ds:List PyData} {i:Nat} {x:V},gY K H xs ds->xs[i]? =some x->∃d,ds[i]? =some d/\Rep K H x d
 |_,_,_,_,.nil,e=>by simp at e
 |_,_,0,_,.cons r _,e=>by simp at e;subst e;exact⟨_,rfl,r⟩
 |_,_,i + 1,x,.cons _ t,e=>by
  obtain⟨u,h1,h2⟩:=gY.at' (i:=i) (x:=x) t (by simpa using e)
  exact⟨u,by simpa using h1,h2⟩
theorem gY.len {K:Frag}:∀{xs:List V} {ds:List PyData},gY K H xs ds->xs.length=ds.length
 |_,_,.nil=>rfl
 |_,_,.cons _ t=>by simp[gY.len t]
open Classical in
theorem ua (I:Inv X pins σ H s)(d:PyData):∀{xs:List V} {us:List Value} {ds:List PyData},Vals xs us->gY X.K H xs ds->(∀e,e∈ds->SeqAt.shaped e=true)->∃f:Value->Bool,us.any f=(ds.any λe=>PyData.eqv e d)/\∀u,u∈us->∃e as,e∈ds/\Reads s.heap u e as/\f u=PyData.eqv e d:=by
 intro xs us ds hv hr hs
 let f:Value->Bool:=λu=>if h:∃e as,SeqAt.shaped e=true/\Reads s.heap u e as then PyData.eqv (Classical.choose h) d else false
 have hf:∀{u:Value} {e:PyData} {as:List Addr},SeqAt.shaped e=true->Reads s.heap u e as->f u=PyData.eqv e d:=λ{u e as} h1 h2=>by
  have hx:∃e as,SeqAt.shaped e=true/\Reads s.heap u e as:=⟨e,as,h1,h2⟩
  show (if h:∃e as,SeqAt.shaped e=true/\Reads s.heap u e as then PyData.eqv (Classical.choose h) d else false)=_
  rw[dif_pos hx]
  obtain⟨bs,q1,q2⟩:=Classical.choose_spec hx
  rw[SeqAt.Reads.unique _ _ _ _ _ (MK q1) q2 h2]
 refine⟨f,?_,?_⟩
 ·induction hv generalizing ds with
  |nil=>cases hr;rfl
  | @cons x u xs us r1 r2 ih=>
   cases hr with
   | @cons _ _ e es h1 h2=>
    obtain⟨as,q⟩:=h1.reads I r1
    rw[ME,ME,hf (hs e (Kr ..)) q,ih h2 λz hz=>hs z (Ko _ hz)]
 ·intro u hu
  obtain⟨i,hi,e0⟩:=K8.mp hu
  have hi':i < xs.length:=by rw[hv.length];exact hi
  obtain⟨u',eu,ru⟩:=hv.get (Kj hi')
  rw[Kj hi,e0] at eu
  cases eu
  obtain⟨e,ee,re⟩:=gY.at' hr (Kj hi')
  obtain⟨as,q⟩:=re.reads I ru
  have hm:=KD ee
  exact⟨e,as,hm,q,hf (hs e hm) q⟩
def DI (K:Frag):List V->Hp->VK->Prop:=λxs H Q=>∃a d,xs= [.ref a]/\Rep K H (.ref a) d/\d.showable=true/\d.hasDict=false/\d.depth<=64/\d.shown.length<=sizeLine/\Q (.str d.shown) H
def pd (hg:X.A.guards=some [])(hu:X.A.units + 100 < cLine):cp X (.builtin "repr") (DI X.K):=by
 intro pins s σ H xs us Q I r h
 obtain⟨a,d,rfl,hd,h1,h2,h3,h4,q⟩:=h
 obtain⟨u,rfl,rx⟩:=vals1 r
 have rx':=rx
 cases rx
 obtain⟨as,rd⟩:=hd.reads I rx'
 exact repr_of_reads' rd h1 (PyData.noDict_hsm h2) hg (by omega) (λb o e=>e) (λh' u tk k=>⟨.str _,H,I.kept (t':=tk) k,⟨u,rfl⟩,q⟩) h4
inductive C4 (K:Frag)(H:Hp):V->String->Prop
 |non:C4 K H .non "NoneType"
 |bl (b:Bool):C4 K H (.bl b) "bool"
 |int (i:Int):C4 K H (.int i) "int"
 |str (x:Str):C4 K H (.str x) "str"
 |tup {a:Addr} {xs:List V}:dA K H a xs->C4 K H (.ref a) "tuple"
 |lst {a:Addr} {xs:List V}:e8 K H a xs->C4 K H (.ref a) "list"
 |dic {a:Addr} {kvs:List (Key×V)}:H a=some (.dK kvs)->C4 K H (.ref a) "dict"
def Jk (K:Frag):List V->Hp->VK->Prop:=λxs H Q=>∃x T t b,xs= [x,.ty T]/\C4 K H x t/\PySem.W.kitOne K (.type t) (.type T)=some b/\Q (.bl b) H
theorem zQ:cp X (.builtin "isinstance") (Jk X.K):=by
 intro pins s σ H xs us Q I r h
 obtain⟨x,T,t,b,rfl,ty,e,q⟩:=h
 obtain⟨u,c,rfl,rx,rc⟩:=vals2 r
 cases rc
 have fin:∀tk,EP X pins σ Q (.bool b) {s with toks:=tk}:=λtk=>⟨.bl b,H,I.tok tk,rfl,q⟩
 cases ty with
 |non=>exact hX I rx .non e fin
 |bl b=>exact hX I rx (.bl b) e fin
 |int i=>exact hX I rx (.int i) e fin
 |str z=>exact hX I rx (.str z) e fin
 |dic hk=>exact hX I rx (.dK hk) e fin
 |tup hq=>
  cases rx
  obtain⟨its,rv,⟨o,h1,h2,_⟩,_⟩:=I.tuple hq
  exact Lp PySem.W.kitx_tuple I.kIn ⟨o,h1,h2⟩ e (λz=>nomatch z) fin
 |lst hq=>
  cases rx
  obtain⟨its,rv,pl,_⟩:=I.list hq
  obtain⟨o,h1,h2,_⟩:=pl.isList
  exact Lp PySem.W.kitx_list I.kIn ⟨o,h1,h2⟩ e (λz=>nomatch z) fin
def ud {A:Around}{its:List Value}{bs:List Bool}(hv:Vals (bs.map V.bl) its):TruthOf X.prog X.w A (λi v=>its[i]? =some v) (λi=>bs.getD i false):=λi v s Q E hi hq=>by
 have hl:=hv.length
 have hi2:i < bs.length:=by
  have:=(Kz.mp hi).1
  rw[<-hl] at this;simpa using this
 obtain⟨u,eu,ru⟩:=hv.get (i:=i) (x:=.bl bs[i]) (by simp[hi2])
 rw[hi] at eu;cases eu
 cases ru
 refine LU ?_
 have:bs.getD i false=bs[i]:=by simp[hi2]
 rw[<-this];exact hq
theorem range_all (bs:List Bool):(List.range bs.length).all (λi=>bs.getD i false)=bs.all id:=by
 induction bs with
 |nil=>rfl
 |cons b bs ih=>
  rw[KI,List.range_succ_eq_map,all_cons,all_map,all_cons,<-ih]
  rfl
theorem range_any (bs:List Bool):(List.range bs.length).any (λi=>bs.getD i false)=bs.any id:=by
 induction bs with
 |nil=>rfl
 |cons b bs ih=>
  rw[KI,List.range_succ_eq_map,ME,List.any_map,ME,<-ih]
  rfl
def vG (K:Frag)(f:List Bool->Bool):List V->Hp->VK->Prop:=λxs H Q=>∃a bs,xs= [.ref a]/\e8 K H a (bs.map V.bl)/\Q (.bl (f bs)) H
def nI (hc:X.calm=true){a:Addr}{bs:List Bool}{Q:VK}(I:Inv X pins σ H s)(hq:e8 X.K H a (bs.map V.bl)){f:List Bool->Bool}{g:(Nat->Bool)->Nat->Bool}(hfg:g (λi=>bs.getD i false) bs.length=f bs)(q:Q (.bl (f bs)) H) :
  wpAny (model X.prog X.w) X.A.in1 (pyIter (.ref a)) (λit s2=>∃Ii fp wr n P St tr,it=.ref Ii/\Walks X.prog X.w X.A.in1 Ii fp wr n P St/\St 0 s2.heap/\TruthOf X.prog X.w X.A.in1 P tr/\
   ∀h' tk,(∀b o,b∉wr->s2.heap.get? b=some o->h'.get? b=some o)->EP X pins σ Q (.bool (g tr n)) {s2 with heap:=h',toks:=tk}) X.xe s:=by
 obtain⟨its,rv,pl,hz⟩:=I.list hq
 have hh:X.A.in1.handled=none:=I.ok.hd hc
 have hlen:its.length=bs.length:=by rw[<-rv.length];simp
 obtain⟨o,ho,_⟩:=id pl.isList
 refine ML pl.isList ?_
 have W:=Walks.list (prog:=X.prog) (w:=X.w) hh s.heap.objs.size a (K1 (Kw ho)) its.toArray
 refine⟨s.heap.objs.size,_,_,_,_,_,λi=>bs.getD i false,rfl,W,⟨⟨_,Ky _ rfl,rfl,rfl⟩,pl.isList.push _⟩,?_,λh' tk k=>?_⟩
 ·have:=ud (X:=X) (A:=X.A.in1) rv
  simpa using this
 ·have e:its.toArray.size=bs.length:=by simpa using hlen
  rw[e,hfg]
  have I1:Inv X pins σ H {s with heap:=s.heap.push {cls:=.type "list_iterator",data:=.fields #[.ref a,.int 0 0]}}:=I.kept (t':=s.toks) λb o e=>Kl _ e
  have hf:H s.heap.objs.size=none:=I.hok.fresh (Km _)
  have fp:=I.fpOk (H':=H) (b:=s.heap.objs.size) (Km _) hf
  refine⟨.bl _,H,I1.turned (it:=s.heap.objs.size) (t':=tk) (λb o hb e=>k b o (by simpa using hb) e) hf fp.2.1 fp.2.2.2.1 fp.2.2.2.2.1 fp.2.2.2.2.2,rfl,q⟩
def mU (hc:X.calm=true):cp X (.builtin "all") (vG X.K λbs=>bs.all id):=by
 intro pins s σ H xs us Q I r h
 obtain⟨a,bs,rfl,hq,q⟩:=h
 obtain⟨u,rfl,rx⟩:=vals1 r
 cases rx
 exact call_all_walk (nI hc I hq (f:=λbs=>bs.all id) (g:=λtr n=>(List.range n).all tr) (range_all bs) q)
def BG (hc:X.calm=true):cp X (.builtin "any") (vG X.K λbs=>bs.any id):=by
 intro pins s σ H xs us Q I r h
 obtain⟨a,bs,rfl,hq,q⟩:=h
 obtain⟨u,rfl,rx⟩:=vals1 r
 cases rx
 exact call_any_walk (nI hc I hq (f:=λbs=>bs.any id) (g:=λtr n=>(List.range n).any tr) (range_any bs) q)
def BD:cp X (.type "range") (λxs H Q=>∃n:Int,xs= [.int n]/\∀p,H p=none->Q (.ref p) (upd H p (.dZ 0 n))):=by
 intro pins s σ H xs us Q I r h
 obtain⟨n,rfl,q⟩:=h
 obtain⟨u,rfl,rx⟩:=vals1 r
 obtain⟨t,rfl⟩:=rx
 refine call_range_1 ⟨.ref s.heap.objs.size,upd H s.heap.objs.size (.dZ 0 n),?_,rfl,q _ (I.hok.fresh (Km _))⟩
 exact I.laid (λb o e=>Kl _ e) (Km _) ⟨_,_,_,Ky _ rfl⟩
def oX (hc:X.calm=true):cp X (.type "list") (λxs H Q=>∃p n,xs= [.ref p]/\H p=some (.dZ 0 n)/\0<=n/\n<=1000/\∀l,H l=none->Q (.ref l) (upd H l (.lst ((List.range n.toNat).map λ(i:Nat)=>V.int (i:Int))))):=by
 intro pins s σ H xs us Q I r h
 obtain⟨p,n,rfl,hp,h0,h1,q⟩:=h
 obtain⟨u,rfl,rx⟩:=vals1 r
 cases rx
 obtain⟨t,u,v,hr⟩:∃t u v,s.heap.get? p=some {cls:=.type "range",data:=.fields #[.int 0 t,.int n u,.int 1 v]}:=I.hok p _ hp
 have hsz:Builtin.Range.rangeSize 0 n 1=(n.toNat:Int):=by rw[rangeSize_one];split <;> omega
 refine call_list_range (I.ok.hd hc) hr (small_one (by omega) (by omega) (by omega) (by omega)) hsz (by omega) λh' tk acc c k hS hacc=>?_
 have hv:Vals ((List.range n.toNat).map λ(i:Nat)=>V.int (i:Int)) acc.toList:=by
  have key:∀(m:Nat) (us:List Value) (j:Nat),us.length=m->(∀(i:Nat) (v:Value),us[i]? =some v->∃t,v=Value.int ((j + i:Nat):Int) t)->Vals ((List.range' j m).map λ(i:Nat)=>V.int (i:Int)) us:=by
   intro m
   induction m with
   |zero=>intro us j hl _;cases us with
    |nil=>exact .nil
    |cons a b=>simp at hl
   |succ m ih=>
    intro us j hl hh
    cases us with
    |nil=>simp at hl
    |cons u us=>
     rw[List.range'_succ,K7]
     refine .cons (by have:=hh 0 u rfl;simp at this;exact this) (ih us (j + 1) (by simpa using hl) λi v hi=>?_)
     obtain⟨t,e⟩:=hh (i + 1) v (by simpa using hi)
     exact⟨t,by rw[e];congr 2;omega⟩
  have:=key n.toNat acc.toList 0 (by simpa using hacc.1) λi v hi=>by
   obtain⟨t,e⟩:=hacc.2 i v (by simpa using hi)
   exact⟨t,by rw[e];simp⟩
  rw[List.range_eq_range'];exact this
 refine⟨.ref s.heap.objs.size,_,I.laid (t':=tk) k (Km _) (show bK X.prog X.w _ h' _ (.lst _) from⟨by simp;rw[KY];omega,acc.toList,c,hv,by simpa using hS⟩),rfl,q _ (I.hok.fresh (Km _))⟩
end
def Rc (h:Heap)(e:Addr)(cls:Value)(T:Addr)(fl:Value):Prop:=∃oe vs oT ts,h.get? e=some oe/\oe.cls=cls/\oe.dict=none/\oe.data=.fields vs/\vs[1]? =some (.ref T)/\T≠e/\h.get? T=some oT/\oT.data=.fields ts/\ts[3]? =some fl
abbrev Keeps (F:List Addr)(ch:List Addr)(h h':Heap):Prop:=∀b o,h.get? b=some o->b∉F->b∉ch->h'.get? b=some o
abbrev Slots (F:List Addr)(h h':Heap):Prop:=∀b o,h.get? b=some o->b∈F->∃sl,h'.get? b=some {o with slots:=sl}
section
variable {M:Model}{A:Around}{E:Value->Shared->Prop}{s:Shared}{base:Heap}{env:Env}{outer:List Env}{L e:Addr}{cls:Value}{Q:Unit->Shared->Prop}
def BL {oe:Obj}{vs:Array Value}{head:Value}{hadNext:Bool}(hfr:A.frames=some (env :: outer))(hl:s.heap.FunFrames base (env :: outer))(hf:env.frame=some L)(he:s.heap.get? e=some oe)(hc:oe.cls=cls)(hdd:oe.dict=none)(hd:oe.data=.fields vs)(hsz:1 < vs.size)
  (h:∀h' T,Keeps (gV (env :: outer)) [e] s.heap h'->Slots (gV (env :: outer)) s.heap h'->s.heap.get? T=none->Rc h' e cls T (rawInt L)->Q () {s with heap:=h'}) :
  wpAny M A (do let a <-frameOf env;let pl <-entryPlaceOf L hadNext;let b <-EntryCells.newEntry head a .none (rawInt L) .none pl;setField (.ref e) 1 b) Q E s:=by
 have eF:e∉gV (env :: outer):=λz=>by
  obtain⟨_,o,q,n⟩:=hl.mem z
  rw[he] at q;cases q;exact n _ hd
 refine Kk (wpAny_frameOf_fun hfr hl hf λh1 s1=>?_)
 refine Kk (wpAny_entryPlaceOf λpl hpl=>?_)
 unfold EntryCells.newEntry newFields
 refine Kk (Mb ?_ (hpl.sizeOk5 _ _ _ _ _))
 have e1:h1.get? e=some oe:=(s1.2.1 e eF).trans he
 have e2:=Kl (h:=h1) {cls:=.type "traceback",dict:=none,data:=.fields ([head,.ref L,.none,rawInt L,.none] ++ (if pl.isEmpty then List.replicate 6 Value.none else pl)).toArray} e1
 have tn:h1.objs.size≠e:=Nat.ne_of_gt (Kw e1)
 refine Mg e2 hd hsz (h _ h1.objs.size (λb o q hb hn=>?_) (λb o q hb=>?_) ?_ ?_)
 ·have hbe:b≠e:=by simpa using hn
  have q1:h1.get? b=some o:=(s1.2.1 b hb).trans q
  rw[LA _ _ (Ne.symm hbe)]
  exact Kl _ q1
 ·obtain⟨sl,q1⟩:=s1.2.2 b o q
  have hbe:b≠e:=λz=>eF (z▸hb)
  refine⟨sl,?_⟩
  rw[LA _ _ (Ne.symm hbe)]
  exact Kl _ q1
 ·cases q:s.heap.get? h1.objs.size with
  |none=>rfl
  |some o=>obtain⟨sl,q1⟩:=s1.2.2 _ o q;exact absurd (Kw q1) (Ld _)
 ·have d3:=M1 hd (·.setIfInBounds 1 (Value.ref h1.objs.size))
  have e3:=Lq (Obj.mapFields (·.setIfInBounds 1 (Value.ref h1.objs.size))) e2 (Obj.isFreed_of_fields d3)
  refine⟨_,_,_,_,e3,(Obj.cls_mapFields _ _).trans hc,?_,d3,by simp[hsz],tn,(LA _ _ (Ne.symm tn)).trans (Ky h1 rfl),rfl,?_⟩
  ·unfold Obj.mapFields
   split <;> exact hdd
  ·rcases hpl with rfl | ⟨_,_,_,_,_,_,_,rfl⟩ <;> simp
def vR {oe:Obj}{vs:Array Value}(hfr:A.frames=some (env :: outer))(hl:s.heap.FunFrames base (env :: outer))(hf:env.frame=some L)(he:s.heap.get? e=some oe)(hc:oe.cls=cls)(hdd:oe.dict=none)(hd:oe.data=.fields vs)(h1:vs[1]? =some .none)
  (h:∀h' T,Keeps (gV (env :: outer)) [e] s.heap h'->Slots (gV (env :: outer)) s.heap h'->s.heap.get? T=none->Rc h' e cls T (rawInt L)->Q () {s with heap:=h'}):wpAny M A (noteFrame (.ref e) env) Q E s:=by
 unfold noteFrame
 simp only[hf]
 refine Kk (wpAny_field he hd h1 ?_)
 rw[Ku (by decide)]
 exact BL hfr hl hf he hc hdd hd (Lr.mp h1).1 h
def yU {T0:Addr}(hfr:A.frames=some (env :: outer))(hl:s.heap.FunFrames base (env :: outer))(hf:env.frame=some L)(r:Rc s.heap e cls T0 .none)
  (h:∀h' T,Keeps (gV (env :: outer)) [e,T0] s.heap h'->Slots (gV (env :: outer)) s.heap h'->(s.heap.get? T=none\/T=T0)->Rc h' e cls T (rawInt L)->Q () {s with heap:=h'}):wpAny M A (noteFrame (.ref e) env) Q E s:=by
 obtain⟨oe,vs,oT,ts,he,hc,hdd,hd,h1,hTe,hT,hdT,h3⟩:=r
 have tF:T0∉gV (env :: outer):=λz=>by
  obtain⟨_,o,q,n⟩:=hl.mem z
  rw[hT] at q;cases q;exact n _ hdT
 unfold noteFrame
 simp only[hf]
 refine Kk (wpAny_field he hd h1 ?_)
 rw[Kn (show (Value.ref T0 != Value.none)=true from by simp)]
 refine Kk (wpAny_field hT hdT h3 ?_)
 rw[Ku (show ¬((Value.none == rawInt L)=true) from by simp[rawInt])]
 refine Kk (Mg hT hdT (Lr.mp h3).1 ?_)
 have oth:∀b,b≠T0->(s.heap.update T0 (Obj.mapFields (·.setIfInBounds 3 Value.none))).get? b=s.heap.get? b:=λb hb=>LA _ _ (Ne.symm hb)
 have nf:∀b o,s.heap.get? b=some o->(∀ws,o.data≠.fields ws)->b≠T0:=λb o q n z=>by
  rw[z,hT] at q;cases q;exact n _ hdT
 refine BL (base:=base) hfr (hl.of_keeps λb o q n=>⟨o,(oth b (nf b o q n)).trans q,rfl⟩) hf ((oth e (Ne.symm hTe)).trans he) hc hdd hd (Lr.mp h1).1 λh' T kp sl tn rc=>?_
 refine h h' T (λb o q hb hn=>?_) (λb o q hb=>?_) ?_ rc
 ·simp only[Kq,Lk,L7,not_or] at hn
  exact kp b o ((oth b hn.2).trans q) hb (by simp[hn.1])
 ·exact sl b o ((oth b λz=>tF (z▸hb)).trans q) hb
 ·by_cases z:T=T0
  ·exact .inr z
  ·exact .inl ((oth T z).symm.trans tn)
def wC {T:Addr}{fl:Value}(r:Rc s.heap e cls T fl)(h:∀h',Keeps [] [T] s.heap h'->Rc h' e cls T .none->Q () {s with heap:=h'}):wpAny M A (setFlight (.ref e) none) Q E s:=by
 obtain⟨oe,vs,oT,ts,he,hc,hdd,hd,h1,hTe,hT,hdT,h3⟩:=r
 have sz:3 < ts.size:=(Lr.mp h3).1
 unfold setFlight
 refine Kk (wpAny_field he hd h1 ?_)
 rw[Kn (show (Value.ref T != Value.none)=true from by simp)]
 refine Mg hT hdT sz (h _ (λb o q _ hn=>?_) ?_)
 ·have hb:b≠T:=by simpa using hn
  exact (LA _ _ (Ne.symm hb)).trans q
 ·have d3:=M1 hdT (·.setIfInBounds 3 ((none:Option Addr).elim Value.none λf=>rawInt f))
  exact⟨oe,vs,_,_,(LA _ _ hTe).trans he,hc,hdd,hd,h1,hTe,Lq _ hT (Obj.isFreed_of_fields d3),d3,by simp[sz]⟩
end
section
variable {P:Program}{w:World}
theorem bK.there {H:Hp}{h:Heap}{a:Addr}{o:HO}(x:bK P w H h a o):∃u,h.get? a=some u:=by
 cases o with
 |lst xs=>obtain⟨_,_,_,_,e⟩:=x;exact⟨_,e⟩
 |tup xs=>obtain⟨_,_,_,u,e,_⟩:=x;exact⟨u,e⟩
 |dK kvs=>obtain⟨_,_,_,_,o,_,_,e,_⟩:=x;exact⟨_,e⟩
 |dT kvs=>obtain⟨_,_,_,_,o,_,_,e,_⟩:=x;exact⟨_,e⟩
 |set S n=>obtain⟨o,_,_,_,e,_⟩:=x;exact⟨_,e⟩
 |ins C dx fs=>obtain⟨_,_,_,e,_⟩:=x;exact⟨_,e⟩
 |own y=>obtain⟨_,e⟩:=x;exact⟨_,e⟩
 |xd fs=>obtain⟨_,⟨_,_,_,e,_⟩,_⟩:=x;exact⟨_,e⟩
 |dZ lo hi=>obtain⟨_,_,_,e⟩:=x;exact⟨_,e⟩
 |bb ob u=>obtain⟨e,_⟩:=x;exact⟨_,e⟩
 |tbl ps=>exact⟨_,show h.get? a=some _ from x⟩
 |met f y=>exact⟨_,show h.get? a=some _ from x⟩
 |ext φ=>obtain⟨_,⟨_,e⟩,_⟩:=x;exact⟨_,e⟩
end
structure Lies (h₀:Heap)(H:Hp)(h:Heap)(e:Addr)(cls:Value):Prop where
 free:H e=none
 new:h₀.get? e=none
 ob:∃T,Rc h e cls T .none/\H T=none/\h₀.get? T=none
def mf (P:Program)(w:World):yy:=λouter H s E e s'=>∃ea cls H',e=.ref ea/\s'.os=s.os/\AllBare s'.gens/\Un (gV outer) [] H H' s.heap s'.heap/\jz P w H' s'.heap/\Lies s.heap H' s'.heap ea cls/\E cls none H'
section
variable {P:Program}{w:World}{M:Model}{A:Around}{E':Value->Shared->Prop}{s:Shared}{env:Env}{outer:List Env}{L e:Addr}{cls:Value}{base h₀:Heap}{H:Hp}{Q:Unit->Shared->Prop}
def sW {h h':Heap}(hok:jz P w H h)(k:∀b o,h.get? b=some o->(∃u,H b=some u)->h'.get? b=some o):jz P w H h':=λa o ha=>
 (hok a o ha).stay (λb u hb q=>k b u q (hb.elim (λz=>⟨o,by rw[z];exact ha⟩) λz=>⟨_,z⟩)) (λ_ q=>q) λ_ _ q=>q
def Bq (hfr:A.frames=some (env :: outer))(hf:env.frame=some L)(hfn:s.heap.FunFrames base (env :: outer))(hok:jz P w H s.heap)(hff:∀b∈gV (env :: outer),H b=none)(Ly:Lies h₀ H s.heap e cls)(hex:∀b o,h₀.get? b=some o->∃o',s.heap.get? b=some o')
  (hQ:∀h',(∀b o,s.heap.get? b=some o->b∉gV (env :: outer)->((∃o0,h₀.get? b=some o0)\/∃u,H b=some u)->h'.get? b=some o)->(∀b o,s.heap.get? b=some o->b∈gV (env :: outer)->∃sl,h'.get? b=some {o with slots:=sl})->Lies h₀ H h' e cls->jz P w H h'->Q () {s with heap:=h'}) :
  wpAny M A (leaving env (.ref e)) Q E' s:=by
 obtain⟨fr,nw,T0,rc,hHT,hnT⟩:=Ly
 obtain⟨oe,vs,oT,ts,he,hc,hdd,hd,h1,hTe,hT,hdT,h3⟩:=id rc
 have tF:T0∉gV (env :: outer):=λz=>by
  obtain⟨_,o,q,n⟩:=hfn.mem z
  rw[hT] at q;cases q;exact n _ hdT
 unfold leaving
 refine Kk (yU hfr hfn hf rc λh4 T kp sl tn rc4=>wC rc4 λh5 kp5 rc5=>?_)
 have nT:∀b o,s.heap.get? b=some o->b≠T0->b≠T:=λb o q n z=>by
  rcases tn with tn |tn
  ·rw[z,tn] at q;cases q
  ·exact n (z.trans tn)
 have kept:∀b o,s.heap.get? b=some o->b∉gV (env :: outer)->((∃o0,h₀.get? b=some o0)\/∃u,H b=some u)->h5.get? b=some o:=λb o q hb hor=>by
  have be:b≠e:=λz=>by subst z;rcases hor with⟨_,z⟩ | ⟨_,z⟩ <;> simp_all
  have bT:b≠T0:=λz=>by subst z;rcases hor with⟨_,z⟩ | ⟨_,z⟩ <;> simp_all
  exact kp5 b o (kp b o q hb (by simp[be,bT])) (by simp) (by simp[nT b o q bT])
 have slot:∀b o,s.heap.get? b=some o->b∈gV (env :: outer)->∃sl,h5.get? b=some {o with slots:=sl}:=λb o q hb=>by
  obtain⟨x,q4⟩:=sl b o q hb
  exact⟨x,kp5 b _ q4 (by simp) (by simp[nT b o q λz=>tF (z▸hb)])⟩
 have fresh:H T=none/\h₀.get? T=none:=by
  rcases tn with tn |tn
  ·refine⟨?_,?_⟩
   ·cases q:H T with
    |none=>rfl
    |some u=>obtain⟨o,qo⟩:=(hok T u q).there;rw[tn] at qo;cases qo
   ·cases q:h₀.get? T with
    |none=>rfl
    |some u=>obtain⟨o,qo⟩:=hex T u q;rw[tn] at qo;cases qo
  ·rw[tn];exact⟨hHT,hnT⟩
 refine hQ h5 kept slot ⟨fr,nw,T,rc5,fresh.1,fresh.2⟩ (sW hok λb o q hu=>kept b o q (λz=>?_) (.inr hu))
 obtain⟨u,hu⟩:=hu
 rw[hff b z] at hu;cases hu
def uN {h:Heap}{args:List Value}(hfr:A.frames=some (env :: outer))(hf:env.frame=some L)(hfn:h.FunFrames base (env :: outer))(hok:jz P w H h)(hff:∀b∈gV (env :: outer),H b=none)(hex:∀b o,h₀.get? b=some o->∃o',h.get? b=some o')(hx:Heap.MadeExcOf h s.heap e cls args)
  (hQ:∀h',(∀b o,h.get? b=some o->b∉gV (env :: outer)->h'.get? b=some o)->(∀b o,h.get? b=some o->b∈gV (env :: outer)->∃sl,h'.get? b=some {o with slots:=sl})->Lies h₀ H h' e cls->jz P w H h'->Q () {s with heap:=h'}) :
  wpAny M A (leaving env (.ref e)) Q E' s:=by
 obtain⟨t,he,_,_⟩:=hx.there
 unfold leaving
 refine Kk (vR (cls:=cls) hfr (hfn.of_keeps λb o q _=>⟨o,hx.keeps b o q,rfl⟩) hf he rfl rfl rfl rfl λh4 T kp sl tn rc4=>wC rc4 λh5 kp5 rc5=>?_)
 have ne:∀b o,h.get? b=some o->b≠e:=λb o q z=>by rw[z,hx.new] at q;cases q
 have nT:∀b o,h.get? b=some o->b≠T:=λb o q z=>by
  have:=hx.keeps b o q
  rw[z,tn] at this;cases this
 have kept:∀b o,h.get? b=some o->b∉gV (env :: outer)->h5.get? b=some o:=λb o q hb=>kp5 b o (kp b o (hx.keeps b o q) hb (by simp[ne b o q])) (by simp) (by simp[nT b o q])
 have slot:∀b o,h.get? b=some o->b∈gV (env :: outer)->∃sl,h5.get? b=some {o with slots:=sl}:=λb o q hb=>by
  obtain⟨x,q4⟩:=sl b o (hx.keeps b o q) hb
  exact⟨x,kp5 b _ q4 (by simp) (by simp[nT b o q])⟩
 have fresh:∀{b:Addr},h.get? b=none->H b=none/\h₀.get? b=none:=λ{b} hb=>by
  refine⟨?_,?_⟩
  ·cases q:H b with
   |none=>rfl
   |some u=>obtain⟨o,qo⟩:=(hok b u q).there;rw[hb] at qo;cases qo
  ·cases q:h₀.get? b with
   |none=>rfl
   |some u=>obtain⟨o,qo⟩:=hex b u q;rw[hb] at qo;cases qo
 have no:h.get? T=none:=by
  cases q:h.get? T with
  |none=>rfl
  |some o=>exact absurd rfl (nT T o q)
 obtain⟨f1,f2⟩:=fresh hx.new
 obtain⟨g1,g2⟩:=fresh no
 refine hQ h5 kept slot ⟨f1,f2,T,rc5,g1,g2⟩ (sW hok λb o q hu=>kept b o q λz=>?_)
 obtain⟨u,hu⟩:=hu
 rw[hff b z] at hu;cases hu
end
section
variable {P:Program}{w:World}{K:Frag}{mg:Str->Option Value}{base:Heap}{N:List Str}{qual:Str}{scope:Scope}{f:Addr}{cd:Value}{A:Around}{outer:List Env}{s0:Shared}{H0:Hp}{E:XK}
def aW:Passes (mf P w) (jU (mf P w) P w K mg base N qual scope f cd A outer s0 H0 E) E:=by
 intro pins σ H s e s' I hcx
 obtain⟨ea,cls,H',rfl,os,bare,un,hok,Ly,q⟩:=hcx
 have I':=I.call' os un hok bare (λb hb=>absurd hb (by simp))
 have old:∀{b:Addr},s.heap.get? b=none->s0.heap.get? b=none:=λ{b} hb=>by
  cases z:s0.heap.get? b with
  |none=>rfl
  |some o=>obtain⟨o',z'⟩:=I.base.there b o z (show b∉([]:List Addr) by simp);rw[hb] at z';cases z'
 have Ly0:Lies s0.heap H' s'.heap ea cls:=by
  obtain⟨fr,nw,T,rc,hHT,hnT⟩:=Ly
  exact⟨fr,old nw,T,rc,hHT,old hnT⟩
 have above:s0.heap.objs.size<=(envOfC qual scope s0.heap.objs.size f cd).locals:=I.ok.above
 refine Bq (base:=base) (h₀:=s0.heap) I'.ok.frames rfl I'.stack I'.hok I'.stkFree Ly0 (λb o z=>I'.base.there b o z (show b∉([]:List Addr) by simp)) λh' kept slot Ly' hok'=>?_
 have nL:∀{b:Addr} {o:Obj},s0.heap.get? b=some o->b∉gV outer->b∉gV (envOfC qual scope s0.heap.objs.size f cd :: outer):=λ{b o} z hb hm=>by
  rcases Kq.mp (I'.stkSub b hm) with e |e
  ·have:=Kw z
   rw[e] at this
   exact absurd (KW this above) (Ld _)
  ·exact hb e
 have inn:∀{b:Addr},b∈gV outer->b∈gV (envOfC qual scope s0.heap.objs.size f cd :: outer):=λ{b} hb=>by
  obtain⟨en,h1,h2⟩:=LZ.mp hb
  exact LZ.mpr ⟨en,Ko _ h1,h2⟩
 refine⟨ea,cls,H',rfl,os.trans I.os,bare,⟨λb o z n hb _=>?_,λb o z n hb _=>?_,λb o z n _=>I'.base.free b o z n (show b∉([]:List Addr) by simp),λb o z _=>?_,I'.base.tups,I'.base.frzs,I'.base.tbls⟩,hok',Ly',q⟩
 ·exact kept b o (I'.base.keep b o z n hb (show b∉([]:List Addr) by simp)) (nL z hb) (.inl ⟨o,z⟩)
 ·obtain⟨sl,z1⟩:=I'.base.slot b o z n hb (show b∉([]:List Addr) by simp)
  obtain⟨sl2,z2⟩:=slot b _ z1 (inn hb)
  exact⟨sl2,z2⟩
 ·obtain⟨o',z1⟩:=I'.base.there b o z (show b∉([]:List Addr) by simp)
  by_cases hb:b∈gV (envOfC qual scope s0.heap.objs.size f cd :: outer)
  ·obtain⟨sl,z2⟩:=slot b o' z1 hb
   exact⟨_,z2⟩
  ·exact⟨o',kept b o' z1 hb (.inl ⟨o,z⟩)⟩
def E2 (C:Addr)(E:XK)(t:TA):TS:=λ_ σ H=>t σ H λvs H1=>vs.length<=sizeLine/\E (.ref C) none H1
def BB {x:Str}{C:Addr}{np cpos pos:Pos}{e0:Expr}{es:List Expr}{t:TA}{Bn newId initId:String}{bmB:List Value}(FB:ExcBaseFacts Bn newId initId bmB)(hbb:bmB.contains (.type "BaseException")=true)(q:PySem.W.excIn K C bmB newId=true)
  (hg:Gl (jU (mf P w) P w K mg base N qual scope f cd A outer s0 H0 E) x) (hm:mg x=some (.ref C)) (ha:PA (jU (mf P w) P w K mg base N qual scope f cd A outer s0 H0 E) (e0 :: es) t)
  (he:starEach (e0 :: es) (envOfC qual scope s0.heap.objs.size f cd)=(false,eval e0 (envOfC qual scope s0.heap.objs.size f cd)) :: starEach es (envOfC qual scope s0.heap.objs.size f cd):=by rfl)
  (hpl:(backTo cpos (starEach es (envOfC qual scope s0.heap.objs.size f cd))).any (·.1)=false:=by rfl) (hdb:(x == ("__debug__":Str))=false:=by decide) :
  PS (jU (mf P w) P w K mg base N qual scope f cd A outer s0 H0 E) (.Raise (some (.Call (.Name x np) (e0 :: es) [] cpos)) none pos) (E2 C E t):=by
 intro pins s σ H D I h
 have own:∀{hh:Heap},K.In hh->∃bm Nn nm qn bs hdct sn sub ab col dd k0 k1 k2 k3 k5 mN,hh.get? C=some (excClassObj nm qn C Nn bs bm hdct sn sub ab col dd k0 k1 k2 k3 k5 newId)/\hh.Ns Nn mN/\mN "__init__"=none/\OwnTail hh bmB bm:=λ{hh} X=>by
  have q:=q
  unfold PySem.W.excIn at q
  split at q
  ·rename_i dd cdd sl ho
   split at q
   ·rename_i C' bm k0 k1 k2 k3 n k5 hm hs
    simp only[KP,beq_iff_eq,LM] at q
    obtain⟨⟨⟨⟨⟨rfl,rfl⟩,hdel⟩,ht⟩,hok⟩,hni⟩:=q
    obtain⟨nm,bs,mro,ns,qn,hd,sn,sub,ab,col,del⟩:=cdd
    dsimp only at hm hdel hok hni
    subst hm hdel
    have hsl:sl=#[k0,k1,k2,k3,some (.builtin n),k5]:=by
     obtain⟨l⟩:=sl
     simp only at hs
     rw[hs]
    subst hsl
    exact⟨bm,ns,nm,qn,bs,hd,sn,sub,ab,col,dd,k0,k1,k2,k3,k5,_,X _ _ ho,.of_isNs (PySem.W.isNs_of_in X hok),PySem.W.nsMap_none_of_in X hok hni,PySem.W.tail_of_in X ht⟩
   ·cases q
  ·cases q
 obtain⟨bm,Nn,nm,qn,bs,hdct,sn,sub,ab,col,dd,k0,k1,k2,k3,k5,mN,hC,hN,hni,TL⟩:=own I.ok.mod.kin
 have hA:=ha cpos pins s σ H _ I h
 refine wpAny_Raise_call_subT (C:=C) (nm:=nm) (q:=qn) (N:=Nn) (bs:=bs) (bm:=bm) (hdct:=hdct) (sn:=sn) (sub:=sub) (ab:=ab) (col:=col) (dd:=dd) (k0:=k0) (k1:=k1) (k2:=k2) (k3:=k3) (k5:=k5) FB (mN:=mN) (TL.hasType hbb) (I.ok.hd rfl) ?_ hni (rl I hg hm ⟨rfl,?_⟩ hdb)
 ·show (backTo cpos (starEach (e0 :: es) (envOfC qual scope s0.heap.objs.size f cd))).any (·.1)=false
  rw[he]
  show (false || (backTo cpos (starEach es (envOfC qual scope s0.heap.objs.size f cd))).any (·.1))=false
  rw[hpl];rfl
 have hA:wpAny _ _ (spliced (backTo cpos (starEach (e0 :: es) (envOfC qual scope s0.heap.objs.size f cd)))) _ _ s:=hA
 show wpAny _ _ (evalArgs (.ref C) true (backTo cpos (starEach (e0 :: es) (envOfC qual scope s0.heap.objs.size f cd))) []) _ _ s
 rw[he] at hA ⊢
 refine Calls.evalArgs_plain (cn hA λus s2 ⟨vs,H2,I2,r2,hl2,q2⟩=>⟨rfl,by show us.length<=_;rw[<-r2.length];exact hl2,I2.bk _ _ hC,hN.keeps I2.bk,TL.keeps I2.bk,λh' e hx=>?_⟩)
 have above:s0.heap.objs.size<=(envOfC qual scope s0.heap.objs.size f cd).locals:=I2.ok.above
 have nil:∀b:Addr,b∉([]:List Addr):=λb=>by simp
 refine uN (s:={s2 with heap:=h'}) (h:=s2.heap) (base:=base) (h₀:=s0.heap) I2.ok.frames rfl I2.stack I2.hok I2.stkFree (λb o z=>I2.base.there b o z (nil b)) hx λh2 kept slot Ly hok=>?_
 have nL:∀{b:Addr} {o:Obj},s0.heap.get? b=some o->b∉gV outer->b∉gV (envOfC qual scope s0.heap.objs.size f cd :: outer):=λ{b o} z hb hm=>by
  rcases Kq.mp (I2.stkSub b hm) with e |e
  ·have:=Kw z
   rw[e] at this
   exact absurd (KW this above) (Ld _)
  ·exact hb e
 have inn:∀{b:Addr},b∈gV outer->b∈gV (envOfC qual scope s0.heap.objs.size f cd :: outer):=λ{b} hb=>by
  obtain⟨en,h1,h2⟩:=LZ.mp hb
  exact LZ.mpr ⟨en,Ko _ h1,h2⟩
 refine⟨e,.ref C,H2,rfl,I2.os,I2.bare,⟨λb o z n hb _=>?_,λb o z n hb _=>?_,λb o z n _=>I2.base.free b o z n (nil b),λb o z _=>?_,I2.base.tups,I2.base.frzs,I2.base.tbls⟩,hok,Ly,q2⟩
 ·exact kept b o (I2.base.keep b o z n hb (nil b)) (nL z hb)
 ·obtain⟨sl,z1⟩:=I2.base.slot b o z n hb (nil b)
  obtain⟨sl2,z2⟩:=slot b _ z1 (inn hb)
  exact⟨sl2,z2⟩
 ·obtain⟨o',z1⟩:=I2.base.there b o z (nil b)
  by_cases hb:b∈gV (envOfC qual scope s0.heap.objs.size f cd :: outer)
  ·obtain⟨sl,z2⟩:=slot b o' z1 hb
   exact⟨_,z2⟩
  ·exact⟨o',kept b o' z1 hb⟩
end
def mroIn (K:Frag)(C:Addr):List Value:=match K.lookup C with
 |some ⟨_,_,.cls cd,_⟩=>cd.mro
 |_=>[]
structure AK (k:Nat)(A:Around):Prop where
 dp:A.depth + 3 * k + 5 < recursionLimit
 un:A.units + 16 * k + 200 < cLine
 gd:A.guards=some []
def dC.h {k:Nat}{A:Around}(r:dC k A):AK k A:=⟨r.dp,r.un,r.gd⟩
def AK.units {k:Nat}{A:Around}(r:AK k A):A.units + 64 < cLine:=by have:=r.un;omega
section
variable {P:Program}{w:World}{K:Frag}{mg:Str->Option Value}{base:Heap}
def BP.rX {x qual:Str}{st:Stmt}{f:Addr}{fd:FuncData}{N ps:List Str}{k:Nat}{sp:Sp}(F:BP K x qual st f fd)(S:aL N ps (av st))(len:∀vs H Q E,sp vs H Q E->vs.length=ps.length)
  (hbody:∀(cdv:Value) (A:Around) (outer:List Env) (s:Shared) (H:Hp) (vs:List V) (Q:VK) (E:XK),dC k (A.deeper (envOfC qual (av st) s.heap.objs.size f cdv))->sp vs H Q E->
   ∃t,p8 (jU (mf P w) P w K mg base N qual (av st) f cdv A outer s H E) (cx st) t/\t {nx:=λ_ H'=>Q .non H',rt:=Q} (start N vs) H):eQ P w K mg base (mf P w) (k + 1) f fd ps sp:=by
 obtain⟨oc,od,kV,doc,pm,an,cdv,ct,osl,rfl,lk,hcd⟩:=F.ex
 exact D1 lk hcd S len λA outer s H vs Q E hr hsp=>hbody cdv A outer s H vs Q E hr hsp
end
section
variable {X:Cx}
def pH (hu:X.A.units + 100 < cLine):jW X (compareOp .NotIn) (HE X.K true):=by
 intro pins s σ H x y v u Q I rx ry h
 obtain⟨p,xs,d,ds,rfl,hq,hs,hx,s1,s2,q⟩:=h
 cases ry
 obtain⟨bs,r2⟩:=hx.reads I rx
 have key:∀{e:PyData} {as:List Addr} {u:Value},SeqAt.shaped e=true->Reads s.heap u e as->SeqAt.EqAt X.A.in1 s u v (PyData.eqv e d):=λ{e as u} h1 h2=>by
  refine SeqAt.eqAt_reads _ _ _ _ _ _ _ _ h2 r2 (MK h1) (MK s1) ?_
  have:=SeqAt.depth_of_shaped h1
  show X.A.units + 1 + _ < _
  omega
 rcases hq with hq |hq
 ·obtain⟨its,r,pl,hz⟩:=I.list hq
  obtain⟨f,e1,e2⟩:=ua I d r hs s2
  refine SeqAt.notIn_listAt f pl.isList (λw hw=>?_) ⟨.bl _,H,I,rfl,?_⟩
  ·obtain⟨e,as,hm,rd,ef⟩:=e2 w (by simpa using hw)
   rw[ef];exact key (s2 e hm) rd
  ·rw[show its.toArray.any f=its.any f by simp,e1];exact q
 ·obtain⟨its,r,pl,hz⟩:=I.tuple hq
  obtain⟨f,e1,e2⟩:=ua I d r hs s2
  refine SeqAt.notIn_tupleAt f pl (λw hw=>?_) ⟨.bl _,H,I,rfl,?_⟩
  ·obtain⟨e,as,hm,rd,ef⟩:=e2 w (by simpa using hw)
   rw[ef];exact key (s2 e hm) rd
  ·rw[show its.toArray.any f=its.any f by simp,e1];exact q
end
abbrev D:=PyData
def kD:Key->D
 | .inl i=>.int i
 | .inr x=>.str x
mutual
inductive Rp (K:Frag)(G:Hp):V->D->Prop
 |non:Rp K G .non .none
 |bl (b:Bool):Rp K G (.bl b) (.bool b)
 |int (i:Int):Rp K G (.int i) (.int i)
 |str (x:Str):Rp K G (.str x) (.str x)
 |tup {a:Addr} {xs:List V} {ds:List D}:dA K G a xs->b6 K G xs ds->Rp K G (.ref a) (.tuple ds)
 |lst {a:Addr} {xs:List V} {ds:List D}:G a=some (.lst xs)->b6 K G xs ds->Rp K G (.ref a) (.list ds)
 |scr {a:Addr} {ns:List Int}:e8 K G a (ns.map V.int)->Rp K G (.ref a) (.dict [(.none,.list (ns.map int))])
 |dK {a:Addr} {kvs:List (Key×V)} {ds:List (D×D)}:G a=some (.dK kvs)->zi K G kvs ds->Rp K G (.ref a) (.dict ds)
 |dT {a:Addr} {kvs:List (List Key×V)} {ds:List (D×D)}:G a=some (.dT kvs)->ze K G kvs ds->Rp K G (.ref a) (.dict ds)
inductive b6 (K:Frag)(G:Hp):List V->List D->Prop
 |nil:b6 K G [] []
 |cons {x:V} {xs:List V} {d:D} {ds:List D}:Rp K G x d->b6 K G xs ds->b6 K G (x :: xs) (d :: ds)
inductive zi (K:Frag)(G:Hp):List (Key×V)->List (D×D)->Prop
 |nil:zi K G [] []
 |cons {k:Key} {x:V} {xs:List (Key×V)} {d:D} {ds:List (D×D)}:Rp K G x d->zi K G xs ds->zi K G ((k,x) :: xs) ((kD k,d) :: ds)
inductive ze (K:Frag)(G:Hp):List (List Key×V)->List (D×D)->Prop
 |nil:ze K G [] []
 |cons {k:List Key} {x:V} {xs:List (List Key×V)} {d:D} {ds:List (D×D)}:Rp K G x d->ze K G xs ds->ze K G ((k,x) :: xs) ((.tuple (k.map kD),d) :: ds)
end
section
variable {K:Frag}{G G' H H':Hp}
def Rd.mono {a:Addr}{u:HO}(h:Rd G a u)(s:ak G G'):Rd G' a u:=h.elim (λe=>.inl (s _ _ e)) λ⟨o,e⟩=>.inr ⟨o,s _ _ e⟩
mutual
theorem Rp.mono (s:ak G G'):∀{x:V} {d:D},Rp K G x d->Rp K G' x d
 |_,_,.non=>.non
 |_,_,.bl b=>.bl b
 |_,_,.int i=>.int i
 |_,_,.str x=>.str x
 |_,_,.tup h hs=>.tup (h.grow s.grow) (b6.mono s hs)
 |_,_,.lst h hs=>.lst (s _ _ h) (b6.mono s hs)
 |_,_,.scr h=>.scr (s.seq h)
 |_,_,.dK h hs=>.dK (s _ _ h) (zi.mono s hs)
 |_,_,.dT h hs=>.dT (s _ _ h) (ze.mono s hs)
theorem b6.mono (s:ak G G'):∀{xs:List V} {ds:List D},b6 K G xs ds->b6 K G' xs ds
 |_,_,.nil=>.nil
 |_,_,.cons h hs=>.cons (Rp.mono s h) (b6.mono s hs)
theorem zi.mono (s:ak G G'):∀{xs:List (Key×V)} {ds:List (D×D)},zi K G xs ds->zi K G' xs ds
 |_,_,.nil=>.nil
 |_,_,.cons h hs=>.cons (Rp.mono s h) (zi.mono s hs)
theorem ze.mono (s:ak G G'):∀{xs:List (List Key×V)} {ds:List (D×D)},ze K G xs ds->ze K G' xs ds
 |_,_,.nil=>.nil
 |_,_,.cons h hs=>.cons (Rp.mono s h) (ze.mono s hs)
end
theorem b6.len:∀{xs:List V} {ds:List D},b6 K G xs ds->xs.length=ds.length
 |_,_,.nil=>rfl
 |_,_,.cons _ t=>by simp[b6.len t]
theorem b6.at:∀{xs:List V} {ds:List D} {i:Nat} {d:D},b6 K G xs ds->ds[i]? =some d->∃x,xs[i]? =some x/\Rp K G x d
 |_,_,_,_,.nil,e=>by simp at e
 |_,_,0,_,.cons r _,e=>by simp at e;subst e;exact⟨_,rfl,r⟩
 |_,_,i + 1,x,.cons _ t,e=>by
  obtain⟨u,h1,h2⟩:=b6.at (i:=i) (d:=x) t (by simpa using e)
  exact⟨u,by simpa using h1,h2⟩
theorem b6.at':∀{xs:List V} {ds:List D} {i:Nat} {x:V},b6 K G xs ds->xs[i]? =some x->∃d,ds[i]? =some d/\Rp K G x d
 |_,_,_,_,.nil,e=>by simp at e
 |_,_,0,_,.cons r _,e=>by simp at e;subst e;exact⟨_,rfl,r⟩
 |_,_,i + 1,x,.cons _ t,e=>by
  obtain⟨u,h1,h2⟩:=b6.at' (i:=i) (x:=x) t (by simpa using e)
  exact⟨u,by simpa using h1,h2⟩
theorem b6.append:∀{xs ys:List V} {ds es:List D},b6 K G xs ds->b6 K G ys es->b6 K G (xs ++ ys) (ds ++ es)
 |_,_,_,_,.nil,s=>s
 |_,_,_,_,.cons r t,s=>.cons r (b6.append t s)
def b6.snoc {xs:List V}{ds:List D}{x:V}{d:D}(h:b6 K G xs ds)(q:Rp K G x d):b6 K G (xs ++ [x]) (ds ++ [d]):=h.append (.cons q .nil)
theorem b6.take:∀{xs:List V} {ds:List D} (n:Nat),b6 K G xs ds->b6 K G (xs.take n) (ds.take n)
 |_,_,0,_=>.nil
 |_,_,_ + 1,.nil=>.nil
 |_,_,n + 1,.cons r t=>.cons r (b6.take n t)
theorem b6.drop:∀{xs:List V} {ds:List D} (n:Nat),b6 K G xs ds->b6 K G (xs.drop n) (ds.drop n)
 |_,_,0,r=>r
 |_,_,_ + 1,.nil=>.nil
 |_,_,n + 1,.cons _ t=>b6.drop n t
theorem b6.set {x:V}{d:D}(r:Rp K G x d):∀{xs:List V} {ds:List D} (i:Nat),b6 K G xs ds->b6 K G (xs.set i x) (ds.set i d)
 |_,_,_,.nil=>.nil
 |_,_,0,.cons _ t=>.cons r t
 |_,_,i + 1,.cons q t=>.cons q (b6.set r i t)
theorem b6.rep {n:Nat}{xs:List V}{ds:List D}(h:b6 K G xs ds):b6 K G (List.replicate n xs).flatten (List.replicate n ds).flatten:=by
 induction n with
 |zero=>exact .nil
 |succ n ih=>rw[Ll,Ll,LV,LV];exact h.append ih
mutual
def zk:D->Bool
 | .dict _=>false
 | .list ds=>o5 ds
 | .tuple ds=>o5 ds
 |_=>true
def o5:List D->Bool
 | []=>true
 |d :: ds=>zk d && o5 ds
end
mutual
theorem Rp.rep:∀{x:V} {d:D},Rp K G x d->zk d=true->Rep K G x d
 |_,_,.non,_=>.non
 |_,_,.bl b,_=>.bl b
 |_,_,.int i,_=>.int i
 |_,_,.str x,_=>.str x
 |_,_,.tup h hs,e=>.tup h (b6.reps hs (by simpa[zk] using e))
 |_,_,.lst h hs,e=>.lst (.inl (.inl h)) (b6.reps hs (by simpa[zk] using e))
 |_,_,.scr _,e=>by simp[zk] at e
 |_,_,.dK _ _,e=>by simp[zk] at e
 |_,_,.dT _ _,e=>by simp[zk] at e
theorem b6.reps:∀{xs:List V} {ds:List D},b6 K G xs ds->o5 ds=true->gY K G xs ds
 |_,_,.nil,_=>.nil
 |_,_,.cons h hs,e=>.cons (Rp.rep h (by simp[o5] at e;exact e.1)) (b6.reps hs (by simp[o5] at e;exact e.2))
end
def Own (K:Frag)(G H:Hp)(a:Addr):D->Prop
 | .list ds=>∃xs,H a=some (.lst xs)/\b6 K G xs ds
 | .dict ds=>(∃kvs,H a=some (.dK kvs)/\zi K G kvs ds)\/∃kvs,H a=some (.dT kvs)/\ze K G kvs ds
 |_=>False
def Own.obj {a:Addr}{d:D}(h:Own K G H a d):∃o,H a=some o:=by
 cases d <;> first |exact h.elim |skip
 ·obtain⟨xs,e,_⟩:=h;exact⟨_,e⟩
 ·rcases h with⟨_,e,_⟩ | ⟨_,e,_⟩ <;> exact⟨_,e⟩
def Own.mono {a:Addr}{d:D}(h:Own K G H a d)(s:ak G G')(m:∀o,H a=some o->H' a=some o):Own K G' H' a d:=by
 cases d <;> first |exact h.elim |skip
 ·obtain⟨xs,e,r⟩:=h;exact⟨xs,m _ e,r.mono s⟩
 ·rcases h with⟨k,e,r⟩ | ⟨k,e,r⟩
  ·exact .inl ⟨k,m _ e,r.mono s⟩
  ·exact .inr ⟨k,m _ e,r.mono s⟩
def Own.rp {a:Addr}{d:D}(h:Own K G H a d)(n:G a=none){G':Hp}(s:ak G G')(e:∀o,H a=some o->G' a=some o):Rp K G' (.ref a) d:=by
 cases d <;> first |exact h.elim |skip
 ·obtain⟨xs,q,r⟩:=h;exact .lst (e _ q) (r.mono s)
 ·rcases h with⟨k,q,r⟩ | ⟨k,q,r⟩
  ·exact .dK (e _ q) (r.mono s)
  ·exact .dT (e _ q) (r.mono s)
def j9 (K:Frag)(B:Option Addr)(G H:Hp)(v:V)(d:D):Prop:=Rp K G v d\/∃a,v=.ref a/\B≠some a/\Own K G H a d
def gx (B:Option Addr)(H H':Hp):Prop:=∀b o,H b=some o->B≠some b->H' b=some o
def gx.refl (B:Option Addr)(H:Hp):gx B H H:=λ_ _ h _=>h
def gx.trans {B:Option Addr}{H1:Hp}(x:gx B H H1)(y:gx B H1 H'):gx B H H':=λb o h n=>y b o (x b o h n) n
def ak.mov (s:ak H H')(B:Option Addr):gx B H H':=λb o h _=>s b o h
def j9.mono {B:Option Addr}{v:V}{d:D}(h:j9 K B G H v d)(s:ak G G')(m:gx B H H'):j9 K B G' H' v d:=by
 rcases h with h | ⟨a,e,n,h⟩
 ·exact .inl (h.mono s)
 ·exact .inr ⟨a,e,n,h.mono s λo q=>m a o q n⟩
def j9.rpH {B:Option Addr}{v:V}{d:D}(h:j9 K B G H v d)(s:ak G H):Rp K H v d:=by
 rcases h with h | ⟨a,rfl,n,h⟩
 ·exact h.mono s
 ·cases d <;> first |exact h.elim |skip
  ·obtain⟨xs,q,r⟩:=h;exact .lst q (r.mono s)
  ·rcases h with⟨k,q,r⟩ | ⟨k,q,r⟩
   ·exact .dK q (r.mono s)
   ·exact .dT q (r.mono s)
def j9.list {B:Option Addr}{v:V}{ds:List D}(h:j9 K B G H v (.list ds))(s:ak G H):∃a xs,v=.ref a/\Rd H a (.lst xs)/\b6 K G xs ds:=by
 rcases h with h | ⟨a,rfl,n,xs,q,r⟩
 ·cases h with
  |lst h r=>exact⟨_,_,rfl,.inl (s _ _ h),r⟩
 ·exact⟨a,xs,rfl,.inl q,r⟩
def j9.tuple {B:Option Addr}{v:V}{ds:List D}(h:j9 K B G H v (.tuple ds))(s:ak G H):∃a xs,v=.ref a/\dA K H a xs/\b6 K G xs ds:=by
 rcases h with h | ⟨a,rfl,n,h⟩
 ·cases h with
  |tup h r=>exact⟨_,_,rfl,h.grow s.grow,r⟩
 ·exact h.elim
def j9.int {B:Option Addr}{v:V}{i:Int}(h:j9 K B G H v (.int i)):v=.int i:=by
 rcases h with h | ⟨a,rfl,n,h⟩
 ·cases h;rfl
 ·exact h.elim
def j9.bool {B:Option Addr}{v:V}{b:Bool}(h:j9 K B G H v (.bool b)):v=.bl b:=by
 rcases h with h | ⟨a,rfl,n,h⟩
 ·cases h;rfl
 ·exact h.elim
def j9.str {B:Option Addr}{v:V}{x:Str}(h:j9 K B G H v (.str x)):v=.str x:=by
 rcases h with h | ⟨a,rfl,n,h⟩
 ·cases h;rfl
 ·exact h.elim
def j9.none {B:Option Addr}{v:V}(h:j9 K B G H v .none):v=.non:=by
 rcases h with h | ⟨a,rfl,n,h⟩
 ·cases h;rfl
 ·exact h.elim
end
def Fz:HO->Prop
 | .tup _=>True
 | .bb _ _=>True
 |_=>False
def Mx (H:Hp)(b:Addr):Prop:=H b≠none/\∀o,H b=some o->¬Fz o
def Mx.lst {H:Hp}{b:Addr}{xs:List V}(h:H b=some (.lst xs)):Mx H b:=⟨by rw[h];simp,λys z=>by rw[h] at z;cases z;exact λy=>y⟩
theorem Mx.same {H H':Hp}{b:Addr}(h:Mx H b)(m:∀o,H b=some o->H' b=some o):Mx H' b:=by
 obtain⟨h1,h2⟩:=h
 cases e:H b with
 |none=>exact absurd e h1
 |some o=>
  refine⟨by rw[m o e];simp,λxs z=>?_⟩
  rw[m o e] at z
  cases z
  exact h2 o e
def Own.mx {K:Frag}{G H:Hp}{a:Addr}{d:D}(h:Own K G H a d):Mx H a:=by
 cases d <;> first |exact h.elim |skip
 ·obtain⟨xs,e,_⟩:=h;exact Mx.lst e
 ·rcases h with⟨k,e,_⟩ | ⟨k,e,_⟩ <;> exact⟨by rw[e];simp,λys z=>by rw[e] at z;cases z;exact λy=>y⟩
open Classical in
noncomputable def kQ (G H:Hp):Hp:=λb=>match G b with
 |some o=>some o
 |none=>match H b with
  |some o=>if Fz o then some o else none
  |none=>none
def pY {G H:Hp}:ak G (kQ G H):=λb o e=>by unfold kQ;rw[e]
theorem wI {G H:Hp}(s:ak G H){b:Addr}{o:HO}(e:H b=some o)(f:Fz o):kQ G H b=some o:=by
 unfold kQ
 cases q:G b with
 |some u=>have:=s b u q;rw[e] at this;cases this;rfl
 |none=>simp only[e];rw[Kn f]
theorem sC {G H:Hp}(s:ak G H):ak (kQ G H) H:=λb o e=>by
 unfold kQ at e
 cases q:G b with
 |some u=>rw[q] at e;cases e;exact s b _ q
 |none=>
  rw[q] at e
  cases q2:H b with
  |none=>rw[q2] at e;cases e
  |some u=>
   rw[q2] at e
   dsimp only at e
   split at e
   ·cases e;rfl
   ·cases e
theorem wa {G H H':Hp}(hh:ak H H'){b:Addr}(m:Mx H b):kQ G H' b=G b:=by
 unfold kQ
 cases q:G b with
 |some u=>rfl
 |none=>
  obtain⟨h1,h2⟩:=m
  cases e:H b with
  |none=>exact absurd e h1
  |some o=>
   simp only[hh b o e]
   rw[Ku (h2 o e)]
def mR {K:Frag}{G H:Hp}(s:ak G H){a:Addr}{xs:List V}(h:dA K H a xs):dA K (kQ G H) a xs:=by
 rcases h with (h | ⟨o,h⟩) |h
 ·exact .inl (.inl (wI s h trivial))
 ·exact .inl (.inr ⟨o,wI s h trivial⟩)
 ·exact .inr h
structure Fx where
 K:Frag
 H0:Hp
 G0:Hp
 par:List Addr
 ca:Str->Addr
 br:Nat->Bool
 bx:Option Addr
inductive Sl where
 |no |fz (d:D) |ow (d:D) |bx |br (d:D)
abbrev En:=List Sl
inductive Nv where
 |no |da (d:D) |bx
def Sl.val:Sl->Nv
 | .no=>.no
 | .fz d=>.da d
 | .ow d=>.da d
 | .br d=>.da d
 | .bx=>.bx
def vl (env:En):List Nv:=env.map Sl.val
def Je (Γ:Fx)(B:Option Addr)(G H:Hp)(i:Nat)(o:Option (Option V)):Sl->Prop
 | .no=>True
 | .fz d=>∃v,o=some (some v)/\Rp Γ.K G v d
 | .ow d=>∃a,o=some (some (.ref a))/\Γ.H0 a=none/\G a=none/\B≠some a/\Own Γ.K G H a d
 | .bx=>∃a,o=some (some (.ref a))/\B=some a
 | .br d=>Γ.br i=true/\∃a,o=some (some (.ref a))/\B≠some a/\a∉Γ.par/\Own Γ.K G H a d
structure SR (Γ:Fx)(B:Option Addr)(G H:Hp)(σ:St)(env:En)(β:Int):Prop where
 sub:ak G H
 old:ak Γ.G0 G
 new:∀b,Mx Γ.H0 b->Γ.G0 b=none->G b=none
 keep:∀b o,Γ.H0 b=some o->b∉Γ.par->H b=some o
 pin:∀b,b∈Γ.par->Mx H b
 fix:∀b,Γ.bx=some b->B=some b
 box:∀b,B=some b->H b=some (.lst [.int β])/\G b=none/\(b∈Γ.par\/Γ.H0 b=none)
 len:σ.length=env.length
 slot:∀(i:Nat) (s:Sl),env[i]? =some s->Je Γ B G H i (σ[i]?) s
 sep:∀(i j:Nat) (a:Addr) (d e:D),env[i]? =some (.ow d)->env[j]? =some (.ow e)->σ[i]? =some (some (.ref a))->σ[j]? =some (some (.ref a))->i=j
structure Ext (G H G' H':Hp):Prop where
 hh:ak H H'
 gg:ak G G'
 gh:ak G' H'
 on:∀b,Mx H b->G' b=G b
def Ext.refl {G H:Hp}(s:ak G H):Ext G H G H:=⟨ak.refl _,ak.refl _,s,λ_ _=>rfl⟩
def Ext.tups {G H H':Hp}(s:ak G H)(hh:ak H H'):Ext G H (kQ G H') H':=⟨hh,pY,sC (s.trans hh),λ_ m=>wa hh m⟩
def Ext.new {G H:Hp}(s:ak G H){p:Addr}{o:HO}(h:H p=none):Ext G H (upd G p o) (upd H p o):=by
 refine⟨ak.new h,ak.new (s.free h),λb u e=>?_,λb hb=>?_⟩
 ·by_cases z:b=p
  ·subst z;rw[aw] at e ⊢;exact e
  ·rw[ay z] at e ⊢;exact s b u e
 ·exact ay (λz=>hb.1 (by rw[z];exact h))
def Ext.own {G H:Hp}(s:ak G H){p:Addr}{o:HO}(h:H p=none):Ext G H G (upd H p o):=
 ⟨ak.new h,ak.refl _,s.trans (ak.new h),λ_ _=>rfl⟩
def Ext.trans {G H G1 H1 G2 H2:Hp}(x:Ext G H G1 H1)(y:Ext G1 H1 G2 H2):Ext G H G2 H2:=by
 refine⟨x.hh.trans y.hh,x.gg.trans y.gg,y.gh,λb hb=>?_⟩
 rw[y.on b (hb.same λo e=>x.hh b o e),x.on b hb]
section
variable {Γ:Fx}{B:Option Addr}{G H G' H':Hp}{σ:St}{env:En}{β:Int}
def SR.there (I:SR Γ B G H σ env β){b:Addr}(h:Γ.H0 b≠none):H b≠none:=by
 by_cases hp:b∈Γ.par
 ·exact (I.pin b hp).1
 ·cases e:Γ.H0 b with
  |none=>exact absurd e h
  |some o=>rw[I.keep b o e hp];simp
def SR.thereM (I:SR Γ B G H σ env β){b:Addr}(h:Mx Γ.H0 b):Mx H b:=by
 by_cases hp:b∈Γ.par
 ·exact I.pin b hp
 ·exact h.same λo e=>I.keep b o e hp
def SR.ext (I:SR Γ B G H σ env β)(x:Ext G H G' H'):SR Γ B G' H' σ env β:=by
 refine⟨x.gh,I.old.trans x.gg,λb h1 h2=>?_,λb o h1 h2=>x.hh b o (I.keep b o h1 h2),λb hb=>?_,I.fix,λb e=>?_,I.len,λi s e=>?_,I.sep⟩
 ·rw[x.on b (I.thereM h1)];exact I.new b h1 h2
 ·exact (I.pin b hb).same λo e=>x.hh b o e
 ·obtain⟨h1,h2,h3⟩:=I.box b e
  exact⟨x.hh b _ h1,by rw[x.on b (Mx.lst h1)];exact h2,h3⟩
 ·have q:=I.slot i s e
  cases s with
  |no=>trivial
  |fz d=>obtain⟨v,h1,h2⟩:=q;exact⟨v,h1,h2.mono x.gg⟩
  |ow d=>
   obtain⟨a,h1,h2,h3,h4,h5⟩:=q
   exact⟨a,h1,h2,by rw[x.on a h5.mx];exact h3,h4,h5.mono x.gg λo q=>x.hh a o q⟩
  |bx=>exact q
  |br d=>obtain⟨b1,a,h1,h4,hp,h5⟩:=q;exact⟨b1,a,h1,h4,hp,h5.mono x.gg λo q=>x.hh a o q⟩
def ig (env:En)(i:Nat):En:=match env[i]? with
 |some (.ow d)=>env.set i (.fz d)
 |_=>env
def bb (L:List Nat)(env:En):En:=L.foldl ig env
def cI (L M:List Nat)(env:En):bb (L ++ M) env=bb M (bb L env):=by unfold bb;rw[List.foldl_append]
def vt (env:En)(i:Nat)(s:Sl)(h:∀t,env[i]? =some t->t.val=s.val):vl (env.set i s)=vl env:=by
 unfold vl
 apply M8
 intro j
 rw[Kv,Kv,List.getElem?_set]
 by_cases e:i=j
 ·subst e
  by_cases hi:i < env.length
  ·simp only[LD,hi]
   have:=h _ (Kj hi)
   simp[Kj hi,this]
  ·simp only[LD,hi,Lh]
   rw[L4 (by omega)]
 ·simp[e]
def CM (env:En)(i:Nat):vl (ig env i)=vl env:=by
 unfold ig
 split
 ·rename_i d e
  exact vt _ _ _ λt ht=>by rw[e] at ht;cases ht;rfl
 ·rfl
theorem iJ (L:List Nat)(env:En):vl (bb L env)=vl env:=by
 unfold bb
 induction L generalizing env with
 |nil=>rfl
 |cons i L ih=>rw[MV,ih,CM]
theorem DL {i:Nat}{d:D}(h:(vl env)[i]? =some (.da d)):env[i]? =some (.fz d)\/env[i]? =some (.ow d)\/env[i]? =some (.br d):=by
 unfold vl at h
 rw[Kv] at h
 cases e:env[i]? with
 |none=>rw[e] at h;simp at h
 |some s=>
  rw[e] at h
  cases s with
  |no=>simp[Sl.val] at h
  |fz d'=>simp[Sl.val] at h;subst h;exact .inl rfl
  |ow d'=>simp[Sl.val] at h;subst h;exact .inr (.inl rfl)
  |bx=>simp[Sl.val] at h
  |br d'=>simp[Sl.val] at h;subst h;exact .inr (.inr rfl)
theorem HQ {i:Nat}(h:(vl env)[i]? =some .bx):env[i]? =some .bx:=by
 unfold vl at h
 rw[Kv] at h
 cases e:env[i]? with
 |none=>rw[e] at h;simp at h
 |some s=>
  rw[e] at h
  cases s with
  |bx=>rfl
  |_=>simp[Sl.val] at h
def SR.freeze (I:SR Γ B G H σ env β)(i:Nat)(hb:Γ.br i=false){d:D}(h:(vl env)[i]? =some (.da d)):∃G' v,SR Γ B G' H σ (ig env i) β/\ak G G'/\σ[i]? =some (some v)/\Rp Γ.K G' v d:=by
 rcases DL h with e |e |e
 ·obtain⟨v,h1,h2⟩:=I.slot i _ e
  exact⟨G,v,by unfold ig;rw[e];exact I,ak.refl _,h1,h2⟩
 rotate_left
 ·obtain⟨z,_⟩:=I.slot i _ e
  rw[hb] at z;cases z
 ·obtain⟨a,h1,h2,h3,h4,h5⟩:=I.slot i _ e
  obtain⟨o,ho⟩:=h5.obj
  have sG:ak G (upd G a o):=ak.new h3
  have hi:i < env.length:=(Kz.mp e).1
  have hr:Rp Γ.K (upd G a o) (.ref a) d:=h5.rp h3 sG λo' q=>by rw[ho] at q;cases q;exact aw
  refine⟨upd G a o,.ref a,?_,sG,h1,hr⟩
  unfold ig
  rw[e]
  refine⟨λb u q=>?_,I.old.trans sG,λb n1 n2=>?_,I.keep,I.pin,I.fix,λb q=>?_,by rw[Lx];exact I.len,λj s q=>?_,λj k c d1 d2 q1 q2 q3 q4=>?_⟩
  ·by_cases z:b=a
   ·subst z;rw[aw] at q;cases q;exact ho
   ·rw[ay z] at q;exact I.sub b u q
  ·rw[ay (λz=>n1.1 (by rw[z];exact h2))];exact I.new b n1 n2
  ·obtain⟨k1,k2,k3⟩:=I.box b q
   exact⟨k1,by rw[ay (λz=>h4 (by rw[<-z];exact q))];exact k2,k3⟩
  ·by_cases z:j=i
   ·subst z
    rw[KL hi] at q
    cases q
    exact⟨.ref a,h1,hr⟩
   ·rw[KH (Ne.symm z)] at q
    have w:=I.slot j s q
    cases s with
    |no=>trivial
    |fz d'=>obtain⟨v,w1,w2⟩:=w;exact⟨v,w1,w2.mono sG⟩
    |ow d'=>
     obtain⟨c,w1,w2,w3,w4,w5⟩:=w
     have ca:c≠a:=λz2=>z (I.sep j i c d' d q e w1 (by rw[z2];exact h1))
     exact⟨c,w1,w2,by rw[ay ca];exact w3,w4,w5.mono sG λo q=>q⟩
    |bx=>exact w
    |br d'=>obtain⟨b1,c,w1,w4,wp,w5⟩:=w;exact⟨b1,c,w1,w4,wp,w5.mono sG λo q=>q⟩
  ·have ne:∀{j:Nat} {d':D},(env.set i (Sl.fz d))[j]? =some (.ow d')->env[j]? =some (.ow d'):=λ{j d'} q=>by
    by_cases z:j=i
    ·subst z;rw[KL hi] at q;cases q
    ·rw[KH (Ne.symm z)] at q;exact q
   exact I.sep j k c d1 d2 (ne q1) (ne q2) q3 q4
theorem SR.bb (I:SR Γ B G H σ env β)(L:List Nat)(hb:∀i,i∈L->Γ.br i=false):∃G',SR Γ B G' H σ (bb L env) β/\ak G G':=by
 induction L generalizing env G with
 |nil=>exact⟨G,I,ak.refl _⟩
 |cons i L ih=>
  show ∃G',SR Γ B G' H σ (L2.bb L (ig env i)) β/\ak G G'
  have key:∃G1,SR Γ B G1 H σ (ig env i) β/\ak G G1:=by
   cases e:env[i]? with
   |none=>exact⟨G,by unfold ig;rw[e];exact I,ak.refl _⟩
   |some s=>
    cases s with
    |ow d=>
     obtain⟨G1,v,h1,h2,_⟩:=I.freeze i (hb i (Kr ..)) (d:=d) (by unfold vl;rw[Kv,e];rfl)
     exact⟨G1,h1,h2⟩
    |_=>exact⟨G,by unfold ig;rw[e];exact I,ak.refl _⟩
  obtain⟨G1,I1,s1⟩:=key
  obtain⟨G2,I2,s2⟩:=ih I1 λj hj=>hb j (Ko _ hj)
  exact⟨G2,I2,s1.trans s2⟩
def SR.set (I:SR Γ B G H σ env β){i:Nat}(hi:i < env.length){v:V}{d:D}(h:Rp Γ.K G v d):SR Γ B G H (σ.set i (some v)) (env.set i (.fz d)) β:=by
 have hs:i < σ.length:=by rw[I.len];exact hi
 refine⟨I.sub,I.old,I.new,I.keep,I.pin,I.fix,I.box,by rw[Lx,Lx];exact I.len,λj s q=>?_,λj k c d1 d2 q1 q2 q3 q4=>?_⟩
 ·by_cases z:j=i
  ·subst z
   rw[KL hi] at q
   cases q
   exact⟨v,by rw[KL hs],h⟩
  ·rw[KH (Ne.symm z)] at q ⊢
   exact I.slot j s q
 ·have ne:∀{j:Nat} {d':D},(env.set i (Sl.fz d))[j]? =some (.ow d')->j≠i/\env[j]? =some (.ow d'):=λ{j d'} q=>by
   by_cases z:j=i
   ·subst z;rw[KL hi] at q;cases q
   ·rw[KH (Ne.symm z)] at q;exact⟨z,q⟩
  obtain⟨n1,e1⟩:=ne q1
  obtain⟨n2,e2⟩:=ne q2
  rw[KH (Ne.symm n1)] at q3
  rw[KH (Ne.symm n2)] at q4
  exact I.sep j k c d1 d2 e1 e2 q3 q4
def SR.setOw (I:SR Γ B G H σ env β){i:Nat}(hi:i < env.length){a:Addr}{d:D}(h0:Γ.H0 a=none)(hg:G a=none)(hb:B≠some a)(h:Own Γ.K G H a d)(hn:∀(j:Nat) (d':D),env[j]? =some (.ow d')->j≠i->σ[j]?≠some (some (.ref a))):SR Γ B G H (σ.set i (some (.ref a))) (env.set i (.ow d)) β:=by
 have hs:i < σ.length:=by rw[I.len];exact hi
 refine⟨I.sub,I.old,I.new,I.keep,I.pin,I.fix,I.box,by rw[Lx,Lx];exact I.len,λj s q=>?_,λj k c d1 d2 q1 q2 q3 q4=>?_⟩
 ·by_cases z:j=i
  ·subst z
   rw[KL hi] at q
   cases q
   exact⟨a,by rw[KL hs],h0,hg,hb,h⟩
  ·rw[KH (Ne.symm z)] at q ⊢
   exact I.slot j s q
 ·by_cases z1:j=i
  ·by_cases z2:k=i
   ·rw[z1,z2]
   ·subst z1
    rw[KH (Ne.symm z2)] at q2 q4
    rw[KL hs] at q3
    cases q3
    exact absurd q4 (hn k d2 q2 z2)
  ·by_cases z2:k=i
   ·subst z2
    rw[KH (Ne.symm z1)] at q1 q3
    rw[KL hs] at q4
    cases q4
    exact absurd q3 (hn j d1 q1 z1)
   ·rw[KH (Ne.symm z1)] at q1 q3
    rw[KH (Ne.symm z2)] at q2 q4
    exact I.sep j k c d1 d2 q1 q2 q3 q4
def SR.fresh (I:SR Γ B G H σ env β){a:Addr}(h:H a=none):Γ.H0 a=none/\G a=none/\B≠some a/\∀(j:Nat) (d:D),env[j]? =some (.ow d)->σ[j]?≠some (some (.ref a)):=by
 have hB:B≠some a:=λz=>by rw[(I.box a z).1] at h;cases h
 refine⟨?_,I.sub.free h,hB,λj d e z=>?_⟩
 ·cases e:Γ.H0 a with
  |none=>rfl
  |some o=>exact absurd h (I.there (by rw[e];simp))
 ·obtain⟨c,h1,_,_,_,h5⟩:=I.slot j _ e
  rw[z] at h1
  cases h1
  obtain⟨o,ho⟩:=h5.obj
  rw[h] at ho;cases ho
def SR.write (I:SR Γ B G H σ env β)(hb:∀j,Γ.br j=false){i:Nat}{a:Addr}{d d':D}{o:HO}(e:env[i]? =some (.ow d))(ea:σ[i]? =some (some (.ref a)))(h:∀H',H' a=some o->ak G H'->Own Γ.K G H' a d'):SR Γ B G (upd H a o) σ (env.set i (.ow d')) β:=by
 obtain⟨a',h1,h2,h3,h4,h5⟩:=I.slot i _ e
 rw[ea] at h1;cases h1
 have hi:i < env.length:=(Kz.mp e).1
 have sub:ak G (upd H a o):=λb u q=>by rw[ay (λz=>by rw[z,h3] at q;cases q)];exact I.sub b u q
 refine⟨sub,I.old,I.new,λb u q n=>?_,λb q=>?_,I.fix,λb q=>?_,by rw[Lx];exact I.len,λj s q=>?_,λj k c d1 d2 q1 q2 q3 q4=>?_⟩
 ·rw[ay (λz=>by rw[z,h2] at q;cases q)];exact I.keep b u q n
 ·by_cases z:b=a
  ·subst z;exact (h _ aw sub).mx
  ·exact (I.pin b q).same λo e=>by rw[ay z];exact e
 ·obtain⟨k1,k2,k3⟩:=I.box b q
  exact⟨by rw[ay (λz=>h4 (by rw[<-z];exact q))];exact k1,k2,k3⟩
 ·by_cases z:j=i
  ·subst z
   rw[KL hi] at q
   cases q
   exact⟨a,ea,h2,h3,h4,h _ aw sub⟩
  ·rw[KH (Ne.symm z)] at q
   have w:=I.slot j s q
   cases s with
   |no=>trivial
   |fz d1=>exact w
   |ow d1=>
    obtain⟨c,w1,w2,w3,w4,w5⟩:=w
    have ca:c≠a:=λz2=>z (I.sep j i c d1 d q e w1 (by rw[z2];exact ea))
    exact⟨c,w1,w2,w3,w4,w5.mono (ak.refl _) λo q=>by rw[ay ca];exact q⟩
   |bx=>exact w
   |br d1=>obtain⟨b1,_⟩:=w;rw[hb j] at b1;cases b1
 ·have back:∀{j:Nat} {d1:D},(env.set i (Sl.ow d'))[j]? =some (.ow d1)->∃d2,env[j]? =some (.ow d2):=λ{j d1} q=>by
   by_cases z:j=i
   ·subst z;exact⟨d,e⟩
   ·rw[KH (Ne.symm z)] at q;exact⟨d1,q⟩
  obtain⟨_,b1⟩:=back q1
  obtain⟨_,b2⟩:=back q2
  exact I.sep j k c _ _ b1 b2 q3 q4
end
inductive R (α:Type) where
 |ok (a:α) (β:Int)
 |exc (c:Str)
 |bad
def R.bnd {α γ:Type}(r:R α)(k:α->Int->R γ):R γ:=match r with
 | .ok a β=>k a β
 | .exc c=>.exc c
 | .bad=>.bad
def R.of {α:Type}(o:Option α)(β:Int):R α:=match o with
 |some a=>.ok a β
 |none=>.bad
abbrev VF (α:Type):=List Nv->Int->R α
def Kp (Γ:Fx)(H':Hp):Prop:=∀b o,Γ.H0 b=some o->b∉Γ.par->H' b=some o
def Out {α:Type}(Γ:Fx)(E:XK)(r:R α)(P:α->Int->Prop):Prop:=match r with
 | .ok a β=>P a β
 | .exc c=>∀H',Kp Γ H'->E (.ref (Γ.ca c)) none H'
 | .bad=>False
section
variable {α γ:Type}{Γ:Fx}{E:XK}
theorem Out.bnd {r:R α}{k:α->Int->R γ}{P:γ->Int->Prop}(h:Out Γ E (r.bnd k) P):Out Γ E r λa β=>Out Γ E (k a β) P:=by
 cases r with
 |ok a β=>exact h
 |exc c=>exact h
 |bad=>exact h
theorem Out.imp {r:R α}{P P':α->Int->Prop}(h:Out Γ E r P)(i:∀a β,P a β->P' a β):Out Γ E r P':=by
 cases r with
 |ok a β=>exact i a β h
 |exc c=>exact h
 |bad=>exact h
theorem Out.of {o:Option α}{β:Int}{P:α->Int->Prop}(h:Out Γ E (R.of o β) P):∃a,o=some a/\P a β:=by
 cases o with
 |none=>exact h.elim
 |some a=>exact⟨a,rfl,h⟩
end
inductive Md where
 |b |v |w
def VO (K:Frag)(B:Option Addr)(H G' H':Hp):Md->D->V->Prop
 | .b,d,v=>j9 K B G' H' v d
 | .v,d,v=>Rp K G' v d
 | .w,d,v=>∃a,v=.ref a/\H a=none/\G' a=none/\Own K G' H' a d
def pT (Γ:Fx)(E:XK)(f:VF D)(L:List Nat)(md:Md):TE:=λσ H Q=>∃env G B β,SR Γ B G H σ env β/\
 Out Γ E (f (vl env) β) λd β'=>∀v G' H',SR Γ B G' H' σ (bb L env) β'->ak G G'->gx B H H'->VO Γ.K B H G' H' md d v->Q v H'
def SE (X:Cx)(Γ:Fx)(E:XK)(e:Expr)(f:VF D)(L:List Nat)(md:Md):Prop:=PE X e (pT Γ E f L md)
def qT (Γ:Fx)(E:XK)(f:VF Bool)(L:List Nat):TT:=λσ H Q=>∃env G B β,SR Γ B G H σ env β/\
 Out Γ E (f (vl env) β) λc β'=>∀G' H',SR Γ B G' H' σ (bb L env) β'->ak G G'->gx B H H'->Q c H'
def zf (X:Cx)(Γ:Fx)(E:XK)(e:Expr)(f:VF Bool)(L:List Nat):Prop:=PT X e (qT Γ E f L)
def si (X:Cx)(Γ:Fx)(E:XK)(e:Expr)(f:VF Bool)(L:List Nat):Prop:=PW X e (qT Γ E f L)
def aT (Γ:Fx)(E:XK)(f:VF (List D))(L:List Nat):TA:=λσ H Q=>∃env G B β,SR Γ B G H σ env β/\
 Out Γ E (f (vl env) β) λds β'=>∀vs G' H',SR Γ B G' H' σ (bb L env) β'->ak G G'->gx B H H'->b6 Γ.K G' vs ds->Q vs H'
def SA (X:Cx)(Γ:Fx)(E:XK)(es:List Expr)(f:VF (List D))(L:List Nat):Prop:=PA X es (aT Γ E f L)
def PE.post' {X:Cx}{e:Expr}{t u:TE}(h:PE X e t)(m:∀σ H Q,u σ H Q->t σ H Q):PE X e u:=λpins s σ H Q I q=>h pins s σ H Q I (m σ H Q q)
def PT.post {X:Cx}{e:Expr}{t u:TT}(h:PT X e t)(m:∀σ H Q,u σ H Q->t σ H Q):PT X e u:=λpins s σ H Q I q=>h pins s σ H Q I (m σ H Q q)
def PW.post {X:Cx}{e:Expr}{t u:TT}(h:PW X e t)(m:∀σ H Q,u σ H Q->t σ H Q):PW X e u:=λwh pins s σ H Q I q=>h wh pins s σ H Q I (m σ H Q q)
def PA.post {X:Cx}{es:List Expr}{t u:TA}(h:PA X es t)(m:∀σ H Q,u σ H Q->t σ H Q):PA X es u:=λpos pins s σ H Q I q=>h pos pins s σ H Q I (m σ H Q q)
def PS.post {X:Cx}{st:Stmt}{t u:TS}(h:PS X st t)(m:∀D σ H,u D σ H->t D σ H):PS X st u:=λpins s σ H D I q=>h pins s σ H D I (m D σ H q)
def dat:Option Nv->Option D
 |some (.da d)=>some d
 |_=>none
def gv (i:Nat):VF D:=λvs β=>R.of (dat vs[i]?) β
def cst (d:D):VF D:=λ_ β=>.ok d β
section
variable {X:Cx}{Γ:Fx}{E:XK}{e a b c:Expr}{f fa fb fc:VF D}{L La Lb Lc:List Nat}{md ma mb mc:Md}{pos:Pos}
theorem join_some {o:Option Nv}{d:D}(h:dat o=some d):o=some (.da d):=by
 cases o with
 |none=>cases h
 |some o=>cases o with
  |da x=>cases h;rfl
  |_=>cases h
def SR.letIn {B:Option Addr}{G H:Hp}{σ:St}{env:En}{β:Int}(I:SR Γ B G H σ env β){p:Addr}{d:D}(h0:Γ.H0 p=none)(hg:G p=none)(hb:B≠some p)(hn:∀(j:Nat) (d':D),env[j]? =some (.ow d')->σ[j]?≠some (some (.ref p)))(h:Own Γ.K G H p d) :
  ∃G',SR Γ B G' H σ env β/\ak G G'/\Rp Γ.K G' (.ref p) d:=by
 obtain⟨o,ho⟩:=h.obj
 have sG:ak G (upd G p o):=ak.new hg
 refine⟨upd G p o,⟨λb u q=>?_,I.old.trans sG,λb n1 n2=>?_,I.keep,I.pin,I.fix,λb q=>?_,I.len,λj s q=>?_,I.sep⟩,sG,h.rp hg sG λo' q=>by rw[ho] at q;cases q;exact aw⟩
 ·by_cases z:b=p
  ·subst z;rw[aw] at q;cases q;exact ho
  ·rw[ay z] at q;exact I.sub b u q
 ·rw[ay (λz=>n1.1 (by rw[z];exact h0))];exact I.new b n1 n2
 ·obtain⟨k1,k2,k3⟩:=I.box b q
  exact⟨k1,by rw[ay (λz=>hb (by rw[<-z];exact q))];exact k2,k3⟩
 ·have w:=I.slot j s q
  cases s with
  |no=>trivial
  |fz d'=>obtain⟨v,w1,w2⟩:=w;exact⟨v,w1,w2.mono sG⟩
  |ow d'=>
   obtain⟨c,w1,w2,w3,w4,w5⟩:=w
   have ca:c≠p:=λz2=>hn j d' q (by rw[<-z2];exact w1)
   exact⟨c,w1,w2,by rw[ay ca];exact w3,w4,w5.mono sG λo q=>q⟩
  |bx=>exact w
  |br d'=>obtain⟨b1,c,w1,w4,wp,w5⟩:=w;exact⟨b1,c,w1,w4,wp,w5.mono sG λo q=>q⟩
def xi {env:En}{i j:Nat}{d:D}(h:(ig env i)[j]? =some (.ow d)):env[j]? =some (.ow d):=by
 unfold ig at h
 split at h
 ·rename_i d' e
  by_cases z:i=j
  ·subst z
   rw[KL (Kz.mp e).1] at h;cases h
  ·rw[KH z] at h;exact h
 ·exact h
theorem qP {L:List Nat}{env:En}{j:Nat}{d:D}(h:(bb L env)[j]? =some (.ow d)):env[j]? =some (.ow d):=by
 unfold bb at h
 induction L generalizing env with
 |nil=>exact h
 |cons i L ih=>exact xi (ih h)
def SR.letW {B:Option Addr}{G H G' H':Hp}{σ:St}{env:En}{β β':Int}{L:List Nat}{d:D}{v:V}(I:SR Γ B G H σ env β)(I':SR Γ B G' H' σ (L2.bb L env) β')(h:VO Γ.K B H G' H' .w d v):∃G2,SR Γ B G2 H' σ (L2.bb L env) β'/\ak G' G2/\Rp Γ.K G2 v d:=by
 obtain⟨p,rfl,h1,h2,h3⟩:=h
 obtain⟨q1,q2,q3,q4⟩:=I.fresh h1
 exact I'.letIn q1 h2 q3 (λj d' e=>q4 j d' (qP e)) h3
def SE.wv (h:SE X Γ E e f L .w):SE X Γ E e f L .v:=by
 refine PE.post' h λσ H Q ⟨env,G,B,β,I,o⟩=>⟨env,G,B,β,I,o.imp λd β' k v G' H' I' s m vo=>?_⟩
 obtain⟨G2,I2,s2,r⟩:=I.letW I' vo
 exact k v G2 H' I2 (s.trans s2) m r
theorem VO.brw {B:Option Addr}{H G' H':Hp}{d:D}{v:V}{K:Frag}(h:VO K B H G' H' md d v)(hB:∀x,B=some x->H x≠none):j9 K B G' H' v d:=by
 cases md with
 |b=>exact h
 |v=>exact .inl h
 |w=>
  obtain⟨p,rfl,h1,h2,h3⟩:=h
  exact .inr ⟨p,rfl,λz=>hB p z h1,h3⟩
def SR.boxThere {B:Option Addr}{G H:Hp}{σ:St}{env:En}{β:Int}(I:SR Γ B G H σ env β):∀x,B=some x->H x≠none:=λx e=>by rw[(I.box x e).1];simp
def af (i:Nat){x:Str}(hN:X.N[i]? =some x:=by rfl)(hv:vL X.env.scope x:=by first |exact Or.inl rfl |exact Or.inr (Or.inl rfl) |exact Or.inr (Or.inr rfl))(hd:(x == ("__debug__":Str))=false:=by decide)
  (hcd:(x == ("__classdict__":Str))=false:=by decide):SE X Γ E (.Name x pos) (gv i) [] .b:=by
 refine PE.post' (iL hN hv hd hcd) λσ H Q ⟨env,G,B,β,I,o⟩=>?_
 obtain⟨d,e,k⟩:=o.of
 have e:=join_some e
 rcases DL e with q |q |q
 ·obtain⟨v,h1,h2⟩:=I.slot i _ q
  exact⟨v,h1,k v G H I (ak.refl _) (gx.refl _ _) (.inl h2)⟩
 ·obtain⟨p,h1,h2,h3,h4,h5⟩:=I.slot i _ q
  exact⟨.ref p,h1,k _ G H I (ak.refl _) (gx.refl _ _) (.inr ⟨p,rfl,h4,h5⟩)⟩
 ·obtain⟨_,p,h1,h4,_,h5⟩:=I.slot i _ q
  exact⟨.ref p,h1,k _ G H I (ak.refl _) (gx.refl _ _) (.inr ⟨p,rfl,h4,h5⟩)⟩
def aA (i:Nat)(hb:Γ.br i=false){x:Str}(hN:X.N[i]? =some x:=by rfl)(hv:vL X.env.scope x:=by first |exact Or.inl rfl |exact Or.inr (Or.inl rfl) |exact Or.inr (Or.inr rfl))(hd:(x == ("__debug__":Str))=false:=by decide)
  (hcd:(x == ("__classdict__":Str))=false:=by decide):SE X Γ E (.Name x pos) (gv i) [i] .v:=by
 refine PE.post' (iL hN hv hd hcd) λσ H Q ⟨env,G,B,β,I,o⟩=>?_
 obtain⟨d,e,k⟩:=o.of
 obtain⟨G',v,I',s,h1,h2⟩:=I.freeze i hb (join_some e)
 exact⟨v,h1,k v G' H I' s (gx.refl _ _) h2⟩
def z5 {v:V}{d:D}(h:PE X e (tC v))(r:∀G,Rp Γ.K G v d):SE X Γ E e (cst d) [] .v:=by
 refine PE.post' h λσ H Q ⟨env,G,B,β,I,o⟩=>?_
 exact o v G H I (ak.refl _) (gx.refl _ _) (r G)
def ax {i:Int}{j}:SE X Γ E (.Constant (.int i) j pos) (cst (.int i)) [] .v:=z5 qN λ_=>.int i
def jk {i:Bool}{j}:SE X Γ E (.Constant (.bool i) j pos) (cst (.bool i)) [] .v:=z5 wW λ_=>.bl i
def ES {j}:SE X Γ E (.Constant .none j pos) (cst .none) [] .v:=z5 EL λ_=>.non
def qY {x:Str}{j}:SE X Γ E (.Constant (.str x) j pos) (cst (.str x)) [] .v:=z5 Ay λ_=>.str x
def CL {x:Str}{i:Int}{t:Tok}(hg:Gl X x)(hm:X.mg x=some (.int i t))(hd:(x == ("__debug__":Str))=false:=by decide):SE X Γ E (.Name x pos) (cst (.int i)) [] .v:=z5 (CZ hg hm (show RelV (.int i) _ from⟨_,rfl⟩) hd) λ_=>.int i
def two {W:V->V->Hp->Prop}{B:Option Addr}{G H:Hp}{σ:St}{env:En}{β:Int}(I:SR Γ B G H σ env β)
  (h:Out Γ E (fa (vl env) β) λd1 β1=>Out Γ E (fb (vl env) β1) λd2 β2=>∀x y G2 H2,SR Γ B G2 H2 σ (bb (La ++ Lb) env) β2->ak G G2->gx B H H2->j9 Γ.K B G2 H2 x d1->j9 Γ.K B G2 H2 y d2->W x y H2) :
  pT Γ E fa La ma σ H λx H1=>pT Γ E fb Lb mb σ H1 λy H2=>W x y H2:=by
 refine⟨env,G,B,β,I,h.imp λd1 β1 h x G1 H1 I1 s1 m1 vx=>⟨bb La env,G1,B,β1,I1,?_⟩⟩
 rw[iJ]
 refine h.imp λd2 β2 k y G2 H2 I2 s2 m2 vy=>?_
 refine k x y G2 H2 (by rw[cI];exact I2) (s1.trans s2) (m1.trans m2) ((vx.brw I.boxThere).mono s2 m2) (vy.brw I1.boxThere)
def ku (K:Frag)(r:R2)(g:D->D->Option D)(md:Md):Prop:=∀(B:Option Addr) (G H:Hp) (x y:V) (dx dy d:D) (Q:VK),ak G H->(∀x,B=some x->H x≠none)->j9 K B G H x dx->j9 K B G H y dy->g dx dy=some d->
 (∀v G' H',Ext G H G' H'->VO K B H G' H' md d v->Q v H')->r x y H Q
def f2 (fa fb:VF D)(g:D->D->Option D):VF D:=λvs β=>(fa vs β).bnd λx β1=>(fb vs β1).bnd λy β2=>R.of (g x y) β2
theorem fM {B:Option Addr}{H H2:Hp}(m:gx B H H2)(hB:∀x,B=some x->H2 x≠none){p:Addr}(h:H2 p=none):H p=none:=by
 cases e:H p with
 |none=>rfl
 |some o=>rw[m p o e λz=>hB p z h] at h;cases h
theorem VO.back {K:Frag}{B:Option Addr}{H H2 G' H':Hp}{d:D}{v:V}(h:VO K B H2 G' H' md d v)(m:gx B H H2)(hB:∀x,B=some x->H2 x≠none):VO K B H G' H' md d v:=by
 cases md with
 |b=>exact h
 |v=>exact h
 |w=>obtain⟨p,e,h1,h2,h3⟩:=h;exact⟨p,e,fM m hB h1,h2,h3⟩
def lb {r:R2}{g:D->D->Option D}{Q:VK}(pr:ku Γ.K r g md){B:Option Addr}{G H:Hp}{σ:St}{env:En}{β:Int}(I:SR Γ B G H σ env β)
  (h:Out Γ E (f2 fa fb g (vl env) β) λd β'=>∀v G' H',SR Γ B G' H' σ (bb (La ++ Lb) env) β'->ak G G'->gx B H H'->VO Γ.K B H G' H' md d v->Q v H') :
  pT Γ E fa La ma σ H λx H1=>pT Γ E fb Lb mb σ H1 λy H2=>r x y H2 Q:=by
 refine two I (h.bnd.imp λd1 β1 h=>h.bnd.imp λd2 β2 h x y G2 H2 I2 s2 m2 bx by'=>?_)
 obtain⟨d,e,k⟩:=h.of
 refine pr B G2 H2 x y d1 d2 d Q I2.sub I2.boxThere bx by' e λv G' H' x' vo=>?_
 exact k v G' H' (I2.ext x') (s2.trans x'.gg) (m2.trans (x'.hh.mov B)) (vo.back m2 I2.boxThere)
def bg {op:Operator}{r:R2}{g:D->D->Option D}(ho:jW X (binaryOp op) r)(pr:ku Γ.K r g md)(ha:SE X Γ E a fa La ma)(hb:SE X Γ E b fb Lb mb):SE X Γ E (.BinOp a op b pos) (f2 fa fb g) (La ++ Lb) md:=
 PE.post' (pP ho ha hb) λσ H Q ⟨env,G,B,β,I,o⟩=>lb pr I o
def rS {op:CmpOp}{r:R2}{g:D->D->Option D}(ho:jW X (compareOp op) r)(pr:ku Γ.K r g md)(ha:SE X Γ E a fa La ma)(hb:SE X Γ E b fb Lb mb)(hm:behindInMarks op b=false):SE X Γ E (.Compare a [op] [b] pos) (f2 fa fb g) (La ++ Lb) md:=
 PE.post' (C5 ho ha hb hm) λσ H Q ⟨env,G,B,β,I,o⟩=>lb pr I o
def bE {r:R2}{g:D->D->Option D}(hr:A5 X r)(pr:ku Γ.K r g md)(ha:SE X Γ E a fa La ma)(hb:SE X Γ E b fb Lb mb)(hs:xl b):SE X Γ E (.Subscript a b pos) (f2 fa fb g) (La ++ Lb) md:=
 PE.post' (jY hr ha hb hs) λσ H Q ⟨env,G,B,β,I,o⟩=>lb pr I o
def xZ (K:Frag)(r:V->Hp->VK->Prop)(g:D->Option D)(md:Md):Prop:=∀(B:Option Addr) (G H:Hp) (x:V) (dx d:D) (Q:VK),ak G H->(∀x,B=some x->H x≠none)->j9 K B G H x dx->g dx=some d->
 (∀v G' H',Ext G H G' H'->VO K B H G' H' md d v->Q v H')->r x H Q
def f1 (fa:VF D)(g:D->Option D):VF D:=λvs β=>(fa vs β).bnd λx β1=>R.of (g x) β1
def gH {r:V->Hp->VK->Prop}{g:D->Option D}{Q:VK}(pr:xZ Γ.K r g md){B:Option Addr}{G H:Hp}{σ:St}{env:En}{β:Int}(I:SR Γ B G H σ env β)
  (h:Out Γ E (f1 fa g (vl env) β) λd β'=>∀v G' H',SR Γ B G' H' σ (bb La env) β'->ak G G'->gx B H H'->VO Γ.K B H G' H' md d v->Q v H') :
  pT Γ E fa La ma σ H λx H1=>r x H1 Q:=by
 refine⟨env,G,B,β,I,h.bnd.imp λd1 β1 h x G1 H1 I1 s1 m1 vx=>?_⟩
 obtain⟨d,e,k⟩:=h.of
 refine pr B G1 H1 x d1 d Q I1.sub I1.boxThere (vx.brw I.boxThere) e λv G' H' x' vo=>?_
 exact k v G' H' (I1.ext x') (s1.trans x'.gg) (m1.trans (x'.hh.mov B)) (vo.back m1 I1.boxThere)
def wH {op:UnaryOp}{r:V->Hp->VK->Prop}{g:D->Option D}(ho:Iu X (unaryOp op) r)(pr:xZ Γ.K r g md)(ha:SE X Γ E a fa La ma):SE X Γ E (.UnaryOp op a pos) (f1 fa g) La md:=
 PE.post' (GB ho ha) λσ H Q ⟨env,G,B,β,I,o⟩=>gH pr I o
def ba {id:String}{r:List V->Hp->VK->Prop}{g:D->Option D}{x:Str}{p:Pos}(hc:cp X (.builtin id) r)(pr:xZ Γ.K (λx=>r [x]) g md)(hg:Gl X x)(hm:X.mg x=none)(hv:bootBuiltins x=some (.builtin id))(ha:SE X Γ E a fa La ma)(hn:x≠"__name__":=by decide)(hdb:(x == ("__debug__":Str))=false:=by decide)
  (he:starEach [a] X.env=(false,eval a X.env) :: starEach [] X.env:=by rfl):SE X Γ E (.Call (.Name x p) [a] [] pos) (f1 fa g) La md:=
 PE.post' (g7 hc hg hm hv (aK ha bq he) hn hdb he) λσ H Q ⟨env,G,B,β,I,o⟩=>gH (r:=λx=>r [x]) pr I o
def nQ {id:String}{r:List V->Hp->VK->Prop}{g:D->Option D}{x:Str}{p:Pos}(hc:cp X (.type id) r)(pr:xZ Γ.K (λx=>r [x]) g md)(hg:Gl X x)(hm:X.mg x=none)(hv:bootBuiltins x=some (.type id))(ha:SE X Γ E a fa La ma)(hn:x≠"__name__":=by decide)(hdb:(x == ("__debug__":Str))=false:=by decide)
  (he:starEach [a] X.env=(false,eval a X.env) :: starEach [] X.env:=by rfl):SE X Γ E (.Call (.Name x p) [a] [] pos) (f1 fa g) La md:=
 PE.post' (fO hc hg hm hv (aK ha bq he) hn hdb he) λσ H Q ⟨env,G,B,β,I,o⟩=>gH (r:=λx=>r [x]) pr I o
def ni {id:String}{r:List V->Hp->VK->Prop}{g:D->D->Option D}{x:Str}{p:Pos}(hc:cp X (.builtin id) r)(pr:ku Γ.K (λx y=>r [x,y]) g md)(hg:Gl X x)(hm:X.mg x=none)(hv:bootBuiltins x=some (.builtin id))(ha:SE X Γ E a fa La ma)(hb:SE X Γ E b fb Lb mb)(hn:x≠"__name__":=by decide)(hdb:(x == ("__debug__":Str))=false:=by decide)
  (he:starEach [a,b] X.env=(false,eval a X.env) :: starEach [b] X.env:=by rfl) (he2:starEach [b] X.env=(false,eval b X.env) :: starEach [] X.env:=by rfl) (hpl:(backTo pos (starEach [b] X.env)).any (·.1)=false:=by rfl):SE X Γ E (.Call (.Name x p) [a,b] [] pos) (f2 fa fb g) (La ++ Lb) md:=
 PE.post' (g7 hc hg hm hv (aK ha (aK hb bq he2) he) hn hdb he hpl) λσ H Q ⟨env,G,B,β,I,o⟩=>lb (r:=λx y=>r [x,y]) pr I o
def gk (fa fb:VF D):VF D:=λvs β=>(fa vs β).bnd λx β1=>match x with
 | .bool true=>fb vs β1
 | .bool false=>.ok (.bool false) β1
 |_=>.bad
def km {op}(h:SE X Γ E a fa La md):SE X Γ E (.BoolOp op [a] pos) fa La md:=Ep h
theorem kc {rest:List Expr}(ha:SE X Γ E a fa La ma)(hb:SE X Γ E (.BoolOp .And (b :: rest) pos) fb Lb .v)(hbr:∀i,i∈Lb->Γ.br i=false):SE X Γ E (.BoolOp .And (a :: b :: rest) pos) (gk fa fb) (La ++ Lb) .v:=by
 refine PE.post' (FN ha hb) λσ H Q ⟨env,G,B,β,I,o⟩=>?_
 refine⟨env,G,B,β,I,o.bnd.imp λd1 β1 h x G1 H1 I1 s1 m1 vx=>?_⟩
 have bx:=vx.brw I.boxThere
 cases d1 with
 |bool c=>
  obtain rfl:=bx.bool
  refine⟨c,rfl,?_⟩
  cases c with
  |true=>exact sN ⟨_,G1,B,β1,I1,by rw[iJ];exact h.imp λd β' k v G' H' I' s' m' vo=>k v G' H' (by rw[cI];exact I') (s1.trans s') (m1.trans m') vo⟩
  |false=>
   obtain⟨G2,I2,s2⟩:=I1.bb Lb hbr
   exact t9 (h _ G2 H1 (by rw[cI];exact I2) (s1.trans s2) m1 (.bl false))
 |_=>exact h.elim
def xU:D->Option D
 | .bool c=>some (.bool (!c))
 |_=>none
theorem uS (ha:SE X Γ E a fa La ma):SE X Γ E (.UnaryOp .Not a pos) (f1 fa xU) La .v:=by
 refine PE.post' (E6 ha) λσ H Q ⟨env,G,B,β,I,o⟩=>?_
 refine gH (r:=λx H1 Q=>∃c,x=.bl c/\Q (.bl (!c)) H1) ?_ I o
 intro B G H x dx d Q s hB bx e k
 cases dx with
 |bool c=>
  obtain rfl:=bx.bool
  cases e
  exact⟨c,rfl,k _ G H (Ext.refl s) (.bl _)⟩
 |_=>cases e
def Ff:D->Option Bool
 | .none=>some false
 | .bool b=>some b
 | .int i=>some (i != 0)
 | .str y=>if y.length<=sizeLine then some ((y.length:Int) != 0) else none
 | .list ds=>some (!ds.isEmpty)
 | .tuple ds=>some (!ds.isEmpty)
 | .dict _=>none
def oB (fa:VF D):VF Bool:=λvs β=>(fa vs β).bnd λx β1=>R.of (Ff x) β1
def lZ {K:Frag}{G:Hp}{xs:List V}{ds:List D}(r:b6 K G xs ds):(!ds.isEmpty)= !xs.isEmpty:=by cases r <;> rfl
theorem fj (hK:X.K=Γ.K)(ha:SE X Γ E a fa La ma)(he:∀whole,isTrue a X.env whole=(do let v <-whole;standAt a.pos;holding [v] (truthy v)):=by intro _;rfl):zf X Γ E a (oB fa) La:=by
 refine PT.post (AL ha he) λσ H Q ⟨env,G,B,β,I,o⟩=>?_
 refine⟨env,G,B,β,I,o.bnd.imp λd1 β1 h x G1 H1 I1 s1 m1 vx=>?_⟩
 obtain⟨c,e,k⟩:=h.of
 have bx:=vx.brw I.boxThere
 refine⟨c,?_,k G1 H1 I1 s1 m1⟩
 rw[hK]
 cases d1 with
 |none=>obtain rfl:=bx.none;cases e;rfl
 |bool b=>obtain rfl:=bx.bool;cases e;rfl
 |int i=>obtain rfl:=bx.int;cases e;rfl
 |str y=>
  obtain rfl:=bx.str
  simp only[Ff] at e
  split at e
  ·cases e;exact⟨by assumption,rfl⟩
  ·cases e
 |list ds=>obtain⟨p,xs,rfl,hq,r⟩:=bx.list I1.sub;cases e;exact .inl ⟨xs,.inl hq,lZ r⟩
 |tuple ds=>obtain⟨p,xs,rfl,hq,r⟩:=bx.tuple I1.sub;cases e;exact .inr (.inl ⟨xs,hq,lZ r⟩)
 |dict ds=>cases e
def eJ (fa:VF D):VF Bool:=λvs β=>(fa vs β).bnd λx β1=>match x with
 | .bool c=>.ok c β1
 |_=>.bad
theorem bY {op:CmpOp}{r:R2}{g:D->D->Option D}(ho:jW X (compareOp op) r)(pr:ku Γ.K r g .v)(ha:SE X Γ E a fa La ma)(hb:SE X Γ E b fb Lb mb)(hm:behindInMarks op b=false):zf X Γ E (.Compare a [op] [b] pos) (eJ (f2 fa fb g)) (La ++ Lb):=by
 refine PT.post (CA ho ha hb hm) λσ H Q ⟨env,G,B,β,I,o⟩=>?_
 refine lb pr I (o.bnd.imp λd β' h v G' H' I' s' m' vo=>?_)
 cases d with
 |bool c=>cases vo;exact⟨c,rfl,h G' H' I' s' m'⟩
 |_=>exact h.elim
def rV (t:VF Bool):VF Bool:=λvs β=>(t vs β).bnd λc β1=>.ok (!c) β1
def BS (t u:VF Bool):VF Bool:=λvs β=>(t vs β).bnd λc β1=>if c=true then u vs β1 else .ok false β1
def oo (t u:VF Bool):VF Bool:=λvs β=>(t vs β).bnd λc β1=>if c=true then .ok true β1 else u vs β1
variable {ta tb tc:VF Bool}
def fk (ha:zf X Γ E a ta La):zf X Γ E (.UnaryOp .Not a pos) (rV ta) La:=by
 refine PT.post (Gh ha) λσ H Q ⟨env,G,B,β,I,o⟩=>?_
 exact⟨env,G,B,β,I,o.bnd.imp λc β1 h=>h⟩
def si.t (h:si X Γ E e ta La):zf X Γ E e ta La:=PW.pt h
def rA (ha:zf X Γ E a ta La):si X Γ E (.BoolOp .And [a] pos) ta La:=wA ha
def lK (ha:zf X Γ E a ta La):si X Γ E (.BoolOp .Or [a] pos) ta La:=EZ ha
theorem uW {rest:List Expr}(ha:zf X Γ E a ta La)(hb:si X Γ E (.BoolOp .And (b :: rest) pos) tb Lb)(hbr:∀i,i∈Lb->Γ.br i=false):si X Γ E (.BoolOp .And (a :: b :: rest) pos) (BS ta tb) (La ++ Lb):=by
 refine PW.post (zU ha hb) λσ H Q ⟨env,G,B,β,I,o⟩=>?_
 refine⟨env,G,B,β,I,o.bnd.imp λc β1 h G1 H1 I1 s1 m1=>?_⟩
 cases c with
 |true=>exact sN ⟨_,G1,B,β1,I1,by rw[iJ];exact Out.imp h λd β' k G' H' I' s' m'=>k G' H' (by rw[cI];exact I') (s1.trans s') (m1.trans m')⟩
 |false=>
  obtain⟨G2,I2,s2⟩:=I1.bb Lb hbr
  exact t9 (h G2 H1 (by rw[cI];exact I2) (s1.trans s2) m1)
theorem pR {rest:List Expr}(ha:zf X Γ E a ta La)(hb:si X Γ E (.BoolOp .Or (b :: rest) pos) tb Lb)(hbr:∀i,i∈Lb->Γ.br i=false):si X Γ E (.BoolOp .Or (a :: b :: rest) pos) (oo ta tb) (La ++ Lb):=by
 refine PW.post (Hk ha hb) λσ H Q ⟨env,G,B,β,I,o⟩=>?_
 refine⟨env,G,B,β,I,o.bnd.imp λc β1 h G1 H1 I1 s1 m1=>?_⟩
 cases c with
 |true=>
  obtain⟨G2,I2,s2⟩:=I1.bb Lb hbr
  exact sN (h G2 H1 (by rw[cI];exact I2) (s1.trans s2) m1)
 |false=>exact t9 ⟨_,G1,B,β1,I1,by rw[iJ];exact Out.imp h λd β' k G' H' I' s' m'=>k G' H' (by rw[cI];exact I') (s1.trans s') (m1.trans m')⟩
def Kd (t:VF Bool)(fa fb:VF D):VF D:=λvs β=>(t vs β).bnd λc β1=>if c=true then fa vs β1 else fb vs β1
def ah:VF (List D):=λ_ β=>.ok [] β
def aa (fa:VF D)(fr:VF (List D)):VF (List D):=λvs β=>(fa vs β).bnd λx β1=>(fr vs β1).bnd λxs β2=>.ok (x :: xs) β2
variable {fr:VF (List D)}{es:List Expr}
def aq:SA X Γ E [] ah []:=PA.post bq λσ H Q ⟨env,G,B,β,I,o⟩=>o [] G H I (ak.refl _) (gx.refl _ _) .nil
def ae (ha:SE X Γ E a fa La .v)(hr:SA X Γ E es fr Lb)(hs:starEach (a :: es) X.env=(false,eval a X.env) :: starEach es X.env:=by rfl):SA X Γ E (a :: es) (aa fa fr) (La ++ Lb):=by
 refine PA.post (aK ha hr hs) λσ H Q ⟨env,G,B,β,I,o⟩=>?_
 refine⟨env,G,B,β,I,o.bnd.imp λd1 β1 h x G1 H1 I1 s1 m1 vx=>⟨bb La env,G1,B,β1,I1,?_⟩⟩
 rw[iJ]
 refine h.bnd.imp λds β2 k xs G2 H2 I2 s2 m2 r=>?_
 exact k (x :: xs) G2 H2 (by rw[cI];exact I2) (s1.trans s2) (m1.trans m2) (.cons (vx.mono s2) r)
def cB (fr:VF (List D)):VF D:=λvs β=>(fr vs β).bnd λds β1=>if ds.length<=sizeLine then .ok (.tuple ds) β1 else .bad
def bI (fr:VF (List D)):VF D:=λvs β=>(fr vs β).bnd λds β1=>if ds.length<=sizeLine then .ok (.list ds) β1 else .bad
def iu {x1}(h:SA X Γ E es fr L):SE X Γ E (.Tuple es x1 pos) (cB fr) L .v:=by
 refine PE.post' (u4 h) λσ H Q ⟨env,G,B,β,I,o⟩=>?_
 refine⟨env,G,B,β,I,o.bnd.imp λds β1 k xs G1 H1 I1 s1 m1 r=>?_⟩
 by_cases hz:ds.length<=sizeLine
 ·rw[Kn hz] at k
  refine⟨by rw[r.len];exact hz,λp hp=>?_⟩
  have x:=Ext.new I1.sub (o:=.tup xs) hp
  exact k _ _ _ (I1.ext x) (s1.trans x.gg) (m1.trans (x.hh.mov B)) (.tup (.inl (.inl aw)) (r.mono x.gg))
 ·rw[Ku hz] at k;exact k.elim
def b7 (h:SA X Γ E es fr L):SE X Γ E (.List es pos) (bI fr) L .w:=by
 refine PE.post' (A8 h) λσ H Q ⟨env,G,B,β,I,o⟩=>?_
 refine⟨env,G,B,β,I,o.bnd.imp λds β1 k xs G1 H1 I1 s1 m1 r=>?_⟩
 by_cases hz:ds.length<=sizeLine
 ·rw[Kn hz] at k
  refine⟨by rw[r.len];exact hz,λp hp=>?_⟩
  have x:=Ext.own I1.sub (o:=.lst xs) hp
  exact k _ _ _ (I1.ext x) s1 (m1.trans (x.hh.mov B)) ⟨p,rfl,fM m1 I1.boxThere hp,I1.sub.free hp,xs,aw,r⟩
 ·rw[Ku hz] at k;exact k.elim
inductive FR where
 |ok (d:D) (fresh:Bool)
 |exc (c:Str)
 |bad
def FV (K:Frag)(H G' H':Hp)(fr:Bool)(d:D)(v:V):Prop:=if fr=true then ∃a,v=.ref a/\H a=none/\G' a=none/\Own K G' H' a d else Rp K G' v d
def BQ (K:Frag)(ca:Str->Addr)(n:Nat)(F:List D->FR):Sp:=λvs H Q E=>∃G ds,ak G H/\ds.length=n/\b6 K G vs ds/\match F ds with
 | .ok d fr=>∀v G' H',ak H H'->ak G G'->ak G' H'->(∀b,Mx H b->G b=none->G' b=none)->FV K H G' H' fr d v->Q v H'
 | .exc c=>∀H',ak H H'->E (.ref (ca c)) none H'
 | .bad=>False
structure cA (P:Program)(w:World)(K:Frag)(mg:Str->Option Value)(base:Heap)(ca:Str->Addr)(x:Str)(ps:List Str)(k:Nat)(F:List D->FR):Prop where
 ex:∃f fd,mg x=some (.ref f)/\PySem.W.keepIn K (.ref f)=true/\Binds K fd ps []/\eQ P w K mg base (mf P w) k f fd ps (BQ K ca ps.length F)
 len:∀ds,F ds≠.bad->ds.length=ps.length
def au (F:List D->FR)(fr:VF (List D)):VF D:=λvs β=>(fr vs β).bnd λds β1=>match F ds with
 | .ok d _=>.ok d β1
 | .exc c=>.exc c
 | .bad=>.bad
def sy (F:List D->FR)(fr:VF (List D)):VF D:=λvs β=>(fr vs β).bnd λds β1=>match F ds with
 | .ok d true=>.ok d β1
 | .ok _ false=>.bad
 | .exc c=>.exc c
 | .bad=>.bad
def SR.called {B:Option Addr}{G1 H1 G2 H2:Hp}{σ:St}{env:En}{β:Int}(I1:SR Γ B G1 H1 σ env β)(h:ak H1 H2)(g:ak G1 G2)(s:ak G2 H2)(n:∀b,Mx H1 b->G1 b=none->G2 b=none):SR Γ B G2 H2 σ env β/\gx B H1 H2:=by
 refine⟨⟨s,I1.old.trans g,λb n1 n2=>?_,λb o e np=>h b o (I1.keep b o e np),λb hb=>?_,I1.fix,λb e=>?_,I1.len,λi t e=>?_,I1.sep⟩,h.mov B⟩
 ·exact n b (I1.thereM n1) (I1.new b n1 n2)
 ·exact (I1.pin b hb).same λo e=>h b o e
 ·obtain⟨h1,h2,h3⟩:=I1.box b e
  exact⟨h b _ h1,n b (Mx.lst h1) h2,h3⟩
 ·have q:=I1.slot i t e
  cases t with
  |no=>trivial
  |fz d=>obtain⟨v,h1,h2⟩:=q;exact⟨v,h1,h2.mono g⟩
  |ow d=>
   obtain⟨p,h1,h2,h3,h4,h5⟩:=q
   exact⟨p,h1,h2,n p h5.mx h3,h4,h5.mono g λo q=>h p o q⟩
  |bx=>exact q
  |br d=>obtain⟨b1,p,h1,h4,hp,h5⟩:=q;exact⟨b1,p,h1,h4,hp,h5.mono g λo q=>h p o q⟩
def SR.kp {B:Option Addr}{G H H':Hp}{σ:St}{env:En}{β:Int}(I:SR Γ B G H σ env β)(h:ak H H'):Kp Γ H':=λb o e n=>h b o (I.keep b o e n)
theorem pM {F:List D->FR}{ps:List Str}{Q:VK}{B:Option Addr}{G H:Hp}{σ:St}{env:En}{β:Int}(I:SR Γ B G H σ env β)(hK:X.K=Γ.K){wv:Bool}
  (h:Out Γ E (if wv=true then sy F fr (vl env) β else au F fr (vl env) β) λd β'=>∀v G' H',SR Γ B G' H' σ (bb L env) β'->ak G G'->gx B H H'->VO Γ.K B H G' H' (if wv=true then .w else .v) d v->Q v H') (hl:∀ds,F ds≠.bad->ds.length=ps.length) :
  aT Γ E fr L σ H λvs H1=>BQ X.K Γ.ca ps.length F vs H1 Q E:=by
 refine⟨env,G,B,β,I,?_⟩
 have h:Out Γ E (fr (vl env) β) λds β1=>Out Γ E (match F ds with
   | .ok d true=>.ok d β1
   | .ok d false=>if wv=true then .bad else .ok d β1
   | .exc c=>.exc c
   | .bad=>.bad) λd β'=>∀v G' H',SR Γ B G' H' σ (bb L env) β'->ak G G'->gx B H H'->VO Γ.K B H G' H' (if wv=true then .w else .v) d v->Q v H':=by
  cases wv with
  |true=>
   simp only[LD] at h ⊢
   refine h.bnd.imp λds β1 h=>?_
   cases q:F ds with
   |ok d b=>rw[q] at h;cases b <;> exact h
   |exc c=>rw[q] at h;exact h
   |bad=>rw[q] at h;exact h
  |false=>
   simp only[KG,Lh] at h ⊢
   refine h.bnd.imp λds β1 h=>?_
   cases q:F ds with
   |ok d b=>rw[q] at h;cases b <;> exact h
   |exc c=>rw[q] at h;exact h
   |bad=>rw[q] at h;exact h
 refine h.imp λds β1 k vs G1 H1 I1 s1 m1 r=>?_
 refine⟨G1,ds,I1.sub,?_,by rw[hK];exact r,?_⟩
 ·exact hl ds λz=>by rw[z] at k;exact k
 cases q:F ds with
 |bad=>rw[q] at k;exact k
 |exc c=>rw[q] at k;exact λH' s=>k H' (I1.kp s)
 |ok d b=>
  rw[q] at k
  intro v G' H' hh hg hs hn fv
  obtain⟨I2,m2⟩:=I1.called hh hg hs hn
  cases b with
  |true=>
   obtain⟨p,rfl,p1,p2,p3⟩:∃a,v=.ref a/\H1 a=none/\G' a=none/\Own X.K G' H' a d:=fv
   rw[hK] at p3
   have hp:=fM m1 I1.boxThere p1
   cases wv with
   |true=>exact k _ G' H' I2 (s1.trans hg) (m1.trans m2) ⟨p,rfl,hp,p2,p3⟩
   |false=>
    obtain⟨q1,q2,q3,q4⟩:=I1.fresh p1
    obtain⟨G3,I3,s3,r3⟩:=I2.letIn q1 p2 q3 q4 p3
    exact k _ G3 H' I3 ((s1.trans hg).trans s3) (m1.trans m2) r3
  |false=>
   cases wv with
   |true=>exact k.elim
   |false=>
    have fv:Rp X.K G' v d:=fv
    rw[hK] at fv
    exact k _ G' H' I2 (s1.trans hg) (m1.trans m2) fv
def aC {x:Str}{ps:List Str}{k:Nat}{F:List D->FR}{p:Pos}(hf:cA X.prog X.w X.K X.mg X.base Γ.ca x ps k F)(hr:dC k X.A)(hx:Passes (mf X.prog X.w) X E)(hK:X.K=Γ.K)(hg:Gl X x)(ha:SA X Γ E (a :: es) fr L)(hdb:(x == ("__debug__":Str))=false:=by decide)
  (he:starEach (a :: es) X.env=(false,eval a X.env) :: starEach es X.env:=by rfl) (hpl:(backTo pos (starEach es X.env)).any (·.1)=false:=by rfl):SE X Γ E (.Call (.Name x p) (a :: es) [] pos) (au F fr) L .v:=by
 obtain⟨f,fd,hm,hk,hb,hF⟩:=hf.ex
 refine PE.post' (my (dvs:=[]) hF hr hg hm hk hb .nil hx ha hdb he hpl) λσ H Q ⟨env,G,B,β,I,o⟩=>?_
 show aT Γ E fr L σ H λvs H1=>BQ X.K Γ.ca ps.length F (vs ++ []) H1 Q E
 have:=pM (Q:=Q) (wv:=false) (ps:=ps) I hK o hf.len
 simpa using this
def BC {x:Str}{ps:List Str}{k:Nat}{F:List D->FR}{p:Pos}(hf:cA X.prog X.w X.K X.mg X.base Γ.ca x ps k F)(hr:dC k X.A)(hx:Passes (mf X.prog X.w) X E)(hK:X.K=Γ.K)(hg:Gl X x)(ha:SA X Γ E (a :: es) fr L)(hdb:(x == ("__debug__":Str))=false:=by decide)
  (he:starEach (a :: es) X.env=(false,eval a X.env) :: starEach es X.env:=by rfl) (hpl:(backTo pos (starEach es X.env)).any (·.1)=false:=by rfl):SE X Γ E (.Call (.Name x p) (a :: es) [] pos) (sy F fr) L .w:=by
 obtain⟨f,fd,hm,hk,hb,hF⟩:=hf.ex
 refine PE.post' (my (dvs:=[]) hF hr hg hm hk hb .nil hx ha hdb he hpl) λσ H Q ⟨env,G,B,β,I,o⟩=>?_
 show aT Γ E fr L σ H λvs H1=>BQ X.K Γ.ca ps.length F (vs ++ []) H1 Q E
 have:=pM (Q:=Q) (wv:=true) (ps:=ps) I hK o hf.len
 simpa using this
end
inductive SO where
 |nx (env:En) (β:Int)
 |bk (env:En) (β:Int)
 |ct (env:En) (β:Int)
 |rt (d:D) (fr:Bool) (β:Int)
 |exc (c:Str)
 |bad
abbrev SF:=En->Int->SO
def RV (Γ:Fx)(G' H':Hp)(fr:Bool)(d:D)(v:V):Prop:=if fr=true then ∃a,v=.ref a/\Γ.H0 a=none/\G' a=none/\Own Γ.K G' H' a d else Rp Γ.K G' v d
def oN (Γ:Fx)(E:XK)(G:Hp)(N:Ends):SO->Prop
 | .nx env β=>∀B G' H' σ,SR Γ B G' H' σ env β->ak G G'->N.nx σ H'
 | .bk env β=>∀B G' H' σ,SR Γ B G' H' σ env β->ak G G'->N.bk σ H'
 | .ct env β=>∀B G' H' σ,SR Γ B G' H' σ env β->ak G G'->N.ct σ H'
 | .rt d fr β=>∀B G' H' σ env v,SR Γ B G' H' σ env β->ak G G'->RV Γ G' H' fr d v->N.rt v H'
 | .exc c=>∀H',Kp Γ H'->E (.ref (Γ.ca c)) none H'
 | .bad=>False
def sT (Γ:Fx)(E:XK)(m:SF):TS:=λN σ H=>∃env G B β,SR Γ B G H σ env β/\oN Γ E G N (m env β)
def SS (X:Cx)(Γ:Fx)(E:XK)(st:Stmt)(m:SF):Prop:=PS X st (sT Γ E m)
def BV (X:Cx)(Γ:Fx)(E:XK)(st:List Stmt)(m:SF):Prop:=p8 X st (sT Γ E m)
def p8.post {X:Cx}{st:List Stmt}{t u:TS}(h:p8 X st t)(m:∀D σ H,u D σ H->t D σ H):p8 X st u:=λpins s σ H D I q=>h pins s σ H D I (m D σ H q)
def aE (m m':SF):SF:=λenv β=>match m env β with
 | .nx env' β'=>m' env' β'
 |r=>r
def lh:SF:=λenv β=>.nx env β
section
variable {X:Cx}{Γ:Fx}{E:XK}{e a b c:Expr}{f fa fb:VF D}{L La Lb:List Nat}{md ma mb:Md}{pos:Pos}{st:Stmt}{sts:List Stmt}{m m':SF}{ta:VF Bool}
theorem oN.weak {G G1:Hp}{N:Ends}{r:SO}(h:oN Γ E G N r)(s:ak G G1):oN Γ E G1 N r:=by
 cases r with
 |nx env β=>exact λB G' H' σ I s'=>h B G' H' σ I (s.trans s')
 |bk env β=>exact λB G' H' σ I s'=>h B G' H' σ I (s.trans s')
 |ct env β=>exact λB G' H' σ I s'=>h B G' H' σ I (s.trans s')
 |rt d fr β=>exact λB G' H' σ env v I s'=>h B G' H' σ env v I (s.trans s')
 |exc c=>exact h
 |bad=>exact h
def cw:BV X Γ E [] lh:=p8.post wF λN σ H ⟨env,G,B,β,I,o⟩=>o B G H σ I (ak.refl _)
theorem ag (h:SS X Γ E st m)(h':BV X Γ E sts m'):BV X Γ E (st :: sts) (aE m m'):=by
 refine p8.post (fY h h') λN σ H ⟨env,G,B,β,I,o⟩=>?_
 refine⟨env,G,B,β,I,?_⟩
 unfold aE at o
 cases q:m env β with
 |nx env' β'=>rw[q] at o;exact λB' G' H' σ' I' s'=>⟨env',G',B',β',I',o.weak s'⟩
 |bk env' β'=>rw[q] at o;exact o
 |ct env' β'=>rw[q] at o;exact o
 |rt d fr β'=>rw[q] at o;exact o
 |exc c=>rw[q] at o;exact o
 |bad=>rw[q] at o;exact o
def az (h:SS X Γ E st m):BV X Γ E [st] m:=gA h
def toS {α:Type}(r:R α)(k:α->Int->SO):SO:=match r with
 | .ok x β=>k x β
 | .exc c=>.exc c
 | .bad=>.bad
theorem b9 {α:Type}{G:Hp}{N:Ends}{r:R α}{k:α->Int->SO}{P:α->Int->Prop}(h:oN Γ E G N (toS r k))(i:∀x β,oN Γ E G N (k x β)->P x β):Out Γ E r P:=by
 cases r with
 |ok x β=>exact i x β h
 |exc c=>exact h
 |bad=>exact h
def SR.set' {B:Option Addr}{G H:Hp}{σ:St}{env:En}{β:Int}(I:SR Γ B G H σ env β)(i:Nat){v:V}{d:D}(h:Rp Γ.K G v d):SR Γ B G H (σ.set i (some v)) (env.set i (.fz d)) β:=by
 by_cases hi:i < env.length
 ·exact I.set hi h
 ·have h1:env.set i (.fz d)=env:=L8 (by omega)
  have h2:σ.set i (some v)=σ:=L8 (by rw[I.len];omega)
  rw[h1,h2];exact I
def SR.setOw' {B:Option Addr}{G H:Hp}{σ:St}{env:En}{β:Int}(I:SR Γ B G H σ env β)(i:Nat){a:Addr}{d:D}(h0:Γ.H0 a=none)(hg:G a=none)(hb:B≠some a)(h:Own Γ.K G H a d)(hn:∀(j:Nat) (d':D),env[j]? =some (.ow d')->σ[j]?≠some (some (.ref a))):SR Γ B G H (σ.set i (some (.ref a))) (env.set i (.ow d)) β:=by
 by_cases hi:i < env.length
 ·exact I.setOw hi h0 hg hb h λj d' e _=>hn j d' e
 ·have h1:env.set i (.ow d)=env:=L8 (by omega)
  have h2:σ.set i (some (.ref a))=σ:=L8 (by rw[I.len];omega)
  rw[h1,h2];exact I
def aY (i:Nat)(L:List Nat)(f:VF D):SF:=λenv β=>toS (f (vl env) β) λd β'=>.nx ((bb L env).set i (.fz d)) β'
def aO {i:Nat}{x:Str}{pos':Pos}(he:SE X Γ E e f L .v)(hN:X.N.Nodup)(hi:X.N[i]? =some x:=by rfl)(hx:Loc X.env.scope x:=by first |exact Or.inl rfl |exact Or.inr rfl)(hs:swapsWith e (some (.Name x pos')) pos.line X.env=pure false:=by rfl)(hf:X.fn x=true\/X.env.scope.names.lookup x=some .local:=by first |exact .inl rfl |exact .inr rfl |assumption) :
  SS X Γ E (.Assign [.Name x pos'] e pos) (aY i L f):=by
 refine PS.post (oj hN hi hx he hs hf) λN σ H ⟨env,G,B,β,I,o⟩=>?_
 refine⟨env,G,B,β,I,b9 o λd β' k v G' H' I' s' m' vo=>?_⟩
 exact k B G' H' _ (I'.set' i vo) s'
def hU (i:Nat)(L:List Nat)(f:VF D):SF:=λenv β=>toS (f (vl env) β) λd β'=>.nx ((bb L env).set i (.ow d)) β'
def fu {i:Nat}{x:Str}{pos':Pos}(he:SE X Γ E e f L .w)(hN:X.N.Nodup)(hi:X.N[i]? =some x:=by rfl)(hx:Loc X.env.scope x:=by first |exact Or.inl rfl |exact Or.inr rfl)(hs:swapsWith e (some (.Name x pos')) pos.line X.env=pure false:=by rfl)(hf:X.fn x=true\/X.env.scope.names.lookup x=some .local:=by first |exact .inl rfl |exact .inr rfl |assumption) :
  SS X Γ E (.Assign [.Name x pos'] e pos) (hU i L f):=by
 refine PS.post (oj hN hi hx he hs hf) λN σ H ⟨env,G,B,β,I,o⟩=>?_
 refine⟨env,G,B,β,I,b9 o λd β' k v G' H' I' s' m' vo=>?_⟩
 obtain⟨p,rfl,h1,h2,h3⟩:=vo
 obtain⟨q1,q2,q3,q4⟩:=I.fresh h1
 exact k B G' H' _ (I'.setOw' i q1 h2 q3 h3 λj d' z=>q4 j d' (qP z)) s'
def tu (L:List Nat)(f:VF D):SF:=λenv β=>toS (f (vl env) β) λ_ β'=>.nx (bb L env) β'
def qy (he:SE X Γ E e f L md)(hs:swapsWith e none pos.line X.env=pure false:=by rfl):SS X Γ E (.Expr e pos) (tu L f):=by
 refine PS.post (qh he hs) λN σ H ⟨env,G,B,β,I,o⟩=>?_
 exact⟨env,G,B,β,I,b9 o λd β' k v G' H' I' s' m' vo=>k B G' H' _ I' s'⟩
def cj (f:VF D):SF:=λenv β=>toS (f (vl env) β) λd β'=>.rt d false β'
def bu (he:SE X Γ E e f L .v):SS X Γ E (.Return (some e) pos) (cj f):=by
 refine PS.post (lE he) λN σ H ⟨env,G,B,β,I,o⟩=>?_
 exact⟨env,G,B,β,I,b9 o λd β' k v G' H' I' s' m' vo=>k B G' H' σ _ v I' s' vo⟩
def sF (f:VF D):SF:=λenv β=>toS (f (vl env) β) λd β'=>.rt d true β'
def rF (he:SE X Γ E e f L .w):SS X Γ E (.Return (some e) pos) (sF f):=by
 refine PS.post (lE he) λN σ H ⟨env,G,B,β,I,o⟩=>?_
 refine⟨env,G,B,β,I,b9 o λd β' k v G' H' I' s' m' vo=>?_⟩
 obtain⟨p,rfl,h1,h2,h3⟩:=vo
 obtain⟨q1,_⟩:=I.fresh h1
 exact k B G' H' σ _ _ I' s' ⟨p,rfl,q1,h2,h3⟩
def kS (i:Nat):SF:=λenv β=>match env[i]? with
 |some (.fz d)=>.rt d false β
 |some (.ow d)=>.rt d true β
 |_=>.bad
theorem iF (i:Nat){x:Str}{p:Pos}(hN:X.N[i]? =some x:=by rfl)(hv:vL X.env.scope x:=by first |exact Or.inl rfl |exact Or.inr (Or.inl rfl) |exact Or.inr (Or.inr rfl))(hd:(x == ("__debug__":Str))=false:=by decide)
  (hcd:(x == ("__classdict__":Str))=false:=by decide):SS X Γ E (.Return (some (.Name x p)) pos) (kS i):=by
 refine PS.post (lE (iL hN hv hd hcd)) λN σ H ⟨env,G,B,β,I,o⟩=>?_
 unfold kS at o
 cases q:env[i]? with
 |none=>rw[q] at o;exact o.elim
 |some s=>
  rw[q] at o
  cases s with
  |no=>exact o.elim
  |bx=>exact o.elim
  |br d=>exact o.elim
  |fz d=>
   obtain⟨v,h1,h2⟩:=I.slot i _ q
   exact⟨v,h1,o B G H σ env v I (ak.refl _) h2⟩
  |ow d=>
   obtain⟨p,h1,h2,h3,h4,h5⟩:=I.slot i _ q
   exact⟨_,h1,o B G H σ env _ I (ak.refl _) ⟨p,rfl,h2,h3,h5⟩⟩
def j3 (L:List Nat)(t:VF Bool)(m m':SF):SF:=λenv β=>toS (t (vl env) β) λc β'=>if c=true then m (bb L env) β' else m' (bb L env) β'
theorem dB {x y:List Stmt}(hc:zf X Γ E c ta L)(ha:BV X Γ E x m)(hb:BV X Γ E y m'):SS X Γ E (.If c x y pos) (j3 L ta m m'):=by
 refine PS.post (Ed hc ha hb) λN σ H ⟨env,G,B,β,I,o⟩=>?_
 refine⟨env,G,B,β,I,b9 o λd β' k G' H' I' s' m'=>?_⟩
 cases d with
 |true=>exact sN ⟨_,G',B,β',I',oN.weak k s'⟩
 |false=>exact t9 ⟨_,G',B,β',I',oN.weak k s'⟩
def gM (L:List Nat)(t:VF Bool)(m:SF):Nat->SF
 | 0=>λ_ _=>.bad
 |n + 1=>λenv β=>toS (t (vl env) β) λc β'=>if c=true then (match m (bb L env) β' with
   | .nx env2 β2=>gM L t m n env2 β2
   | .ct env2 β2=>gM L t m n env2 β2
   | .bk env2 β2=>.nx env2 β2
   |r=>r) else .nx (bb L env) β'
theorem nt {x:List Stmt}(n:Nat)(hp:PassesOwn (model X.prog X.w) X.A X.env X.xe)(hc:zf X Γ E c ta L)(hb:BV X Γ E x m):SS X Γ E (.While c x [] pos) (gM L ta m n):=by
 refine PS.post (Ai hp hc hb) λN σ H ⟨env,G,B,β,I,o⟩=>?_
 refine⟨λk σ H=>∃env G1 B β,SR Γ B G1 H σ env β/\ak G G1/\oN Γ E G1 N (gM L ta m k env β),⟨n,env,G,B,β,I,ak.refl _,o⟩,?_⟩
 rintro k σ H ⟨env,G1,B,β,I,sG,o⟩
 cases k with
 |zero=>exact o.elim
 |succ k=>
  refine⟨env,G1,B,β,I,b9 o λd β' q G' H' I' s' m'=>?_⟩
  cases d with
  |false=>exact t9 (q B G' H' σ I' s')
  |true=>
   refine sN ⟨λσ H=>∃env G1 B β,SR Γ B G1 H σ env β/\ak G G1/\oN Γ E G1 N (gM L ta m k env β),λσ' H' h=>⟨k,Nat.lt_succ_self k,h⟩,bb L env,G',B,β',I',?_⟩
   rw[Kn rfl] at q
   cases r:m (bb L env) β' with
   |nx env2 β2=>rw[r] at q;exact λB2 G2 H2 σ2 I2 s2=>⟨env2,G2,B2,β2,I2,(sG.trans s').trans s2,oN.weak q (s'.trans s2)⟩
   |ct env2 β2=>rw[r] at q;exact λB2 G2 H2 σ2 I2 s2=>⟨env2,G2,B2,β2,I2,(sG.trans s').trans s2,oN.weak q (s'.trans s2)⟩
   |bk env2 β2=>rw[r] at q;exact λB2 G2 H2 σ2 I2 s2=>q B2 G2 H2 σ2 I2 (s'.trans s2)
   |rt d fr β2=>rw[r] at q;exact oN.weak q s'
   |exc c=>rw[r] at q;exact q
   |bad=>rw[r] at q;exact q
def Walk (K:Frag)(B:Option Addr)(G H1:Hp)(ds:List D)(J:It):Prop:=∀Gc H (i:Nat),ak G Gc->ak Gc H->gx B H1 H->
 (i < ds.length->J.go i H/\∀x H',J.yld i H x H'->∃G' d,Ext Gc H G' H'/\ds[i]? =some d/\Rp K G' x d)/\(ds.length<=i->J.stop i H)
def iT (Γ:Fx)(E:XK)(f:VF (List D))(L:List Nat)(md:Md):TI:=λσ H Rr=>∃env G B β,SR Γ B G H σ env β/\
 Out Γ E (f (vl env) β) λds β'=>∀J G' H',SR Γ B G' H' σ (bb L env) β'->ak G G'->gx B H H'->Walk Γ.K B G' (match md with | .b=>H' |_=>λ_=>none) ds J->Rr J H'
def SI (X:Cx)(Γ:Fx)(E:XK)(tg e:Expr)(f:VF (List D))(L:List Nat)(md:Md):Prop:=PI X tg e (iT Γ E f L md)
def PI.post {X:Cx}{tg e:Expr}{t u:TI}(h:PI X tg e t)(m:∀σ H Q,u σ H Q->t σ H Q):PI X tg e u:=λpins s σ H Q I q=>h pins s σ H Q I (m σ H Q q)
variable {tg:Expr}
def ja:D->Option (List D)
 | .list ds=>some ds
 | .tuple ds=>some ds
 |_=>none
def bW (fa:VF D):VF (List D):=λvs β=>(fa vs β).bnd λx β1=>R.of (ja x) β1
end
def J9 (K:Frag)(tl:TE):TI:=λσ H R=>tl σ H λx H1=>∃a xs,x=.ref a/\((e8 K H1 a xs/\R (yQ K a) H1)\/(dA K H1 a xs/\R (D7 K a) H1))
section
variable {X:Cx}{tg l:Expr}{tl:TE}
def Ee (hl:PE X l tl):PI X tg l (J9 X.K tl):=by
 intro pins s σ H R I h
 refine cn (hl pins s σ H _ I h) λv s1 ⟨x,H1,I1,r1,q1⟩=>?_
 obtain⟨a,xs,e,q⟩:=q1
 subst e
 cases r1
 rcases q with⟨hq,q⟩ | ⟨hq,q⟩
 ·obtain⟨its,rv,p,hz⟩:=I1.list hq
  refine ML p.isList ?_
  refine⟨s1.heap.objs.size,[s1.heap.objs.size],_,_,H1,rfl,I1.kept (t':=s1.toks) λb o e=>Kl _ e,lD a _,⟨_,Ky _ rfl,rfl,rfl⟩,λb hb=>?_,q⟩
  have e:b=s1.heap.objs.size:=by simpa using hb
  subst e
  exact I1.fpOk (Km _) (I1.hok.fresh (Km _))
 ·obtain⟨its,rv,p,hz⟩:=I1.tuple hq
  refine MI (show s1.heap.IsTuple a its.toArray from p) ?_
  refine⟨s1.heap.objs.size,[s1.heap.objs.size],_,_,H1,rfl,I1.kept (t':=s1.toks) λb o e=>Kl _ e,mO a _,⟨_,Ky _ rfl,rfl,rfl⟩,λb hb=>?_,q⟩
  have e:b=s1.heap.objs.size:=by simpa using hb
  subst e
  exact I1.fpOk (Km _) (I1.hok.fresh (Km _))
end
section
variable {X:Cx}{Γ:Fx}{E:XK}{e a b c:Expr}{f fa fb:VF D}{L La Lb:List Nat}{md ma mb:Md}{pos:Pos}{st:Stmt}{sts:List Stmt}{m m':SF}{ta:VF Bool}{tg:Expr}
def ly {K:Frag}{B:Option Addr}{G H1:Hp}{p:Addr}{xs:List V}{ds:List D}(h:∀Gc H,ak G Gc->ak Gc H->gx B H1 H->e8 K H p xs)(r:b6 K G xs ds):Walk K B G H1 ds (yQ K p):=λGc H i s1 s2 m=>by
 have hq:=h Gc H s1 s2 m
 refine⟨λhi=>⟨?_,λx H' y=>?_⟩,λhi=>⟨xs,hq,by rw[r.len];exact hi⟩⟩
 ·have hi':i < xs.length:=by rw[r.len];exact hi
  exact⟨xs,xs[i],hq,by simp[hi']⟩
 ·obtain⟨rfl,y⟩:=y
  obtain⟨d,e,q⟩:=r.at' (y xs hq)
  exact⟨Gc,d,Ext.refl s2,e,q.mono s1⟩
def tK {K:Frag}{B:Option Addr}{G H1:Hp}{p:Addr}{xs:List V}{ds:List D}(h:∀Gc H,ak G Gc->ak Gc H->gx B H1 H->dA K H p xs)(r:b6 K G xs ds):Walk K B G H1 ds (D7 K p):=λGc H i s1 s2 m=>by
 have hq:=h Gc H s1 s2 m
 refine⟨λhi=>⟨?_,λx H' y=>?_⟩,λhi=>⟨xs,hq,by rw[r.len];exact hi⟩⟩
 ·have hi':i < xs.length:=by rw[r.len];exact hi
  exact⟨xs,xs[i],hq,by simp[hi']⟩
 ·obtain⟨rfl,y⟩:=y
  obtain⟨d,e,q⟩:=r.at' (y xs hq)
  exact⟨Gc,d,Ext.refl s2,e,q.mono s1⟩
theorem Bv (hK:X.K=Γ.K)(ha:SE X Γ E a fa La .v):SI X Γ E tg a (bW fa) La .v:=by
 refine PI.post (Ee ha) λσ H Q ⟨env,G,B,β,I,o⟩=>?_
 refine⟨env,G,B,β,I,o.bnd.imp λd1 β1 h x G1 H1 I1 s1 m1 vx=>?_⟩
 obtain⟨ds,e,k⟩:=h.of
 rw[hK]
 have vx:Rp Γ.K G1 x d1:=vx
 cases d1 with
 |list l=>
  cases e
  cases vx with
  | @lst p xs _ hq r=>exact⟨p,xs,rfl,.inl ⟨.inl (Rd.mono (.inl hq) I1.sub),k _ G1 H1 I1 s1 m1 (ly (λGc H t1 t2 _=>.inl (Rd.mono (.inl hq) (t1.trans t2))) r)⟩⟩
 |tuple l=>
  cases e
  cases vx with
  | @tup p xs _ hq r=>exact⟨p,xs,rfl,.inr ⟨hq.grow I1.sub.grow,k _ G1 H1 I1 s1 m1 (tK (λGc H t1 t2 _=>hq.grow (t1.trans t2).grow) r)⟩⟩
 |_=>cases e
theorem rn (hK:X.K=Γ.K)(ha:SE X Γ E a fa La ma):SI X Γ E tg a (bW fa) La .b:=by
 refine PI.post (Ee ha) λσ H Q ⟨env,G,B,β,I,o⟩=>?_
 refine⟨env,G,B,β,I,o.bnd.imp λd1 β1 h x G1 H1 I1 s1 m1 vx=>?_⟩
 obtain⟨ds,e,k⟩:=h.of
 rw[hK]
 have vx:=vx.brw I.boxThere
 cases d1 with
 |list l=>
  cases e
  rcases vx with vx | ⟨p,rfl,hb,xs,q,r⟩
  ·cases vx with
   | @lst p xs _ hq r=>exact⟨p,xs,rfl,.inl ⟨.inl (Rd.mono (.inl hq) I1.sub),k _ G1 H1 I1 s1 m1 (ly (λGc H t1 t2 _=>.inl (Rd.mono (.inl hq) (t1.trans t2))) r)⟩⟩
  ·exact⟨p,xs,rfl,.inl ⟨.inl (.inl q),k _ G1 H1 I1 s1 m1 (ly (λGc H t1 t2 mv=>.inl (.inl (mv p _ q hb))) r)⟩⟩
 |tuple l=>
  cases e
  rcases vx with vx | ⟨p,rfl,hb,q⟩
  ·cases vx with
   | @tup p xs _ hq r=>exact⟨p,xs,rfl,.inr ⟨hq.grow I1.sub.grow,k _ G1 H1 I1 s1 m1 (tK (λGc H t1 t2 _=>hq.grow (t1.trans t2).grow) r)⟩⟩
  ·exact q.elim
 |_=>cases e
def cC (lo:Int)(n:Nat):List D:=(List.range n).map λ(k:Nat)=>int (lo + k)
def hJ (lo:Int)(n:Nat):(cC lo n).length=n:=by unfold cC;simp
def r9 {K:Frag}{B:Option Addr}{G H1:Hp}(lo:Int)(n:Nat):Walk K B G H1 (cC lo n) (yL lo n):=λGc H i s1 s2 m=>by
 rw[hJ]
 refine⟨λhi=>⟨hi,λx H' y=>?_⟩,λhi=>hi⟩
 obtain⟨rfl,rfl⟩:=y
 refine⟨Gc,.int (lo + i),Ext.refl s2,?_,.int _⟩
 unfold cC
 rw[Kv,LO hi];rfl
def rX (j:Int):Bool:=Nat.ble j.natAbs 1000000
def gN {j:Int}(h:rX j=true): -(2 ^ 62)<=j/\j < 2 ^ 62:=by
 have:=Nat.le_of_ble_eq_true h
 omega
def jH {j:Int}(h: -1000<=j)(h2:j<=10000):rX j=true:=Nat.ble_eq_true_of_le (by omega)
def i6 (fa:VF D):VF (List D):=λvs β=>(fa vs β).bnd λx β1=>match x with
 | .int j=>if rX j=true then .ok (cC 0 j.toNat) β1 else .bad
 |_=>.bad
def pL (fa fb:VF D):VF (List D):=λvs β=>(fa vs β).bnd λx β1=>(fb vs β1).bnd λy β2=>match x,y with
 | .int i,.int j=>if (rX i && rX j)=true then .ok (cC i (j - i).toNat) β2 else .bad
 |_,_=>.bad
theorem om {p:Pos}(hg:Gl X "range")(hm:X.mg "range"=none)(ha:SE X Γ E a fa La ma)(hs:starEach [a] X.env= [(false,eval a X.env)]:=by rfl)(hs':starEach [a] X.env=(false,eval a X.env) :: starEach [] X.env:=by rfl):SI X Γ E tg (.Call (.Name "range" p) [a] [] pos) (i6 fa) La md:=by
 refine PI.post (jN hg hm (aK ha bq hs') hs) λσ H Q ⟨env,G,B,β,I,o⟩=>?_
 refine⟨env,G,B,β,I,o.bnd.imp λd1 β1 h x G1 H1 I1 s1 m1 vx=>?_⟩
 have vx:=vx.brw I.boxThere
 cases d1 with
 |int j=>
  obtain rfl:=vx.int
  dsimp only at h
  by_cases hj:rX j=true
  ·rw[Kn hj] at h
   exact⟨j,rfl,(gN hj).1,(gN hj).2,h _ G1 H1 I1 s1 m1 (r9 0 _)⟩
  ·rw[Ku hj] at h;exact h.elim
 |_=>exact h.elim
def Hi {p:Pos}(hg:Gl X "range")(hm:X.mg "range"=none)(ha:SE X Γ E a fa La ma)(hb:SE X Γ E b fb Lb mb)(hs:starEach [a,b] X.env= [(false,eval a X.env),(false,eval b X.env)]:=by rfl)(hs2:starEach [b] X.env= [(false,eval b X.env)]:=by rfl)(hs':starEach [a,b] X.env=(false,eval a X.env) :: starEach [b] X.env:=by rfl)(hs3:starEach [b] X.env=(false,eval b X.env) :: starEach [] X.env:=by rfl):SI X Γ E tg (.Call (.Name "range" p) [a,b] [] pos) (pL fa fb) (La ++ Lb) md:=by
 refine PI.post (xM hg hm (aK ha (aK hb bq hs3) hs') hs hs2) λσ H Q ⟨env,G,B,β,I,o⟩=>?_
 refine two (W:=λx y H2=>∃i j:Int,[x,y]= [.int i,.int j]/\(-(2 ^ 62)<=i/\i < 2 ^ 62/\ -(2 ^ 62)<=j/\j < 2 ^ 62)/\Q (yL i (j - i).toNat) H2) I (o.bnd.imp λd1 β1 h=>h.bnd.imp λd2 β2 h x y G2 H2 I2 s2 m2 bx by'=>?_)
 obtain⟨i,j,rfl,rfl⟩:∃i j,d1=.int i/\d2=.int j:=by
  cases d1 <;> cases d2 <;> first |exact h.elim |exact⟨_,_,rfl,rfl⟩
 obtain rfl:=bx.int
 obtain rfl:=by'.int
 dsimp only at h
 by_cases hj:(rX i && rX j)=true
 ·rw[Kn hj] at h
  rw[KP] at hj
  exact⟨i,j,rfl,⟨(gN hj.1).1,(gN hj.1).2,(gN hj.2).1,(gN hj.2).2⟩,h _ G2 H2 I2 s2 m2 (r9 i _)⟩
 ·rw[Ku hj] at h;exact h.elim
inductive Tg where
 |nm (i:Nat)
 |two (i j:Nat)
def pairD:D->Option (D×D)
 | .tuple [x,y]=>some (x,y)
 |_=>none
def Bh {d x y:D}(h:pairD d=some (x,y)):d=.tuple [x,y]:=by
 unfold pairD at h
 split at h
 ·cases h;rfl
 ·cases h
def eS:Tg->D->En->Option En
 | .nm i,d,env=>some (env.set i (.fz d))
 | .two i j,d,env=>(pairD d).map λp=>(env.set i (.fz p.1)).set j (.fz p.2)
def l6:Tg->D->List Nv->Option (List Nv)
 | .nm i,d,vs=>some (vs.set i (.da d))
 | .two i j,d,vs=>(pairD d).map λp=>(vs.set i (.da p.1)).set j (.da p.2)
def uU (env:En)(i:Nat)(s:Sl):vl (env.set i s)=(vl env).set i s.val:=by unfold vl;rw[List.map_set]
theorem Dh (t:Tg)(d:D)(env:En):(eS t d env).map vl=l6 t d (vl env):=by
 cases t with
 |nm i=>show some (vl _)=some _;rw[uU];rfl
 |two i j=>
  show ((pairD d).map _).map vl=(pairD d).map _
  cases pairD d with
  |none=>rfl
  |some p=>show some (vl _)=some _;rw[uU,uU];rfl
def gT (Γ:Fx)(t:Tg):TG:=λv σ H Q=>∃env G B β d env',SR Γ B G H σ env β/\Rp Γ.K G v d/\eS t d env=some env'/\∀σ',SR Γ B G H σ' env' β->Q σ' H
def SG (X:Cx)(Γ:Fx)(tg:Expr)(t:Tg):Prop:=PG X tg (gT Γ t)
def PG.post {X:Cx}{tg:Expr}{t u:TG}(h:PG X tg t)(m:∀v σ H Q,u v σ H Q->t v σ H Q):PG X tg u:=λpins s σ H v uu Q I r q=>h pins s σ H v uu Q I r (m v σ H Q q)
def eZ {i:Nat}{x:Str}(hN:X.N.Nodup)(hi:X.N[i]? =some x:=by rfl)(hx:Loc X.env.scope x:=by first |exact Or.inl rfl |exact Or.inr rfl)(hf:X.fn x=true\/X.env.scope.names.lookup x=some .local:=by first |exact .inl rfl |exact .inr rfl |assumption):SG X Γ (.Name x pos) (.nm i):=by
 refine PG.post (cz hN hi hx hf) λv σ H Q ⟨env,G,B,β,d,env',I,r,e,k⟩=>?_
 cases e
 exact k _ (I.set' i r)
theorem i8 {i j:Nat}{x y:Str}{px py:Pos}{n:Nat}(hN:X.N.Nodup)(hc:X.calm=true:=by rfl)(hK:X.K=Γ.K:=by rfl)(hi:X.N[i]? =some x:=by rfl)(hj:X.N[j]? =some y:=by rfl)(hx:Loc X.env.scope x:=by first |exact Or.inl rfl |exact Or.inr rfl)(hy:Loc X.env.scope y:=by first |exact Or.inl rfl |exact Or.inr rfl)
  (hf:X.fn x=true\/X.env.scope.names.lookup x=some .local:=by first |exact .inl rfl |exact .inr rfl |assumption) (hf':X.fn y=true\/X.env.scope.names.lookup y=some .local:=by first |exact .inl rfl |exact .inr rfl |assumption):SG X Γ (.Tuple [.Name x px,.Name y py] n pos) (.two i j):=by
 refine PG.post (nP (n:=2) hc (cW (cz hN hi hx hf) (cW (cz hN hj hy hf') kY))) λv σ H Q ⟨env,G,B,β,d,env',I,r,e,k⟩=>?_
 rw[hK]
 have e:(pairD d).map (λp=>(env.set i (.fz p.1)).set j (.fz p.2))=some env':=e
 cases q:pairD d with
 |none=>rw[q] at e;cases e
 |some p=>
  obtain⟨dx,dy⟩:=p
  rw[q] at e
  cases e
  obtain rfl:=Bh q
  cases r with
  | @tup p xs _ hq r=>
   cases r with
   |cons r1 r=>
    cases r with
    |cons r2 r=>
     cases r
     exact⟨p,_,rfl,hq.grow I.sub.grow,rfl,_,_,rfl,_,_,rfl,rfl,k _ ((I.set' i r1).set' j r2)⟩
def kx (t:Tg)(m:SF):List D->SF
 | []=>λenv β=>.nx env β
 |d :: ds=>λenv β=>match eS t d env with
  |none=>.bad
  |some env1=>match m env1 β with
   | .nx env2 β2=>kx t m ds env2 β2
   | .ct env2 β2=>kx t m ds env2 β2
   | .bk env2 β2=>.nx env2 β2
   |r=>r
def cP (t:Tg)(L:List Nat)(fi:VF (List D))(m:SF):SF:=λenv β=>toS (fi (vl env) β) λds β'=>kx t m ds (bb L env) β'
def c7 {t:Tg}{fi:VF (List D)}{x:List Stmt}(hp:PassesOwn (model X.prog X.w) X.A X.env X.xe)(hc:X.calm=true)(hi:SI X Γ E tg e fi L .v)(hg:SG X Γ tg t)(hb:BV X Γ E x m)(hs:∀x,foldedSetIterable e X.env x=pure x:=by intro _;rfl):SS X Γ E (.For tg e x [] pos) (cP t L fi m):=by
 refine PS.post (qm hp hc hi hg hb hs) λN σ H ⟨env,G,B,β,I,o⟩=>?_
 refine⟨env,G,B,β,I,b9 o λds β' q J G' H' I' s' m' w=>?_⟩
 have w:Walk Γ.K B G' (λ_=>none) ds J:=w
 refine⟨λi n σ H=>n=ds.length - i/\i<=ds.length/\∃env G1 B β,SR Γ B G1 H σ env β/\ak G' G1/\oN Γ E G1 N (kx t m (ds.drop i) env β),⟨ds.length,by simp,K5 _,bb L env,G',B,β',I',ak.refl _,by rw[List.drop_zero];exact oN.weak q s'⟩,?_⟩
 rintro i n σ H ⟨rfl,hi,env,G1,B1,β1,I1,s1,q⟩
 obtain⟨w1,w2⟩:=w G1 H i s1 I1.sub λb o e=>by cases e
 by_cases hlt:i < ds.length
 ·obtain⟨go,yl⟩:=w1 hlt
  refine .inr ⟨go,λσ H=>∃env G2 B β,SR Γ B G2 H σ env β/\ak G' G2/\oN Γ E G2 N (kx t m (ds.drop (i + 1)) env β),λσ2 H2 h=>⟨ds.length - (i + 1),by omega,rfl,hlt,h⟩,λx H2 y=>?_⟩
  obtain⟨G2,d,x2,ed,rd⟩:=yl x H2 y
  have I2:=I1.ext x2
  have q:=oN.weak q x2.gg
  rw[Mt hlt] at q
  have ed':ds[i]=d:=by rw[Kj hlt] at ed;exact Option.some.inj ed
  rw[ed'] at q
  unfold kx at q
  cases eb:eS t d env with
  |none=>rw[eb] at q;exact q.elim
  |some env1=>
   rw[eb] at q
   refine⟨env,G2,B1,β1,d,env1,I2,rd,eb,λσ3 I3=>⟨env1,G2,B1,β1,I3,?_⟩⟩
   have s2:=s1.trans x2.gg
   dsimp only at q
   cases r:m env1 β1 with
   |nx env2 β2=>rw[r] at q;exact λB2 G3 H3 σ2 I2 s3=>⟨env2,G3,B2,β2,I2,s2.trans s3,oN.weak q s3⟩
   |ct env2 β2=>rw[r] at q;exact λB2 G3 H3 σ2 I2 s3=>⟨env2,G3,B2,β2,I2,s2.trans s3,oN.weak q s3⟩
   |bk env2 β2=>rw[r] at q;exact λB2 G3 H3 σ2 I2 s3=>q B2 G3 H3 σ2 I2 s3
   |rt d fr β2=>rw[r] at q;exact q
   |exc c=>rw[r] at q;exact q
   |bad=>rw[r] at q;exact q
 ·have e:i=ds.length:=by omega
  subst e
  rw[List.drop_length] at q
  exact .inl ⟨w2 (Km _),q B1 G1 H σ I1 (ak.refl _)⟩
end
abbrev Fx.gS (Γ:Fx)(H0 G0:Hp)(par:List Addr)(br:Nat->Bool)(bx:Option Addr):Fx:=⟨Γ.K,H0,G0,par,Γ.ca,br,bx⟩
def fo (own:Nat)(ixs:List Nat)(vs:List Nv):List Nv:=List.replicate own .no ++ ixs.map λi=>(vs[i]?).getD .no
def G7:Option Sl->Sl
 |some (.ow d)=>.br d
 |some s=>s
 |none=>.no
def benv (own:Nat)(ixs:List Nat)(env:En):En:=List.replicate own .no ++ ixs.map λi=>G7 env[i]?
theorem CH (o:Option Sl):(G7 o).val=(o.map Sl.val).getD .no:=by
 cases o with
 |none=>rfl
 |some s=>cases s <;> rfl
def Cq (own:Nat)(ixs:List Nat)(env:En):vl (benv own ixs env)=fo own ixs (vl env):=by
 unfold vl benv fo
 rw[Lo,List.map_replicate,My]
 congr 1
 refine Lw λi _=>?_
 show (G7 env[i]?).val=_
 rw[CH,Kv]
def vV (env:En):Prop:=∀(i:Nat) (d:D),env[i]?≠some (.ow d)
theorem uv {env:En}(h:vV env)(L:List Nat):bb L env=env:=by
 unfold bb
 induction L with
 |nil=>rfl
 |cons i L ih=>
  rw[MV]
  have:ig env i=env:=by
   unfold ig
   split
   ·rename_i d e;exact absurd e (h i d)
   ·rfl
  rw[this];exact ih
def pE (own:Nat)(ixs:List Nat)(env:En):vV (benv own ixs env):=λi d e=>by
 unfold benv at e
 have hm:=KD e
 rcases KU.mp hm with h |h
 ·have:=M4 h;cases this
 ·obtain⟨k,_,hk⟩:=KC.mp h
  cases q:env[k]? with
  |none=>rw[q] at hk;cases hk
  |some s=>rw[q] at hk;cases s <;> cases hk
def mY {env:En}(h:vV env)(i:Nat)(d:D):vV (env.set i (.fz d)):=λj d' e=>by
 by_cases z:i=j
 ·subst z
  by_cases hi:i < env.length
  ·rw[KL hi] at e;cases e
  ·rw[L8 (by omega)] at e;exact h _ _ e
 ·rw[KH z] at e;exact h _ _ e
theorem yr {env env1:En}{t:Tg}{d:D}(h:vV env)(e:eS t d env=some env1):vV env1:=by
 cases t with
 |nm i=>cases e;exact mY h i d
 |two i j=>
  have e:(pairD d).map _=some env1:=e
  cases q:pairD d with
  |none=>rw[q] at e;cases e
  |some p=>rw[q] at e;cases e;exact mY (mY h _ _) _ _
theorem y9 {env env1:En}{t:Tg}{d:D}(e:eS t d env=some env1)(d':D):eS t d' env1=eS t d' env:=by
 cases t with
 |nm i=>cases e;show some _=some _;rw[set_set]
 |two i j=>
  have e:(pairD d).map _=some env1:=e
  cases q:pairD d with
  |none=>rw[q] at e;cases e
  |some p=>
   rw[q] at e;cases e
   show (pairD d').map _=(pairD d').map _
   cases pairD d' with
   |none=>rfl
   |some p'=>
    show some _=some _
    congr 1
    dsimp only
    by_cases z:i=j
    ·subst z;simp[set_set]
    ·rw[List.set_comm _ _ (Ne.symm z),set_set,set_set]
def Ext.mov {G H G' H':Hp}(x:Ext G H G' H')(B:Option Addr):gx B H H':=x.hh.mov B
section
variable {Γ:Fx}{B:Option Addr}{G H G1 H1 Gc Hc:Hp}{σ σ':St}{env envb:En}{β β':Int}{own:Nat}{ixs:List Nat}{Da:Addr}{acc:List V}
def vN (envb:En):Nat->Bool:=λj=>match envb[j]? with
 |some (.br _)=>true
 |_=>false
def SR.block (I:SR Γ B G H σ env β)(own:Nat)(ixs:List Nat)(hD:H Da=none):SR (Γ.gS (upd H Da (.lst [])) G (Da :: B.toList) (vN (benv own ixs env)) B) B G (upd H Da (.lst [])) (bD own ixs σ) (benv own ixs env) β:=by
 obtain⟨q1,q2,q3,q4⟩:=I.fresh hD
 have nB:∀b,B=some b->b≠Da:=λb e z=>q3 (by rw[<-z];exact e)
 refine⟨I.sub.trans (ak.new hD),ak.refl _,λb _ h=>h,λb o h _=>h,λb hb=>?_,λb e=>e,λb e=>?_,?_,λi s e=>?_,λi j c d d' e=>absurd e (pE own ixs env i d)⟩
 ·rcases Kq.mp hb with z |z
  ·subst z;exact Mx.lst aw
  ·have z':B=some b:=by simpa using z
   exact Mx.lst (by rw[ay (nB b z')];exact (I.box b z').1)
 ·obtain⟨h1,h2,_⟩:=I.box b e
  exact⟨by rw[ay (nB b e)];exact h1,h2,.inl (Ko _ (by simpa using e))⟩
 ·unfold bD benv;simp
 ·by_cases hi:i < own
  ·unfold benv at e
   rw[K9 (by simpa using hi),LS,Kn hi] at e
   cases e;trivial
  ·have e0:=e
   unfold benv at e
   rw[K4 (by simpa using hi),Mk,Kv] at e
   cases ek:ixs[i - own]? with
   |none=>rw[ek] at e;cases e
   |some k=>
    rw[ek] at e
    have e:G7 env[k]? =s:=Option.some.inj e
    have es:(bD own ixs σ)[i]? =some ((σ[k]?).join):=by
     unfold bD
     rw[K4 (by simpa using hi),Mk,Kv,ek];rfl
    rw[es]
    cases q:env[k]? with
    |none=>rw[q] at e;subst e;trivial
    |some t=>
     rw[q] at e
     have w:=I.slot k t q
     cases t with
     |no=>subst e;trivial
     |fz d=>subst e;obtain⟨v,h1,h2⟩:=w;exact⟨v,by rw[h1];rfl,h2⟩
     |bx=>subst e;obtain⟨a,h1,h2⟩:=w;exact⟨a,by rw[h1];rfl,h2⟩
     |ow d=>
      subst e
      obtain⟨a,h1,h2,h3,h4,h5⟩:=w
      obtain⟨o,ho⟩:=h5.obj
      have aD:a≠Da:=aG ho hD
      refine⟨by show vN _ i=true;unfold vN;rw[e0];rfl,a,by rw[h1];rfl,h4,?_,h5.mono (ak.refl _) λo q=>by rw[ay aD];exact q⟩
      intro hm
      rcases Kq.mp hm with z |z
      ·exact aD z
      ·exact h4 (by simpa using z)
     |br d=>
      subst e
      obtain⟨b1,a,h1,h4,hp,h5⟩:=w
      obtain⟨o,ho⟩:=h5.obj
      have aD:a≠Da:=aG ho hD
      refine⟨by show vN _ i=true;unfold vN;rw[e0];rfl,a,by rw[h1];rfl,h4,?_,h5.mono (ak.refl _) λo q=>by rw[ay aD];exact q⟩
      intro hm
      rcases Kq.mp hm with z |z
      ·exact aD z
      ·exact h4 (by simpa using z)
def SR.unblock (I:SR Γ B G H σ env β){br:Nat->Bool}(hD:H Da=none)(J:SR (Γ.gS (upd H Da (.lst [])) G (Da :: B.toList) br B) B Gc Hc σ' envb β'):SR Γ B Gc Hc σ env β'/\gx B H Hc/\Gc Da=none:=by
 obtain⟨q1,q2,q3,q4⟩:=I.fresh hD
 have up:∀{b:Addr},Mx H b->Mx (upd H Da (.lst [])) b:=λ{b} h=>h.same λo e=>by rw[ay (aG e hD)];exact e
 have mv:gx B H Hc:=λb o e n=>J.keep b o (show upd H Da (.lst []) b=some o by rw[ay (aG e hD)];exact e) λhm=>by
  rcases Kq.mp hm with z |z
  ·rw[z,hD] at e;cases e
  ·exact n (by simpa using z)
 refine⟨⟨J.sub,I.old.trans J.old,λb h1 h2=>J.new b (up (I.thereM h1)) (I.new b h1 h2),λb o h1 h2=>mv b o (I.keep b o h1 h2) λz=>?_,λb hb=>J.thereM (up (I.pin b hb)),I.fix,λb e=>?_,I.len,λi s e=>?_,I.sep⟩,mv,J.new Da (Mx.lst (show upd H Da (.lst []) Da=some (.lst []) from aw)) q2⟩
 ·obtain⟨_,_,h3⟩:=I.box b z
  rcases h3 with h3 |h3
  ·exact h2 h3
  ·rw[h1] at h3;cases h3
 ·obtain⟨j1,j2,_⟩:=J.box b e
  exact⟨j1,j2,(I.box b e).2.2⟩
 ·have w:=I.slot i s e
  cases s with
  |no=>trivial
  |fz d=>obtain⟨v,h1,h2⟩:=w;exact⟨v,h1,h2.mono J.old⟩
  |bx=>exact w
  |ow d=>
   obtain⟨a,h1,h2,h3,h4,h5⟩:=w
   exact⟨a,h1,h2,J.new a (up h5.mx) h3,h4,h5.mono J.old λo q=>mv a o q h4⟩
  |br d=>
   obtain⟨b1,a,h1,h4,hp,h5⟩:=w
   exact⟨b1,a,h1,h4,hp,h5.mono J.old λo q=>mv a o q h4⟩
def SR.updD {ys:List V}(J:SR Γ B G H σ env β)(hp:Da∈Γ.par)(h0:Mx Γ.H0 Da)(g0:Γ.G0 Da=none)(hB:B≠some Da):SR Γ B G (upd H Da (.lst ys)) σ env β:=by
 have gD:=J.new Da h0 g0
 refine⟨λb u q=>by rw[ay (λz=>by rw[z,gD] at q;cases q)];exact J.sub b u q,J.old,J.new,λb u q n=>by rw[ay (λz=>n (by rw[z];exact hp))];exact J.keep b u q n,λb hb=>?_,J.fix,λb e=>?_,J.len,λi s e=>?_,J.sep⟩
 ·by_cases z:b=Da
  ·subst z;exact Mx.lst aw
  ·exact (J.pin b hb).same λo e=>by rw[ay z];exact e
 ·obtain⟨h1,h2⟩:=J.box b e
  exact⟨by rw[ay (λz=>hB (by rw[<-z];exact e))];exact h1,h2⟩
 ·have w:=J.slot i s e
  cases s with
  |no=>trivial
  |fz d=>exact w
  |bx=>exact w
  |ow d=>
   obtain⟨a,h1,h2,h3,h4,h5⟩:=w
   have aD:a≠Da:=λz=>h0.1 (by rw[<-z];exact h2)
   exact⟨a,h1,h2,h3,h4,h5.mono (ak.refl _) λo q=>by rw[ay aD];exact q⟩
  |br d=>
   obtain⟨b1,a,h1,h4,hpa,h5⟩:=w
   have aD:a≠Da:=λz=>hpa (by rw[z];exact hp)
   exact⟨b1,a,h1,h4,hpa,h5.mono (ak.refl _) λo q=>by rw[ay aD];exact q⟩
end
def R.okb {α γ:Type}(r:R α)(k:α->Int->R γ):R γ:=match r with
 | .ok a β=>k a β
 |_=>.bad
def fX (t:Tg)(ft:VF Bool)(fe:VF D)(vs:List Nv):List D->Int->R (List D)
 | [],β=>.ok [] β
 |d :: ds,β=>match l6 t d vs with
  |none=>.bad
  |some vs1=>(ft vs1 β).okb λc β1=>if c=true then (fe vs1 β1).okb λx β2=>(fX t ft fe vs ds β2).okb λxs β3=>.ok (x :: xs) β3 else fX t ft fe vs ds β1
def bh (own:Nat)(ixs:List Nat)(t:Tg)(fi:VF (List D))(ft:VF Bool)(fe:VF D):VF D:=λvs β=>(fi vs β).bnd λds β1=>if ds.length<=sizeLine then (fX t ft fe (fo own ixs vs) ds β1).okb λxs β2=>.ok (.list xs) β2 else .bad
def mF:VF Bool:=λ_ β=>.ok true β
def Eh (own:Nat)(ixs Lc:List Nat)(j:Nat):Bool:=decide (j < own) || (match ixs[j - own]? with
 |some i=>Lc.contains i
 |none=>false)
theorem DA {α γ:Type}{Γ:Fx}{E:XK}{r:R α}{k:α->Int->R γ}{P:γ->Int->Prop}(h:Out Γ E (r.okb k) P):∃a β,r=.ok a β/\Out Γ E (k a β) P:=by
 cases r with
 |ok a β=>exact⟨a,β,rfl,h⟩
 |exc c=>exact h.elim
 |bad=>exact h.elim
section
variable {X:Cx}{Γ:Fx}{E:XK}{tg iter elt:Expr}{ifs:List Expr}{scope:Scope}{NB:List Str}{own:Nat}{ixs Li Lc Lt Le:List Nat}{t:Tg}{fi:VF (List D)}{ft:VF Bool}{fe:VF D}{pos:Pos}
def iH {X:Cx}{Γ:Fx}{E:XK}:Bm X [] (qT Γ E mF []):=λpins s σ H Q I ⟨env,G,B,β,J,o⟩=>qB pins s σ H Q I (o G H J (ak.refl _) (gx.refl _ _))
def qF {X:Cx}{Γ:Fx}{E:XK}{c:Expr}{ta:VF Bool}{L:List Nat}(h:zf X Γ E c ta L):Bm X [c] (qT Γ E ta L):=xc h
def wD {NB:List Str}{scope:Scope}{C:Addr}{ex:List Addr}{s3:Shared}{H3:Hp}{pn:List (Addr×Obj)}{P:Program}{w:World}:Passes (mf P w) (gS X NB scope C ex s3 H3 pn) E0:=λpins σ H s e s' I h=>by
 obtain⟨_,_,_,_,_,_,_,_,_,q⟩:=h
 exact q.elim
abbrev gU (Γ:Fx)(t:Tg):TG:=λv σ H Q=>∃H0 G0 par br bx,gT (Γ.gS H0 G0 par br bx) t v σ H Q
abbrev tU (Γ:Fx)(own:Nat)(ixs Lc:List Nat)(ft:VF Bool)(Lt:List Nat):TT:=λσ H Q=>∃H0 G0 par br bx,(∀j,Eh own ixs Lc j=true->br j=false)/\qT (Γ.gS H0 G0 par br bx) E0 ft Lt σ H Q
abbrev eU (Γ:Fx)(own:Nat)(ixs Lc:List Nat)(fe:VF D)(Le:List Nat):TE:=λσ H Q=>∃H0 G0 par br bx,(∀j,Eh own ixs Lc j=true->br j=false)/\pT (Γ.gS H0 G0 par br bx) E0 fe Le .v σ H Q
def Ec {σ:St}{H:Hp}{Q:VK}(hLc:∀i,i∈Lc->Γ.br i=false)(h:pT Γ E (bh own ixs t fi ft fe) (Li ++ Lc) .w σ H Q):vH own ixs (iT Γ E fi Li .b) (gU Γ t) (tU Γ own ixs Lc ft Lt) (eU Γ own ixs Lc fe Le) σ H Q:=by
 obtain⟨env,G,B,β,I,o⟩:=h
 refine⟨env,G,B,β,I,o.bnd.imp λds β1 h J G1 H1 I1 s1 m1 wk Da hD=>?_⟩
 have wk:Walk Γ.K B G1 H1 ds J:=wk
 by_cases hz:ds.length<=sizeLine
 case neg=>rw[Ku hz] at h;exact h.elim
 rw[Kn hz] at h
 obtain⟨xs0,β0,e0,h⟩:=DA h
 have h:∀v G' H',SR Γ B G' H' σ (bb (Li ++ Lc) env) β0->ak G G'->gx B H H'->VO Γ.K B H G' H' .w (.list xs0) v->Q v H':=h
 obtain⟨G2,I2,s2⟩:=I1.bb Lc hLc
 rw[<-cI] at I2
 obtain⟨q1,q2,q3,q4⟩:=I2.fresh hD
 have Ib0:=I2.block own ixs hD
 generalize hbr:vN (benv own ixs (bb (Li ++ Lc) env))=br at Ib0
 have hbo:∀j,Eh own ixs Lc j=true->br j=false:=by
  intro j hj
  rw[<-hbr]
  unfold vN
  split
  ·rename_i d e
   exfalso
   unfold benv at e
   by_cases hjo:j < own
   ·rw[K9 (by simpa using hjo),LS,Kn hjo] at e;cases e
   ·rw[K4 (by simpa using hjo),Mk,Kv] at e
    unfold Eh at hj
    rw[KA hjo,Bool.false_or] at hj
    cases ek:ixs[j - own]? with
    |none=>rw[ek] at hj;cases hj
    |some k=>
     rw[ek] at hj e
     have hk:k∈Lc:=by simpa using hj
     have e:G7 (bb (Li ++ Lc) env)[k]? =.br d:=Option.some.inj e
     cases q:(bb (Li ++ Lc) env)[k]? with
     |none=>rw[q] at e;cases e
     |some s=>
      rw[q] at e
      cases s with
      |no=>cases e
      |fz _=>cases e
      |bx=>cases e
      |br d'=>
       obtain⟨b1,_⟩:=I2.slot k _ q
       rw[hLc k hk] at b1;cases b1
      |ow d'=>
       rw[cI] at q
       have key:∀(M:List Nat) (en:En),k∈M->∀d',(bb M en)[k]?≠some (.ow d'):=by
        intro M
        induction M with
        |nil=>intro en hm;cases hm
        |cons i M ih=>
         intro en hm d' z
         rcases Kq.mp hm with y |y
         ·subst y
          have z1:(ig en k)[k]? =some (.ow d'):=qP (L:=M) z
          have z2:=xi z1
          unfold ig at z1
          rw[z2] at z1
          dsimp only at z1
          rw[KL (Kz.mp z2).1] at z1;cases z1
         ·exact ih (ig en i) y d' z
       exact key Lc _ hk d' q
  ·rfl
 have evb:vl (benv own ixs (bb (Li ++ Lc) env))=fo own ixs (vl env):=by rw[Cq,iJ]
 refine⟨λi n σ' H'=>n=ds.length - i/\i<=ds.length/\∃envb Gc β' acc accd,SR (Γ.gS (upd H1 Da (.lst [])) G2 (Da :: B.toList) br B) B Gc H' σ' envb β'/\(envb=benv own ixs (bb (Li ++ Lc) env)\/∃d,eS t d (benv own ixs (bb (Li ++ Lc) env))=some envb)/\
   H' Da=some (.lst acc)/\b6 Γ.K Gc acc accd/\accd.length<=i/\∃xs,fX t ft fe (fo own ixs (vl env)) (ds.drop i) β'=.ok xs β0/\accd ++ xs=xs0,
  ⟨ds.length,by simp,K5 _,_,G2,β1,[],[],Ib0,.inl rfl,aw,.nil,K5 _,xs0,by rw[List.drop_zero];exact e0,rfl⟩,?_⟩
 rintro i n σ' H' ⟨rfl,hi',envb,Gc,β',acc,accd,Ib,eb,hacc,racc,lacc,xs,ec,exs⟩
 obtain⟨Io,mv,gD⟩:=I2.unblock hD Ib
 obtain⟨w1,w2⟩:=wk Gc H' i (s2.trans Ib.old) Ib.sub mv
 by_cases hlt:i < ds.length
 ·obtain⟨go,yl⟩:=w1 hlt
  refine .inr ⟨go,λσ' H'=>∃envb Gc β' acc accd,SR (Γ.gS (upd H1 Da (.lst [])) G2 (Da :: B.toList) br B) B Gc H' σ' envb β'/\(envb=benv own ixs (bb (Li ++ Lc) env)\/∃d,eS t d (benv own ixs (bb (Li ++ Lc) env))=some envb)/\
   H' Da=some (.lst acc)/\b6 Γ.K Gc acc accd/\accd.length<=i + 1/\∃xs,fX t ft fe (fo own ixs (vl env)) (ds.drop (i + 1)) β'=.ok xs β0/\accd ++ xs=xs0,λσ2 H2 hh=>⟨ds.length - (i + 1),by omega,rfl,hlt,hh⟩,λx H2 y=>?_⟩
  obtain⟨G3,d,x3,ed,rd⟩:=yl x H2 y
  have I3:=Ib.ext x3
  have ed':ds[i]=d:=by rw[Kj hlt] at ed;exact Option.some.inj ed
  rw[Mt hlt,ed'] at ec
  unfold fX at ec
  cases ebv:l6 t d (fo own ixs (vl env)) with
  |none=>rw[ebv] at ec;cases ec
  |some vs1=>
   rw[ebv] at ec
   dsimp only at ec
   obtain⟨env1,eb1,ev1⟩:∃env1,eS t d (benv own ixs (bb (Li ++ Lc) env))=some env1/\vl env1=vs1:=by
    have:=Dh t d (benv own ixs (bb (Li ++ Lc) env))
    rw[evb,ebv] at this
    cases q:eS t d (benv own ixs (bb (Li ++ Lc) env)) with
    |none=>rw[q] at this;cases this
    |some env1=>rw[q] at this;exact⟨env1,rfl,Option.some.inj this⟩
   have eb2:eS t d envb=some env1:=by
    rcases eb with rfl | ⟨d0,eb⟩
    ·exact eb1
    ·rw[y9 eb];exact eb1
   have no1:vV env1:=yr (pE _ _ _) eb1
   have a2:H2 Da=some (.lst acc):=x3.hh _ _ hacc
   refine⟨_,_,_,_,_,envb,G3,B,β',d,env1,I3,rd,eb2,λσ3 I4=>?_⟩
   refine⟨_,_,_,_,_,hbo,env1,G3,B,β',I4,?_⟩
   rw[ev1]
   cases et:ft vs1 β' with
   |exc c=>rw[et] at ec;cases ec
   |bad=>rw[et] at ec;cases ec
   |ok c β2=>
    rw[et] at ec
    intro G4 H4 I5 s4 m4
    rw[uv no1] at I5
    have a4:H4 Da=some (.lst acc):=m4 _ _ a2 q3
    cases c with
    |false=>
     refine t9 ⟨env1,G4,β2,acc,accd,I5,.inr ⟨d,eb1⟩,a4,racc.mono (x3.gg.trans s4),by omega,xs,?_,exs⟩
     exact ec
    |true=>
     refine sN ⟨_,_,_,_,_,hbo,env1,G4,B,β2,I5,?_⟩
     rw[ev1]
     have ec:((fe vs1 β2).okb λx β3=>(fX t ft fe (fo own ixs (vl env)) (ds.drop (i + 1)) β3).okb λxs β4=>R.ok (x :: xs) β4)=R.ok xs β0:=ec
     cases ee:fe vs1 β2 with
     |exc c=>rw[ee] at ec;cases ec
     |bad=>rw[ee] at ec;cases ec
     |ok dx β3=>
      rw[ee] at ec
      intro v G5 H5 I6 s5 m5 vo
      rw[uv no1] at I6
      have a5:H5 Da=some (.lst acc):=m5 _ _ a4 q3
      have ec:((fX t ft fe (fo own ixs (vl env)) (ds.drop (i + 1)) β3).okb λxs β4=>R.ok (dx :: xs) β4)=R.ok xs β0:=ec
      cases er:fX t ft fe (fo own ixs (vl env)) (ds.drop (i + 1)) β3 with
      |exc c=>rw[er] at ec;cases ec
      |bad=>rw[er] at ec;cases ec
      |ok ys β4=>
       rw[er] at ec
       cases ec
       refine⟨acc,a5,by rw[racc.len];omega,env1,G5,β3,acc ++ [v],accd ++ [dx],?_,.inr ⟨d,eb1⟩,aw,(racc.mono ((x3.gg.trans s4).trans s5)).snoc vo,by rw[KO];simp;omega,ys,er,by rw[<-exs,Lj];rfl⟩
       refine I6.updD (Kr ..) (Mx.lst (show upd H1 Da (.lst []) Da=some (.lst []) from aw)) (I2.sub.free hD) q3
 ·have e:i=ds.length:=by omega
  subst e
  rw[List.drop_length] at ec
  cases ec
  rw[LF] at exs
  subst exs
  refine .inl ⟨w2 (Km _),⟨acc,hacc⟩,h _ Gc H' Io ((s1.trans s2).trans Ib.old) (m1.trans mv) ⟨Da,rfl,fM m1 I1.boxThere hD,gD,acc,hacc,racc⟩⟩
def bU (hg:∀H0 G0 par br bx C ex s3 H3 pn,SG (gS X NB scope C ex s3 H3 pn) (Γ.gS H0 G0 par br bx) tg t)(C:Addr)(ex:List Addr)(s3:Shared)(H3:Hp)(pn:List (Addr×Obj)):PG (gS X NB scope C ex s3 H3 pn) tg (gU Γ t):=by
 rintro pins s σ H v u Q I r ⟨H0,G0,par,br,bx,q⟩
 exact hg H0 G0 par br bx C ex s3 H3 pn pins s σ H v u Q I r q
def gr (Lc:List Nat)(hc:X.calm=true)(S:cM X NB own ixs scope)(hLc:∀i,i∈Lc->Γ.br i=false)(hi:SI X Γ E tg iter fi Li .b)
  (hg:∀H0 G0 par br bx C ex s3 H3 pn,SG (gS X NB scope C ex s3 H3 pn) (Γ.gS H0 G0 par br bx) tg t)
  (ht:∀H0 G0 par br bx C ex s3 H3 pn,(∀j,Eh own ixs Lc j=true->br j=false)->Bm (gS X NB scope C ex s3 H3 pn) ifs (qT (Γ.gS H0 G0 par br bx) E0 ft Lt))
  (he:∀H0 G0 par br bx C ex s3 H3 pn,(∀j,Eh own ixs Lc j=true->br j=false)->SE (gS X NB scope C ex s3 H3 pn) (Γ.gS H0 G0 par br bx) E0 elt fe Le .v)
  (hs:∀x,foldedSetIterable iter X.env x=pure x:=by intro _;rfl) :
  SE X Γ E (.ListComp elt [⟨tg,iter,ifs,0⟩] scope pos) (bh own ixs t fi ft fe) (Li ++ Lc) .w:=by
 refine PE.post' (sE (g:=gU Γ t) (tt:=tU Γ own ixs Lc ft Lt) (te:=eU Γ own ixs Lc fe Le) hc S hi (bU hg) (λC ex s3 H3 pn=>?_) (λC ex s3 H3 pn=>?_) hs) λσ H Q h=>Ec hLc h
 ·rintro pins s σ H Q I ⟨H0,G0,par,br,bx,b,q⟩
  exact ht H0 G0 par br bx C ex s3 H3 pn b pins s σ H Q I q
 ·rintro pins s σ H Q I ⟨H0,G0,par,br,bx,b,q⟩
  exact he H0 G0 par br bx C ex s3 H3 pn b pins s σ H Q I q
def wx {i:Nat}{y:Str}{py spos:Pos}(Lc:List Nat)(hc:X.calm=true)(S:cM X NB own ixs scope)(hLc:∀i,i∈Lc->Γ.br i=false)(hi:SI X Γ E tg iter fi Li .b)
  (hg:∀H0 G0 par br bx C ex s3 H3 pn,SG (gS X NB scope C ex s3 H3 pn) (Γ.gS H0 G0 par br bx) tg t)
  (ht:∀H0 G0 par br bx C ex s3 H3 pn,(∀j,Eh own ixs Lc j=true->br j=false)->Bm (gS X NB scope C ex s3 H3 pn) ifs (qT (Γ.gS H0 G0 par br bx) E0 ft Lt))
  (he:∀H0 G0 par br bx C ex s3 H3 pn,(∀j,Eh own ixs Lc j=true->br j=false)->SE (gS X NB scope C ex s3 H3 pn) (Γ.gS H0 G0 par br bx) E0 elt fe Le .v)
  (hN:X.N.Nodup) (hy:X.N[i]? =some y:=by rfl) (hl:X.env.scope.names.lookup y=some .local:=by rfl)
  (hsw:swapsWith (.ListComp elt [⟨tg,iter,ifs,0⟩] scope pos) (some (.Name y py)) spos.line X.env=pure true:=by rfl)
  (hs:∀x,foldedSetIterable iter X.env x=pure x:=by intro _;rfl) :
  SS X Γ E (.Assign [.Name y py] (.ListComp elt [⟨tg,iter,ifs,0⟩] scope pos) spos) (aY i (Li ++ Lc) (bh own ixs t fi ft fe)):=by
 refine PS.post (AJ (g:=gU Γ t) (tt:=tU Γ own ixs Lc ft Lt) (te:=eU Γ own ixs Lc fe Le) hc S hi (bU hg) (λC ex s3 H3 pn=>?_) (λC ex s3 H3 pn=>?_) hN hy hl hsw hs) λN σ H ⟨env,G,B,β,I,o⟩=>?_
 ·rintro pins s σ H Q I ⟨H0,G0,par,br,bx,b,q⟩
  exact ht H0 G0 par br bx C ex s3 H3 pn b pins s σ H Q I q
 ·rintro pins s σ H Q I ⟨H0,G0,par,br,bx,b,q⟩
  exact he H0 G0 par br bx C ex s3 H3 pn b pins s σ H Q I q
 refine Ec hLc ⟨env,G,B,β,I,b9 o λd β' k v G' H' I' s' m' vo=>?_⟩
 obtain⟨G2,I2,s2,r⟩:=I.letW I' vo
 exact k B G2 H' _ (I2.set' i r) (s'.trans s2)
end
def fin:SO->FR
 | .nx _ _=>.ok .none false
 | .rt d fr _=>.ok d fr
 | .exc c=>.exc c
 |_=>.bad
def yb (n:Nat)(ds:List D):En:=ds.map Sl.fz ++ List.replicate (n - ds.length) .no
def bt (n p:Nat)(m:SF):List D->FR:=λds=>if ds.length=p then fin (m (yb n ds) 0) else .bad
abbrev Fx.fn (K:Frag)(H G:Hp)(ca:Str->Addr):Fx:=⟨K,H,G,[],ca,λ_=>false,none⟩
def SR.start {K:Frag}{H G:Hp}{ca:Str->Addr}{N:List Str}{vs:List V}{ds:List D}(s:ak G H)(r:b6 K G vs ds)(hn:ds.length<=N.length):SR (Fx.fn K H G ca) none G H (start N vs) (yb N.length ds) 0:=by
 have hl:=r.len
 refine⟨s,ak.refl _,λb _ h=>h,λb o h _=>h,λb h=>(by cases h),λb h=>(by cases h),λb h=>(by cases h),?_,λi t e=>?_,λi j a d e h=>?_⟩
 ·unfold L2.start yb;simp;omega
 ·unfold yb at e
  by_cases hi:i < ds.length
  ·rw[K9 (by simpa using hi),Kv,Kj hi] at e
   cases e
   obtain⟨x,hx,rx⟩:=r.at (Kj hi)
   refine⟨x,?_,rx⟩
   unfold L2.start
   rw[K9 (by simpa[hl] using hi),Kv,hx];rfl
  ·rw[K4 (by simpa using hi),LS] at e
   split at e
   ·cases e;trivial
   ·cases e
 ·unfold yb at h
  have hm:=KD h
  rcases KU.mp hm with z |z
  ·obtain⟨_,_,z⟩:=KC.mp z;cases z
  ·have:=M4 z;cases this
section
variable {P:Program}{w:World}{K:Frag}{mg:Str->Option Value}{base:Heap}{ca:Str->Addr}
def a7 {x qual:Str}{st:Stmt}{f:Addr}{fd:FuncData}{N ps:List Str}{k:Nat}{m:SF}(F:BP K x qual st f fd)(S:aL N ps (av st))
  (hbody:∀(cdv:Value) (A:Around) (outer:List Env) (s:Shared) (H G:Hp) (E:XK),dC k (A.deeper (envOfC qual (av st) s.heap.objs.size f cdv))->BV (jU (mf P w) P w K mg base N qual (av st) f cdv A outer s H E) (Fx.fn K H G ca) E (cx st) m) :
  eQ P w K mg base (mf P w) (k + 1) f fd ps (BQ K ca ps.length (bt N.length ps.length m)):=by
 have hpn:ps.length<=N.length:=by have:=congrArg List.length S.pre;rw[LI] at this;omega
 refine F.rX S (λvs H Q E h=>?_) (λcdv A outer s H vs Q E hr h=>?_)
 ·obtain⟨G,ds,sG,hl,r,_⟩:=h
  rw[r.len];exact hl
 ·obtain⟨G,ds,sG,hl,r,h⟩:=h
  refine⟨_,hbody cdv A outer s H G E hr,?_⟩
  have I:=SR.start (ca:=ca) (N:=N) sG r (by omega)
  refine⟨_,G,none,0,I,?_⟩
  unfold bt at h
  rw[Kn hl] at h
  have fin':∀{B G' H' σ env β},SR (Fx.fn K H G ca) B G' H' σ env β->ak H H':=λJ b o e=>J.keep b o e (λz=>by cases z)
  cases q:m (yb N.length ds) 0 with
  |nx env β=>rw[q] at h;exact λB G' H' σ J s'=>h .non G' H' (fin' J) s' J.sub (λb h1 h2=>J.new b h1 h2) Rp.non
  |bk env β=>rw[q] at h;exact h.elim
  |ct env β=>rw[q] at h;exact h.elim
  |rt d fr β=>
   rw[q] at h
   refine λB G' H' σ env v J s' rv=>h v G' H' (fin' J) s' J.sub (λb h1 h2=>J.new b h1 h2) ?_
   cases fr with
   |true=>exact rv
   |false=>exact rv
  |exc c=>rw[q] at h;exact λH' kp=>h H' λb o e=>kp b o e (λz=>by cases z)
  |bad=>rw[q] at h;exact h.elim
def Cr {n:Nat}{F F':List D->FR}(h:∀ds,ds.length=n->F' ds≠.bad->F ds=F' ds){vs:List V}{H:Hp}{Q:VK}{E:XK}(q:BQ K ca n F' vs H Q E):BQ K ca n F vs H Q E:=by
 obtain⟨G,ds,s,hl,r,q⟩:=q
 refine⟨G,ds,s,hl,r,?_⟩
 by_cases hb:F' ds=.bad
 ·rw[hb] at q;exact q.elim
 ·rw[h ds hl hb];exact q
def cA.imp {x:Str}{ps:List Str}{k:Nat}{F F':List D->FR}(h:cA P w K mg base ca x ps k F)(i:∀ds,F' ds≠.bad->F ds=F' ds):cA P w K mg base ca x ps k F':=by
 obtain⟨f,fd,a,b,c,d⟩:=h.ex
 exact⟨⟨f,fd,a,b,c,d.imp λvs H Q E q=>Cr (λds _=>i ds) q⟩,λds hn=>h.len ds (by rw[i ds hn];exact hn)⟩
def aU {n p:Nat}{m:SF}(ds:List D)(h:bt n p m ds≠.bad):ds.length=p:=by
 unfold bt at h
 by_cases hl:ds.length=p
 ·exact hl
 ·rw[Ku hl] at h;exact absurd rfl h
def nD {N:List Str}{qual:Str}{scope:Scope}{f:Addr}{cd:Value}{A:Around}{outer:List Env}{s0:Shared}{H0:Hp}{E:XK}{Γ:Fx}{x:Str}{C:Addr}{np cpos pos:Pos}{e0:Expr}{es:List Expr}{fr:VF (List D)}{L:List Nat}(q:PySem.W.excIn K C [.type "ValueError",.type "Exception",.type "BaseException",.type "object"] "ValueError.__new__"=true)(hca:Γ.ca x=C)
  (hg:Gl (jU (mf P w) P w K mg base N qual scope f cd A outer s0 H0 E) x) (hm:mg x=some (.ref C)) (ha:SA (jU (mf P w) P w K mg base N qual scope f cd A outer s0 H0 E) Γ E (e0 :: es) fr L)
  (he:starEach (e0 :: es) (envOfC qual scope s0.heap.objs.size f cd)=(false,eval e0 (envOfC qual scope s0.heap.objs.size f cd)) :: starEach es (envOfC qual scope s0.heap.objs.size f cd):=by rfl)
  (hpl:(backTo cpos (starEach es (envOfC qual scope s0.heap.objs.size f cd))).any (·.1)=false:=by rfl) (hdb:(x == ("__debug__":Str))=false:=by decide) :
  SS (jU (mf P w) P w K mg base N qual scope f cd A outer s0 H0 E) Γ E (.Raise (some (.Call (.Name x np) (e0 :: es) [] cpos)) none pos) (λenv β=>toS (fr (vl env) β) λds _=>if ds.length<=sizeLine then .exc x else .bad):=by
 refine PS.post (BB PySem.F.excBase_ValueError (by decide +kernel) q hg hm ha he hpl hdb) λD σ H ⟨env,G,B,β,I,o⟩=>?_
 refine⟨env,G,B,β,I,b9 o λds β' k vs G' H' I' s' m' r=>?_⟩
 by_cases hz:ds.length<=sizeLine
 ·rw[Kn hz] at k
  refine⟨by rw[r.len];exact hz,?_⟩
  have:=k H' (I'.kp (ak.refl _))
  rw[hca] at this
  exact this
 ·rw[Ku hz] at k;exact k.elim
end
section
variable {X:Cx}{Γ:Fx}{E:XK}{e a b c:Expr}{f fa fb:VF D}{L La Lb:List Nat}{md ma mb:Md}{pos apos cpos np:Pos}
def qO:Option Sl->Bool
 |some (.ow (.list _))=>true
 |_=>false
theorem mH {o:Option Sl}(h:qO o=true):∃ds,o=some (.ow (.list ds)):=by
 cases o with
 |none=>cases h
 |some s=>
  cases s with
  |ow d=>cases d with
   |list ds=>exact⟨ds,rfl⟩
   |_=>cases h
  |_=>cases h
def EC (i:Nat)(env:En)(β:Int)(g:List D->Option (List D)):SO:=match env[i]? with
 |some (.ow (.list ds))=>(match g ds with
  |some es=>.nx (env.set i (.ow (.list es))) β
  |none=>.bad)
 |_=>.bad
def kL (i:Nat)(L:List Nat)(f:VF D):SF:=λenv β=>if qO env[i]? =true then toS (f (vl env) β) λd β'=>EC i (bb L env) β' λds=>if ds.length < sizeLine then some (ds ++ [d]) else none else .bad
def rJ {Γ:Fx}{E:XK}{G:Hp}{N:Ends}{i:Nat}{env:En}{β:Int}{g:List D->Option (List D)}(h:oN Γ E G N (EC i env β g)):∃ds es,env[i]? =some (.ow (.list ds))/\g ds=some es/\oN Γ E G N (.nx (env.set i (.ow (.list es))) β):=by
 unfold EC at h
 split at h
 ·rename_i ds q
  cases e:g ds with
  |none=>rw[e] at h;exact h.elim
  |some es=>rw[e] at h;exact⟨ds,es,q,e,h⟩
 ·exact h.elim
def jT (i:Nat){x:Str}(hb:∀j,Γ.br j=false)(he:SE X Γ E e f L .v)(hN:X.N[i]? =some x:=by rfl)(hv:vL X.env.scope x:=by first |exact Or.inl rfl |exact Or.inr (Or.inl rfl) |exact Or.inr (Or.inr rfl))(hd:(x == ("__debug__":Str))=false:=by decide)
  (hcd:(x == ("__classdict__":Str))=false:=by decide)
  (hbase:attributeBase (.Name x np) "append" X.env (eval (.Name x np) X.env)=eval (.Name x np) X.env:=by rfl)
  (hfew:((backTo cpos (starEach [e] X.env)).all (λx=> !x.1) && (backToKw cpos (keywordEach [] X.env)).all (λx=>x.1.isSome)
   && decide ([e].length + ([]:List Keyword).length + (if ([]:List Keyword).isEmpty then 0 else 1) < 30))=true:=by rfl)
  (hline:(apos.endLine == cpos.line)=true:=by rfl) (hs:starEach [e] X.env=(false,eval e X.env) :: starEach [] X.env:=by rfl)
  (hsw:swapsWith (.Call (.Attribute (.Name x np) "append" apos) [e] [] cpos) none pos.line X.env=pure false:=by rfl) :
  SS X Γ E (.Expr (.Call (.Attribute (.Name x np) "append" apos) [e] [] cpos) pos) (kL i L f):=by
 refine PS.post (qh (AV PySem.F.plainAttrs_list PySem.F.slot_list_append PySem.F.type_list_append lr (iL hN hv hd hcd) (aK he bq hs) hbase hfew hline hs rfl) hsw) λN σ H ⟨env,G,B,β,I,o⟩=>?_
 unfold kL at o
 by_cases hO:qO env[i]? =true
 case neg=>rw[Ku hO] at o;exact o.elim
 rw[Kn hO] at o
 obtain⟨ds0,q0⟩:=mH hO
 obtain⟨p,h1,_,_,_,xs,h5,_⟩:=I.slot i _ q0
 refine⟨_,h1,.inl ⟨rfl,xs,.inl (.inl h5)⟩,?_⟩
 refine⟨env,G,B,β,I,b9 o λd β' k v G' H' I' s' m' vo=>?_⟩
 obtain⟨ds,es,q,eg,k⟩:=rJ k
 by_cases hz:ds.length < sizeLine
 case neg=>rw[Ku hz] at eg;cases eg
 rw[Kn hz] at eg
 cases eg
 obtain⟨p',g1,_,_,_,ys,g5,g6⟩:=I'.slot i _ q
 rw[h1] at g1;cases g1
 refine⟨p,ys,v,rfl,rfl,g5,by rw[g6.len];exact hz,?_⟩
 exact k B G' _ σ (I'.write hb q h1 λH2 e2 s2=>⟨_,e2,g6.snoc vo⟩) s'
def Inv.lstR {pins:List (Addr×Obj)}{σ:St}{H:Hp}{s:Shared}{l:Addr}{xs:List V}(I:Inv X pins σ H s)(hH:Rd H l (.lst xs)):xs.length<=sizeLine/\∃(its:List Value) (n:Nat),Vals xs its/\xs.length=its.length/\s.heap.get? l=some {cls:=.type "list",data:=.seq its.toArray n}:=by
 obtain⟨z,its,n,r,e⟩:=hH.ok I.hok
 exact⟨z,its,n,r,r.length,e⟩
def kN (i:Nat)(Le Li:List Nat)(fe fi:VF D):SF:=λenv β=>toS (fe (vl env) β) λd β1=>if qO (bb Le env)[i]? =true then toS (fi (vl env) β1) λk β2=>EC i (bb (Le ++ Li) env) β2 λds=>match k with
 | .int j=>(rT ds.length j).map λn=>ds.set n d
 |_=>none else .bad
theorem rR (i:Nat){x:Str}{spos:Pos}(hb:∀j,Γ.br j=false)(he:SE X Γ E e f La .v)(hi:SE X Γ E a fa Lb mb)(hN:X.N[i]? =some x:=by rfl)(hv:vL X.env.scope x:=by first |exact Or.inl rfl |exact Or.inr (Or.inl rfl) |exact Or.inr (Or.inr rfl))(hd:(x == ("__debug__":Str))=false:=by decide)
  (hcd:(x == ("__classdict__":Str))=false:=by decide)
  (hA:∀v,assign (.Subscript (.Name x np) a spos) X.env v=(do
   let ov <-holding [v] (eval (.Name x np) X.env)
   let iv <-holding [v,ov] (eval a X.env)
   standAt spos
   holding [v,ov,iv] (setItem ov iv v)
   release [v,ov,iv] []):=by intro _;rfl)
  (hs:swapsWithSole [.Subscript (.Name x np) a spos] e pos.line X.env=pure false:=by rfl) (hw:swappedStores [.Subscript (.Name x np) a spos] e X.env=pure none:=by rfl)
  (h1:(assignEach [.Subscript (.Name x np) a spos] X.env).map (·.2)= [assign (.Subscript (.Name x np) a spos) X.env]:=by rfl) :
  SS X Γ E (.Assign [.Subscript (.Name x np) a spos] e pos) (kN i La Lb f fa):=by
 refine PS.post (nh he (rP (iL hN hv hd hcd) hi set_list hA) hs hw h1) λN σ H ⟨env,G,B,β,I,o⟩=>?_
 refine⟨env,G,B,β,I,b9 o λd β1 o v G1 H1 I1 s1 m1 vo=>?_⟩
 by_cases hO:qO (bb La env)[i]? =true
 case neg=>rw[Ku hO] at o;exact o.elim
 rw[Kn hO] at o
 obtain⟨ds0,q0⟩:=mH hO
 obtain⟨p,h1,_,_,_,xs,h5,_⟩:=I1.slot i _ q0
 refine⟨_,h1,bb La env,G1,B,β1,I1,?_⟩
 rw[iJ]
 refine b9 o λk β2 o w G2 H2 I2 s2 m2 vi=>?_
 rw[<-cI] at I2
 obtain⟨ds,es,q,eg,o⟩:=rJ o
 cases k with
 |int j=>
  dsimp only at eg
  obtain rfl:=(vi.brw I1.boxThere).int
  obtain⟨p',g1,_,_,_,ys,g5,g6⟩:=I2.slot i _ q
  rw[h1] at g1;cases g1
  cases en:rT ds.length j with
  |none=>rw[en] at eg;cases eg
  |some n=>
   rw[en] at eg
   cases eg
   have vo:Rp Γ.K G1 v d:=vo
   refine⟨p,ys,j,n,rfl,rfl,g5,by rw[g6.len];exact en,?_⟩
   exact o B G2 _ σ (I2.write hb q h1 λH3 e3 s3=>⟨_,e3,g6.set (vo.mono s2) n⟩) (s1.trans s2)
 |_=>cases eg
end
section
variable {K:Frag}{X:Cx}
def nV {g:Int->Int->V}{gd:D->D->Option D}(h:∀dx dy d,gd dx dy=some d->∃i j,dx=.int i/\dy=.int j/\∀G,Rp K G (g i j) d):ku K (uj g) gd .v:=by
 intro B G H x y dx dy d Q s hB bx by' e k
 obtain⟨i,j,rfl,rfl,r⟩:=h _ _ _ e
 obtain rfl:=bx.int
 obtain rfl:=by'.int
 exact⟨i,j,rfl,rfl,k _ G H (Ext.refl s) (r G)⟩
def ub {C:Int->Int->Prop}{g:Int->Int->V}{gd:D->D->Option D}(h:∀dx dy d,gd dx dy=some d->∃i j,dx=.int i/\dy=.int j/\C i j/\∀G,Rp K G (g i j) d):ku K (rI C g) gd .v:=by
 intro B G H x y dx dy d Q s hB bx by' e k
 obtain⟨i,j,rfl,rfl,c,r⟩:=h _ _ _ e
 obtain rfl:=bx.int
 obtain rfl:=by'.int
 exact⟨i,j,rfl,rfl,c,k _ G H (Ext.refl s) (r G)⟩
def gI (c:Int->Int->Bool)(g:Int->Int->D):D->D->Option D
 | .int i,.int j=>if c i j=true then some (g i j) else none
 |_,_=>none
def pK (g:Int->Int->D):D->D->Option D
 | .int i,.int j=>some (g i j)
 |_,_=>none
def sP {c:Int->Int->Bool}{g:Int->Int->D}{dx dy d:D}(h:gI c g dx dy=some d):∃i j,dx=.int i/\dy=.int j/\c i j=true/\d=g i j:=by
 unfold gI at h
 split at h
 ·split at h
  ·cases h;exact⟨_,_,rfl,rfl,by assumption,rfl⟩
  ·cases h
 ·cases h
def iG {g:Int->Int->D}{dx dy d:D}(h:pK g dx dy=some d):∃i j,dx=.int i/\dy=.int j/\d=g i j:=by
 unfold pK at h
 split at h
 ·cases h;exact⟨_,_,rfl,rfl,rfl⟩
 ·cases h
def lg:D->D->Option D:=pK λi j=>.int (i - j)
def v8:ku K (uj λi j=>.int (i - j)) lg .v:=nV λdx dy d h=>by obtain⟨i,j,rfl,rfl,rfl⟩:=iG h;exact⟨i,j,rfl,rfl,λ_=>.int _⟩
def Ar:D->D->Option D:=gI (λ_ j=>decide (0 < j) && decide (j < 1073741824)) λi j=>.int (i / j)
def B3:ku K (rI CP λi j=>.int (i / j)) Ar .v:=ub λdx dy d h=>by obtain⟨i,j,rfl,rfl,c,rfl⟩:=sP h;exact⟨i,j,rfl,rfl,by simpa[CP] using c,λ_=>.int _⟩
def kB:D->D->Option D:=gI (λ_ j=>decide (0 < j)) λi j=>.int (i % j)
def pI:ku K (rI (λ_ j=>0 < j) λi j=>.int (i % j)) kB .v:=ub λdx dy d h=>by obtain⟨i,j,rfl,rfl,c,rfl⟩:=sP h;exact⟨i,j,rfl,rfl,by simpa using c,λ_=>.int _⟩
def De (i j:Int):Bool:=decide (0<=j) && decide (j<=1000000) && decide (i.natAbs < 2 ^ 64)
def GQ:D->D->Option D:=gI De λi j=>.int (i ^ j.toNat)
def w9 {i j:Int}(h:De i j=true):zN i j:=by
 unfold De at h
 simp only[KP,K3] at h
 exact⟨h.1.1,h.1.2,h.2⟩
def Hb:ku K (rI zN λi j=>.int (i ^ j.toNat)) GQ .v:=ub λdx dy d h=>by obtain⟨i,j,rfl,rfl,c,rfl⟩:=sP h;exact⟨i,j,rfl,rfl,w9 c,λ_=>.int _⟩
def vB:D->D->Option D:=gI De λi j=>.int (i * 2 ^ j.toNat)
def D0:ku K (rI zN λi j=>.int (i * 2 ^ j.toNat)) vB .v:=ub λdx dy d h=>by obtain⟨i,j,rfl,rfl,c,rfl⟩:=sP h;exact⟨i,j,rfl,rfl,w9 c,λ_=>.int _⟩
def Ah:D->D->Option D:=pK λi j=>.int (Builtin.bitAnd i j)
def Hy:ku K (uj λi j=>.int (Builtin.bitAnd i j)) Ah .v:=nV λdx dy d h=>by obtain⟨i,j,rfl,rfl,rfl⟩:=iG h;exact⟨i,j,rfl,rfl,λ_=>.int _⟩
def J0:D->D->Option D:=pK λi j=>.int (Builtin.bitOr i j)
def Jb:ku K (uj λi j=>.int (Builtin.bitOr i j)) J0 .v:=nV λdx dy d h=>by obtain⟨i,j,rfl,rfl,rfl⟩:=iG h;exact⟨i,j,rfl,rfl,λ_=>.int _⟩
def xG:D->D->Option D:=pK λi j=>.bool (decide (i < j))
def A4:D->D->Option D:=pK λi j=>.bool (decide (i<=j))
def Jn:D->D->Option D:=pK λi j=>.bool (decide (j<=i))
def DB:ku K (uj λi j=>.bl (decide (i < j))) xG .v:=nV λdx dy d h=>by obtain⟨i,j,rfl,rfl,rfl⟩:=iG h;exact⟨i,j,rfl,rfl,λ_=>.bl _⟩
def Fe:ku K (uj λi j=>.bl (decide (i<=j))) A4 .v:=nV λdx dy d h=>by obtain⟨i,j,rfl,rfl,rfl⟩:=iG h;exact⟨i,j,rfl,rfl,λ_=>.bl _⟩
def Ju:ku K (uj λi j=>.bl (decide (j<=i))) Jn .v:=nV λdx dy d h=>by obtain⟨i,j,rfl,rfl,rfl⟩:=iG h;exact⟨i,j,rfl,rfl,λ_=>.bl _⟩
mutual
theorem rQ:∀d:D,d.canLay0=true->zk d=true
 | .none,_=>rfl
 | .bool _,_=>rfl
 | .int _,_=>rfl
 | .str _,_=>rfl
 | .list ds,h=>by simp only[PyData.canLay0] at h;simp only[zk];exact nU ds h
 | .tuple ds,h=>by simp only[PyData.canLay0] at h;simp only[zk];exact nU ds h
 | .dict _,h=>by simp[PyData.canLay0] at h
theorem nU:∀ds:List D,PyData.canLayAll0 ds=true->o5 ds=true
 | [],_=>rfl
 |d :: ds,h=>by
  simp only[PyData.canLayAll0,KP] at h
  simp only[o5,KP]
  exact⟨rQ d h.1,nU ds h.2⟩
end
def qz {d:D}(h:SeqAt.shaped d=true):zk d=true:=rQ d (MK h)
theorem xm:∀{ds:List D},(ds.all SeqAt.shaped)=true->o5 ds=true
 | [],_=>rfl
 |d :: ds,h=>by
  rw[all_cons,KP] at h
  simp only[o5,KP]
  exact⟨qz h.1,xm h.2⟩
def fm (neg:Bool)(x y:D):Option D:=if (SeqAt.shaped x && SeqAt.shaped y)=true then some (.bool (if neg then !PyData.eqv x y else PyData.eqv x y)) else none
def i4 {neg:Bool}:ku K (FZ K neg) (fm neg) .v:=by
 intro B G H x y dx dy d Q s hB bx by' e k
 unfold fm at e
 split at e
 ·rename_i h
  rw[KP] at h
  cases e
  exact⟨dx,dy,(bx.rpH s).rep (qz h.1),(by'.rpH s).rep (qz h.2),h.1,h.2,k _ G H (Ext.refl s) (.bl _)⟩
 ·cases e
def Fv (neg:Bool)(x y:D):Option D:=match ja y with
 |some ds=>if (SeqAt.shaped x && ds.all SeqAt.shaped)=true then some (.bool (if neg then !(ds.any λe=>PyData.eqv e x) else ds.any λe=>PyData.eqv e x)) else none
 |none=>none
theorem j9.seq {B:Option Addr}{G H:Hp}{v:V}{d:D}{ds:List D}(h:j9 K B G H v d)(e:ja d=some ds)(s:ak G H):∃a xs,v=.ref a/\(e8 K H a xs\/dA K H a xs)/\b6 K G xs ds:=by
 cases d with
 |list l=>cases e;obtain⟨a,xs,e,q,r⟩:=h.list s;exact⟨a,xs,e,.inl (.inl q),r⟩
 |tuple l=>cases e;obtain⟨a,xs,e,q,r⟩:=h.tuple s;exact⟨a,xs,e,.inr q,r⟩
 |_=>cases e
theorem Hm {neg:Bool}:ku K (HE K neg) (Fv neg) .v:=by
 intro B G H x y dx dy d Q s hB bx by' e k
 unfold Fv at e
 cases q:ja dy with
 |none=>rw[q] at e;cases e
 |some ds=>
  rw[q] at e
  dsimp only at e
  split at e
  ·rename_i h
   rw[KP] at h
   cases e
   obtain⟨a,xs,rfl,hq,r⟩:=by'.seq q s
   refine⟨a,xs,dx,ds,rfl,hq,(r.mono s).reps (xm h.2),(bx.rpH s).rep (qz h.1),h.1,λe he=>LJ.mp h.2 e he,k _ G H (Ext.refl s) (.bl _)⟩
  ·cases e
def Dt:D->Bool
 | .none=>true
 |_=>false
theorem b6.ints {G:Hp}:∀ns:List Int,b6 K G (ns.map V.int) (ns.map int)
 | []=>.nil
 |n :: ns=>.cons (.int n) (b6.ints ns)
theorem zi.noNone {G:Hp}{kvs:List (Key×V)}{d:D}{r:List (D×D)}(h:zi K G kvs ((.none,d) :: r)):False:=by
 generalize e:(PyData.none,d) :: r=l at h
 cases h with
 |nil=>cases e
 | @cons k x xs d' ds _ _=>
  injection e with e1 _
  injection e1 with e2 _
  cases k <;> cases e2
theorem ze.noNone {G:Hp}{kvs:List (List Key×V)}{d:D}{r:List (D×D)}(h:ze K G kvs ((.none,d) :: r)):False:=by
 generalize e:(PyData.none,d) :: r=l at h
 cases h with
 |nil=>cases e
 | @cons k x xs d' ds _ _=>
  injection e with e1 _
  injection e1 with e2 _
  cases e2
def j9.scr {B:Option Addr}{G H:Hp}{v:V}{ds:List D}(h:j9 K B G H v (.dict [(.none,.list ds)]))(s:ak G H):∃a xs,v=.ref a/\e8 K H a xs/\b6 K G xs ds:=by
 rcases h with h | ⟨a,rfl,n,h⟩
 ·cases h with
  | @scr a ns q=>exact⟨a,_,rfl,s.seq q,b6.ints ns⟩
  |dK _ r=>exact r.noNone.elim
  |dT _ r=>exact r.noNone.elim
 ·rcases h with⟨_,_,r⟩ | ⟨_,_,r⟩
  ·exact r.noNone.elim
  ·exact r.noNone.elim
def b8:D->D->Option D
 | .list ds,.int i=>ij ds i
 | .tuple ds,.int i=>ij ds i
 | .str z,.int i=>if z.length<=sizeLine then (ij z.cps.toList i).map λc=>.str ⟨#[c]⟩ else none
 | .dict [(.none,.list ds)],.int i=>ij ds i
 |_,_=>none
theorem rz {G:Hp}{xs:List V}{ds:List D}{i:Int}{d:D}(r:b6 K G xs ds)(h:ij ds i=some d):∃x,ij xs i=some x/\Rp K G x d:=by
 unfold ij at h ⊢
 rw[r.len]
 cases e:rT ds.length i with
 |none=>rw[e] at h;cases h
 |some j=>rw[e] at h;exact r.at h
theorem cJ:ku K (JR K) b8 .v:=by
 intro B G H x y dx dy d Q s hB bx by' e k
 cases dx with
 |list ds=>
  cases dy with
  |int i=>
   obtain rfl:=by'.int
   obtain⟨a,xs,rfl,q,r⟩:=bx.list s
   obtain⟨v,ev,rv⟩:=rz r e
   exact .inl ⟨a,xs,i,v,rfl,rfl,.inl q,ev,k _ G H (Ext.refl s) rv⟩
  |_=>cases e
 |tuple ds=>
  cases dy with
  |int i=>
   obtain rfl:=by'.int
   obtain⟨a,xs,rfl,q,r⟩:=bx.tuple s
   obtain⟨v,ev,rv⟩:=rz r e
   exact .inr (.inl ⟨a,xs,i,v,rfl,rfl,q,ev,k _ G H (Ext.refl s) rv⟩)
  |_=>cases e
 |str z=>
  cases dy with
  |int i=>
   obtain rfl:=by'.int
   obtain rfl:=bx.str
   simp only[b8] at e
   split at e
   ·rename_i hz
    cases q:ij z.cps.toList i with
    |none=>rw[q] at e;cases e
    |some c=>rw[q] at e;cases e;exact .inr (.inr ⟨z,i,c,rfl,rfl,hz,q,k _ G H (Ext.refl s) (.str _)⟩)
   ·cases e
  |_=>cases e
 |none=>cases dy <;> cases e
 |bool b=>cases dy <;> cases e
 |int b=>cases dy <;> cases e
 |dict b=>
  obtain⟨ds,i,rfl,rfl,e⟩:∃ds i,b= [(.none,.list ds)]/\dy=.int i/\ij ds i=some d:=by
   unfold b8 at e
   split at e
   ·contradiction
   ·contradiction
   ·contradiction
   ·rename_i h;cases h;exact⟨_,_,rfl,rfl,e⟩
   ·cases e
  obtain rfl:=by'.int
  obtain⟨a,xs,rfl,q,r⟩:=bx.scr s
  obtain⟨v,ev,rv⟩:=rz r e
  exact .inl ⟨a,xs,i,v,rfl,rfl,q,ev,k _ G H (Ext.refl s) rv⟩
def di:D->Option D
 | .list ds=>some (.int ds.length)
 | .tuple ds=>some (.int ds.length)
 | .str z=>if z.length<=sizeLine then some (.int z.length) else none
 | .dict [(.none,.list ds)]=>some (.int ds.length)
 |_=>none
def JF (K:Frag):List V->Hp->VK->Prop:=λxs H Q=>∃x n,xs= [x]/\He K x H n/\Q (.int n) H
def jh:xZ K (λx=>JF K [x]) di .v:=by
 intro B G H x dx d Q s hB bx e k
 unfold di at e
 split at e
 ·cases e;obtain⟨a,xs,rfl,q,r⟩:=bx.list s;exact⟨_,_,rfl,.inl ⟨xs,.inl q,r.len.symm⟩,k _ G H (Ext.refl s) (.int _)⟩
 ·cases e;obtain⟨a,xs,rfl,q,r⟩:=bx.tuple s;exact⟨_,_,rfl,.inr ⟨xs,q,r.len.symm⟩,k _ G H (Ext.refl s) (.int _)⟩
 ·obtain rfl:=bx.str
  split at e
  ·rename_i hz;cases e;exact⟨_,_,rfl,⟨hz,rfl⟩,k _ G H (Ext.refl s) (.int _)⟩
  ·cases e
 ·cases e;obtain⟨a,xs,rfl,q,r⟩:=bx.scr s;exact⟨_,_,rfl,.inl ⟨xs,q,r.len.symm⟩,k _ G H (Ext.refl s) (.int _)⟩
 ·cases e
def uJ:D->Option D
 | .list ds=>some (.tuple ds)
 | .tuple ds=>some (.tuple ds)
 |_=>none
theorem wY:xZ K (λx H Q=>∃p ys,[x]= [.ref p]/\((e8 K H p ys/\∀l,H l=none->Q (.ref l) (upd H l (.tup ys)))\/(dA K H p ys/\Q (.ref p) H))) uJ .v:=by
 intro B G H x dx d Q s hB bx e k
 cases dx with
 |list ds=>
  cases e
  obtain⟨a,xs,rfl,q,r⟩:=bx.list s
  refine⟨a,xs,rfl,.inl ⟨.inl q,λl hl=>?_⟩⟩
  have x:=Ext.new s (o:=.tup xs) hl
  exact k _ _ _ x (.tup (.inl (.inl aw)) (r.mono x.gg))
 |tuple ds=>
  cases e
  rcases bx with bx | ⟨_,_,_,z⟩
  ·cases bx with
   | @tup a xs _ hq r=>exact⟨a,xs,rfl,.inr ⟨hq.grow s.grow,k _ G H (Ext.refl s) (.tup hq r)⟩⟩
  ·exact z.elim
 |_=>cases e
def Eg:D->Option D
 | .list ds=>some (.list ds)
 | .tuple ds=>some (.list ds)
 |_=>none
def EY:xZ K (λx H Q=>∃p ys,[x]= [.ref p]/\(e8 K H p ys\/dA K H p ys)/\∀l,H l=none->Q (.ref l) (upd H l (.lst ys))) Eg .w:=by
 intro B G H x dx d Q s hB bx e k
 obtain⟨ds,e1,rfl⟩:∃ds,ja dx=some ds/\d=.list ds:=by
  cases dx <;> cases e <;> exact⟨_,rfl,rfl⟩
 obtain⟨a,xs,rfl,hq,r⟩:=bx.seq e1 s
 refine⟨a,xs,rfl,hq,λl hl=>?_⟩
 exact k _ _ _ (Ext.own s (o:=.lst xs) hl) ⟨l,rfl,hl,s.free hl,xs,aw,r⟩
def jf:List D->Option (List Bool)
 | []=>some []
 | .bool b :: ds=>(jf ds).map (b :: ·)
 |_=>none
theorem qd {G:Hp}:∀{ds:List D} {bs:List Bool} {xs:List V},jf ds=some bs->b6 K G xs ds->xs=bs.map V.bl
 | [],bs,xs,e,r=>by cases e;cases r;rfl
 | .bool b :: ds,bs,xs,e,r=>by
  cases r with
  |cons r1 r2=>
   cases r1
   simp only[jf] at e
   cases q:jf ds with
   |none=>rw[q] at e;cases e
   |some cs=>rw[q] at e;cases e;rw[qd q r2];rfl
 | .none :: _,_,_,e,_=>by cases e
 | .int _ :: _,_,_,e,_=>by cases e
 | .str _ :: _,_,_,e,_=>by cases e
 | .list _ :: _,_,_,e,_=>by cases e
 | .tuple _ :: _,_,_,e,_=>by cases e
 | .dict _ :: _,_,_,e,_=>by cases e
def dw (f:List Bool->Bool):D->Option D
 | .list ds=>(jf ds).map λbs=>.bool (f bs)
 |_=>none
theorem mw {f:List Bool->Bool}:xZ K (λx=>vG K f [x]) (dw f) .v:=by
 intro B G H x dx d Q s hB bx e k
 cases dx with
 |list ds=>
  simp only[dw] at e
  cases q:jf ds with
  |none=>rw[q] at e;cases e
  |some bs=>
   rw[q] at e
   cases e
   obtain⟨a,xs,rfl,hq,r⟩:=bx.list s
   obtain rfl:=qd q r
   exact⟨a,bs,rfl,.inl hq,k _ G H (Ext.refl s) (.bl _)⟩
 |_=>cases e
def Ef:R2:=λx y H Q=>∃l b xs zs,x=.ref l/\y=.ref b/\Rd H l (.lst xs)/\Rd H b (.lst zs)/\xs.length + zs.length<=sizeLine/\∀p,H p=none->Q (.ref p) (upd H p (.lst (xs ++ zs)))
def mC:jW X (binaryOp .Add) Ef:=by
 intro pins s σ H x y v u Q I rx ry h
 obtain⟨l,b,xs,zs,rfl,rfl,hH,hB,hz,q⟩:=h
 cases rx
 cases ry
 obtain⟨z,its,n,r,hl,e⟩:=I.lstR hH
 obtain⟨z2,its2,n2,r2,hl2,e2⟩:=I.lstR hB
 refine PySem.P.add_list e e2 ?_ (by rw[KJ,KJ];omega)
 have ea:its.toArray ++ its2.toArray=(its ++ its2).toArray:=by simp
 rw[ea]
 exact⟨.ref _,_,I.lnew (t':=s.toks) (r.append r2) (by rw[KO];omega),rfl,q _ I.fresh⟩
def iQ:D->D->Option D
 | .list a,.list b=>if a.length + b.length<=sizeLine then some (.list (a ++ b)) else none
 |_,_=>none
def xb:ku K Ef iQ .w:=by
 intro B G H x y dx dy d Q s hB bx by' e k
 cases dx <;> cases dy <;> first | (cases e;done) |skip
 rename_i a b
 simp only[iQ] at e
 split at e
 ·rename_i hz
  cases e
  obtain⟨p,xs,rfl,q1,r1⟩:=bx.list s
  obtain⟨p2,ys,rfl,q2,r2⟩:=by'.list s
  refine⟨p,p2,xs,ys,rfl,rfl,q1,q2,by rw[r1.len,r2.len];exact hz,λl hl=>?_⟩
  exact k _ _ _ (Ext.own s (o:=.lst (xs ++ ys)) hl) ⟨l,rfl,hl,s.free hl,_,aw,r1.append r2⟩
 ·cases e
def cy:D->D->Option D:=pK λi j=>.int (i + j)
def iU:ku K (uj λi j=>.int (i + j)) cy .v:=nV λdx dy d h=>by obtain⟨i,j,rfl,rfl,rfl⟩:=iG h;exact⟨i,j,rfl,rfl,λ_=>.int _⟩
def eG:D->D->Option D:=gI (λi j=>(decide (-(2 ^ 64) < i) && decide (i < 2 ^ 64)) || (decide (-(2 ^ 64) < j) && decide (j < 2 ^ 64))) λi j=>.int (i * j)
def kl:ku K (rI Bd λi j=>.int (i * j)) eG .v:=ub λdx dy d h=>by obtain⟨i,j,rfl,rfl,c,rfl⟩:=sP h;exact⟨i,j,rfl,rfl,by simpa[Bd] using c,λ_=>.int _⟩
def me:D->D->Option D
 | .list a,.int k=>if -(2 ^ 63)<=k/\k < 2 ^ 63/\a.length * k.toNat<=sizeLine then some (.list (List.replicate k.toNat a).flatten) else none
 |_,_=>none
def uD {a b:Expr}{fa fb:VF D}{La Lb:List Nat}{mb:Md}{Γ:Fx}{E:XK}{pos:Pos}(ha:SE X Γ E a fa La .w)(hb:SE X Γ E b fb Lb mb):SE X Γ E (.BinOp a .Mult b pos) (f2 fa fb me) (La ++ Lb) .w:=by
 refine PE.post' (pP Au ha hb) λσ H Q ⟨env,G,B,β,I,o⟩=>?_
 refine⟨env,G,B,β,I,o.bnd.imp λd1 β1 h x G1 H1 I1 s1 m1 vx=>⟨bb La env,G1,B,β1,I1,?_⟩⟩
 rw[iJ]
 refine h.bnd.imp λd2 β2 h y G2 H2 I2 s2 m2 vy=>?_
 obtain⟨d,e,k⟩:=h.of
 rw[<-cI] at I2
 obtain⟨p,rfl,p1,p2,p3⟩:=vx
 have by':=vy.brw I1.boxThere
 cases d1 <;> cases d2 <;> first | (cases e;done) |skip
 rename_i l j
 obtain rfl:=by'.int
 simp only[me] at e
 split at e
 ·rename_i hz
  cases e
  obtain⟨xs,q,r⟩:=p3
  obtain⟨q1,q2,q3,q4⟩:=I.fresh p1
  have r2:=r.mono s2
  refine⟨p,j,xs,rfl,rfl,m2 _ _ q q3,hz.1,hz.2.1,by rw[r.len];exact hz.2.2,λl hl=>?_⟩
  have x:=Ext.own I2.sub (o:=.lst (List.replicate j.toNat xs).flatten) hl
  exact k _ _ _ (I2.ext x) ((s1.trans s2).trans x.gg) ((m1.trans m2).trans (x.hh.mov B)) ⟨l,rfl,fM (m1.trans m2) I2.boxThere hl,I2.sub.free hl,_,aw,r2.rep⟩
 ·cases e
def B6:D->Option D
 | .int i=>some (.int (-i))
 |_=>none
theorem wO:xZ K (rU λi=>.int (-i)) B6 .v:=by
 intro B G H x dx d Q s hB bx e k
 cases dx with
 |int i=>cases e;obtain rfl:=bx.int;exact⟨i,rfl,k _ G H (Ext.refl s) (.int _)⟩
 |_=>cases e
def Hj:D->String
 | .none=>"NoneType"
 | .bool _=>"bool"
 | .int _=>"int"
 | .str _=>"str"
 | .list _=>"list"
 | .tuple _=>"tuple"
 | .dict _=>"dict"
def AA (d:D)(T:String):Bool:=Hj d == T || (T == "int" && Hj d == "bool")
def dg:D->Bool
 | .dict ((.none,_) :: _)=>true
 |_=>false
def iz (T:String)(d:D):Option D:=if dg d=true then none else some (.bool (AA d T))
def J3 (K:Frag)(H:Hp)(x:V)(t:String):Prop:=C4 K H x t\/(t="dict"/\∃a kvs,x=.ref a/\H a=some (.dT kvs))
def GY (K:Frag):List V->Hp->VK->Prop:=λxs H Q=>∃x T t b,xs= [x,.ty T]/\J3 K H x t/\PySem.W.kitOne K (.type t) (.type T)=some b/\Q (.bl b) H
def zW:cp X (.builtin "isinstance") (GY X.K):=by
 intro pins s σ H xs us Q I r h
 obtain⟨x,T,t,b,rfl,ty,e,q⟩:=h
 rcases ty with ty | ⟨rfl,a,kvs,rfl,hk⟩
 ·exact zQ pins s σ H _ us Q I r ⟨x,T,t,b,rfl,ty,e,q⟩
 ·obtain⟨u,c,rfl,rx,rc⟩:=vals2 r
  cases rc
  cases rx
  obtain⟨_,_,_,_,o,_,_,e2,ex,_⟩:=I.hok a _ hk
  exact Lp PySem.W.kitx_dict I.kIn ⟨o,e2,ex.1⟩ e (λz=>nomatch z) λtk=>⟨.bl b,H,I.tok tk,rfl,q⟩
theorem j9.ty {B:Option Addr}{G H:Hp}{v:V}{d:D}(h:j9 K B G H v d)(s:ak G H)(n:dg d=false):J3 K H v (Hj d):=by
 cases d with
 |none=>obtain rfl:=h.none;exact .inl .non
 |bool b=>obtain rfl:=h.bool;exact .inl (.bl b)
 |int b=>obtain rfl:=h.int;exact .inl (.int b)
 |str b=>obtain rfl:=h.str;exact .inl (.str b)
 |list b=>obtain⟨a,xs,rfl,q,_⟩:=h.list s;exact .inl (.lst (.inl q))
 |tuple b=>obtain⟨a,xs,rfl,q,_⟩:=h.tuple s;exact .inl (.tup q)
 |dict b=>
  rcases h with h | ⟨a,rfl,_,h⟩
  ·cases h with
   |scr _=>cases n
   |dK q _=>exact .inl (.dic (s _ _ q))
   |dT q _=>exact .inr ⟨rfl,_,_,rfl,s _ _ q⟩
  ·rcases h with⟨_,q,_⟩ | ⟨_,q,_⟩
   ·exact .inl (.dic q)
   ·exact .inr ⟨rfl,_,_,rfl,q⟩
theorem Ij {d:D}{T:String}(hT:T∈ ["int","bool","str","list","tuple","dict"]):PySem.W.kitOne K (.type (Hj d)) (.type T)=some (AA d T):=by
 simp only[Kq,Lk,L7] at hT
 cases d with
 |dict l=>rcases hT with rfl |rfl |rfl |rfl |rfl |rfl <;> rfl
 |none=>rcases hT with rfl |rfl |rfl |rfl |rfl |rfl <;> rfl
 |bool _=>rcases hT with rfl |rfl |rfl |rfl |rfl |rfl <;> rfl
 |int _=>rcases hT with rfl |rfl |rfl |rfl |rfl |rfl <;> rfl
 |str _=>rcases hT with rfl |rfl |rfl |rfl |rfl |rfl <;> rfl
 |list _=>rcases hT with rfl |rfl |rfl |rfl |rfl |rfl <;> rfl
 |tuple _=>rcases hT with rfl |rfl |rfl |rfl |rfl |rfl <;> rfl
def jo {a:Expr}{fa:VF D}{La:List Nat}{ma:Md}{Γ:Fx}{E:XK}{pos p p2:Pos}(T:String){y:Str}(hT:T∈ ["int","bool","str","list","tuple","dict"])(hK:X.K=Γ.K)(hg:Gl X "isinstance")(hm:X.mg "isinstance"=none)(hgT:Gl X y)(hmT:X.mg y=none)(hvT:bootBuiltins y=some (.type T))(ha:SE X Γ E a fa La ma)
  (hnT:y≠"__name__":=by decide) (hdT:(y == ("__debug__":Str))=false:=by decide)
  (he:starEach [a,.Name y p2] X.env=(false,eval a X.env) :: starEach [.Name y p2] X.env:=by rfl) (he2:starEach [.Name y p2] X.env=(false,eval (.Name y p2) X.env) :: starEach [] X.env:=by rfl) (hpl:(backTo pos (starEach [.Name y p2] X.env)).any (·.1)=false:=by rfl) :
  SE X Γ E (.Call (.Name "isinstance" p) [a,.Name y p2] [] pos) (f1 fa (iz T)) La .v:=by
 refine PE.post' (g7 zW hg hm (by decide +kernel) (aK ha (aK (Cs hgT hmT hvT (show RelV (.ty T) _ from rfl) hnT hdT) bq he2) he) (by decide) (by decide) he hpl) λσ H Q ⟨env,G,B,β,I,o⟩=>?_
 refine gH (r:=λx H1 Q=>GY X.K [x,.ty T] H1 Q) ?_ I o
 intro B G H x dx d Q s hB bx e k
 unfold iz at e
 split at e
 ·cases e
 ·rename_i hn
  cases e
  rw[hK]
  exact⟨x,T,Hj dx,AA dx T,rfl,bx.ty s (by simpa using hn),Ij hT,k _ G H (Ext.refl s) (.bl _)⟩
def iV (fa fb fc:VF D)(g g':D->D->Option D):VF D:=λvs β=>(fa vs β).bnd λx β1=>(fb vs β1).bnd λy β2=>match g x y with
 |some (.bool true)=>(fc vs β2).bnd λz β3=>R.of (g' y z) β3
 |some (.bool false)=>.ok (.bool false) β2
 |_=>.bad
theorem tW {a b c:Expr}{fa fb fc:VF D}{ma mb mc:Md}{Γ:Fx}{E:XK}{pos:Pos}{op op':CmpOp}{r r':R2}{g g':D->D->Option D}(ho:jW X (compareOp op) r)(ho':jW X (compareOp op') r')(pr:ku Γ.K r g .v)(pr':ku Γ.K r' g' .v)(ha:SE X Γ E a fa [] ma)(hb:SE X Γ E b fb [] mb)(hc:SE X Γ E c fc [] mc)
  (hm:lastMarks [op,op'] [b,c]=false:=by with_unfolding_all rfl):SE X Γ E (.Compare a [op,op'] [b,c] pos) (iV fa fb fc g g') [] .v:=by
 refine PE.post' (zx ho ho' ha hb hc hm) λσ H Q ⟨env,G,B,β,I,o⟩=>?_
 refine two (W:=λx y H2=>r x y H2 λz H3=>∃k,z=.bl k/\(if k=true then pT Γ E fc [] mc σ H3 λw' H4=>r' y w' H4 Q else Q (.bl false) H3)) I (o.bnd.imp λd1 β1 h=>h.bnd.imp λd2 β2 h x y G2 H2 I2 s2 m2 bx by'=>?_)
 obtain⟨cb,ec,h⟩:∃cb,g d1 d2=some (.bool cb)/\Out Γ E (if cb=true then (fc (vl env) β2).bnd λz β3=>R.of (g' d2 z) β3 else .ok (.bool false) β2) λd β'=>∀v G' H',SR Γ B G' H' σ (bb [] env) β'->ak G G'->gx B H H'->VO Γ.K B H G' H' .v d v->Q v H':=by
  split at h
  ·rename_i q;exact⟨true,q,by rw[Kn rfl];exact h⟩
  ·rename_i q;exact⟨false,q,by rw[Ku KN];exact h⟩
  ·exact h.elim
 refine pr B G2 H2 x y d1 d2 _ _ I2.sub I2.boxThere bx by' ec λv G' H' x' vo=>?_
 cases vo
 refine⟨cb,rfl,?_⟩
 have I3:=I2.ext x'
 cases cb with
 |false=>rw[Ku KN] at h;exact t9 (h _ G' H' I3 (s2.trans x'.gg) (m2.trans (x'.mov B)) (.bl false))
 |true=>
  rw[Kn rfl] at h
  refine sN ⟨env,G',B,β2,I3,h.bnd.imp λd3 β3 h z G4 H4 I4 s4 m4 vz=>?_⟩
  obtain⟨d,e,k⟩:=h.of
  refine pr' B G4 H4 y z d2 d3 d Q I4.sub I4.boxThere (by'.mono (x'.gg.trans s4) ((x'.mov B).trans m4)) (vz.brw I3.boxThere) e λv G5 H5 x5 vo=>?_
  exact k v G5 H5 (I4.ext x5) (((s2.trans x'.gg).trans s4).trans x5.gg) (((m2.trans (x'.mov B)).trans m4).trans (x5.mov B)) vo
end
def dC.u1 {k:Nat}{A:Around}(r:dC k A):A.units + 100 < cLine:=by have:=r.un;omega
def JV (N:List Str)(sc:Scope)(NB:List Str)(own:Nat)(ixs:List Nat)(scope:Scope):Bool:=
 decide (scope.kind=.function) && (scope.names.all λy=>decide (y.2≠.cell)) && (scope.names.all λy=>decide (scope.names.lookup y.1=some y.2)) &&
 (scope.names.all λy=>decide (y.2=.free->(sc.names.lookup y.1=some .cell\/sc.names.lookup y.1=some .free))) && decide NB.Nodup && decide (NB.length=own + ixs.length) &&
 ((List.range ixs.length).all λk=>decide (NB[own + k]? =N[ixs.getD k 0]?) && (match NB[own + k]? with |some x=>decide ((x,NameKind.free)∈scope.names) |none=>true))
def gP {X:Cx}{NB:List Str}{own:Nat}{ixs:List Nat}{scope:Scope}(h:JV X.N X.env.scope NB own ixs scope=true):cM X NB own ixs scope:=by
 unfold JV at h
 simp only[KP,LJ,K3,KR] at h
 obtain⟨⟨⟨⟨⟨⟨h1,h2⟩,h3⟩,h4⟩,h5⟩,h6⟩,h7⟩:=h
 refine⟨h1,h2,h3,h4,h5,h6,λk hk=>⟨(h7 k hk).1,λx hx=>?_⟩⟩
 have:=(h7 k hk).2
 rw[hx] at this
 simpa using this
section
variable {X:Cx}{Γ:Fx}{E:XK}{e a b c:Expr}{f fa fb fc:VF D}{L La Lb:List Nat}{md ma mb mc:Md}{pos:Pos}{K:Frag}
def tN (fa:VF D)(neg:Bool):VF Bool:=λvs β=>(fa vs β).bnd λx β1=>.ok (if neg then !Dt x else Dt x) β1
def oT (Γ:Fx)(E:XK)(f:VF (Option Int))(L:List Nat):TO:=λσ H Q=>∃env G B β,SR Γ B G H σ env β/\
 Out Γ E (f (vl env) β) λd β'=>∀G' H',SR Γ B G' H' σ (bb L env) β'->ak G G'->gx B H H'->Q d H'
def Gd:ku K (λx y H Q=>∃i j,[x,y]= [.int i,.int j]/\Q (.int (if j > i then j else i)) H) (pK λi j=>.int (if j > i then j else i)) .v:=by
 intro B G H x y dx dy d Q s hB bx by' e k
 obtain⟨i,j,rfl,rfl,rfl⟩:=iG e
 obtain rfl:=bx.int
 obtain rfl:=by'.int
 exact⟨i,j,rfl,k _ G H (Ext.refl s) (.int _)⟩
def Be:ku K (λx y H Q=>∃i j,[x,y]= [.int i,.int j]/\Q (.int (if j < i then j else i)) H) (pK λi j=>.int (if j < i then j else i)) .v:=by
 intro B G H x y dx dy d Q s hB bx by' e k
 obtain⟨i,j,rfl,rfl,rfl⟩:=iG e
 obtain rfl:=bx.int
 obtain rfl:=by'.int
 exact⟨i,j,rfl,k _ G H (Ext.refl s) (.int _)⟩
end
structure jC (K:Frag)(mg:Str->Option Value)(x:Str)(st:Stmt)(ps:List Str)(f:Addr)(fd:FuncData):Prop where
 mg:mg x=some (.ref f)
 F:BP K x x st f fd
 b:Binds K fd ps []
structure Exc (K:Frag)(mg:Str->Option Value)(ca:Str->Addr)(x:Str):Prop where
 mg:mg x=some (.ref (ca x))
 ex:PySem.W.excIn K (ca x) [.type "ValueError",.type "Exception",.type "BaseException",.type "object"] "ValueError.__new__"=true
def Exc.ca {K:Frag}{mg:Str->Option Value}{ca:Str->Addr}{x:Str}(h:Exc K mg ca x):ca x=ca x:=rfl
structure jV (mg:Str->Option Value):Prop where
 len:mg "len"=none
 range:mg "range"=none
 enumerate:mg "enumerate"=none
 zip:mg "zip"=none
 min:mg "min"=none
 max:mg "max"=none
 sum:mg "sum"=none
 abs:mg "abs"=none
 sorted:mg "sorted"=none
 reversed:mg "reversed"=none
 int:mg "int"=none
 str:mg "str"=none
 bool:mg "bool"=none
 list:mg "list"=none
 tuple:mg "tuple"=none
 dict:mg "dict"=none
 set:mg "set"=none
 isinstance:mg "isinstance"=none
 repr:mg "repr"=none
 any:mg "any"=none
 all:mg "all"=none
 divmod:mg "divmod"=none
inductive FB where
 |ok (d:D) (fresh:Bool) (β:Int)
 |bad
def HW (K:Frag)(n:Nat)(F:List D->Int->FB):Sp:=λvs H Q _=>∃b rest G ds β,vs=.ref b :: rest/\H b=some (.lst [.int β])/\G b=none/\ak G H/\ds.length=n/\b6 K G rest ds/\match F ds β with
 | .ok d fr β'=>∀v G' H',gx (some b) H H'->H' b=some (.lst [.int β'])->ak G G'->ak G' H'->(∀c,Mx H c->G c=none->G' c=none)->FV K H G' H' fr d v->Q v H'
 | .bad=>False
structure qi (P:Program)(w:World)(K:Frag)(mg:Str->Option Value)(base:Heap)(x:Str)(ps:List Str)(k:Nat)(F:List D->Int->FB):Prop where
 ex:∃f fd,mg x=some (.ref f)/\PySem.W.keepIn K (.ref f)=true/\Binds K fd ps []/\eQ P w K mg base (mf P w) k f fd ps (HW K (ps.length - 1) F)
 len:∀ds β,F ds β≠.bad->ds.length=ps.length - 1
def uM (vs:List Nv)(i:Nat):Bool:=match vs[i]? with
 |some .bx=>true
 |_=>false
def ml (i:Nat)(F:List D->Int->FB)(fr:VF (List D)):VF D:=λvs β=>if uM vs i=true then (fr vs β).bnd λds β1=>match F ds β1 with
 | .ok d _ β2=>.ok d β2
 | .bad=>.bad else .bad
def JG (i:Nat)(F:List D->Int->FB)(fr:VF (List D)):VF D:=λvs β=>if uM vs i=true then (fr vs β).bnd λds β1=>match F ds β1 with
 | .ok d true β2=>.ok d β2
 |_=>.bad else .bad
section
variable {X:Cx}{Γ:Fx}{E:XK}{e a b c:Expr}{f fa fb fc:VF D}{L La Lb:List Nat}{md ma mb mc:Md}{pos:Pos}{K:Frag}{es:List Expr}{fr:VF (List D)}
def CI {env:En}{i:Nat}(h:uM (vl env) i=true):env[i]? =some .bx:=by
 unfold uM at h
 split at h
 ·exact HQ (by assumption)
 ·cases h
def Cn {env:En}{i j:Nat}{d:D}(h:(ig env i)[j]? =some (.br d)):env[j]? =some (.br d):=by
 unfold ig at h
 split at h
 ·rename_i d' e
  by_cases z:i=j
  ·subst z
   rw[KL (Kz.mp e).1] at h;cases h
  ·rw[KH z] at h;exact h
 ·exact h
theorem Fc {L:List Nat}{env:En}{j:Nat}{d:D}(h:(bb L env)[j]? =some (.br d)):env[j]? =some (.br d):=by
 unfold bb at h
 induction L generalizing env with
 |nil=>exact h
 |cons i L ih=>exact Cn (ih h)
def SR.calledB {p:Addr}{β β':Int}{G1 H1 G2 H2:Hp}{σ:St}{env:En}(I1:SR Γ (some p) G1 H1 σ env β)(h:gx (some p) H1 H2)(hp:H2 p=some (.lst [.int β']))(g:ak G1 G2)(s:ak G2 H2)(n:∀b,Mx H1 b->G1 b=none->G2 b=none):SR Γ (some p) G2 H2 σ env β':=by
 obtain⟨b1,b2,b3⟩:=I1.box p rfl
 refine⟨s,I1.old.trans g,λb n1 n2=>n b (I1.thereM n1) (I1.new b n1 n2),λb o e np=>h b o (I1.keep b o e np) λz=>?_,λb hb=>?_,I1.fix,λb e=>?_,I1.len,λi t e=>?_,I1.sep⟩
 ·cases z
  rcases b3 with b3 |b3
  ·exact np b3
  ·rw[e] at b3;cases b3
 ·by_cases z:p=b
  ·subst z;exact Mx.lst hp
  ·exact (I1.pin b hb).same λo q=>h b o q λy=>z (Option.some.inj y)
 ·cases e
  exact⟨hp,n p (Mx.lst b1) b2,b3⟩
 ·have q:=I1.slot i t e
  cases t with
  |no=>trivial
  |fz d=>obtain⟨v,h1,h2⟩:=q;exact⟨v,h1,h2.mono g⟩
  |ow d=>
   obtain⟨c,h1,h2,h3,h4,h5⟩:=q
   exact⟨c,h1,h2,n c h5.mx h3,h4,h5.mono g λo q=>h c o q h4⟩
  |bx=>exact q
  |br d=>obtain⟨b1,c,h1,h4,hpp,h5⟩:=q;exact⟨b1,c,h1,h4,hpp,h5.mono g λo q=>h c o q h4⟩
theorem Dz {F:List D->Int->FB}{ps:List Str}{Q:VK}{B:Option Addr}{G H:Hp}{σ:St}{env:En}{β:Int}{i:Nat}{p:Addr}(I:SR Γ B G H σ env β)(hK:X.K=Γ.K)(hp:B=some p){wv:Bool}
  (h:Out Γ E (fr (vl env) β) λds β1=>Out Γ E (match F ds β1 with
   | .ok d true β2=>.ok d β2
   | .ok d false β2=>if wv=true then .bad else .ok d β2
   | .bad=>.bad) λd β'=>∀v G' H',SR Γ B G' H' σ (bb L env) β'->ak G G'->gx B H H'->VO Γ.K B H G' H' (if wv=true then .w else .v) d v->Q v H') (hl:∀ds β,F ds β≠.bad->ds.length=ps.length - 1) :
  aT Γ E fr L σ H λvs H1=>HW X.K (ps.length - 1) F (.ref p :: vs) H1 Q E:=by
 subst hp
 refine⟨env,G,_,β,I,h.imp λds β1 k vs G1 H1 I1 s1 m1 r=>?_⟩
 obtain⟨b1,b2,b3⟩:=I1.box p rfl
 refine⟨p,vs,G1,ds,β1,rfl,b1,b2,I1.sub,hl ds β1 λz=>by rw[z] at k;exact k,by rw[hK];exact r,?_⟩
 cases q:F ds β1 with
 |bad=>rw[q] at k;exact k
 |ok d fr' β2=>
  rw[q] at k
  intro v G' H' hh hb hg hs hn fv
  have I2:=I1.calledB hh hb hg hs hn
  cases fr' with
  |true=>
   obtain⟨c,rfl,p1,p2,p3⟩:∃a,v=.ref a/\H1 a=none/\G' a=none/\Own X.K G' H' a d:=fv
   rw[hK] at p3
   have hp:=fM m1 I1.boxThere p1
   cases wv with
   |true=>exact k _ G' H' I2 (s1.trans hg) (m1.trans hh) ⟨c,rfl,hp,p2,p3⟩
   |false=>
    obtain⟨q1,q2,q3,q4⟩:=I1.fresh p1
    obtain⟨G3,I3,s3,r3⟩:=I2.letIn q1 p2 q3 q4 p3
    exact k _ G3 H' I3 ((s1.trans hg).trans s3) (m1.trans hh) r3
  |false=>
   cases wv with
   |true=>exact k.elim
   |false=>
    have fv:Rp X.K G' v d:=fv
    rw[hK] at fv
    exact k _ G' H' I2 (s1.trans hg) (m1.trans hh) fv
theorem E1 {F:List D->Int->FB}{ps:List Str}{Q:VK}{i:Nat}{σ:St}{H:Hp}(hK:X.K=Γ.K){wv:Bool}(hl:∀ds β,F ds β≠.bad->ds.length=ps.length - 1)(h:pT Γ E (if wv=true then JG i F fr else ml i F fr) L (if wv=true then .w else .v) σ H Q) :
  Dw i σ H λx H1=>aT Γ E fr L σ H1 λvs H2=>HW X.K (ps.length - 1) F (x :: vs) H2 Q E:=by
 obtain⟨env,G,B,β,I,o⟩:=h
 have hi:uM (vl env) i=true:=by
  by_cases hi:uM (vl env) i=true
  ·exact hi
  ·exfalso
   cases wv with
   |true=>simp only[LD] at o;unfold JG at o;rw[Ku hi] at o;exact o
   |false=>simp only[KG,Lh] at o;unfold ml at o;rw[Ku hi] at o;exact o
 obtain⟨p,e1,e2⟩:=I.slot i _ (CI hi)
 refine⟨.ref p,e1,Dz (i:=i) (ps:=ps) I hK e2 (wv:=wv) ?_ hl⟩
 cases wv with
 |true=>
  simp only[LD] at o ⊢
  unfold JG at o
  rw[Kn hi] at o
  refine o.bnd.imp λds β1 h=>?_
  cases q:F ds β1 with
  |bad=>rw[q] at h;exact h
  |ok d b β2=>rw[q] at h;cases b <;> exact h
 |false=>
  simp only[KG,Lh] at o ⊢
  unfold ml at o
  rw[Kn hi] at o
  refine o.bnd.imp λds β1 h=>?_
  cases q:F ds β1 with
  |bad=>rw[q] at h;exact h
  |ok d b β2=>rw[q] at h;cases b <;> exact h
def mQ {x y:Str}{ps:List Str}{k:Nat}{F:List D->Int->FB}{p np:Pos}(i:Nat)(hf:qi X.prog X.w X.K X.mg X.base x ps k F)(hr:dC k X.A)(hx:Passes (mf X.prog X.w) X E)(hK:X.K=Γ.K)(hg:Gl X x)(ha:SA X Γ E es fr L)(hN:X.N[i]? =some y:=by rfl)(hv:vL X.env.scope y:=by first |exact Or.inl rfl |exact Or.inr (Or.inl rfl) |exact Or.inr (Or.inr rfl))(hd:(y == ("__debug__":Str))=false:=by decide)
  (hcd:(y == ("__classdict__":Str))=false:=by decide) (hdb:(x == ("__debug__":Str))=false:=by decide)
  (he:starEach (.Name y np :: es) X.env=(false,eval (.Name y np) X.env) :: starEach es X.env:=by rfl) (hpl:(backTo pos (starEach es X.env)).any (·.1)=false:=by rfl):SE X Γ E (.Call (.Name x p) (.Name y np :: es) [] pos) (ml i F fr) L .v:=by
 obtain⟨f,fd,hm,hk,hb,hF⟩:=hf.ex
 refine PE.post' (my (dvs:=[]) hF hr hg hm hk hb .nil hx (aK (iL hN hv hd hcd) ha he) hdb he hpl) λσ H Q h=>?_
 have:=E1 (Q:=Q) (wv:=false) (ps:=ps) hK hf.len (by simpa using h)
 show Dw i σ H λx H1=>aT Γ E fr L σ H1 λvs H2=>HW X.K (ps.length - 1) F ((x :: vs) ++ []) H2 Q E
 simpa using this
def AU:D->Option Int
 | .list [.int z]=>some z
 |_=>none
def CQ {d:D}{z:Int}(h:AU d=some z):d=.list [.int z]:=by
 unfold AU at h
 split at h
 ·cases h;rfl
 ·cases h
def Ki (f0:VF D)(F:List D->Int->FB)(n:Int):VF D:=λvs β=>(f0 vs β).bnd λd0 β1=>match AU d0 with
 |some z=>(match F [.int n] z with
  | .ok d _ _=>.ok d β1
  | .bad=>.bad)
 |none=>.bad
def o8 (env:En):En:=env.map λs=>match s with
 | .bx=>.no
 |s=>s
theorem A2 {env:En}{i:Nat}{s:Sl}(h:(o8 env)[i]? =some s)(n:s≠.no):env[i]? =some s/\s≠.bx:=by
 unfold o8 at h
 rw[Kv] at h
 cases e:env[i]? with
 |none=>rw[e] at h;cases h
 |some t=>
  rw[e] at h
  have h:=Option.some.inj h
  cases t with
  |bx=>exact absurd h.symm n
  |no=>exact absurd h.symm n
  |fz d=>subst h;exact⟨rfl,λz=>by cases z⟩
  |ow d=>subst h;exact⟨rfl,λz=>by cases z⟩
  |br d=>subst h;exact⟨rfl,λz=>by cases z⟩
def xo (i:Nat)(L:List Nat)(f:VF D):SF:=λenv β=>toS (f (vl env) β) λd _=>match AU d with
 |some z=>.nx ((o8 (bb L env)).set i .bx) z
 |none=>.bad
theorem Cj {i:Nat}{x:Str}{pos':Pos}(hbx:Γ.bx=none)(he:SE X Γ E e f L .w)(hN:X.N.Nodup)(hi:X.N[i]? =some x:=by rfl)(hx:Loc X.env.scope x:=by first |exact Or.inl rfl |exact Or.inr rfl)(hs:swapsWith e (some (.Name x pos')) pos.line X.env=pure false:=by rfl)(hf:X.fn x=true\/X.env.scope.names.lookup x=some .local:=by first |exact .inl rfl |exact .inr rfl |assumption) :
  SS X Γ E (.Assign [.Name x pos'] e pos) (xo i L f):=by
 refine PS.post (oj hN hi hx he hs hf) λN σ H ⟨env,G,B,β,I,o⟩=>?_
 refine⟨env,G,B,β,I,b9 o λd β' k v G' H' I' s' m' vo=>?_⟩
 cases q:AU d with
 |none=>rw[q] at k;exact k.elim
 |some z=>
  rw[q] at k
  obtain rfl:=CQ q
  obtain⟨p,rfl,h1,h2,xs,h3,r⟩:=vo
  have hx2:H' p=some (.lst [.int z]):=by
   cases r with
   |cons r1 r2=>
    cases r1
    cases r2
    exact h3
  obtain⟨q1,q2,q3,q4⟩:=I.fresh h1
  refine k (some p) G' H' _ ⟨I'.sub,I'.old,I'.new,I'.keep,I'.pin,λb e=>(by rw[hbx] at e;cases e),λb e=>?_,?_,λj t e=>?_,λj j' c d1 d2 e1 e2 e3 e4=>?_⟩ s'
  ·cases e;exact⟨hx2,h2,.inr q1⟩
  ·rw[Lx,Lx];unfold o8;rw[Kx];exact I'.len
  ·by_cases hj:j=i
   ·subst hj
    by_cases hl:j < (o8 (bb L env)).length
    ·rw[KL hl] at e
     cases e
     refine⟨p,?_,rfl⟩
     rw[KL]
     rw[I'.len];unfold o8 at hl;simpa using hl
    ·rw[L4 (by rw[Lx];omega)] at e;cases e
   ·rw[KH (Ne.symm hj)] at e ⊢
    by_cases hn:t=.no
    ·subst hn;trivial
    ·obtain⟨e1,nb⟩:=A2 e hn
     have w:=I'.slot j t e1
     cases t with
     |no=>trivial
     |fz d=>exact w
     |bx=>exact absurd rfl nb
     |ow d=>
      obtain⟨a',g1,g2,g3,g4,g5⟩:=w
      exact⟨a',g1,g2,g3,λy=>q4 j d (qP e1) (by cases y;exact g1),g5⟩
     |br d=>
      obtain⟨b1,a',g1,g4,hpp,g5⟩:=w
      have e0:env[j]? =some (.br d):=Fc e1
      obtain⟨_,a2,f1,_,_,f5⟩:=I.slot j _ e0
      rw[g1] at f1;cases f1
      obtain⟨o,ho⟩:=f5.obj
      exact⟨b1,a',g1,λy=>(by cases y;rw[h1] at ho;cases ho),hpp,g5⟩
  ·have back:∀{j:Nat} {d1:D},((o8 (bb L env)).set i Sl.bx)[j]? =some (.ow d1)->j≠i/\(bb L env)[j]? =some (.ow d1):=λ{j d1} e=>by
    by_cases hj:j=i
    ·subst hj
     by_cases hl:j < (o8 (bb L env)).length
     ·rw[KL hl] at e;cases e
     ·rw[L4 (by rw[Lx];omega)] at e;cases e
    ·rw[KH (Ne.symm hj)] at e
     exact⟨hj,(A2 e (λy=>by cases y)).1⟩
   obtain⟨n1,w1⟩:=back e1
   obtain⟨n2,w2⟩:=back e2
   rw[KH (Ne.symm n1)] at e3
   rw[KH (Ne.symm n2)] at e4
   exact I'.sep j j' c d1 d2 w1 w2 e3 e4
end
section
variable {P:Program}{w:World}{K:Frag}{mg:Str->Option Value}{base:Heap}{ca:Str->Addr}
def CB:SO->FB
 | .nx _ β=>.ok .none false β
 | .rt d fr β=>.ok d fr β
 |_=>.bad
def vA (n:Nat)(ds:List D):En:=.bx :: ds.map Sl.fz ++ List.replicate (n - 1 - ds.length) .no
def sf (n p:Nat)(m:SF):List D->Int->FB:=λds β=>if ds.length=p then CB (m (vA n ds) β) else .bad
abbrev Fx.fb (K:Frag)(H G:Hp)(ca:Str->Addr)(b:Addr):Fx:=⟨K,H,G,[b],ca,λ_=>false,some b⟩
def SR.startB {H G:Hp}{N:List Str}{b:Addr}{vs:List V}{ds:List D}{β:Int}(s:ak G H)(hb:H b=some (.lst [.int β]))(gb:G b=none)(r:b6 K G vs ds)(hn:ds.length + 1<=N.length):SR (Fx.fb K H G ca b) (some b) G H (L2.start N (.ref b :: vs)) (vA N.length ds) β:=by
 have hl:=r.len
 refine⟨s,ak.refl _,λc _ h=>h,λc o h _=>h,λc h=>?_,λc h=>h,λc h=>?_,?_,λi t e=>?_,λi j a d e h=>?_⟩
 ·have:c=b:=by simpa using h
  subst this;exact Mx.lst hb
 ·cases h;exact⟨hb,gb,.inl (by simp)⟩
 ·unfold L2.start vA;simp;omega
 ·cases i with
  |zero=>
   unfold vA at e
   cases e
   exact⟨b,rfl,rfl⟩
  |succ i=>
   unfold vA at e
   have e:(ds.map Sl.fz ++ List.replicate (N.length - 1 - ds.length) Sl.no)[i]? =some t:=by simpa using e
   by_cases hi:i < ds.length
   ·rw[K9 (by simpa using hi),Kv,Kj hi] at e
    cases e
    obtain⟨x,hx,rx⟩:=r.at (Kj hi)
    refine⟨x,?_,rx⟩
    unfold L2.start
    have hi':i < vs.length:=by rw[hl];exact hi
    rw[K9 (by simp;exact hi'),Kv,List.getElem?_cons_succ,hx];rfl
   ·rw[K4 (by simpa using hi),LS] at e
    split at e
    ·cases e;trivial
    ·cases e
 ·unfold vA at h
  have hm:=KD h
  rcases Kq.mp hm with z |hm
  ·cases z
  rcases KU.mp hm with z |z
  ·obtain⟨_,_,z⟩:=KC.mp z;cases z
  ·have:=M4 z;cases this
def tD {x qual:Str}{st:Stmt}{f:Addr}{fd:FuncData}{N:List Str}{ps:List Str}{k:Nat}{m:SF}(F:BP K x qual st f fd)(S:aL N ps (av st))(hp:1<=ps.length)
  (hbody:∀(cdv:Value) (A:Around) (outer:List Env) (s:Shared) (H G:Hp) (b:Addr) (E:XK),dC k (A.deeper (envOfC qual (av st) s.heap.objs.size f cdv))->BV (jU (mf P w) P w K mg base N qual (av st) f cdv A outer s H E) (Fx.fb K H G ca b) E (cx st) m) :
  eQ P w K mg base (mf P w) (k + 1) f fd ps (HW K (ps.length - 1) (sf N.length (ps.length - 1) m)):=by
 have hpn:ps.length<=N.length:=by have:=congrArg List.length S.pre;rw[LI] at this;omega
 refine F.rX S (λvs H Q E h=>?_) (λcdv A outer s H vs Q E hr h=>?_)
 ·obtain⟨b,rest,G,ds,β,rfl,hb,gb,sG,hl,r,_⟩:=h
  rw[KI,r.len];omega
 ·obtain⟨b,rest,G,ds,β,rfl,hb,gb,sG,hl,r,h⟩:=h
  refine⟨_,hbody cdv A outer s H G b E hr,?_⟩
  have I:=SR.startB (ca:=ca) (N:=N) sG hb gb r (by omega)
  refine⟨_,G,some b,β,I,?_⟩
  unfold sf at h
  rw[Kn hl] at h
  have fin':∀{B G' H' σ env β},SR (Fx.fb K H G ca b) B G' H' σ env β->gx (some b) H H'/\H' b=some (.lst [.int β]):=λJ=>by
   have e:=J.fix b rfl
   refine⟨λc o ec n=>J.keep c o ec λz=>n ?_,(J.box b e).1⟩
   have:c=b:=by simpa using z
   rw[this]
  cases q:m (vA N.length ds) β with
  |nx env β'=>rw[q] at h;exact λB G' H' σ J s'=>h .non G' H' (fin' J).1 (fin' J).2 s' J.sub (λc h1 h2=>J.new c h1 h2) Rp.non
  |bk env β'=>rw[q] at h;exact h.elim
  |ct env β'=>rw[q] at h;exact h.elim
  |rt d fr β'=>
   rw[q] at h
   refine λB G' H' σ env v J s' rv=>h v G' H' (fin' J).1 (fin' J).2 s' J.sub (λc h1 h2=>J.new c h1 h2) ?_
   cases fr with
   |true=>exact rv
   |false=>exact rv
  |exc c=>rw[q] at h;exact h.elim
  |bad=>rw[q] at h;exact h.elim
def td {n p:Nat}{m:SF}(ds:List D)(β:Int)(h:sf n p m ds β≠.bad):ds.length=p:=by
 unfold sf at h
 by_cases hl:ds.length=p
 ·exact hl
 ·rw[Ku hl] at h;exact absurd rfl h
end
def aR (p:Pr):D:=.tuple [.int p.1,.int p.2]
def mM:D->Option Pr
 | .tuple [.int a,.int b]=>some (a,b)
 |_=>none
def se {d:D}{p:Pr}(h:mM d=some p):d=aR p:=by
 unfold mM at h
 split at h
 ·cases h;rfl
 ·cases h
def yV (p:Pr):mM (aR p)=some p:=rfl
def fg:List D->Option (List Pr)
 | []=>some []
 |d :: ds=>match mM d,fg ds with
  |some p,some ps=>some (p :: ps)
  |_,_=>none
theorem jM:∀{ds:List D} {ps:List Pr},fg ds=some ps->ds=ps.map aR
 | [],ps,h=>by cases h;rfl
 |d :: ds,ps,h=>by
  unfold fg at h
  split at h
  ·rename_i p qs h1 h2;cases h;rw[se h1,jM h2];rfl
  ·cases h
theorem gi:∀ps:List Pr,fg (ps.map aR)=some ps
 | []=>rfl
 |p :: ps=>by
  show (match mM (aR p),fg (ps.map aR) with
   |some p,some ps=>some (p :: ps)
   |_,_=>none)=_
  rw[yV,gi ps]
section
variable {K:Frag}{X:Cx}{G H:Hp}
theorem b6.pairs:∀{ps:List Pr} {xs:List V},b6 K G xs (ps.map aR)->aS K G xs ps
 | [],_,.nil=>.nil
 |p :: ps,_,.cons r t=>by
  cases r with
  |tup hq r=>
   cases r with
   |cons r1 r=>
    cases r with
    |cons r2 r=>cases r;cases r1;cases r2;exact .cons ⟨_,rfl,hq⟩ (b6.pairs t)
theorem aS.rps:∀{ps:List Pr} {xs:List V},aS K G xs ps->b6 K G xs (ps.map aR)
 | [],_,.nil=>.nil
 |p :: ps,_,.cons r t=>by
  obtain⟨a,rfl,q⟩:=r
  exact .cons (.tup q (.cons (.int _) (.cons (.int _) .nil))) (aS.rps t)
def Gr (p:Pr):Bool:=decide (0<=p.1) && decide (p.1 < 8) && decide (0<=p.2) && decide (p.2 < 8)
def E7 {p:Pr}(h:Gr p=true):Sm p:=by
 unfold Gr at h
 simp only[KP,K3] at h
 exact⟨⟨h.1.1.1,h.1.1.2⟩,h.1.2,h.2⟩
noncomputable def cm (d:D):Option D:=match ja d with
 |some ds=>(match fg ds with
  |some ps=>if ps.all Gr=true/\(OM.bX 8 (OM.Mem ps)).length < 64 then some (.list ((OM.bX 8 (OM.Mem ps)).map aR)) else none
  |none=>none)
 |none=>none
variable {Γ:Fx}{E:XK}{e a b c:Expr}{f fa fb fc:VF D}{L La Lb:List Nat}{md ma mb mc:Md}{pos:Pos}
theorem nW {p1 p2 pos2:Pos}(hc:X.calm=true)(hu:X.A.units + 64 < cLine)(hK:X.K=Γ.K)(hg:Gl X "sorted")(hm:X.mg "sorted"=none)(hg2:Gl X "set")(hm2:X.mg "set"=none)(ha:SE X Γ E a fa La ma)
  (he:starEach [a] X.env=(false,eval a X.env) :: starEach [] X.env:=by rfl)
  (he2:starEach [.Call (.Name "set" p2) [a] [] pos2] X.env=(false,eval (.Call (.Name "set" p2) [a] [] pos2) X.env) :: starEach [] X.env:=by rfl) :
  SE X Γ E (.Call (.Name "sorted" p1) [.Call (.Name "set" p2) [a] [] pos2] [] pos) (f1 fa cm) La .w:=by
 refine PE.post' (g7 (qE hc) hg hm (by decide +kernel) (aK (fO (Bw hc hu) hg2 hm2 (by decide +kernel) (aK ha bq he) (by decide) (by decide) he) bq he2) (by decide) (by decide) he2) λσ H Q ⟨env,G,B,β,I,o⟩=>?_
 refine gH (r:=λx H1 Q=>Ht X.prog X.w X.K [x] H1 λy H2=>sJ X.prog X.w X.K [y] H2 Q) ?_ I o
 intro B G H x dx d Q s hB bx e k
 rw[hK]
 unfold cm at e
 cases q:ja dx with
 |none=>rw[q] at e;cases e
 |some ds=>
  rw[q] at e
  dsimp only at e
  cases q2:fg ds with
  |none=>rw[q2] at e;cases e
  |some ps=>
   rw[q2] at e
   dsimp only at e
   split at e
   ·rename_i hh
    obtain⟨h1,h2⟩:=hh
    cases e
    obtain⟨p,xs,rfl,hq,r⟩:=bx.seq q s
    rw[jM q2] at r
    have pv:=(r.mono s).pairs
    have sm:∀p,p∈ps->Sm p:=λp hp=>E7 (LJ.mp h1 p hp)
    refine⟨p,xs,ps,rfl,hq,pv,sm,λS qs hS hpv nd hm=>?_⟩
    have qsl:qs.length < 64:=by
     have:(pq qs).length<=(OM.bX 8 (OM.Mem ps)).length:=OM.nZ nd λx hx=>by
      have hx':=(hm x).mp hx
      have hs:=sm x hx'
      exact OM.a8.mpr ⟨⟨⟨hs.1.1,hs.1.2⟩,hs.2.1,hs.2.2⟩,hx'⟩
     simp only[Kx] at this
     omega
    have xS:=Ext.own s (o:=xY X.prog X.w S qs) hS
    refine⟨S,qs,rfl,aw,hpv.grow (fC.new hS),λp hp=>sm p ((hm p).mp hp),nd,qsl,λl ws rs hl hpw hr hmem=>?_⟩
    have ers:rs=OM.bX 8 (OM.Mem ps):=OM.ik hr (OM.cY _ _) λx=>by
     rw[hmem x,hm x,OM.a8]
     constructor
     ·intro hx;have hs:=sm x hx;exact⟨⟨⟨hs.1.1,hs.1.2⟩,hs.2.1,hs.2.2⟩,hx⟩
     ·intro hx;exact hx.2
    subst ers
    have hlH:H l=none:=by
     by_cases z:l=S
     ·subst z;exact hS
     ·rw[ay z] at hl;exact hl
    have lS:l≠S:=λz=>by subst z;rw[aw] at hl;cases hl
    have hh:ak H (upd (upd H S (xY X.prog X.w S qs)) l (.lst ws)):=(ak.new hS).trans (ak.new hl)
    have xx:=Ext.tups s hh
    refine k _ _ _ xx ⟨l,rfl,hlH,?_,ws,aw,?_⟩
    ·unfold kQ
     rw[s.free hlH,aw]
     exact Ku λy=>y
    ·refine aS.rps (Paired.mapP hpw λv p ⟨a,ea,qa⟩=>⟨a,ea,mR (s.trans hh) ?_⟩)
     exact qa.grow (fC.new hl)
   ·cases e
end
section
variable {K:Frag}{X:Cx}{G H:Hp}{Γ:Fx}{E:XK}{e a b c:Expr}{f fa fb fc:VF D}{L La Lb:List Nat}{md ma mb mc:Md}{pos apos cpos np:Pos}
def cS:D->Option D
 | .int n=>if 0<=n/\n<=1000 then some (.list (cC 0 n.toNat)) else none
 |_=>none
def yd (n:Nat):b6 K G ((List.range n).map λ(i:Nat)=>V.int (i:Int)) (cC 0 n):=by
 have key:∀l:List Nat,b6 K G (l.map λ(i:Nat)=>V.int (i:Int)) (l.map λ(k:Nat)=>int (0 + k)):=by
  intro l
  induction l with
  |nil=>exact .nil
  |cons x l ih=>exact .cons (by show Rp K G (.int (x:Int)) (.int (0 + (x:Int)));rw[Mz];exact .int _) ih
 exact key _
theorem mT {p1 p2 pos2:Pos}(hc:X.calm=true)(hg:Gl X "list")(hm:X.mg "list"=none)(hg2:Gl X "range")(hm2:X.mg "range"=none)(ha:SE X Γ E a fa La ma)
  (he:starEach [a] X.env=(false,eval a X.env) :: starEach [] X.env:=by rfl)
  (he2:starEach [.Call (.Name "range" p2) [a] [] pos2] X.env=(false,eval (.Call (.Name "range" p2) [a] [] pos2) X.env) :: starEach [] X.env:=by rfl) :
  SE X Γ E (.Call (.Name "list" p1) [.Call (.Name "range" p2) [a] [] pos2] [] pos) (f1 fa cS) La .w:=by
 refine PE.post' (fO (oX hc) hg hm (by decide +kernel) (aK (fO BD hg2 hm2 (by decide +kernel) (aK ha bq he) (by decide) (by decide) he) bq he2) (by decide) (by decide) he2) λσ H Q ⟨env,G,B,β,I,o⟩=>?_
 refine gH (r:=λx H1 Q=>∃n:Int,[x]= [.int n]/\∀p,H1 p=none->(λ(y:V) (H2:Hp)=>∃(p:Addr) (n:Int),[y]= [V.ref p]/\H2 p=some (.dZ 0 n)/\0<=n/\n<=1000/\∀l,H2 l=none->Q (.ref l) (upd H2 l (.lst ((List.range n.toNat).map λ(i:Nat)=>V.int (i:Int))))) (V.ref p) (upd H1 p (.dZ 0 n))) ?_ I o
 intro B G H x dx d Q s hB bx e k
 cases dx with
 |int n=>
  obtain rfl:=bx.int
  simp only[cS] at e
  split at e
  ·rename_i hh
   cases e
   refine⟨n,rfl,λp hp=>⟨p,n,rfl,aw,hh.1,hh.2,λl hl=>?_⟩⟩
   have hlp:l≠p:=λz=>by subst z;rw[aw] at hl;cases hl
   have hlH:H l=none:=by rw[ay hlp] at hl;exact hl
   have x1:=Ext.own s (o:=.dZ 0 n) hp
   have x2:=Ext.own x1.gh (o:=.lst ((List.range n.toNat).map λ(i:Nat)=>V.int (i:Int))) hl
   exact k _ _ _ (x1.trans x2) ⟨l,rfl,hlH,s.free hlH,_,aw,yd _⟩
  ·cases e
 |_=>cases e
def Dl:D->Option D
 | .int i=>some (.int (if i < 0 then -i else i))
 |_=>none
theorem Hw:xZ K (λx H Q=>∃i,[x]= [.int i]/\Q (.int (if i < 0 then -i else i)) H) Dl .v:=by
 intro B G H x dx d Q s hB bx e k
 cases dx with
 |int i=>cases e;obtain rfl:=bx.int;exact⟨i,rfl,k _ G H (Ext.refl s) (.int _)⟩
 |_=>cases e
def pj (d:D):Option D:=match ja d with
 |some _=>if d.showable=true/\d.hasDict=false/\d.depth<=64/\d.shown.length<=sizeLine/\zk d=true then some (.str d.shown) else none
 |none=>none
theorem zJ:xZ K (λx=>DI K [x]) pj .v:=by
 intro B G H x dx d Q s hB bx e k
 unfold pj at e
 cases q:ja dx with
 |none=>rw[q] at e;cases e
 |some ds=>
  rw[q] at e
  dsimp only at e
  split at e
  ·rename_i hh
   cases e
   obtain⟨a,xs,rfl,_,_⟩:=bx.seq q s
   exact⟨a,dx,rfl,(bx.rpH s).rep hh.2.2.2.2,hh.1,hh.2.1,hh.2.2.1,hh.2.2.2.1,k _ G H (Ext.refl s) (.str _)⟩
  ·cases e
noncomputable def Jr (d:D):Option D:=match d with
 | .list ds=>(match fg ds with
  |some ps=>if ps.all Gr=true/\ps.Nodup/\ps.length < 64 then some (.list ((OM.bX 8 (OM.Mem ps)).map aR)) else none
  |none=>none)
 |_=>none
def yz (ds:List D)(k:D):Option (D×List D):=match k with
 | .int i=>if -(2 ^ 63)<=i/\i < 2 ^ 63 then (match seqIndex? i ds.length with
  |some n=>(match ds[n]? with
   |some d=>some (d,ds.eraseIdx n)
   |none=>none)
  |none=>none) else none
 |_=>none
def iC (i j:Nat)(L:List Nat)(f:VF D):SF:=λenv β=>if qO env[i]? =true/\qO env[j]? =true/\i≠j then toS (f (vl env) β) λk β'=>match (bb L env)[j]? with
 |some (.ow (.list es))=>(match yz es k with
  |some (d,es')=>EC i ((bb L env).set j (.ow (.list es'))) β' λds=>if ds.length < sizeLine then some (ds ++ [d]) else none
  |none=>.bad)
 |_=>.bad else .bad
theorem b6.eraseIdx:∀{xs:List V} {ds:List D} (i:Nat),b6 K G xs ds->b6 K G (xs.eraseIdx i) (ds.eraseIdx i)
 |_,_,_,.nil=>.nil
 |_,_,0,.cons _ t=>t
 |_,_,i + 1,.cons r t=>.cons r (b6.eraseIdx i t)
theorem y6 (i j:Nat){x y:Str}{np2 apos2 cpos2:Pos}(hb:∀j,Γ.br j=false)(he:SE X Γ E e f L md)(hN:X.N[i]? =some x:=by rfl)(hv:vL X.env.scope x:=by first |exact Or.inl rfl |exact Or.inr (Or.inl rfl) |exact Or.inr (Or.inr rfl))(hd:(x == ("__debug__":Str))=false:=by decide)
  (hcd:(x == ("__classdict__":Str))=false:=by decide)
  (hN2:X.N[j]? =some y:=by rfl) (hv2:vL X.env.scope y:=by first |exact Or.inl rfl |exact Or.inr (Or.inl rfl) |exact Or.inr (Or.inr rfl)) (hd2:(y == ("__debug__":Str))=false:=by decide)
  (hcd2:(y == ("__classdict__":Str))=false:=by decide)
  (hbase:attributeBase (.Name x np) "append" X.env (eval (.Name x np) X.env)=eval (.Name x np) X.env:=by rfl)
  (hfew:((backTo cpos (starEach [.Call (.Attribute (.Name y np2) "pop" apos2) [e] [] cpos2] X.env)).all (λx=> !x.1) && (backToKw cpos (keywordEach [] X.env)).all (λx=>x.1.isSome)
   && decide ([Expr.Call (.Attribute (.Name y np2) "pop" apos2) [e] [] cpos2].length + ([]:List Keyword).length + (if ([]:List Keyword).isEmpty then 0 else 1) < 30))=true:=by rfl)
  (hline:(apos.endLine == cpos.line)=true:=by rfl) (hs:starEach [.Call (.Attribute (.Name y np2) "pop" apos2) [e] [] cpos2] X.env=(false,eval (.Call (.Attribute (.Name y np2) "pop" apos2) [e] [] cpos2) X.env) :: starEach [] X.env:=by rfl)
  (hbase2:attributeBase (.Name y np2) "pop" X.env (eval (.Name y np2) X.env)=eval (.Name y np2) X.env:=by rfl)
  (hfew2:((backTo cpos2 (starEach [e] X.env)).all (λx=> !x.1) && (backToKw cpos2 (keywordEach [] X.env)).all (λx=>x.1.isSome)
   && decide ([e].length + ([]:List Keyword).length + (if ([]:List Keyword).isEmpty then 0 else 1) < 30))=true:=by rfl)
  (hline2:(apos2.endLine == cpos2.line)=true:=by rfl) (hs2:starEach [e] X.env=(false,eval e X.env) :: starEach [] X.env:=by rfl)
  (hsw:swapsWith (.Call (.Attribute (.Name x np) "append" apos) [.Call (.Attribute (.Name y np2) "pop" apos2) [e] [] cpos2] [] cpos) none pos.line X.env=pure false:=by rfl) :
  SS X Γ E (.Expr (.Call (.Attribute (.Name x np) "append" apos) [.Call (.Attribute (.Name y np2) "pop" apos2) [e] [] cpos2] [] cpos) pos) (iC i j L f):=by
 refine PS.post (qh (AV PySem.F.plainAttrs_list PySem.F.slot_list_append PySem.F.type_list_append lr (iL hN hv hd hcd)
  (aK (AV PySem.F.plainAttrs_list PySem.F.slot_list_pop PySem.F.type_list_pop zu (iL hN2 hv2 hd2 hcd2) (aK he bq hs2) hbase2 hfew2 hline2 hs2 rfl) bq hs) hbase hfew hline hs rfl) hsw) λN σ H ⟨env,G,B,β,I,o⟩=>?_
 unfold iC at o
 by_cases hO:qO env[i]? =true/\qO env[j]? =true/\i≠j
 case neg=>rw[Ku hO] at o;exact o.elim
 rw[Kn hO] at o
 obtain⟨hO1,hO2,hij⟩:=hO
 obtain⟨ds0,q0⟩:=mH hO1
 obtain⟨es0,w0⟩:=mH hO2
 obtain⟨p,h1,_,_,_,xs,h5,_⟩:=I.slot i _ q0
 obtain⟨q,k1,_,_,_,ys,k5,_⟩:=I.slot j _ w0
 refine⟨_,h1,.inl ⟨rfl,xs,.inl (.inl h5)⟩,?_⟩
 refine⟨_,k1,.inl ⟨rfl,ys,.inl (.inl k5)⟩,?_⟩
 refine⟨env,G,B,β,I,b9 o λkd β' k v G' H' I' s' m' vo=>?_⟩
 cases ej:(bb L env)[j]? with
 |none=>rw[ej] at k;exact k.elim
 |some sj=>
  rw[ej] at k
  cases sj with
  |ow dj=>
   cases dj with
   |list es=>
    dsimp only at k
    cases ep:yz es kd with
    |none=>rw[ep] at k;exact k.elim
    |some pr=>
     obtain⟨d,es'⟩:=pr
     rw[ep] at k
     dsimp only at k
     unfold yz at ep
     cases kd <;> first | (cases ep;done) |skip
     rename_i ii
     dsimp only at ep
     split at ep
     ·rename_i hr
      cases eI:seqIndex? ii es.length with
      |none=>rw[eI] at ep;cases ep
      |some n=>
       rw[eI] at ep
       dsimp only at ep
       cases eD:es[n]? with
       |none=>rw[eD] at ep;cases ep
       |some d0=>
        rw[eD] at ep
        cases ep
        obtain rfl:=(vo.brw I.boxThere).int
        obtain⟨q',g1,_,_,_,zs,g5,g6⟩:=I'.slot j _ ej
        rw[k1] at g1;cases g1
        obtain⟨xv,ex,rx⟩:=g6.at eD
        refine⟨q,zs,ii,n,xv,rfl,rfl,g5,hr.1,hr.2,by rw[g6.len];exact eI,ex,?_⟩
        have I2:=I'.write hb ej k1 (o:=.lst (zs.eraseIdx n)) (d':=.list (es.eraseIdx n)) λH2 e2 s2=>⟨_,e2,g6.eraseIdx n⟩
        obtain⟨ds,fs,eq,eg,k⟩:=rJ k
        by_cases hz:ds.length < sizeLine
        case neg=>rw[Ku hz] at eg;cases eg
        rw[Kn hz] at eg
        cases eg
        obtain⟨p',f1,_,_,_,us,f5,f6⟩:=I2.slot i _ eq
        rw[h1] at f1;cases f1
        refine⟨p,us,xv,rfl,rfl,f5,by rw[f6.len];exact hz,?_⟩
        exact k B G' _ σ (I2.write hb eq h1 λH2 e2 s2=>⟨_,e2,f6.snoc rx⟩) s'
     ·cases ep
   |_=>exact k.elim
  |_=>exact k.elim
end
def cT:List D->Int->FB
 | [.int m],β=>if 0 < m/\m < 1073741824 then .ok (.int (β % m)) false (β / m) else .bad
 |_,_=>.bad
def xj {ds:List D}{β:Int}(h:cT ds β≠.bad):∃m,ds= [.int m]/\0 < m/\m < 1073741824:=by
 unfold cT at h
 split at h
 ·rename_i m
  by_cases hh:0 < m/\m < 1073741824
  ·exact⟨m,rfl,hh.1,hh.2⟩
  ·rw[Ku hh] at h;exact absurd rfl h
 ·exact absurd rfl h
def qS {m β:Int}(h0:0 < m)(h1:m < 1073741824):cT [.int m] β=.ok (.int (β % m)) false (β / m):=Kn ⟨h0,h1⟩
def constsOf:List Expr->Option (List Int)
 | []=>some []
 | .Constant (.int i) _ _ :: es=>(constsOf es).map λr=>i :: r
 |_=>none
def JS (ns:List Int):VF (List D):=λ_ β=>.ok (ns.map int) β
theorem pe {X:Cx}{Γ:Fx}{E:XK}:∀{es:List Expr} {ns:List Int},constsOf es=some ns->SA X Γ E es (JS ns) []
 | [],ns,h=>by
  have e:ns= []:=by unfold constsOf at h;exact (Option.some.inj h).symm
  subst e
  exact aq
 |e :: es,ns,h=>by
  unfold constsOf at h
  split at h
  ·cases ‹_ :: _= []›
  ·next i a b es' heq=>
   cases heq
   cases q:constsOf es with
   |none=>rw[q] at h;cases h
   |some r=>
    rw[q] at h
    have e2:i :: r=ns:=Option.some.inj h
    subst e2
    exact ae ax (pe q) rfl
  ·cases h
section
variable {P:Program}{w:World}{K:Frag}{mg:Str->Option Value}{base:Heap}
def Co {X:Cx}{i j:Nat}{x y:Str}{px py pos:Pos}{k:Nat}(hN:X.N.Nodup)(hi:X.N[i]? =some x)(hj:X.N[j]? =some y)(hx:X.env.scope.names.lookup x=some .local)(hy:X.env.scope.names.lookup y=some .local)(hc:X.calm=true) :
  PG X (.Tuple [.Name x px,.Name y py] k pos) (DE X.K 2 (n9 (j7 i) (n9 (j7 j) Cd))):=
 nP hc (cW (cz hN hi (Or.inl hx) (Or.inr hx)) (cW (cz hN hj (Or.inl hy) (Or.inr hy)) kY))
def Bx {b:Addr}{β m:Int}{H:Hp}{Q:VK}{G:Hp}(hb:H b=some (.lst [.int β]))(s:ak G H){p:Addr}(hp:H p=none)
  (kk:∀v G' H',gx (some b) H H'->H' b=some (.lst [.int (β / m)])->ak G G'->ak G' H'->(∀c,Mx H c->G c=none->G' c=none)->FV K H G' H' false (.int (β % m)) v->Q v H') (gb:G b=none) :
  Q (.int (β % m)) (upd (upd H p (.tup [.int (β / m),.int (β % m)])) b (.lst [.int (β / m)])):=by
 have hbp:b≠p:=aG hb hp
 refine kk _ G _ (λc o e n=>?_) aw (ak.refl _) (λc o e=>?_) (λc _ h=>h) (.int _)
 ·rw[ay (λz=>n (by rw[z])),ay (aG e hp)];exact e
 ·rw[ay (λz=>by rw[z,gb] at e;cases e),ay (aG (s c o e) hp)];exact s c o e
end
end L2
namespace L2
open PySem PySem.SeqAt PySem.Spec PyProof.Rows
section
variable {K:Frag}{X:Cx}{G H:Hp}{Γ:Fx}{E:XK}{e a b c:Expr}{f fa fb fc:VF D}{L La Lb:List Nat}{md ma mb mc:Md}{pos apos cpos np:Pos}
def fq:List D->Option (List Int)
 | []=>some []
 | .int i :: ds=>(fq ds).map (i :: ·)
 |_=>none
theorem kU:∀{ds:List D} {ns:List Int},fq ds=some ns->ds=ns.map int
 | [],ns,h=>by cases h;rfl
 | .int i :: ds,ns,h=>by
  unfold fq at h
  cases q:fq ds with
  |none=>rw[q] at h;cases h
  |some ms=>rw[q] at h;cases h;rw[kU q];rfl
 | .none :: _,_,h=>by cases h
 | .bool _ :: _,_,h=>by cases h
 | .str _ :: _,_,h=>by cases h
 | .list _ :: _,_,h=>by cases h
 | .tuple _ :: _,_,h=>by cases h
 | .dict _ :: _,_,h=>by cases h
theorem dD:∀ns:List Int,fq (ns.map int)=some ns
 | []=>rfl
 |n :: ns=>by show (fq (ns.map int)).map (n :: ·)=_;rw[dD ns];rfl
abbrev Fx.at (Γ:Fx)(H0:Hp):Fx:=⟨Γ.K,H0,Γ.G0,Γ.par,Γ.ca,Γ.br,Γ.bx⟩
end
end L2
namespace L2
open PySem PySem.Spec PyProof.Rows
section
variable {K:Frag}{X:Cx}{G H:Hp}
def EH (neg:Bool):D->D->Option D
 | .str x,.str y=>some (.bool (if neg then !decide (x=y) else decide (x=y)))
 |_,_=>none
def Aj (x y:Str):decide (V.str x=V.str y)=decide (x=y):=by
 rw[Ln];simp
def HG:ku K JT (EH true) .v:=by
 intro B G H x y dx dy d Q s hB bx by' e k
 cases dx <;> cases dy <;> first | (cases e;done) |skip
 cases e
 obtain rfl:=bx.str
 obtain rfl:=by'.str
 refine⟨rfl,?_⟩
 rw[Aj]
 exact k _ G H (Ext.refl s) (.bl _)
end
def qQ:En->Bool
 | []=>true
 | .no :: env=>qQ env
 | .fz _ :: env=>qQ env
 |_=>false
theorem jE:∀{env:En} {i:Nat} {s:Sl},qQ env=true->env[i]? =some s->s=.no\/∃d,s=.fz d
 | [],_,_,_,e=>by simp at e
 | .no :: env,0,_,_,e=>by simp at e;exact .inl e.symm
 | .fz d :: env,0,_,_,e=>by simp at e;exact .inr ⟨d,e.symm⟩
 | .no :: env,i + 1,s,h,e=>jE (env:=env) h (by simpa using e)
 | .fz d :: env,i + 1,s,h,e=>jE (env:=env) h (by simpa using e)
 | .ow _ :: _,_,_,h,_=>by cases h
 | .br _ :: _,_,_,h,_=>by cases h
 | .bx :: _,_,_,h,_=>by cases h
section
variable {X:Cx}{Γ:Fx}{E:XK}{m:SF}
def SR.drop {B:Option Addr}{G H:Hp}{σ:St}{env:En}{β:Int}(I:SR Γ B G H σ env β)(hf:qQ env=true):SR (Fx.fn Γ.K H G Γ.ca) none G H σ env 0:=by
 refine⟨I.sub,ak.refl _,λb _ h=>h,λb o h _=>h,λb h=>(by cases h),λb h=>(by cases h),λb h=>(by cases h),I.len,λi s e=>?_,λi j a d e h=>?_⟩
 ·rcases jE hf e with rfl | ⟨d,rfl⟩
  ·trivial
  ·exact I.slot i _ e
 ·rcases jE hf h with z | ⟨_,z⟩ <;> cases z
end
end L2
namespace L2
open PySem
section
variable {α γ:Type}
@[simp] theorem kr (a:α)(β:Int)(k:α->Int->R γ):(R.ok a β).bnd k=k a β:=rfl
@[simp] theorem Iz (c:Str)(k:α->Int->R γ):(R.exc c:R α).bnd k=.exc c:=rfl
@[simp] theorem Ip (k:α->Int->R γ):(R.bad:R α).bnd k=.bad:=rfl
@[simp] theorem IT (a:α)(β:Int)(k:α->Int->R γ):(R.ok a β).okb k=k a β:=rfl
@[simp] theorem qD (a:α)(β:Int):R.of (some a) β=.ok a β:=rfl
@[simp] theorem of_none (β:Int):(R.of none β:R α)=.bad:=rfl
@[simp] theorem IK (a:α)(β:Int)(k:α->Int->SO):toS (.ok a β) k=k a β:=rfl
@[simp] theorem Iw (c:Str)(k:α->Int->SO):toS (.exc c:R α) k=.exc c:=rfl
@[simp] theorem Iv (k:α->Int->SO):toS (.bad:R α) k=.bad:=rfl
end
section
variable (f fa fb fc:VF D)(t u:VF Bool)(m m':SF)(vs:List Nv)(β:Int)(env:En)(i j:Nat)(L:List Nat)
@[simp] theorem Ej:gv i vs β=R.of (dat vs[i]?) β:=rfl
@[simp] theorem vZ (d:D):dat (some (.da d))=some d:=rfl
@[simp] theorem Jo (d:D):cst d vs β=.ok d β:=rfl
@[simp] theorem J2 (g:D->Option D):f1 fa g vs β=(fa vs β).bnd λx β1=>R.of (g x) β1:=rfl
@[simp] theorem JZ (g:D->D->Option D):f2 fa fb g vs β=(fa vs β).bnd λx β1=>(fb vs β1).bnd λy β2=>R.of (g x y) β2:=rfl
@[simp] theorem wd:ah vs β=.ok [] β:=rfl
@[simp] theorem cD (fr:VF (List D)):aa fa fr vs β=(fa vs β).bnd λx β1=>(fr vs β1).bnd λxs β2=>.ok (x :: xs) β2:=rfl
@[simp] theorem qr:oB fa vs β=(fa vs β).bnd λx β1=>R.of (Ff x) β1:=rfl
@[simp] theorem qR:rV t vs β=(t vs β).bnd λc β1=>.ok (!c) β1:=rfl
@[simp] theorem FT:BS t u vs β=(t vs β).bnd λc β1=>if c=true then u vs β1 else .ok false β1:=rfl
@[simp] theorem rB:oo t u vs β=(t vs β).bnd λc β1=>if c=true then .ok true β1 else u vs β1:=rfl
@[simp] theorem JX (n:Bool):tN fa n vs β=(fa vs β).bnd λx β1=>.ok (if n then !Dt x else Dt x) β1:=rfl
@[simp] theorem JH:Kd t fa fb vs β=(t vs β).bnd λc β1=>if c=true then fa vs β1 else fb vs β1:=rfl
@[simp] theorem fV (c:Bool){β1:Int}(h:fa vs β=.ok (.bool c) β1):eJ fa vs β=.ok c β1:=by unfold eJ;rw[h];rfl
@[simp] theorem vM:vl []= []:=rfl
@[simp] theorem rg (s:Sl):vl (s :: env)=s.val :: vl env:=rfl
@[simp] theorem vg (d:D):(Sl.fz d).val=.da d:=rfl
@[simp] theorem IL (d:D):(Sl.ow d).val=.da d:=rfl
@[simp] theorem IW:Sl.no.val=.no:=rfl
@[simp] theorem Jj:Sl.bx.val=.bx:=rfl
@[simp] theorem IE:bb [] env=env:=rfl
@[simp] theorem Ho:bb (i :: L) env=bb L (ig env i):=rfl
@[simp] theorem Ik:aE m m' env β=(match m env β with
 | .nx env' β'=>m' env' β'
 |r=>r):=rfl
@[simp] theorem Ji:j3 L t m m' env β=toS (t (vl env) β) λc β'=>if c=true then m (bb L env) β' else m' (bb L env) β':=rfl
@[simp] theorem jA:cj f env β=toS (f (vl env) β) λd β'=>.rt d false β':=rfl
@[simp] theorem GW:sF f env β=toS (f (vl env) β) λd β'=>.rt d true β':=rfl
@[simp] theorem Jp:lh env β=.nx env β:=rfl
@[simp] theorem cf:aY i L f env β=toS (f (vl env) β) λd β'=>.nx ((bb L env).set i (.fz d)) β':=rfl
@[simp] theorem i9:hU i L f env β=toS (f (vl env) β) λd β'=>.nx ((bb L env).set i (.ow d)) β':=rfl
@[simp] theorem oz:tu L f env β=toS (f (vl env) β) λ_ β'=>.nx (bb L env) β':=rfl
end
def ar {m m':SF}{env env':En}{β β':Int}(h:m env β=.nx env' β'):aE m m' env β=m' env' β':=by unfold aE;rw[h]
def kC {m m':SF}{env:En}{β β':Int}{d:D}{b:Bool}(h:m env β=.rt d b β'):aE m m' env β=.rt d b β':=by unfold aE;rw[h]
def kT {L:List Nat}{t:VF Bool}{m m':SF}{env:En}{β β':Int}(h:t (vl env) β=.ok true β'):j3 L t m m' env β=m (bb L env) β':=by unfold j3;rw[h];rfl
def gC {L:List Nat}{t:VF Bool}{m m':SF}{env:En}{β β':Int}(h:t (vl env) β=.ok false β'):j3 L t m m' env β=m' (bb L env) β':=by unfold j3;rw[h];rfl
def aB {F:List D->FR}{fr:VF (List D)}{vs:List Nv}{β β1:Int}{ds:List D}{d:D}{b:Bool}(h:fr vs β=.ok ds β1)(e:F ds=.ok d b):au F fr vs β=.ok d β1:=by unfold au;rw[h];dsimp only[R.bnd];rw[e]
def Ao {F:List D->FR}{fr:VF (List D)}{vs:List Nv}{β β1:Int}{ds:List D}{d:D}(h:fr vs β=.ok ds β1)(e:F ds=.ok d true):sy F fr vs β=.ok d β1:=by unfold sy;rw[h];dsimp only[R.bnd];rw[e]
def de {fa:VF D}{g:D->Option D}{vs:List Nv}{β β1:Int}{x d:D}(h:fa vs β=.ok x β1)(e:g x=some d):f1 fa g vs β=.ok d β1:=by unfold f1;rw[h];dsimp only[R.bnd];rw[e];rfl
def aF {fa fb:VF D}{g:D->D->Option D}{vs:List Nv}{β β1 β2:Int}{x y d:D}(h:fa vs β=.ok x β1)(h':fb vs β1=.ok y β2)(e:g x y=some d):f2 fa fb g vs β=.ok d β2:=by unfold f2;rw[h];dsimp only[R.bnd];rw[h'];dsimp only[R.bnd];rw[e];rfl
def ke {i:Nat}{F:List D->Int->FB}{fr:VF (List D)}{vs:List Nv}{β β1 β2:Int}{ds:List D}{d:D}{b:Bool}(hi:uM vs i=true)(h:fr vs β=.ok ds β1)(e:F ds β1=.ok d b β2):ml i F fr vs β=.ok d β2:=by unfold ml;rw[Kn hi,h];dsimp only[R.bnd];rw[e]
def sz (n:Nat)(h:n<=1000):n<=sizeLine:=by rw[KY];omega
def HK (n:Nat)(h:n<=1000):n < sizeLine:=by rw[KY];omega
def jS {fr:VF (List D)}{vs:List Nv}{β β1:Int}{ds:List D}(h:fr vs β=.ok ds β1)(hz:ds.length<=1000):cB fr vs β=.ok (.tuple ds) β1:=by unfold cB;rw[h];exact Kn (sz _ hz)
def gz {fr:VF (List D)}{vs:List Nv}{β β1:Int}{ds:List D}(h:fr vs β=.ok ds β1)(hz:ds.length<=1000):bI fr vs β=.ok (.list ds) β1:=by unfold bI;rw[h];exact Kn (sz _ hz)
def vQ {i:Nat}{env:En}{β:Int}{g:List D->Option (List D)}{ds es:List D}(h:env[i]? =some (.ow (.list ds)))(e:g ds=some es):EC i env β g=.nx (env.set i (.ow (.list es))) β:=by unfold EC;rw[h];dsimp only;rw[e]
def mz {i:Nat}{L:List Nat}{f:VF D}{env:En}{β β':Int}{ds:List D}{d:D}(hi:env[i]? =some (.ow (.list ds)))(hf:f (vl env) β=.ok d β')(hL:(bb L env)[i]? =some (.ow (.list ds)))(hz:ds.length<=1000):kL i L f env β=.nx ((bb L env).set i (.ow (.list (ds ++ [d])))) β':=by
 unfold kL
 rw[Kn (by rw[hi];rfl),hf]
 exact vQ hL (Kn (HK _ hz))
def vh {i j:Nat}{L:List Nat}{f:VF D}{env:En}{β β':Int}{ds es es':List D}{k d:D}(hi:env[i]? =some (.ow (.list ds)))(hj:env[j]? =some (.ow (.list es)))(hij:i≠j)(hf:f (vl env) β=.ok k β')(hL:bb L env=env)(hp:yz es k=some (d,es'))(hz:ds.length<=1000):iC i j L f env β=.nx ((env.set j (.ow (.list es'))).set i (.ow (.list (ds ++ [d])))) β':=by
 unfold iC
 rw[Kn ⟨by rw[hi];rfl,by rw[hj];rfl,hij⟩,hf,hL]
 dsimp only[toS]
 rw[hj]
 dsimp only
 rw[hp]
 exact vQ (by rw[KH (Ne.symm hij)];exact hi) (Kn (HK _ hz))
def mV {i:Nat}{Le Li:List Nat}{fe fi:VF D}{env:En}{β β1 β2:Int}{ds:List D}{d:D}{k:Int}{n:Nat}(he:fe (vl env) β=.ok d β1)(h1:(bb Le env)[i]? =some (.ow (.list ds)))(hi:fi (vl env) β1=.ok (.int k) β2)(h2:(bb (Le ++ Li) env)[i]? =some (.ow (.list ds)))(hk:rT ds.length k=some n):kN i Le Li fe fi env β=.nx ((bb (Le ++ Li) env).set i (.ow (.list (ds.set n d)))) β2:=by
 unfold kN
 rw[he]
 dsimp only[toS]
 rw[Kn (by rw[h1];rfl),hi]
 exact vQ h2 (by dsimp only;rw[hk];rfl)
theorem nz {t:Tg}{ft:VF Bool}{fe:VF D}{vs:List Nv}(g:D->Bool)(h:D->D):∀{ds:List D} {β:Int},(∀d,d∈ds->∃vs1,l6 t d vs=some vs1/\ft vs1 β=.ok (g d) β/\(g d=true->fe vs1 β=.ok (h d) β))->fX t ft fe vs ds β=.ok ((ds.filter g).map h) β
 | [],β,_=>rfl
 |d :: ds,β,hh=>by
  obtain⟨vs1,e1,e2,e3⟩:=hh d (Kr ..)
  have ih:=nz (t:=t) (ft:=ft) (fe:=fe) (vs:=vs) g h (ds:=ds) (β:=β) λd' hd=>hh d' (Ko _ hd)
  unfold fX
  rw[e1]
  dsimp only
  rw[e2]
  dsimp only[R.okb]
  cases q:g d with
  |true=>
   rw[Kn rfl,e3 q]
   dsimp only
   rw[ih,List.filter_cons_of_pos q];rfl
  |false=>
   rw[Ku KN,ih,List.filter_cons_of_neg (by rw[q];exact KN)]
def uF {own:Nat}{ixs:List Nat}{t:Tg}{fi:VF (List D)}{ft:VF Bool}{fe:VF D}{vs:List Nv}{β β1:Int}{ds:List D}(g:D->Bool)(h:D->D)(hi:fi vs β=.ok ds β1)(hz:ds.length<=1000)
  (hh:∀d,d∈ds->∃vs1,l6 t d (fo own ixs vs)=some vs1/\ft vs1 β1=.ok (g d) β1/\(g d=true->fe vs1 β1=.ok (h d) β1)):bh own ixs t fi ft fe vs β=.ok (.list ((ds.filter g).map h)) β1:=by
 unfold bh
 rw[hi]
 dsimp only[R.bnd]
 rw[Kn (sz _ hz),nz g h hh];rfl
def xV {own:Nat}{ixs:List Nat}{t:Tg}{fi:VF (List D)}{fe:VF D}{vs:List Nv}{β β1:Int}{ds:List D}(h:D->D)(hi:fi vs β=.ok ds β1)(hz:ds.length<=1000)
  (hh:∀d,d∈ds->∃vs1,l6 t d (fo own ixs vs)=some vs1/\fe vs1 β1=.ok (h d) β1):bh own ixs t fi mF fe vs β=.ok (.list (ds.map h)) β1:=by
 rw[uF (ft:=mF) (λ_=>true) h hi hz λd hd=>let ⟨vs1,e1,e2⟩:=hh d hd;⟨vs1,e1,rfl,λ_=>e2⟩]
 rw[List.filter_eq_self.mpr (λ_ _=>rfl)]
def gj {α:Type}{own:Nat}{ixs:List Nat}{t:Tg}{fi:VF (List D)}{fe:VF D}{vs:List Nv}{β β1:Int}{l:List α}{e:α->D}(h:α->D)(hi:fi vs β=.ok (l.map e) β1)(hz:l.length<=1000)
  (hh:∀x,x∈l->∃vs1,l6 t (e x) (fo own ixs vs)=some vs1/\fe vs1 β1=.ok (h x) β1):bh own ixs t fi mF fe vs β=.ok (.list (l.map h)) β1:=by
 unfold bh
 rw[hi]
 dsimp only[R.bnd]
 rw[Kn (sz _ (by rw[Kx];exact hz))]
 have key:∀m:List α,(∀x,x∈m->x∈l)->fX t mF fe (fo own ixs vs) (m.map e) β1=.ok (m.map h) β1:=by
  intro m
  induction m with
  |nil=>intro _;rfl
  |cons x m ih=>
   intro hm
   obtain⟨vs1,e1,e2⟩:=hh x (hm x (Kr ..))
   rw[K7]
   unfold fX
   rw[e1]
   dsimp only
   show (R.ok true β1).okb _=_
   dsimp only[R.okb]
   rw[Kn rfl,e2]
   dsimp only
   rw[ih λy hy=>hm y (Ko _ hy)];rfl
 rw[key l λ_ h=>h];rfl
def kh {α:Type}{own:Nat}{ixs:List Nat}{t:Tg}{fi:VF (List D)}{ft:VF Bool}{fe:VF D}{vs:List Nv}{β β1:Int}{l:List α}{e:α->D}(g:α->Bool)(h:α->D)(hi:fi vs β=.ok (l.map e) β1)(hz:l.length<=1000)
  (hh:∀x,x∈l->∃vs1,l6 t (e x) (fo own ixs vs)=some vs1/\ft vs1 β1=.ok (g x) β1/\(g x=true->fe vs1 β1=.ok (h x) β1)):bh own ixs t fi ft fe vs β=.ok (.list ((l.filter g).map h)) β1:=by
 unfold bh
 rw[hi]
 dsimp only[R.bnd]
 rw[Kn (sz _ (by rw[Kx];exact hz))]
 have key:∀m:List α,(∀x,x∈m->x∈l)->fX t ft fe (fo own ixs vs) (m.map e) β1=.ok ((m.filter g).map h) β1:=by
  intro m
  induction m with
  |nil=>intro _;rfl
  |cons x m ih=>
   intro hm
   obtain⟨vs1,e1,e2,e3⟩:=hh x (hm x (Kr ..))
   have ih:=ih λy hy=>hm y (Ko _ hy)
   rw[K7]
   unfold fX
   rw[e1]
   dsimp only
   rw[e2]
   dsimp only[R.okb]
   cases q:g x with
   |true=>
    rw[Kn rfl,e3 q]
    dsimp only
    rw[ih,List.filter_cons_of_pos q];rfl
   |false=>
    rw[Ku KN,ih,List.filter_cons_of_neg (by rw[q];exact KN)]
 rw[key l λ_ h=>h];rfl
theorem cU {t:Tg}{m:SF}(Pv:Nat->En->Int->Prop):∀{ds:List D} {k:Nat} {env:En} {β:Int},Pv k env β->
  (∀i d env β,ds[i]? =some d->Pv (k + i) env β->∃env1,eS t d env=some env1/\∃env2 β2,m env1 β=.nx env2 β2/\Pv (k + i + 1) env2 β2)->∃env' β',kx t m ds env β=.nx env' β'/\Pv (k + ds.length) env' β'
 | [],k,env,β,h0,_=>⟨env,β,rfl,h0⟩
 |d :: ds,k,env,β,h0,hs=>by
  obtain⟨env1,e1,env2,β2,e2,h1⟩:=hs 0 d env β rfl h0
  obtain⟨env',β',e3,h2⟩:=cU Pv (t:=t) (m:=m) (ds:=ds) (k:=k + 1) h1 λi d' en be hi hp=>by
   have:=hs (i + 1) d' en be (by simpa using hi) (by rw[show k + (i + 1)=k + 1 + i by omega];exact hp)
   rw[show k + (i + 1) + 1=k + 1 + i + 1 by omega] at this
   exact this
  refine⟨env',β',?_,by rw[KI,show k + (ds.length + 1)=k + 1 + ds.length by omega];exact h2⟩
  unfold kx
  rw[e1]
  dsimp only
  rw[e2]
  exact e3
theorem iD {L:List Nat}{t:VF Bool}{m:SF}(Pv:Nat->En->Int->Prop)(Dn:En->Int->Prop):∀{n k:Nat} {env:En} {β:Int},k < n->Pv k env β->
  (∀k env β,Pv k env β->∃c β1,t (vl env) β=.ok c β1/\((c=false/\Dn (bb L env) β1)\/(c=true/\∃env2 β2 k',m (bb L env) β1=.nx env2 β2/\k' < k/\Pv k' env2 β2)))->∃env' β',gM L t m n env β=.nx env' β'/\Dn env' β'
 | 0,k,env,β,hk,_,_=>by omega
 |n + 1,k,env,β,hk,h0,hs=>by
  obtain⟨c,β1,e1,hc⟩:=hs k env β h0
  unfold gM
  rw[e1]
  dsimp only[toS]
  rcases hc with⟨rfl,hd⟩ | ⟨rfl,env2,β2,k',e2,hl,h1⟩
  ·exact⟨_,_,rfl,hd⟩
  ·rw[Kn rfl,e2]
   exact iD Pv Dn (n:=n) (k:=k') (by omega) h1 hs
end L2
namespace RM
open PySem L2
def n5:SF:=(cj (gk (f1 (gv 0) (iz "int")) (f1 (f1 (gv 0) (iz "bool")) xU)))
def nG (bJ:List D->FR):SF:=(cj (gk (au bJ (aa (gv 0) ah)) (iV (cst (.int 0)) (gv 0) (gv 1) A4 xG)))
def pB (bJ:List D->FR):SF:=(cj (gk (au bJ (aa (gv 0) ah)) (iV (cst (.int 1)) (gv 0) (cst (.int 8)) A4 A4)))
def ph (aX:List D->FR):SF:=(aE (j3 ([] ++ ([] ++ [])) (oo (rV (oB (f1 (gv 0) (iz "tuple")))) (eJ (f2 (f1 (gv 0) di) (cst (.int 2)) (fm true))))
 (cj (cst (.bool false)))
 lh)
 (cj (gk (au aX (aa (f2 (gv 0) (cst (.int 0)) b8) (aa (gv 1) ah))) (au aX (aa (f2 (gv 0) (cst (.int 1)) b8) (aa (gv 1) ah))))))
def qt:SF:=(sF (bh 1 [0] (.nm 0) (i6 (f2 (gv 0) (gv 0) eG)) mF (cB (aa (f2 (gv 0) (gv 1) Ar) (aa (f2 (gv 0) (gv 1) kB) ah)))))
def oy:SF:=(cj (f1 (bh 2 [] (.two 0 1) (bW (gv 0)) mF (f2 (gv 0) (gv 1) (fm false))) (dw λbs=>bs.any id)))
def fS (fQ fL h9 dM:List D->FR):SF:=(aE (j3 ([] ++ ([] ++ [])) (oo (rV (oB (f1 (gv 0) (iz "tuple")))) (eJ (f2 (f1 (gv 0) di) (cst (.int 2)) (fm true))))
 (cj (cst (.bool false)))
 lh)
 (aE (aY 1 ([] ++ []) (f2 (gv 0) (cst (.int 0)) b8))
 (aE (aY 2 ([] ++ []) (f2 (gv 0) (cst (.int 1)) b8))
 (aE (j3 (([1] ++ []) ++ []) (oo (rV (oB (au fQ (aa (gv 1) ah)))) (rV (oB (f1 (gv 2) (iz "tuple")))))
 (cj (cst (.bool false)))
 lh)
 (aE (j3 ([] ++ [1]) (rV (oB (f1 (bh 1 [1] (.nm 0) (bW (gv 2)) mF (au fL (aa (gv 0) (aa (gv 1) ah)))) (dw λbs=>bs.all id))))
 (cj (cst (.bool false)))
 lh)
 (cj (gk (f2 (gv 2) (au h9 (aa (gv 1) (aa (gv 2) ah))) (fm false)) (f1 (au dM (aa (gv 2) ah)) xU))))))))
def fJ (dG:List D->FR):SF:=(j3 ([0] ++ []) (rV (oB (au dG (aa (gv 0) ah))))
 (λenv β=>toS ((aa (cst (.str "this is no order")) ah) (vl env) β) λds _=>if ds.length<=sizeLine then .exc "NoOrder" else .bad)
 lh)
def eN:SF:=(aE (j3 ([] ++ []) (eJ (f2 (gv 1) (f1 (gv 0) di) xG))
 (cj (f2 (gv 0) (gv 1) b8))
 lh)
 (cj (cst (.int 0))))
def iM:SF:=(aE (aY 2 [] (bI (JS [48271,69621,16807,39373,30269,40014,40692,50021,61687,71993,83869,95561,30307]))) (aE (aY 3 ((((([] ++ []) ++ []) ++ ([] ++ ([] ++ []))) ++ ([] ++ [])) ++ ([] ++ ([] ++ []))) (f2 (f2 (f2 (f2 (f2 (gv 0) (cst (.int 2147483647)) kB) (cst (.int 12345)) cy) (f2 (gv 2) (f2 (gv 1) (cst (.int 13)) kB) b8) eG) (f2 (cst (.int 977)) (gv 1) eG) cy) (f2 (cst (.int 7919)) (f2 (gv 1) (cst (.int 13)) Ar) eG) cy))
 (aE (aY 3 ([] ++ []) (f2 (gv 3) (cst (.int 1000000007)) kB))
 (cj (f2 (f2 (f2 (f2 (gv 3) (gv 3) eG) (f2 (cst (.int 48271)) (gv 1) eG) cy) (cst (.int 1000000007)) kB) (cst (.int 7)) Ar)))))
def iW (dh dE:List D->FR):SF:=(aE (aY 2 ([0] ++ ([1] ++ [])) (au dh (aa (gv 0) (aa (gv 1) ah))))
 (aE (j3 (([] ++ []) ++ []) (eJ (f2 (f2 (gv 2) (cst (.int 2)) kB) (cst (.int 0)) (fm false)))
 (sF (bI (aa (f2 (f1 (gv 2) Dl) (cst (.int 2)) Ar) ah)))
 lh)
 (aE (aY 3 [] (cst (.int 0)))
 (aE (cP (.nm 4) [] (i6 (cst (.int 40)))
 (aY 3 (([] ++ []) ++ ([2] ++ ([4] ++ []))) (f2 (f2 (gv 3) (cst (.int 142857143)) eG) (au dE (aa (gv 2) (aa (gv 4) ah))) cy)))
 (sF (bI (aa (gv 3) ah)))))))
def c3 (aP:List D->Int->FB):SF:=(aE (hU 2 [] (f1 (gv 1) Eg))
 (aE (hU 3 [] (bI ah))
 (aE (gM ([] ++ []) (eJ (f2 (gv 2) (bI ah) (fm true)))
 (iC 3 2 ([] ++ []) (ml 0 aP (aa (f1 (gv 2) di) ah))) 1000)
 (kS 3))))
noncomputable def dR:SF:=(aE (aY 1 [] (f1 (gv 0) cm))
 (aE (aY 2 [] (f1 (cst (.int 1)) B6))
 (aE (gM ([] ++ []) (eJ (f2 (gv 2) (f1 (gv 1) di) (fm true)))
 (aE (aY 2 [] (f1 (gv 1) di))
 (aE (aY 3 [] (bI ah))
 (aE (cP (.two 4 5) [1] (bW (gv 1))
 (aY 3 ([] ++ ([] ++ [4])) (f2 (gv 3) (bh 2 [5,4] (.two 0 1) (bW (gv 1)) (eJ (f2 (gv 0) (gv 2) (fm false))) (cB (aa (gv 3) (aa (gv 1) ah)))) iQ)))
 (aY 1 ([] ++ []) (f1 (f2 (gv 1) (gv 3) iQ) cm))))) 1000)
 (cj (f1 (gv 1) uJ)))))
def fy (a9:List D->FR)(aP bO:List D->Int->FB):SF:=(aE (aY 2 ([] ++ ([1] ++ [])) (f2 (cst (.int 1)) (ml 0 aP (aa (gv 1) ah)) cy))
 (aE (aY 3 ([] ++ []) (ml 0 bO (aa (f1 (gv 2) cS) ah)))
 (aE (aY 4 (([] ++ ([] ++ ([] ++ ([] ++ [])))) ++ ([] ++ [])) (f2 (bI (aa (cst (.int 2)) (aa (cst (.int 3)) (aa (cst (.int 4)) (aa (cst (.int 7)) ah))))) (ml 0 aP (aa (cst (.int 4)) ah)) b8))
 (aE (hU 5 [] (bI ah))
 (aE (cP (.nm 6) [] (i6 (gv 2))
 (cP (.nm 7) (([] ++ []) ++ []) (pL (f2 (gv 6) (cst (.int 1)) cy) (gv 2))
 (j3 (([4] ++ []) ++ []) (eJ (f2 (ml 0 aP (aa (gv 4) ah)) (cst (.int 0)) (fm false)))
 (kL 5 (([] ++ []) ++ (([] ++ []) ++ [])) (cB (aa (f2 (gv 3) (gv 6) b8) (aa (f2 (gv 3) (gv 7) b8) ah))))
 lh)))
 (cj (cB (aa (gv 2) (aa (au a9 (aa (gv 5) ah)) ah)))))))))
def FQ:D->Bool
 | .int _=>true
 |_=>false
def jq:List D->FR
 | [d]=>if dg d=true then .bad else .ok (.bool (FQ d)) false
 |_=>.bad
def kG {d:D}(h:dg d=false):jq [d]=.ok (.bool (FQ d)) false:=Ku (by rw[h];exact KN)
def xa (ds:List D)(h:jq ds≠.bad):bt 1 1 n5 ds=jq ds:=by
 unfold jq at h
 split at h
 ·rename_i d
  cases q:dg d with
  |true=>rw[q] at h;exact absurd rfl h
  |false=>
   rw[kG q]
   have e1:iz "int" d=some (.bool (AA d "int")):=by unfold iz;rw[q];rfl
   have e2:iz "bool" d=some (.bool (AA d "bool")):=by unfold iz;rw[q];rfl
   show fin (cj (gk (f1 (gv 0) (iz "int")) (f1 (f1 (gv 0) (iz "bool")) xU)) [.fz d] 0)=_
   unfold cj gk f1 gv
   simp only[rg,vM,vg,List.getElem?_cons_zero,vZ,qD,kr,e1,e2]
   cases d <;> rfl
 ·exact absurd rfl h
def gJ (d:D)(n:Int):Bool:=match d with
 | .int i=>decide (0<=i/\i < n)
 |_=>false
def c8:List D->FR
 | [d,.int n]=>if dg d=true then .bad else .ok (.bool (gJ d n)) false
 |_=>.bad
def qw {d:D}{n:Int}(h:dg d=false):c8 [d,.int n]=.ok (.bool (gJ d n)) false:=Ku (by rw[h];exact KN)
def tP {i lo n:Int}{vs:List Nv}{β:Int}{fa fb fc:VF D}{g':D->D->Option D}{q:Bool}(ha:fa vs β=.ok (.int lo) β)(hb:fb vs β=.ok (.int i) β)(hc:fc vs β=.ok (.int n) β)(hq:g' (.int i) (.int n)=some (.bool q)):iV fa fb fc A4 g' vs β=.ok (.bool (decide (lo<=i) && q)) β:=by
 unfold iV
 rw[ha];dsimp only[R.bnd];rw[hb];dsimp only[R.bnd]
 show (match (some (PyData.bool (decide (lo<=i))):Option D) with
  |some (.bool true)=>_
  |some (.bool false)=>_
  |_=>_)=_
 by_cases h:lo<=i
 ·rw[Kt h]
  dsimp only
  rw[hc]
  dsimp only[R.bnd]
  rw[hq];rfl
 ·rw[KA h];rfl
def CV (ds:List D)(h:c8 ds≠.bad):bt 2 2 (nG jq) ds=c8 ds:=by
 unfold c8 at h
 split at h
 ·rename_i d n
  cases q:dg d with
  |true=>rw[q] at h;exact absurd rfl h
  |false=>
   rw[qw q]
   show fin (cj (gk (au jq (aa (gv 0) ah)) (iV (cst (.int 0)) (gv 0) (gv 1) A4 xG)) [.fz d,.fz (.int n)] 0)=_
   unfold cj gk au
   simp only[rg,vM,vg,cD,wd,Ej,List.getElem?_cons_zero,vZ,qD,kr,kG q]
   cases d with
   |int i=>
    show fin (toS (iV (cst (.int 0)) (gv 0) (gv 1) A4 xG [.da (.int i),.da (.int n)] 0) _)=_
    rw[tP (lo:=0) (i:=i) (n:=n) rfl rfl rfl rfl]
    show FR.ok (.bool (decide (0<=i) && decide (i < n))) false=.ok (.bool (decide (0<=i/\i < n))) false
    rw[Bool.decide_and]
   |_=>rfl
 ·exact absurd rfl h
def Eb (d:D):Bool:=match d with
 | .int i=>decide (1<=i/\i<=8)
 |_=>false
def j6:List D->FR
 | [d]=>if dg d=true then .bad else .ok (.bool (Eb d)) false
 |_=>.bad
def zG {d:D}(h:dg d=false):j6 [d]=.ok (.bool (Eb d)) false:=Ku (by rw[h];exact KN)
def Gm (ds:List D)(h:j6 ds≠.bad):bt 1 1 (pB jq) ds=j6 ds:=by
 unfold j6 at h
 split at h
 ·rename_i d
  cases q:dg d with
  |true=>rw[q] at h;exact absurd rfl h
  |false=>
   rw[zG q]
   show fin (cj (gk (au jq (aa (gv 0) ah)) (iV (cst (.int 1)) (gv 0) (cst (.int 8)) A4 A4)) [.fz d] 0)=_
   unfold cj gk au
   simp only[rg,vM,vg,cD,wd,Ej,List.getElem?_cons_zero,vZ,qD,kr,kG q]
   cases d with
   |int i=>
    show fin (toS (iV (cst (.int 1)) (gv 0) (cst (.int 8)) A4 A4 [.da (.int i)] 0) _)=_
    rw[tP (lo:=1) (i:=i) (n:=8) rfl rfl rfl rfl]
    show FR.ok (.bool (decide (1<=i) && decide (i<=8))) false=.ok (.bool (decide (1<=i/\i<=8))) false
    rw[Bool.decide_and]
   |_=>rfl
 ·exact absurd rfl h
def pairF:List D->FR
 | [d,.int n]=>(match mM d with
  |some p=>.ok (.bool (decide ((0<=p.1/\p.1 < n)/\(0<=p.2/\p.2 < n)))) false
  |none=>.bad)
 |_=>.bad
def zt (p:Pr)(n:Int):pairF [aR p,.int n]=.ok (.bool (decide ((0<=p.1/\p.1 < n)/\(0<=p.2/\p.2 < n)))) false:=rfl
def Et (ds:List D)(h:pairF ds≠.bad):bt 2 2 (ph c8) ds=pairF ds:=by
 unfold pairF at h
 split at h
 ·rename_i d n
  cases q:mM d with
  |none=>rw[q] at h;exact absurd rfl h
  |some p=>
   obtain rfl:=se q
   rw[zt]
   obtain⟨a,b⟩:=p
   show fin (toS (gk (au c8 (aa (f2 (gv 0) (cst (.int 0)) b8) (aa (gv 1) ah))) (au c8 (aa (f2 (gv 0) (cst (.int 1)) b8) (aa (gv 1) ah))) [.da (.tuple [.int a,.int b]),.da (.int n)] 0) λd β'=>.rt d false β')=_
   have e1:au c8 (aa (f2 (gv 0) (cst (.int 0)) b8) (aa (gv 1) ah)) [.da (.tuple [.int a,.int b]),.da (.int n)] 0=.ok (.bool (decide (0<=a/\a < n))) 0:=rfl
   have e2:au c8 (aa (f2 (gv 0) (cst (.int 1)) b8) (aa (gv 1) ah)) [.da (.tuple [.int a,.int b]),.da (.int n)] 0=.ok (.bool (decide (0<=b/\b < n))) 0:=rfl
   unfold gk
   rw[e1]
   dsimp only[R.bnd]
   by_cases c:0<=a/\a < n
   ·rw[Kt c,e2]
    show FR.ok (.bool (decide (0<=b/\b < n))) false=.ok (.bool (decide ((0<=a/\a < n)/\(0<=b/\b < n)))) false
    simp[c]
   ·rw[KA c]
    show FR.ok (.bool false) false=.ok (.bool (decide ((0<=a/\a < n)/\(0<=b/\b < n)))) false
    simp[c]
 ·exact absurd rfl h
def aH (n:Nat)(l:List Pr):D:=.tuple [.int n,.tuple (l.map aR)]
open Classical in
noncomputable def p6 (f:Nat->List Pr->FR):D->FR:=λd=>if h:∃nl:Nat×List Pr,d=aH nl.1 nl.2/\OM.Ord nl.1 nl.2 then f (Classical.choose h).1 (Classical.choose h).2 else .bad
def Du {p q:Pr}(h:aR p=aR q):p=q:=by
 obtain⟨a,b⟩:=p
 obtain⟨c,d⟩:=q
 unfold aR at h
 simp at h
 rw[h.1,h.2]
theorem lP:∀{l m:List Pr},l.map aR=m.map aR->l=m
 | [],[],_=>rfl
 | [],_ :: _,h=>by cases h
 |_ :: _,[],h=>by cases h
 |p :: l,q :: m,h=>by
  simp only[K7,List.cons.injEq] at h
  rw[Du h.1,lP h.2]
def Ax {n m:Nat}{l k:List Pr}(h:aH n l=aH m k):n=m/\l=k:=by
 unfold aH at h
 simp only[PyData.tuple.injEq,List.cons.injEq,int.injEq,and_true] at h
 exact⟨by omega,lP h.2⟩
def sd {f:Nat->List Pr->FR}{n:Nat}{l:List Pr}(O:OM.Ord n l):p6 f (aH n l)=f n l:=by
 unfold p6
 have h:∃nl:Nat×List Pr,aH n l=aH nl.1 nl.2/\OM.Ord nl.1 nl.2:=⟨(n,l),rfl,O⟩
 rw[dif_pos h]
 obtain⟨e,_⟩:=Classical.choose_spec h
 obtain⟨e1,e2⟩:=Ax e
 rw[<-e1,<-e2]
def rY {f:Nat->List Pr->FR}{d:D}(h:p6 f d≠.bad):∃n l,d=aH n l/\OM.Ord n l:=by
 unfold p6 at h
 by_cases q:∃nl:Nat×List Pr,d=aH nl.1 nl.2/\OM.Ord nl.1 nl.2
 ·obtain⟨nl,e,O⟩:=q;exact⟨nl.1,nl.2,e,O⟩
 ·rw[dif_neg q] at h;exact absurd rfl h
noncomputable def cK:List D->FR
 | [.int n,d]=>(match ja d with
  |some ds=>(match fg ds with
   |some ps=>(open Classical in if 1<=n/\n<=8/\OM.Wn n.toNat ps then .ok (.tuple ((OM.bX n.toNat (OM.Tr (OM.Mem ps))).map aR)) false else .bad)
   |none=>.bad)
  |none=>.bad)
 |_=>.bad
def zz {n:Nat}{ps:List Pr}(h1:1<=n)(h8:n<=8)(w:OM.Wn n ps):cK [.int n,.tuple (ps.map aR)]=.ok (.tuple ((OM.bX n (OM.Tr (OM.Mem ps))).map aR)) false:=by
 unfold cK
 simp only[ja,gi]
 rw[Kn ⟨by omega,by omega,by rw[K2];exact w⟩,K2]
def iZ:List D->FR
 | [.tuple ds]=>(match fg ds with
  |some ps=>if ps.length<=1000 then .ok (.bool (ps.any λp=>decide (p.1=p.2))) false else .bad
  |none=>.bad)
 |_=>.bad
theorem gW {α:Type}(f:α->Bool):∀l:List α,jf (l.map λx=>PyData.bool (f x))=some (l.map f)
 | []=>rfl
 |x :: l=>by
  show (jf (l.map λx=>PyData.bool (f x))).map (f x :: ·)=_
  rw[gW f l];rfl
def Fp (ds:List D)(h:iZ ds≠.bad):bt 1 1 oy ds=iZ ds:=by
 unfold iZ at h
 split at h
 ·rename_i ds
  cases q:fg ds with
  |none=>rw[q] at h;exact absurd rfl h
  |some ps=>
   rw[q] at h
   dsimp only at h
   by_cases hz:ps.length<=1000
   case neg=>rw[Ku hz] at h;exact absurd rfl h
   obtain rfl:=jM q
   have e:iZ [.tuple (ps.map aR)]=.ok (.bool (ps.any λp=>decide (p.1=p.2))) false:=by
    unfold iZ;simp only[gi];rw[Kn hz]
   rw[e]
   have ec:bh 2 [] (.two 0 1) (bW (gv 0)) mF (f2 (gv 0) (gv 1) (fm false)) [.da (.tuple (ps.map aR))] 0=.ok (.list (ps.map λp=>PyData.bool (decide (p.1=p.2)))) 0:=by
    exact gj (l:=ps) (e:=aR) (λp=>PyData.bool (decide (p.1=p.2))) rfl hz λp hp=>⟨_,rfl,rfl⟩
   show fin (toS ((bh 2 [] (.two 0 1) (bW (gv 0)) mF (f2 (gv 0) (gv 1) (fm false)) [.da (.tuple (ps.map aR))] 0).bnd λx β1=>R.of (dw (λbs=>bs.any id) x) β1) λd β'=>.rt d false β')=_
   rw[ec]
   simp only[kr,dw]
   rw[gW]
   simp[fin,List.any_map]
 ·exact absurd rfl h
theorem wu:∀l:List Pr,PyData.canLayAll0 (l.map aR)=true
 | []=>rfl
 |p :: l=>by
  show ((aR p).canLay0 && PyData.canLayAll0 (l.map aR))=true
  rw[wu l];rfl
theorem wB:∀l:List Pr,PyData.depthAll (l.map aR)<=1
 | []=>by show (0:Nat)<=1;omega
 |p :: l=>by
  show max (aR p).depth (PyData.depthAll (l.map aR))<=1
  have h1:(aR p).depth=1:=by simp[aR,PyData.depth,PyData.depthAll]
  have h2:=wB l
  omega
def nO (l:List Pr):SeqAt.shaped (.tuple (l.map aR))=true:=by
 unfold SeqAt.shaped
 have h1:(PyData.tuple (l.map aR)).canLay0=true:=by simp only[PyData.canLay0];exact wu l
 have h2:(PyData.tuple (l.map aR)).depth<=64:=by simp only[PyData.depth];have:=wB l;omega
 rw[h1,Kt h2];rfl
def EE (p q:Pr):PyData.eqv (aR p) (aR q)=decide (p=q):=by
 obtain⟨a,b⟩:=p
 obtain⟨c,d⟩:=q
 simp only[aR,PyData.eqv,PyData.eqvAll,Bool.and_true]
 rw[Ln]
 simp
theorem w8:∀l m:List Pr,PyData.eqvAll (l.map aR) (m.map aR)=decide (l=m)
 | [],[]=>rfl
 | [],_ :: _=>rfl
 |_ :: _,[]=>rfl
 |p :: l,q :: m=>by
  show (PyData.eqv (aR p) (aR q) && PyData.eqvAll (l.map aR) (m.map aR))=_
  rw[EE,w8 l m,Ln]
  simp
def mG {n:Nat}{l:List Pr}(O:OM.Ord n l):l.length < 64:=by
 have h8:=O.hi
 have e:=O.closed
 by_cases h:l.length < 64
 ·exact h
 ·exfalso
  have h1:l.length<=n * n:=by rw[<-e];exact OM.zv _ _
  have h2:n * n<=64:=L5 h8 h8
  have hn:n=8:=by
   by_cases h7:n<=7
   ·have:n * n<=7 * 7:=L5 h7 h7
    omega
   ·omega
  have hlen:l.length=n * n:=by subst hn;omega
  have hg:l=OM.gc n:=by
   refine OM.sub_eq O.ris (OM.uh n) (λx hx=>OM.fT.mpr (O.wn x hx)) ?_
   rw[hlen];unfold OM.gc;simp
  have:((0:Int),(0:Int))∈l:=by rw[hg];exact OM.fT.mpr ⟨⟨by omega,by omega⟩,by omega,by omega⟩
  exact O.irr 0 this
def z9 {n:Nat}(h1:1<=n)(h8:n<=8):j6 [.int n]=.ok (.bool true) false:=by
 rw[zG rfl]
 show FR.ok (.bool (decide (1<=(n:Int)/\(n:Int)<=8))) false=_
 rw[Kt (by omega)]
def A3 (neg:Bool)(l m:List Pr):fm neg (.tuple (l.map aR)) (.tuple (m.map aR))=some (.bool (if neg then !decide (l=m) else decide (l=m))):=by
 unfold fm
 rw[nO,nO]
 simp only[Bool.and_self,LD,PyData.eqv,w8]
def C1 {n:Nat}{l:List Pr}(O:OM.Ord n l):iZ [.tuple (l.map aR)]=.ok (.bool false) false:=by
 have hl:=mG O
 unfold iZ
 simp only[gi]
 rw[Kn (by omega)]
 have:(l.any λp=>decide (p.1=p.2))=false:=by
  rw[List.any_eq_false]
  intro p hp
  simp only[K3]
  intro e
  obtain⟨a,b⟩:=p
  simp only at e
  subst e
  exact O.irr a hp
 rw[this]
def yf {n:Nat}{l:List Pr}(O:OM.Ord n l):bt 3 1 (fS j6 pairF cK iZ) [aH n l]=.ok (.bool true) false:=by
 have hl:=mG O
 show fin (fS j6 pairF cK iZ [.fz (aH n l),.no,.no] 0)=_
 unfold fS
 rw[ar (env':=[.fz (aH n l),.no,.no]) (β':=0) (by rfl)]
 rw[ar (env':=[.fz (aH n l),.fz (.int n),.no]) (β':=0) (by rfl)]
 rw[ar (env':=[.fz (aH n l),.fz (.int n),.fz (.tuple (l.map aR))]) (β':=0) (by rfl)]
 have e4:au j6 (aa (gv 1) ah) [.da (aH n l),.da (.int n),.da (.tuple (l.map aR))] 0=.ok (.bool true) 0:=aB rfl (z9 O.lo O.hi)
 rw[ar (env':=[.fz (aH n l),.fz (.int n),.fz (.tuple (l.map aR))]) (β':=0) ?h4]
 case h4=>
  refine gC ?_
  show oo (rV (oB (au j6 (aa (gv 1) ah)))) _ [.da (aH n l),.da (.int n),.da (.tuple (l.map aR))] 0=_
  rw[rB,qR,qr,e4]
  rfl
 have e5:bh 1 [1] (.nm 0) (bW (gv 2)) mF (au pairF (aa (gv 0) (aa (gv 1) ah))) [.da (aH n l),.da (.int n),.da (.tuple (l.map aR))] 0=.ok (.list (l.map λ_=>PyData.bool true)) 0:=by
  refine gj (l:=l) (e:=aR) (λ_=>PyData.bool true) rfl (by omega) λp hp=>⟨_,rfl,?_⟩
  refine aB (b:=false) (ds:=[aR p,.int n]) rfl ?_
  rw[zt,Kt (by have:=O.wn p hp;exact this)]
 rw[ar (env':=[.fz (aH n l),.fz (.int n),.fz (.tuple (l.map aR))]) (β':=0) ?h5]
 case h5=>
  refine gC ?_
  show rV (oB (f1 (bh 1 [1] (.nm 0) (bW (gv 2)) mF (au pairF (aa (gv 0) (aa (gv 1) ah)))) (dw λbs=>bs.all id))) [.da (aH n l),.da (.int n),.da (.tuple (l.map aR))] 0=_
  rw[qR,qr,de (d:=.bool true) e5 (by simp only[dw];rw[gW];simp)]
  rfl
 have e6:au cK (aa (gv 1) (aa (gv 2) ah)) [.da (aH n l),.da (.int n),.da (.tuple (l.map aR))] 0=.ok (.tuple (l.map aR)) 0:=aB rfl (by rw[zz O.lo O.hi O.wn,O.closed])
 have e7:au iZ (aa (gv 2) ah) [.da (aH n l),.da (.int n),.da (.tuple (l.map aR))] 0=.ok (.bool false) 0:=aB rfl (C1 O)
 show fin (toS (gk (f2 (gv 2) (au cK (aa (gv 1) (aa (gv 2) ah))) (fm false)) (f1 (au iZ (aa (gv 2) ah)) xU) [.da (aH n l),.da (.int n),.da (.tuple (l.map aR))] 0) _)=_
 unfold gk
 rw[aF (d:=.bool true) (x:=.tuple (l.map aR)) rfl e6 (by rw[A3];simp)]
 dsimp only[R.bnd]
 rw[de (d:=.bool true) e7 rfl]
 rfl
noncomputable def dr:List D->FR
 | [d]=>p6 (λ_ _=>.ok (.bool true) false) d
 |_=>.bad
def p7 {n:Nat}{l:List Pr}(O:OM.Ord n l):dr [aH n l]=.ok (.bool true) false:=by simp only[dr];exact sd O
def vk (ds:List D)(h:dr ds≠.bad):bt 3 1 (fS j6 pairF cK iZ) ds=dr ds:=by
 unfold dr at h
 split at h
 ·obtain⟨n,l,rfl,O⟩:=rY h
  rw[yf O,p7 O]
 ·exact absurd rfl h
noncomputable def js:List D->FR
 | [d]=>p6 (λ_ _=>.ok .none false) d
 |_=>.bad
def qq {n:Nat}{l:List Pr}(O:OM.Ord n l):js [aH n l]=.ok .none false:=by simp only[js];exact sd O
def B9 (ds:List D)(h:js ds≠.bad):bt 1 1 (fJ dr) ds=js ds:=by
 unfold js at h
 split at h
 ·obtain⟨n,l,rfl,O⟩:=rY h
  rw[qq O]
  have e:au dr (aa (gv 0) ah) [.da (aH n l)] 0=.ok (.bool true) 0:=aB (ds:=[aH n l]) rfl (p7 O)
  show fin (fJ dr [.fz (aH n l)] 0)=_
  unfold fJ
  rw[gC (β':=0)]
  ·rfl
  ·show rV (oB (au dr (aa (gv 0) ah))) [.da (aH n l)] 0=_
   rw[qR,qr,e];rfl
 ·exact absurd rfl h
abbrev bN (ns:List Int):D:=.dict [(.none,.list (ns.map int))]
def oh {i j:Int}(h: -(2 ^ 64) < i/\i < 2 ^ 64):eG (.int i) (.int j)=some (.int (i * j)):=Kn (by dsimp only;rw[Kt h.1,Kt h.2];rfl)
def EB {i j:Int}(h: -(2 ^ 64) < j/\j < 2 ^ 64):eG (.int i) (.int j)=some (.int (i * j)):=Kn (by dsimp only;rw[Kt h.1,Kt h.2,Bool.and_self,Bool.or_true])
def nX {i j:Int}(h:0 < j):kB (.int i) (.int j)=some (.int (i % j)):=Kn (Kt h)
def An {i j:Int}(h:0 < j)(h2:j < 1073741824):Ar (.int i) (.int j)=some (.int (i / j)):=Kn (by dsimp only;rw[Kt h,Kt h2];rfl)
theorem c4 {α β:Type}(f:α->β)(l:List α)(i:Int):ij (l.map f) i=(ij l i).map f:=by
 unfold ij
 rw[Kx]
 cases rT l.length i with
 |none=>rfl
 |some j=>simp
def iA {α:Type}{l:List α}{k:Nat}(h:k < l.length):ij l (k:Int)=some l[k]:=jI (Kj h)
def Em {fa fb:VF D}{vs:List Nv}{β β1 β2:Int}{i j:Int}(h:fa vs β=.ok (.int i) β1)(h':fb vs β1=.ok (.int j) β2):eJ (f2 fa fb xG) vs β=.ok (decide (i < j)) β2:=fV _ _ _ _ (aF h h' rfl)
def fB {neg:Bool}{fa fb:VF D}{vs:List Nv}{β β1 β2:Int}{i j:Int}(h:fa vs β=.ok (.int i) β1)(h':fb vs β1=.ok (.int j) β2):eJ (f2 fa fb (fm neg)) vs β=.ok (if neg then !decide (i=j) else decide (i=j)) β2:=by
 refine fV _ _ _ _ (aF h h' ?_)
 cases neg <;> rfl
def Fh (ns:List Int)(k:Nat):∃z,bt 2 2 eN [bN ns,.int k]=.ok (.int z) false:=by
 show ∃z,fin (eN [.fz (bN ns),.fz (.int k)] 0)=.ok (.int z) false
 unfold eN
 have e:eJ (f2 (gv 1) (f1 (gv 0) di) xG) [.da (bN ns),.da (.int k)] 0=.ok (decide ((k:Int) < (ns.map int).length)) 0:=Em rfl rfl
 by_cases h:k < ns.length
 ·refine⟨ns[k],?_⟩
  rw[Kt (by simp;exact h)] at e
  rw[kC (d:=.int ns[k]) (b:=false) (β':=0)]
  ·rfl
  ·rw[kT e]
   show toS (f2 (gv 0) (gv 1) b8 [.da (bN ns),.da (.int k)] 0) _=_
   rw[aF (x:=bN ns) (y:=.int k) (d:=.int ns[k]) (β1:=0) (β2:=0) rfl rfl]
   ·rfl
   ·show ij (ns.map int) (k:Int)=_
    rw[c4,iA h];rfl
 ·refine⟨0,?_⟩
  rw[KA (by simp;omega)] at e
  rw[ar (env':=[.fz (bN ns),.fz (.int k)]) (β':=0)]
  ·rfl
  ·rw[gC e];rfl
noncomputable def wR:List D->FR:=bt 2 2 eN
noncomputable def Bc:List D->FR:=bt 4 2 iM
abbrev uY:List Int:=[48271,69621,16807,39373,30269,40014,40692,50021,61687,71993,83869,95561,30307]
def HJ (c k:Int):∃z,Bc [.int c,.int k]=.ok (.int z) false:=by
 show ∃z,fin (iM [.fz (.int c),.fz (.int k),.no,.no] 0)=.ok (.int z) false
 unfold iM
 rw[ar (env':=[.fz (.int c),.fz (.int k),.fz (.list (uY.map int)),.no]) (β':=0) (by rfl)]
 obtain⟨j,hj⟩:∃j:Nat,k % 13=j:=⟨(k % 13).toNat,by omega⟩
 have hj13:j < uY.length:=by show j < 13;omega
 have e1:f2 (f2 (f2 (f2 (f2 (gv 0) (cst (.int 2147483647)) kB) (cst (.int 12345)) cy) (f2 (gv 2) (f2 (gv 1) (cst (.int 13)) kB) b8) eG) (f2 (cst (.int 977)) (gv 1) eG) cy) (f2 (cst (.int 7919)) (f2 (gv 1) (cst (.int 13)) Ar) eG) cy [.da (.int c),.da (.int k),.da (.list (uY.map int)),.no] 0
   =.ok (.int ((c % 2147483647 + 12345) * uY[j] + 977 * k + 7919 * (k / 13))) 0:=by
  refine aF (aF (aF (aF (aF (x:=.int c) (y:=.int 2147483647) rfl rfl (nX (by omega))) rfl rfl) (aF (x:=.list (uY.map int)) rfl (aF (x:=.int k) (y:=.int 13) rfl rfl (nX (by omega))) (d:=.int uY[j]) ?_) (oh ⟨by omega,by omega⟩)) (aF (x:=.int 977) (y:=.int k) rfl rfl (oh ⟨by omega,by omega⟩)) rfl) (aF (x:=.int 7919) rfl (aF (x:=.int k) (y:=.int 13) rfl rfl (An (by omega) (by omega))) (oh ⟨by omega,by omega⟩)) rfl
  show ij (uY.map int) (k % 13)=_
  rw[hj,c4,iA hj13];rfl
 generalize ((c % 2147483647 + 12345) * uY[j] + 977 * k + 7919 * (k / 13))=st at e1
 rw[ar (env':=[.fz (.int c),.fz (.int k),.fz (.list (uY.map int)),.fz (.int st)]) (β':=0) ?h]
 case h=>
  show toS (f2 _ _ cy [.da (.int c),.da (.int k),.da (.list (uY.map int)),.no] 0) _=_
  rw[e1];rfl
 have e2:f2 (gv 3) (cst (.int 1000000007)) kB [.da (.int c),.da (.int k),.da (.list (uY.map int)),.da (.int st)] 0=.ok (.int (st % 1000000007)) 0:=aF rfl rfl (nX (by omega))
 rw[ar (env':=[.fz (.int c),.fz (.int k),.fz (.list (uY.map int)),.fz (.int (st % 1000000007))]) (β':=0) ?h2]
 case h2=>
  show toS (f2 (gv 3) (cst (.int 1000000007)) kB [.da (.int c),.da (.int k),.da (.list (uY.map int)),.da (.int st)] 0) _=_
  rw[e2];rfl
 have hb: -(2 ^ 64) < st % 1000000007/\st % 1000000007 < 2 ^ 64:=⟨by omega,by omega⟩
 generalize st % 1000000007=u at hb
 have e3:f2 (f2 (f2 (f2 (gv 3) (gv 3) eG) (f2 (cst (.int 48271)) (gv 1) eG) cy) (cst (.int 1000000007)) kB) (cst (.int 7)) Ar [.da (.int c),.da (.int k),.da (.list (uY.map int)),.da (.int u)] 0=.ok (.int ((u * u + 48271 * k) % 1000000007 / 7)) 0:=
  aF (aF (aF (aF (x:=.int u) (y:=.int u) rfl rfl (oh hb)) (aF (x:=.int 48271) (y:=.int k) rfl rfl (oh ⟨by omega,by omega⟩)) rfl) rfl (nX (by omega))) rfl (An (by omega) (by omega))
 refine⟨(u * u + 48271 * k) % 1000000007 / 7,?_⟩
 show fin (toS (f2 _ (cst (.int 7)) Ar [.da (.int c),.da (.int k),.da (.list (uY.map int)),.da (.int u)] 0) _)=_
 rw[e3];rfl
noncomputable def Gi:List D->FR:=bt 5 2 (iW wR Bc)
def GG (ns:List Int)(k:Nat):∃z,Gi [bN ns,.int k]=.ok (.list [.int z]) true:=by
 obtain⟨c,hc⟩:=Fh ns k
 show ∃z,fin (iW wR Bc [.fz (bN ns),.fz (.int k),.no,.no,.no] 0)=.ok (.list [.int z]) true
 unfold iW
 have e0:au wR (aa (gv 0) (aa (gv 1) ah)) [.da (bN ns),.da (.int k),.no,.no,.no] 0=.ok (.int c) 0:=aB rfl hc
 rw[ar (env':=[.fz (bN ns),.fz (.int k),.fz (.int c),.no,.no]) (β':=0) ?h]
 case h=>
  show toS (au wR _ [.da (bN ns),.da (.int k),.no,.no,.no] 0) _=_
  rw[e0];rfl
 have e1:eJ (f2 (f2 (gv 2) (cst (.int 2)) kB) (cst (.int 0)) (fm false)) [.da (bN ns),.da (.int k),.da (.int c),.no,.no] 0=.ok (decide (c % 2=0)) 0:=fB (neg:=false) (aF rfl rfl (nX (by omega))) rfl
 by_cases h:c % 2=0
 ·rw[Kt h] at e1
  refine⟨(if c < 0 then -c else c) / 2,?_⟩
  rw[kC (d:=.list [.int ((if c < 0 then -c else c) / 2)]) (b:=true) (β':=0)]
  ·rfl
  ·rw[kT e1]
   show toS (bI (aa (f2 (f1 (gv 2) Dl) (cst (.int 2)) Ar) ah) [.da (bN ns),.da (.int k),.da (.int c),.no,.no] 0) _=_
   rw[gz (ds:=[.int ((if c < 0 then -c else c) / 2)]) (β1:=0)]
   ·rfl
   ·have e2:f2 (f1 (gv 2) Dl) (cst (.int 2)) Ar [.da (bN ns),.da (.int k),.da (.int c),.no,.no] 0=.ok (.int ((if c < 0 then -c else c) / 2)) 0:=aF (de (x:=.int c) rfl rfl) rfl (An (by omega) (by omega))
    rw[cD,e2];rfl
   ·simp
 ·rw[KA h] at e1
  rw[ar (env':=[.fz (bN ns),.fz (.int k),.fz (.int c),.no,.no]) (β':=0) (by rw[gC e1];rfl)]
  rw[ar (env':=[.fz (bN ns),.fz (.int k),.fz (.int c),.fz (.int 0),.no]) (β':=0) (by rfl)]
  obtain⟨env',β',el,z,x,rfl,rfl⟩:=cU (t:=.nm 4) (m:=aY 3 (([] ++ []) ++ ([2] ++ ([4] ++ []))) (f2 (f2 (gv 3) (cst (.int 142857143)) eG) (au Bc (aa (gv 2) (aa (gv 4) ah))) cy)) (ds:=cC 0 40) (k:=0)
   (λ_ env β=>∃(z:Int) (x:Sl),env= [.fz (bN ns),.fz (.int k),.fz (.int c),.fz (.int z),x]/\β=0) (env:=[.fz (bN ns),.fz (.int k),.fz (.int c),.fz (.int 0),.no]) (β:=0) ⟨0,.no,rfl,rfl⟩ (by
    rintro i d env β hi ⟨z,x,rfl,rfl⟩
    obtain⟨j,rfl⟩:∃j:Int,d=.int j:=by
     unfold cC at hi
     rw[Kv] at hi
     cases q:(List.range 40)[i]? with
     |none=>rw[q] at hi;cases hi
     |some j=>rw[q] at hi;cases hi;exact⟨_,rfl⟩
    obtain⟨y,hy⟩:=HJ c j
    refine⟨_,rfl,_,_,?_,z * 142857143 + y,.fz (.int j),rfl,rfl⟩
    show toS (f2 (f2 (gv 3) (cst (.int 142857143)) eG) (au Bc (aa (gv 2) (aa (gv 4) ah))) cy [.da (bN ns),.da (.int k),.da (.int c),.da (.int z),.da (.int j)] 0) _=_
    rw[aF (d:=.int (z * 142857143 + y)) (aF (x:=.int z) (y:=.int 142857143) (β1:=0) (β2:=0) rfl rfl (EB ⟨by omega,by omega⟩)) (aB (ds:=[.int c,.int j]) (β1:=0) rfl hy) rfl]
    rfl)
  refine⟨z,?_⟩
  rw[ar (env':=[.fz (bN ns),.fz (.int k),.fz (.int c),.fz (.int z),x]) (β':=0) ?h2]
  case h2=>exact el
  show fin (toS (bI (aa (gv 3) ah) [.da (bN ns),.da (.int k),.da (.int c),.da (.int z),x.val] 0) _)=_
  rw[gz (ds:=[.int z]) (β1:=0) rfl (by simp)]
  rfl
noncomputable def nH:List D->Int->FB:=sf 4 1 (c3 cT)
theorem lay_ints:∀ns:List Int,PyData.canLayAll0 (ns.map int)=true
 | []=>rfl
 |n :: ns=>by
  show ((int n).canLay0 && PyData.canLayAll0 (ns.map int))=true
  rw[lay_ints ns];rfl
theorem sk:∀ns:List Int,PyData.depthAll (ns.map int)=0
 | []=>rfl
 |n :: ns=>by
  show max (int n).depth (PyData.depthAll (ns.map int))=0
  rw[sk ns];rfl
def shaped_ints (ns:List Int):SeqAt.shaped (.list (ns.map int))=true:=by
 unfold SeqAt.shaped
 have h1:(PyData.list (ns.map int)).canLay0=true:=by simp only[PyData.canLay0];exact lay_ints ns
 have h2:(PyData.list (ns.map int)).depth<=64:=by simp only[PyData.depth];rw[sk];omega
 rw[h1,Kt h2];rfl
theorem sZ:∀l m:List Int,PyData.eqvAll (l.map int) (m.map int)=decide (l=m)
 | [],[]=>rfl
 | [],_ :: _=>rfl
 |_ :: _,[]=>rfl
 |p :: l,q :: m=>by
  show ((p == q) && PyData.eqvAll (l.map int) (m.map int))=_
  rw[sZ l m,Ln]
  simp
def tf (neg:Bool)(l m:List Int):fm neg (.list (l.map int)) (.list (m.map int))=some (.bool (if neg then !decide (l=m) else decide (l=m))):=by
 unfold fm
 rw[shaped_ints,shaped_ints]
 simp only[Bool.and_self,LD,PyData.eqv,sZ]
theorem fZ {α:Type}:∀{l:List α} {k:Nat} {x:α},l[k]? =some x->(x :: l.eraseIdx k).Perm l
 | [],_,_,h=>by simp at h
 |y :: l,0,x,h=>by simp at h;subst h;exact List.Perm.refl _
 |y :: l,k + 1,x,h=>by
  have h:l[k]? =some x:=by simpa using h
  have ih:=fZ h
  show (x :: y :: l.eraseIdx k).Perm (y :: l)
  exact (List.Perm.swap y x _).trans (ih.cons y)
theorem pz {α β:Type}(f:α->β):∀(l:List α) (k:Nat),(l.map f).eraseIdx k=(l.eraseIdx k).map f
 | [],_=>rfl
 |_ :: _,0=>rfl
 |x :: l,k + 1=>by simp[pz f l k]
def CJ (ns:List Int)(hz:ns.length<=100)(β:Int):∃(ms:List Int) (β':Int),nH [.list (ns.map int)] β=.ok (.list (ms.map int)) true β'/\ms.Perm ns:=by
 show ∃(ms:List Int) (β':Int),CB (c3 cT [.bx,.fz (.list (ns.map int)),.no,.no] β)=.ok (.list (ms.map int)) true β'/\ms.Perm ns
 unfold c3
 rw[ar (env':=[.bx,.fz (.list (ns.map int)),.ow (.list (ns.map int)),.no]) (β':=β) (by rfl)]
 have ez:bI ah [Nv.bx,.da (.list (ns.map int)),.da (.list (ns.map int)),.no] β=.ok (.list []) β:=gz rfl (by simp)
 rw[ar (env':=[.bx,.fz (.list (ns.map int)),.ow (.list (ns.map int)),.ow (.list [])]) (β':=β) ?h]
 case h=>
  show toS (bI ah [Nv.bx,.da (.list (ns.map int)),.da (.list (ns.map int)),.no] β) _=_
  rw[ez];rfl
 obtain⟨env',β',ew,ms,rfl,hp⟩:=iD (L:=[] ++ []) (t:=eJ (f2 (gv 2) (bI ah) (fm true))) (m:=iC 3 2 ([] ++ []) (ml 0 cT (aa (f1 (gv 2) di) ah)))
  (λk env β=>∃ls ms:List Int,env= [.bx,.fz (.list (ns.map int)),.ow (.list (ls.map int)),.ow (.list (ms.map int))]/\(ms ++ ls).Perm ns/\k=ls.length)
  (λenv β=>∃ms:List Int,env= [.bx,.fz (.list (ns.map int)),.ow (.list []),.ow (.list (ms.map int))]/\ms.Perm ns) (n:=1000) (k:=ns.length) (env:=[.bx,.fz (.list (ns.map int)),.ow (.list (ns.map int)),.ow (.list [])]) (β:=β) (by omega) ⟨ns,[],rfl,by simp,rfl⟩ (by
   rintro k env β ⟨ls,ms,rfl,hp,rfl⟩
   have e1:bI ah [Nv.bx,.da (.list (ns.map int)),.da (.list (ls.map int)),.da (.list (ms.map int))] β=.ok (.list (([]:List Int).map int)) β:=gz rfl (by simp)
   have et:eJ (f2 (gv 2) (bI ah) (fm true)) [Nv.bx,.da (.list (ns.map int)),.da (.list (ls.map int)),.da (.list (ms.map int))] β=.ok (!decide (ls= [])) β:=
    fV _ _ _ _ (aF (x:=.list (ls.map int)) rfl e1 (by rw[tf];rfl))
   refine⟨_,_,et,?_⟩
   have hlen:=hp.length_eq
   rw[KO] at hlen
   cases ls with
   |nil=>exact .inl ⟨rfl,ms,rfl,by simpa using hp⟩
   |cons y ys=>
    refine .inr ⟨rfl,?_⟩
    have hm:(0:Int) < ((y :: ys).length:Nat)/\(((y :: ys).length:Nat):Int) < 1073741824:=by
     have:(y :: ys).length<=100:=by omega
     constructor
     ·simp
     ·omega
    obtain⟨j,hj⟩:∃j:Nat,β % (((y :: ys).length:Nat):Int)=j:=⟨(β % (((y :: ys).length:Nat):Int)).toNat,by have:=Int.emod_nonneg β (b:=(((y :: ys).length:Nat):Int)) (by omega);omega⟩
    have hj2:j < (y :: ys).length:=by have:=Int.emod_lt_of_pos β hm.1;omega
    have ef:ml 0 cT (aa (f1 (gv 2) di) ah) [Nv.bx,.da (.list (ns.map int)),.da (.list ((y :: ys).map int)),.da (.list (ms.map int))] β=.ok (.int (j:Int)) (β / (((y :: ys).length:Nat):Int)):=by
     refine ke (ds:=[.int (((y :: ys).length:Nat):Int)]) (b:=false) (by rfl) ?_ (by rw[qS hm.1 hm.2,hj])
     show R.ok [int ((((y :: ys).map int).length:Nat):Int)] β=_
     rw[Kx]
    have hpop:yz ((y :: ys).map int) (.int (j:Int))=some (.int (y :: ys)[j],((y :: ys).eraseIdx j).map int):=by
     unfold yz
     dsimp only
     rw[Kn ⟨by omega,by omega⟩]
     have es:seqIndex? (j:Int) ((y :: ys).map int).length=some j:=by
      rw[Kx]
      exact PySem.StrLaws.seqIndex_nonneg (by omega) (by omega)
     rw[es]
     dsimp only
     rw[Kv,Kj hj2,pz];rfl
    refine⟨[.bx,.fz (.list (ns.map int)),.ow (.list (((y :: ys).eraseIdx j).map int)),.ow (.list ((ms ++ [(y :: ys)[j]]).map int))],β / (((y :: ys).length:Nat):Int),((y :: ys).eraseIdx j).length,?_,?_,(y :: ys).eraseIdx j,ms ++ [(y :: ys)[j]],rfl,?_,rfl⟩
    ·show iC 3 2 ([] ++ []) (ml 0 cT (aa (f1 (gv 2) di) ah)) [.bx,.fz (.list (ns.map int)),.ow (.list ((y :: ys).map int)),.ow (.list (ms.map int))] β=_
     rw[vh (ds:=ms.map int) (es:=(y :: ys).map int) (by rfl) (by rfl) (by decide) ef (by rfl) hpop (by rw[Kx];omega),Lo]
     rfl
    ·rw[List.length_eraseIdx]
     rw[Kn hj2]
     show (y :: ys).length - 1 < (y :: ys).length
     simp
    ·rw[Lj]
     exact (List.Perm.append_left ms (fZ (Kj hj2))).trans hp)
 refine⟨ms,β',?_,hp⟩
 rw[ar ew]
 rfl
def Ic {n:Nat}{l:List Pr}(h8:n<=8)(w:OM.Wn n l):OM.bX 8 (OM.Mem l)=OM.bX n (OM.Mem l):=by
 refine OM.ik (OM.cY _ _) (OM.cY _ _) λx=>?_
 rw[OM.a8,OM.a8]
 constructor
 ·rintro⟨_,h⟩;exact⟨w x h,h⟩
 ·rintro⟨h1,h⟩;exact⟨⟨⟨h1.1.1,by omega⟩,h1.2.1,by omega⟩,h⟩
def Cm {n:Nat}{l:List Pr}(h1:1<=n)(h8:n<=8)(w:OM.Wn n l)(nd:l.Nodup)(irr:∀a,(a,a)∉l):l.length < 64:=by
 have:=OM.nZ (l:=(0,0) :: l) (m:=OM.gc n) (K6.mpr ⟨irr 0,nd⟩) (λx hx=>by
  rcases Kq.mp hx with e |e
  ·subst e;exact OM.fT.mpr ⟨⟨by simp,by simp;omega⟩,by simp,by simp;omega⟩
  ·exact OM.fT.mpr (w x e))
 have hg:(OM.gc n).length=n * n:=by unfold OM.gc;simp
 have hn:n * n<=64:=L5 h8 h8
 rw[hg,KI] at this
 omega
def EF {n:Nat}{l:List Pr}(h8:n<=8)(w:OM.Wn n l):l.all Gr=true:=by
 rw[LJ]
 intro p hp
 have:=w p hp
 unfold Gr
 rw[Kt this.1.1,Kt (by omega:p.1 < 8),Kt this.2.1,Kt (by omega:p.2 < 8)];rfl
def lX {n:Nat}{l:List Pr}{d:D}(h8:n<=8)(w:OM.Wn n l)(hl:(OM.bX n (OM.Mem l)).length < 64)(hd:ja d=some (l.map aR)):cm d=some (.list ((OM.bX n (OM.Mem l)).map aR)):=by
 unfold cm
 rw[hd]
 simp only[gi]
 rw[Ic h8 w,Kn ⟨EF h8 w,hl⟩]
def uA (l:List Pr)(p:Pr):List Pr:=(l.filter λq=>decide (q.1=p.2)).map λq=>(p.1,q.2)
def wz (l:List Pr)(p:Pr):(uA l p).length<=l.length:=by unfold uA;rw[Kx];exact Mo ..
theorem sx (l m:List Pr):(m.flatMap (uA l)).length<=m.length * l.length:=by
 induction m with
 |nil=>simp
 |cons p m ih=>
  rw[MM,KO,KI,Nat.succ_mul]
  have:=wz l p
  omega
def mE {a b:List D}(h:a.length + b.length<=10000):iQ (.list a) (.list b)=some (.list (a ++ b)):=Kn (by rw[KY];omega)
noncomputable def eT:List D->FR:=bt 6 1 dR
def p4 {n:Nat}{ps:List Pr}(h1:1<=n)(h8:n<=8)(w:OM.Wn n ps)(irr:∀a,¬OM.Tr (OM.Mem ps) a a):eT [.list (ps.map aR)]=.ok (.tuple ((OM.bX n (OM.Tr (OM.Mem ps))).map aR)) false:=by
 have blen:∀{l:List Pr},OM.DJ n ps l->l.length < 64:=λ{l} B=>Cm h1 h8 B.wn (OM.gX B.ris) λa ha=>irr a (B.sup _ ha)
 show fin (dR [.fz (.list (ps.map aR)),.no,.no,.no,.no,.no] 0)=_
 unfold dR
 have B0:=OM.yp (ps:=ps) w
 have e0:f1 (gv 0) cm [.da (.list (ps.map aR)),.no,.no,.no,.no,.no] 0=.ok (.list ((OM.bX n (OM.Mem ps)).map aR)) 0:=de rfl (lX h8 w (blen B0) rfl)
 rw[ar (env':=[.fz (.list (ps.map aR)),.fz (.list ((OM.bX n (OM.Mem ps)).map aR)),.no,.no,.no,.no]) (β':=0) ?h0]
 case h0=>
  show toS (f1 (gv 0) cm [.da (.list (ps.map aR)),.no,.no,.no,.no,.no] 0) _=_
  rw[e0];rfl
 rw[ar (env':=[.fz (.list (ps.map aR)),.fz (.list ((OM.bX n (OM.Mem ps)).map aR)),.fz (.int (-1)),.no,.no,.no]) (β':=0) (by rfl)]
 obtain⟨env',β',ew,rfl,x,sz,a,b,rfl⟩:=iD (L:=[] ++ []) (t:=eJ (f2 (gv 2) (f1 (gv 1) di) (fm true)))
  (m:=aE (aY 2 [] (f1 (gv 1) di)) (aE (aY 3 [] (bI ah)) (aE (cP (.two 4 5) [1] (bW (gv 1)) (aY 3 ([] ++ ([] ++ [4])) (f2 (gv 3) (bh 2 [5,4] (.two 0 1) (bW (gv 1)) (eJ (f2 (gv 0) (gv 2) (fm false))) (cB (aa (gv 3) (aa (gv 1) ah)))) iQ))) (aY 1 ([] ++ []) (f1 (f2 (gv 1) (gv 3) iQ) cm)))))
  (λk env β=>β=0/\∃(l:List Pr) (sz:Int) (x a b:Sl),env= [.fz (.list (ps.map aR)),.fz (.list (l.map aR)),.fz (.int sz),x,a,b]/\OM.DJ n ps l/\(sz= -1\/∃lp,OM.DJ n ps lp/\l=OM.jt n lp/\sz=lp.length)/\k=2 * (64 - l.length) + (if sz=l.length then 0 else 1))
  (λenv β=>β=0/\∃(x sz a b:Sl),env= [.fz (.list (ps.map aR)),.fz (.list ((OM.bX n (OM.Tr (OM.Mem ps))).map aR)),sz,x,a,b])
  (n:=1000) (k:=2 * (64 - (OM.bX n (OM.Mem ps)).length) + (if (-1:Int)=(OM.bX n (OM.Mem ps)).length then 0 else 1)) (env:=[.fz (.list (ps.map aR)),.fz (.list ((OM.bX n (OM.Mem ps)).map aR)),.fz (.int (-1)),.no,.no,.no]) (β:=0)
  (by split <;> omega) ⟨rfl,_,_,_,_,_,rfl,B0,.inl rfl,rfl⟩ (by
   rintro k env β ⟨rfl,l,sz,x,a,b,rfl,B,hsz,rfl⟩
   have hl:=blen B
   have et:eJ (f2 (gv 2) (f1 (gv 1) di) (fm true)) [.da (.list (ps.map aR)),.da (.list (l.map aR)),.da (.int sz),x.val,a.val,b.val] 0=.ok (!decide (sz=((l.map aR).length:Nat))) 0:=fB (neg:=true) rfl rfl
   rw[Kx] at et
   refine⟨_,_,et,?_⟩
   by_cases c:sz=(l.length:Nat)
   ·refine .inl ⟨by rw[Kt c];rfl,rfl,x,.fz (.int sz),a,b,?_⟩
    rcases hsz with h | ⟨lp,Bp,rfl,h⟩
    ·omega
    ·show [Sl.fz (.list (ps.map aR)),.fz (.list ((OM.jt n lp).map aR)),.fz (.int sz),x,a,b]=_
     rw[OM.zI Bp (by omega)]
   ·refine .inr ⟨by rw[KA c];rfl,?_⟩
    obtain⟨B2,hs⟩:=OM.sQ B
    have hl2:=blen B2
    have hge:l.length<=(OM.jt n l).length:=OM.nZ (OM.gX B.ris) hs
    have eturn:∃x' a' b':Sl,aE (aY 2 [] (f1 (gv 1) di)) (aE (aY 3 [] (bI ah)) (aE (cP (.two 4 5) [1] (bW (gv 1)) (aY 3 ([] ++ ([] ++ [4])) (f2 (gv 3) (bh 2 [5,4] (.two 0 1) (bW (gv 1)) (eJ (f2 (gv 0) (gv 2) (fm false))) (cB (aa (gv 3) (aa (gv 1) ah)))) iQ))) (aY 1 ([] ++ []) (f1 (f2 (gv 1) (gv 3) iQ) cm)))) [.fz (.list (ps.map aR)),.fz (.list (l.map aR)),.fz (.int sz),x,a,b] 0
      =.nx [.fz (.list (ps.map aR)),.fz (.list ((OM.jt n l).map aR)),.fz (.int (l.length:Nat)),x',a',b'] 0:=by
     rw[ar (env':=[.fz (.list (ps.map aR)),.fz (.list (l.map aR)),.fz (.int (l.length:Nat)),x,a,b]) (β':=0) ?g1]
     case g1=>
      show SO.nx [.fz (.list (ps.map aR)),.fz (.list (l.map aR)),.fz (.int ((l.map aR).length:Nat)),x,a,b] 0=_
      rw[Kx]
     have e3:bI ah [.da (.list (ps.map aR)),.da (.list (l.map aR)),.da (.int (l.length:Nat)),x.val,a.val,b.val] 0=.ok (.list []) 0:=gz rfl (by simp)
     rw[ar (env':=[.fz (.list (ps.map aR)),.fz (.list (l.map aR)),.fz (.int (l.length:Nat)),.fz (.list []),a,b]) (β':=0) ?g2]
     case g2=>
      show toS (bI ah [.da (.list (ps.map aR)),.da (.list (l.map aR)),.da (.int (l.length:Nat)),x.val,a.val,b.val] 0) _=_
      rw[e3];rfl
     obtain⟨env2,β2,ef,rfl,a2,b2,rfl⟩:=cU (t:=.two 4 5) (m:=aY 3 ([] ++ ([] ++ [4])) (f2 (gv 3) (bh 2 [5,4] (.two 0 1) (bW (gv 1)) (eJ (f2 (gv 0) (gv 2) (fm false))) (cB (aa (gv 3) (aa (gv 1) ah)))) iQ)) (ds:=l.map aR) (k:=0)
      (λi env β=>β=0/\∃a b:Sl,env= [.fz (.list (ps.map aR)),.fz (.list (l.map aR)),.fz (.int (l.length:Nat)),.fz (.list (((l.take i).flatMap (uA l)).map aR)),a,b]) (env:=[.fz (.list (ps.map aR)),.fz (.list (l.map aR)),.fz (.int (l.length:Nat)),.fz (.list []),a,b]) (β:=0) ⟨rfl,a,b,rfl⟩ (by
       rintro i d env β hi ⟨rfl,a,b,rfl⟩
       rw[Kv] at hi
       cases q:l[i]? with
       |none=>rw[q] at hi;cases hi
       |some p=>
        rw[q] at hi
        cases hi
        have hil:i < l.length:=(Kz.mp q).1
        refine⟨[.fz (.list (ps.map aR)),.fz (.list (l.map aR)),.fz (.int (l.length:Nat)),.fz (.list (((l.take (0 + i)).flatMap (uA l)).map aR)),.fz (.int p.1),.fz (.int p.2)],rfl,[.fz (.list (ps.map aR)),.fz (.list (l.map aR)),.fz (.int (l.length:Nat)),.fz (.list (((l.take (0 + i + 1)).flatMap (uA l)).map aR)),.fz (.int p.1),.fz (.int p.2)],0,?_,rfl,_,_,rfl⟩
        have ec:bh 2 [5,4] (.two 0 1) (bW (gv 1)) (eJ (f2 (gv 0) (gv 2) (fm false))) (cB (aa (gv 3) (aa (gv 1) ah))) [.da (.list (ps.map aR)),.da (.list (l.map aR)),.da (.int (l.length:Nat)),.da (.list (((l.take (0 + i)).flatMap (uA l)).map aR)),.da (.int p.1),.da (.int p.2)] 0=.ok (.list ((uA l p).map aR)) 0:=by
         rw[kh (l:=l) (e:=aR) (λq=>decide (q.1=p.2)) (λq=>aR (p.1,q.2)) rfl (by omega) (β1:=0)]
         ·unfold uA;rw[My];rfl
         ·intro q hq
          refine⟨_,rfl,fB (neg:=false) (i:=q.1) (j:=p.2) rfl rfl,λ_=>?_⟩
          exact jS (ds:=[.int p.1,.int q.2]) rfl (by simp)
        have hk:(l.take (0 + i)).length<=63:=by rw[LI];omega
        have hfl:=sx l (l.take (0 + i))
        have hfl2:(l.take (0 + i)).length * l.length<=63 * 63:=L5 hk (by omega)
        have hm1:=wz l p
        have e5:f2 (gv 3) (bh 2 [5,4] (.two 0 1) (bW (gv 1)) (eJ (f2 (gv 0) (gv 2) (fm false))) (cB (aa (gv 3) (aa (gv 1) ah)))) iQ [.da (.list (ps.map aR)),.da (.list (l.map aR)),.da (.int (l.length:Nat)),.da (.list (((l.take (0 + i)).flatMap (uA l)).map aR)),.da (.int p.1),.da (.int p.2)] 0=.ok (.list (((l.take (0 + i + 1)).flatMap (uA l)).map aR)) 0:=by
         refine aF rfl ec ?_
         rw[mE (by rw[Kx,Kx];omega),<-Lo]
         have:l.take (0 + i + 1)=l.take (0 + i) ++ [p]:=by rw[Lm,LW,q];rfl
         rw[this,List.flatMap_append,MM,List.flatMap_nil,LF]
        show toS (f2 (gv 3) (bh 2 [5,4] (.two 0 1) (bW (gv 1)) (eJ (f2 (gv 0) (gv 2) (fm false))) (cB (aa (gv 3) (aa (gv 1) ah)))) iQ [.da (.list (ps.map aR)),.da (.list (l.map aR)),.da (.int (l.length:Nat)),.da (.list (((l.take (0 + i)).flatMap (uA l)).map aR)),.da (.int p.1),.da (.int p.2)] 0) _=_
        rw[e5];rfl)
     rw[Lm,Kx,Mh (Km _)] at ef
     rw[ar (env':=[.fz (.list (ps.map aR)),.fz (.list (l.map aR)),.fz (.int (l.length:Nat)),.fz (.list ((l.flatMap (uA l)).map aR)),a2,b2]) (β':=0) ?g3]
     case g3=>exact ef
     have hfl:=sx l l
     have hfl2:l.length * l.length<=63 * 63:=L5 (by omega) (by omega)
     have e6:f1 (f2 (gv 1) (gv 3) iQ) cm [.da (.list (ps.map aR)),.da (.list (l.map aR)),.da (.int (l.length:Nat)),.da (.list ((l.flatMap (uA l)).map aR)),a2.val,b2.val] 0=.ok (.list ((OM.jt n l).map aR)) 0:=by
      refine de (x:=.list ((l ++ OM.more l).map aR)) (aF rfl rfl ?_) (lX h8 (OM.z7 B) hl2 rfl)
      rw[mE (by rw[Kx,Kx];omega),<-Lo];rfl
     refine⟨.fz (.list ((l.flatMap (uA l)).map aR)),a2,b2,?_⟩
     show toS (f1 (f2 (gv 1) (gv 3) iQ) cm [.da (.list (ps.map aR)),.da (.list (l.map aR)),.da (.int (l.length:Nat)),.da (.list ((l.flatMap (uA l)).map aR)),a2.val,b2.val] 0) _=_
     rw[e6];rfl
    obtain⟨x',a',b',et2⟩:=eturn
    refine⟨_,_,_,et2,?_,rfl,_,_,_,_,_,rfl,B2,.inr ⟨l,B,rfl,rfl⟩,rfl⟩
    rw[Ku c]
    split <;> omega)
 rw[ar ew]
 rfl
def sU (ms:List Int)(ps:List Pr):Prop:=∀p,p∈ps->∃i j:Nat,i < j/\ms[i]? =some p.1/\ms[j]? =some p.2
theorem nu {α:Type}:∀{l:List α} {i j:Nat} {x:α},l.Nodup->l[i]? =some x->l[j]? =some x->i=j
 | [],_,_,_,_,h,_=>by simp at h
 |y :: l,0,0,_,_,_,_=>rfl
 |y :: l,0,j + 1,x,nd,h1,h2=>by
  simp at h1
  subst h1
  exact absurd (KD (by simpa using h2)) (K6.mp nd).1
 |y :: l,i + 1,0,x,nd,h1,h2=>by
  simp at h2
  subst h2
  exact absurd (KD (by simpa using h1)) (K6.mp nd).1
 |y :: l,i + 1,j + 1,x,nd,h1,h2=>by
  rw[nu (l:=l) (i:=i) (j:=j) (K6.mp nd).2 (by simpa using h1) (by simpa using h2)]
def Ab {ms:List Int}{ps:List Pr}(nd:ms.Nodup)(h:sU ms ps){a b:Int}(t:OM.Tr (OM.Mem ps) a b):∃i j:Nat,i < j/\ms[i]? =some a/\ms[j]? =some b:=by
 refine t.least (S:=λa b=>∃i j:Nat,i < j/\ms[i]? =some a/\ms[j]? =some b) (λa b r=>h _ r) ?_
 rintro a b c ⟨i,j,hij,h1,h2⟩ ⟨k,l,hkl,h3,h4⟩
 have:=nu nd h2 h3
 exact⟨i,l,by omega,h1,h4⟩
def yt {ms:List Int}{ps:List Pr}(nd:ms.Nodup)(h:sU ms ps)(a:Int):¬OM.Tr (OM.Mem ps) a a:=λt=>by
 obtain⟨i,j,hij,h1,h2⟩:=Ab nd h t
 have:=nu nd h1 h2
 omega
def dZ (n:Nat):List Int:=(List.range n).map λ(k:Nat)=>(k:Int)
def bM (n:Nat):(dZ n).length=n:=by unfold dZ;simp
def aV {n:Nat}{x:Int}:x∈dZ n↔0<=x/\x < n:=by
 unfold dZ
 rw[KC]
 constructor
 ·rintro⟨k,hk,rfl⟩
  have:=KR.mp hk
  omega
 ·intro h
  exact⟨x.toNat,KR.mpr (by omega),by omega⟩
def cN (n:Nat):(dZ n).Nodup:=by
 unfold dZ
 rw[Mp,LC]
 exact (Mp.mp Mw).imp λ{a b} h e=>h (by omega)
def xO (n:Nat):cC 0 n=(dZ n).map int:=by
 unfold cC dZ
 rw[My]
 refine Lw λk _=>?_
 show int (0 + (k:Int))=_
 rw[Mz];rfl
theorem g8 {lo:Int}{n i:Nat}{d:D}(h:(cC lo n)[i]? =some d):i < n/\d=.int (lo + i):=by
 unfold cC at h
 rw[Kv] at h
 cases q:(List.range n)[i]? with
 |none=>rw[q] at h;cases h
 |some j=>
  rw[q] at h
  cases h
  obtain⟨hi,ej⟩:=Kz.mp q
  rw[MN] at hi
  rw[MZ] at ej
  subst ej
  exact⟨hi,rfl⟩
def lR {n:Nat}(h:n<=1000):cS (.int n)=some (.list ((dZ n).map int)):=by
 unfold cS
 dsimp only
 rw[Kn ⟨by omega,by omega⟩,K2,xO]
def jc {fa:VF D}{vs:List Nv}{β β1:Int}{n:Nat}(h:fa vs β=.ok (.int n) β1)(hn:n<=1000):i6 fa vs β=.ok (cC 0 n) β1:=by
 unfold i6
 rw[h]
 simp only[kr]
 rw[Kn (jH (by omega) (by omega)),K2]
def Bo {fa fb:VF D}{vs:List Nv}{β β1 β2:Int}{i j:Int}(h:fa vs β=.ok (.int i) β1)(h':fb vs β1=.ok (.int j) β2)(hi:0<=i/\i<=1000)(hj:0<=j/\j<=1000):pL fa fb vs β=.ok (cC i (j - i).toNat) β2:=by
 unfold pL
 rw[h]
 simp only[kr]
 rw[h']
 simp only[kr]
 rw[Kn (by rw[jH (by omega) (by omega),jH (by omega) (by omega)];rfl)]
def dz {t:Tg}{L:List Nat}{fi:VF (List D)}{m:SF}{env:En}{β β1:Int}{ds:List D}(h:fi (vl env) β=.ok ds β1):cP t L fi m env β=kx t m ds (bb L env) β1:=by unfold cP;rw[h];rfl
noncomputable def q8:List D->Int->FB:=sf 8 1 (fy eT cT nH)
def yj {n:Nat}{ms:List Int}{ps:List Pr}(h1:1<=n)(h8:n<=8)(hp:ms.Perm (dZ n))(ha:sU ms ps):OM.Wn n ps/\(∀a,¬OM.Tr (OM.Mem ps) a a)/\OM.Ord n (OM.bX n (OM.Tr (OM.Mem ps))):=by
 have nd:ms.Nodup:=hp.nodup_iff.mpr (cN n)
 have w:OM.Wn n ps:=λp hm=>by
  obtain⟨i,j,_,e1,e2⟩:=ha p hm
  have m1:=aV.mp (hp.mem_iff.mp (KD e1))
  have m2:=aV.mp (hp.mem_iff.mp (KD e2))
  exact⟨m1,m2⟩
 have ir:=λa=>yt nd ha a
 exact⟨w,ir,OM.A6 h1 h8 w ir⟩
def la {m:Nat}(h:1<=m)(h2:m<=1000)(β:Int):∃j:Nat,j < m/\cT [.int m] β=.ok (.int (j:Int)) false (β / m):=by
 refine⟨(β % m).toNat,?_,?_⟩
 ·have h0:=Int.emod_nonneg β (b:=(m:Int)) (by omega)
  have h3:=Int.emod_lt_of_pos β (b:=(m:Int)) (by omega)
  omega
 ·rw[qS (by omega) (by omega)]
  have h0:=Int.emod_nonneg β (b:=(m:Int)) (by omega)
  rw[show ((β % m).toNat:Int)=β % m by omega]
def Ag {most:Nat}(hm1:1<=most)(hm8:most<=8)(β:Int):∃(n:Nat) (l:List Pr) (β':Int),q8 [.int most] β=.ok (aH n l) false β'/\OM.Ord n l/\n<=most:=by
 obtain⟨j,hj,ej⟩:=la hm1 (by omega) β
 show ∃(n:Nat) (l:List Pr) (β':Int),CB (fy eT cT nH [.bx,.fz (.int most),.no,.no,.no,.no,.no,.no] β)=.ok (aH n l) false β'/\OM.Ord n l/\n<=most
 unfold fy
 generalize hβ1:β / (most:Int)=β1 at ej
 have n8:1 + j<=8:=by omega
 have e1:f2 (cst (.int 1)) (ml 0 cT (aa (gv 1) ah)) cy [Nv.bx,.da (.int most),.no,.no,.no,.no,.no,.no] β=.ok (.int ((1 + j:Nat):Int)) β1:=by
  refine aF (x:=.int 1) rfl (ke (by rfl) rfl ej) ?_
  show some (int (1 + (j:Int)))=_
  rw[show ((1 + j:Nat):Int)=1 + (j:Int) by omega]
 rw[ar (env':=[.bx,.fz (.int most),.fz (.int ((1 + j:Nat):Int)),.no,.no,.no,.no,.no]) (β':=β1) ?g1]
 case g1=>
  show toS (f2 (cst (.int 1)) (ml 0 cT (aa (gv 1) ah)) cy [Nv.bx,.da (.int most),.no,.no,.no,.no,.no,.no] β) _=_
  rw[e1];rfl
 generalize hn:1 + j=n at n8
 have n1:1<=n:=by omega
 obtain⟨ms,β2,em,hp⟩:=CJ (dZ n) (by rw[bM];omega) β1
 have hml:ms.length=n:=by rw[hp.length_eq,bM]
 have e2:ml 0 nH (aa (f1 (gv 2) cS) ah) [Nv.bx,.da (.int most),.da (.int n),.no,.no,.no,.no,.no] β1=.ok (.list (ms.map int)) β2:=by
  refine ke (ds:=[.list ((dZ n).map int)]) (b:=true) (β1:=β1) (by rfl) ?_ em
  rw[cD,de (x:=.int n) (d:=.list ((dZ n).map int)) (β1:=β1) rfl (lR (by omega))];rfl
 rw[ar (env':=[.bx,.fz (.int most),.fz (.int n),.fz (.list (ms.map int)),.no,.no,.no,.no]) (β':=β2) ?g2]
 case g2=>
  show toS (ml 0 nH (aa (f1 (gv 2) cS) ah) [Nv.bx,.da (.int most),.da (.int n),.no,.no,.no,.no,.no] β1) _=_
  rw[e2];rfl
 obtain⟨q,hq,eq⟩:=la (m:=4) (by omega) (by omega) β2
 obtain⟨th,hth,hthv⟩:∃th:Nat,([2,3,4,7]:List Nat)[q]? =some th/\1<=th/\th<=7:=by
  rcases (show q=0\/q=1\/q=2\/q=3 by omega) with rfl |rfl |rfl |rfl
  ·exact⟨2,rfl,by omega,by omega⟩
  ·exact⟨3,rfl,by omega,by omega⟩
  ·exact⟨4,rfl,by omega,by omega⟩
  ·exact⟨7,rfl,by omega,by omega⟩
 generalize hβ3:β2 / ((4:Nat):Int)=β3 at eq
 have e3:f2 (bI (aa (cst (.int 2)) (aa (cst (.int 3)) (aa (cst (.int 4)) (aa (cst (.int 7)) ah))))) (ml 0 cT (aa (cst (.int 4)) ah)) b8 [Nv.bx,.da (.int most),.da (.int n),.da (.list (ms.map int)),.no,.no,.no,.no] β2=.ok (.int th) β3:=by
  refine aF (x:=.list (([2,3,4,7]:List Nat).map λ(k:Nat)=>int (k:Int))) (y:=.int q) (gz rfl (by simp)) (ke (ds:=[.int 4]) (by rfl) rfl eq) ?_
  show ij (([2,3,4,7]:List Nat).map λ(k:Nat)=>int (k:Int)) (q:Int)=_
  rw[c4,jI hth];rfl
 rw[ar (env':=[.bx,.fz (.int most),.fz (.int n),.fz (.list (ms.map int)),.fz (.int th),.no,.no,.no]) (β':=β3) ?g3]
 case g3=>
  show toS (f2 (bI (aa (cst (.int 2)) (aa (cst (.int 3)) (aa (cst (.int 4)) (aa (cst (.int 7)) ah))))) (ml 0 cT (aa (cst (.int 4)) ah)) b8 [Nv.bx,.da (.int most),.da (.int n),.da (.list (ms.map int)),.no,.no,.no,.no] β2) _=_
  rw[e3];rfl
 have e4:bI ah [Nv.bx,.da (.int most),.da (.int n),.da (.list (ms.map int)),.da (.int th),.no,.no,.no] β3=.ok (.list []) β3:=gz rfl (by simp)
 rw[ar (env':=[.bx,.fz (.int most),.fz (.int n),.fz (.list (ms.map int)),.fz (.int th),.ow (.list []),.no,.no]) (β':=β3) ?g4]
 case g4=>
  show toS (bI ah [Nv.bx,.da (.int most),.da (.int n),.da (.list (ms.map int)),.da (.int th),.no,.no,.no] β3) _=_
  rw[e4];rfl
 obtain⟨env',β',ef,ps,a,b,rfl,hal,hpl⟩:=cU (t:=.nm 6) (m:=cP (.nm 7) (([] ++ []) ++ []) (pL (f2 (gv 6) (cst (.int 1)) cy) (gv 2))
   (j3 (([4] ++ []) ++ []) (eJ (f2 (ml 0 cT (aa (gv 4) ah)) (cst (.int 0)) (fm false)))
   (kL 5 (([] ++ []) ++ (([] ++ []) ++ [])) (cB (aa (f2 (gv 3) (gv 6) b8) (aa (f2 (gv 3) (gv 7) b8) ah)))) lh)) (ds:=cC 0 n) (k:=0)
  (λi env β=>∃(ps:List Pr) (a b:Sl),env= [.bx,.fz (.int most),.fz (.int n),.fz (.list (ms.map int)),.fz (.int th),.ow (.list (ps.map aR)),a,b]/\sU ms ps/\ps.length<=8 * i)
  (env:=[.bx,.fz (.int most),.fz (.int n),.fz (.list (ms.map int)),.fz (.int th),.ow (.list []),.no,.no]) (β:=β3) ⟨[],.no,.no,rfl,λp hp=>(by cases hp),by simp⟩ (by
   rintro i d env β hi ⟨ps,a,b,rfl,hal,hpl⟩
   obtain⟨hin,rfl⟩:=g8 hi
   refine⟨[.bx,.fz (.int most),.fz (.int n),.fz (.list (ms.map int)),.fz (.int th),.ow (.list (ps.map aR)),.fz (.int (0 + (i:Int))),b],rfl,?_⟩
   have er:pL (f2 (gv 6) (cst (.int 1)) cy) (gv 2) [Nv.bx,.da (.int most),.da (.int n),.da (.list (ms.map int)),.da (.int th),.da (.list (ps.map aR)),.da (.int (0 + (i:Int))),b.val] β=.ok (cC (0 + (i:Int) + 1) ((n:Int) - (0 + (i:Int) + 1)).toNat) β:=Bo rfl rfl ⟨by omega,by omega⟩ ⟨by omega,by omega⟩
   rw[dz (env:=[.bx,.fz (.int most),.fz (.int n),.fz (.list (ms.map int)),.fz (.int th),.ow (.list (ps.map aR)),.fz (.int (0 + (i:Int))),b]) er]
   obtain⟨env',β',ef,qs,b,rfl,hal2,hql⟩:=cU (t:=.nm 7) (m:=j3 (([4] ++ []) ++ []) (eJ (f2 (ml 0 cT (aa (gv 4) ah)) (cst (.int 0)) (fm false)))
     (kL 5 (([] ++ []) ++ (([] ++ []) ++ [])) (cB (aa (f2 (gv 3) (gv 6) b8) (aa (f2 (gv 3) (gv 7) b8) ah)))) lh) (ds:=cC (0 + (i:Int) + 1) ((n:Int) - (0 + (i:Int) + 1)).toNat) (k:=0)
    (λk env β=>∃(qs:List Pr) (b:Sl),env= [.bx,.fz (.int most),.fz (.int n),.fz (.list (ms.map int)),.fz (.int th),.ow (.list (qs.map aR)),.fz (.int (0 + (i:Int))),b]/\sU ms qs/\qs.length<=8 * i + k)
    (env:=[.bx,.fz (.int most),.fz (.int n),.fz (.list (ms.map int)),.fz (.int th),.ow (.list (ps.map aR)),.fz (.int (0 + (i:Int))),b]) (β:=β) ⟨ps,b,rfl,hal,by omega⟩ (by
     rintro k d env β hk ⟨qs,b,rfl,hal,hql⟩
     obtain⟨hkn,rfl⟩:=g8 hk
     have hkn:i + 1 + k < n:=by omega
     refine⟨[.bx,.fz (.int most),.fz (.int n),.fz (.list (ms.map int)),.fz (.int th),.ow (.list (qs.map aR)),.fz (.int (0 + (i:Int))),.fz (.int (0 + (i:Int) + 1 + (k:Int)))],rfl,?_⟩
     obtain⟨z,hz,ez⟩:=la hthv.1 (by omega) β
     have et:eJ (f2 (ml 0 cT (aa (gv 4) ah)) (cst (.int 0)) (fm false)) [Nv.bx,.da (.int most),.da (.int n),.da (.list (ms.map int)),.da (.int th),.da (.list (qs.map aR)),.da (.int (0 + (i:Int))),.da (.int (0 + (i:Int) + 1 + (k:Int)))] β=.ok (decide ((z:Int)=0)) (β / th):=fB (neg:=false) (ke (ds:=[.int th]) (by rfl) rfl ez) rfl
     by_cases c:(z:Int)=0
     ·rw[Kt c] at et
      have h1:i < ms.length:=by omega
      have h2:i + 1 + k < ms.length:=by omega
      refine⟨[.bx,.fz (.int most),.fz (.int n),.fz (.list (ms.map int)),.fz (.int th),.ow (.list ((qs ++ [(ms[i],ms[i + 1 + k])]).map aR)),.fz (.int (0 + (i:Int))),.fz (.int (0 + (i:Int) + 1 + (k:Int)))],β / th,?_,qs ++ [(ms[i],ms[i + 1 + k])],_,rfl,?_,?_⟩
      ·rw[kT et]
       have ep:cB (aa (f2 (gv 3) (gv 6) b8) (aa (f2 (gv 3) (gv 7) b8) ah)) [Nv.bx,.da (.int most),.da (.int n),.da (.list (ms.map int)),.da (.int th),.da (.list (qs.map aR)),.da (.int (0 + (i:Int))),.da (.int (0 + (i:Int) + 1 + (k:Int)))] (β / th)=.ok (aR (ms[i],ms[i + 1 + k])) (β / th):=by
        refine jS (ds:=[.int ms[i],.int ms[i + 1 + k]]) ?_ (by simp)
        have a1:f2 (gv 3) (gv 6) b8 [Nv.bx,.da (.int most),.da (.int n),.da (.list (ms.map int)),.da (.int th),.da (.list (qs.map aR)),.da (.int (0 + (i:Int))),.da (.int (0 + (i:Int) + 1 + (k:Int)))] (β / th)=.ok (.int ms[i]) (β / th):=by
         refine aF rfl rfl ?_
         show ij (ms.map int) (0 + (i:Int))=_
         rw[Mz,c4,iA h1];rfl
        have a2:f2 (gv 3) (gv 7) b8 [Nv.bx,.da (.int most),.da (.int n),.da (.list (ms.map int)),.da (.int th),.da (.list (qs.map aR)),.da (.int (0 + (i:Int))),.da (.int (0 + (i:Int) + 1 + (k:Int)))] (β / th)=.ok (.int ms[i + 1 + k]) (β / th):=by
         refine aF rfl rfl ?_
         show ij (ms.map int) (0 + (i:Int) + 1 + (k:Int))=_
         rw[show (0 + (i:Int) + 1 + (k:Int))=((i + 1 + k:Nat):Int) by omega,c4,iA h2];rfl
        rw[cD,a1]
        dsimp only[R.bnd]
        rw[cD,a2];rfl
       have:=mz (i:=5) (L:=([] ++ []) ++ (([] ++ []) ++ [])) (env:=[.bx,.fz (.int most),.fz (.int n),.fz (.list (ms.map int)),.fz (.int th),.ow (.list (qs.map aR)),.fz (.int (0 + (i:Int))),.fz (.int (0 + (i:Int) + 1 + (k:Int)))]) (ds:=qs.map aR) (by rfl) ep (by rfl) (by rw[Kx];omega)
       rw[Lo]
       exact this
      ·intro p hp
       rcases KU.mp hp with hp |hp
       ·exact hal p hp
       ·have:p=(ms[i],ms[i + 1 + k]):=by simpa using hp
        subst this
        exact⟨i,i + 1 + k,by omega,Kj h1,Kj h2⟩
      ·rw[KO];simp;omega
     ·rw[KA c] at et
      refine⟨_,_,by rw[gC et];rfl,qs,_,rfl,hal,by omega⟩)
   have hlen:(cC (0 + (i:Int) + 1) ((n:Int) - (0 + (i:Int) + 1)).toNat).length<=7:=by rw[hJ];omega
   exact⟨_,_,ef,qs,_,b,rfl,hal2,by omega⟩)
 rw[ar (env':=[.bx,.fz (.int most),.fz (.int n),.fz (.list (ms.map int)),.fz (.int th),.ow (.list (ps.map aR)),a,b]) (β':=β') ?g5]
 case g5=>
  rw[dz (env:=[.bx,.fz (.int most),.fz (.int n),.fz (.list (ms.map int)),.fz (.int th),.ow (.list []),.no,.no]) (jc (n:=n) rfl (by omega))]
  exact ef
 obtain⟨w,ir,O⟩:=yj n1 n8 hp hal
 refine⟨n,OM.bX n (OM.Tr (OM.Mem ps)),β',?_,O,by omega⟩
 have e9:cB (aa (gv 2) (aa (au eT (aa (gv 5) ah)) ah)) [Nv.bx,.da (.int most),.da (.int n),.da (.list (ms.map int)),.da (.int th),.da (.list (ps.map aR)),a.val,b.val] β'=.ok (aH n (OM.bX n (OM.Tr (OM.Mem ps)))) β':=by
  refine jS (ds:=[.int n,.tuple ((OM.bX n (OM.Tr (OM.Mem ps))).map aR)]) ?_ (by simp)
  have a1:au eT (aa (gv 5) ah) [Nv.bx,.da (.int most),.da (.int n),.da (.list (ms.map int)),.da (.int th),.da (.list (ps.map aR)),a.val,b.val] β'=.ok (.tuple ((OM.bX n (OM.Tr (OM.Mem ps))).map aR)) β':=aB rfl (p4 n1 n8 w ir)
  rw[cD]
  show (R.ok (int n) β').bnd _=_
  dsimp only[R.bnd]
  rw[cD,a1];rfl
 show CB (toS (cB (aa (gv 2) (aa (au eT (aa (gv 5) ah)) ah)) [Nv.bx,.da (.int most),.da (.int n),.da (.list (ms.map int)),.da (.int th),.da (.list (ps.map aR)),a.val,b.val] β') _)=_
 rw[e9];rfl
def qG (neg:Bool)(i j:Int):fm neg (.int i) (.int j)=some (.bool (if neg then !decide (i=j) else decide (i=j))):=rfl
def jr {fa fb:VF D}{vs:List Nv}{β:Int}{a b:Int}(h:fa vs β=.ok (.int a) β)(h':fb vs β=.ok (.int b) β):cB (aa fa (aa fb ah)) vs β=.ok (aR (a,b)) β:=by
 refine jS (ds:=[.int a,.int b]) ?_ (by simp)
 rw[cD,h]
 dsimp only[R.bnd]
 rw[cD,h'];rfl
def Kc {n:Nat}{l:List Pr}{fa:VF D}{vs:List Nv}{β:Int}(h:fa vs β=.ok (aH n l) β):f2 fa (cst (.int 1)) b8 vs β=.ok (.tuple (l.map aR)) β:=aF h rfl rfl
def Hd {n:Nat}{l:List Pr}{fa:VF D}{vs:List Nv}{β:Int}(h:fa vs β=.ok (aH n l) β):f2 fa (cst (.int 0)) b8 vs β=.ok (.int n) β:=aF h rfl rfl
def jn (n:Nat):(OM.gc n).length=n * n:=by unfold OM.gc;simp
def pC {fa:VF D}{vs:List Nv}{β:Int}{c:Bool}(h:fa vs β=.ok (.bool c) β):oB fa vs β=.ok c β:=by rw[qr,h];rfl
theorem zD {c:Nat}:∀(ts:List Str) (k:Nat) (acc:Str),(∀t∈ts,t.length + 2<=c)->(textFrom k acc ts).length<=acc.length + c * ts.length
 | [],k,acc,_=>by show acc.length<=_;omega
 |t :: r,k,acc,h=>by
  have ih:=zD r (k + 1) (acc ++ (if k > 0 then ", " else "":String) ++ t) λu hu=>h u (Ko _ hu)
  have e:(acc ++ (if k > 0 then ", " else "":String) ++ t).length=acc.length + (if k > 0 then 2 else 0) + t.length:=by
   rw[MF,MF]
   split <;> rfl
  rw[e] at ih
  have ht:=h t (Kr ..)
  show (textFrom (k + 1) _ r).length<=_
  have e2:c * (t :: r).length=c * r.length + c:=by rw[KI,Nat.mul_succ]
  rw[e2]
  have:(if k > 0 then 2 else 0:Nat)<=2:=by split <;> omega
  omega
end RM
namespace L2
open PySem PySem.Spec PyProof.Rows
section
variable {X:Cx}{pins:List (Addr×Obj)}{σ:St}{H:Hp}{s:Shared}
def Inv.turnedL {t':Nat}{ch:List Addr}{h':Heap}(I:Inv X pins σ H s)(k:∀b o,b∉ch->s.heap.get? b=some o->h'.get? b=some o)(hf:∀b∈ch,lI X pins H b):Inv X pins σ H {s with heap:=h',toks:=t'}:=by
 have nit:∀b u,H b=some u->b∉ch:=λb u e z=>by rw[(hf b z).1] at e;cases e
 have nL:X.env.locals∉ch:=λz=>(hf _ z).2.1 rfl
 refine I.step (g':=s.gens) (d':=s.drawn) (ch:=ch) (λb hb=>?_) (λb o _ _ hc e _=>k b o hc e) (λb o _ _ hc e _=>⟨o.slots,k b o hc e⟩) (λ_ _ _ _ n=>n)
  (λb o hc e=>⟨o,k b o hc e⟩) (λ_ _ e=>e) (λ_ _ _ e=>e) (λb ps e=>⟨#[],by rw[e];simp⟩) (λm hm=>?_) (λb u e=>?_) I.bare
 ·obtain⟨f0,f1,f2,f3,f4,f5⟩:=hf b hb
  exact⟨f3,f1,f4,f5⟩
 ·obtain⟨o,es,ep,ho,r⟩:=hm
  exact⟨o,es,ep,k _ o nL ho,r⟩
 ·refine (I.hok b u e).stay (λc v hc q=>k c v ?_ q) (λ_ q=>q) λ_ _ q=>q
  rcases hc with z |z
  ·rw[z];exact nit b u e
  ·exact nit c _ z
end
def Gs {n:Nat}(i j:Nat)(h:(i == j)=false):(n + i:Nat)≠n + j:=by
 have:i≠j:=by simpa using h
 omega
section
variable {κ:Type}[DecidableEq κ]
def Ct (kvs:List (κ×V))(k:κ):Option V:=(kvs.find? λkv=>decide (kv.1=k)).map (·.2)
def putK (kvs:List (κ×V))(k:κ)(v:V):List (κ×V):=
 if (kvs.any λkv=>decide (kv.1=k))=true then kvs.map (λkv=>if kv.1=k then (kv.1,v) else kv) else kvs ++ [(k,v)]
def DZ (kvs:List (κ×V))(k:κ):List (κ×V):=kvs.filter λkv=>decide (kv.1≠k)
def tO (kvs:List (κ×V))(k:κ)(v:V):(putK kvs k v).length<=kvs.length + 1:=by
 unfold putK
 split
 ·rw[Kx];omega
 ·rw[KO,KI,length_nil];omega
theorem KV.any {kvs:List (κ×V)}{vs:List (κ×Value)}(r:KV kvs vs)(k:κ):(kvs.any λkv=>decide (kv.1=k))=vs.any λkv=>decide (kv.1=k):=by
 unfold KV at r
 induction r with
 |nil=>rfl
 |cons h t ih=>rw[ME,ME,ih,h.1]
theorem KV.repl {kvs:List (κ×V)}{vs:List (κ×Value)}(r:KV kvs vs)(k:κ){y:V}{u:Value}(ry:RelV y u) :
  KV (kvs.map λkv=>if kv.1=k then (kv.1,y) else kv) (vs.map λkv=>if kv.1=k then (kv.1,u) else kv):=by
 unfold KV at r ⊢
 induction r with
 |nil=>exact .nil
 | @cons p q ps qs h t ih=>
  rw[K7,K7]
  refine .cons ?_ ih
  obtain⟨h1,h2⟩:=h
  by_cases e:p.1=k
  ·rw[Kn e,Kn (h1.symm.trans e)];exact⟨h1,ry⟩
  ·rw[Ku e,Ku (λz=>e (h1.trans z))];exact⟨h1,h2⟩
def KV.put {kvs:List (κ×V)}{vs:List (κ×Value)}(r:KV kvs vs)(k:κ){y:V}{u:Value}(ry:RelV y u):KV (putK kvs k y) (stored vs k u):=by
 unfold putK stored
 rw[r.any k]
 by_cases e:(vs.any λkv=>decide (kv.1=k))=true
 ·rw[Kn e,Kn e];exact r.repl k ry
 ·rw[Ku e,Ku e];exact Paired.snoc r ⟨rfl,ry⟩
theorem KV.drop {kvs:List (κ×V)}{vs:List (κ×Value)}(r:KV kvs vs)(k:κ):KV (DZ kvs k) (without vs k):=by
 unfold KV at r ⊢
 unfold DZ without
 induction r with
 |nil=>exact .nil
 | @cons p q ps qs h t ih=>
  obtain⟨h1,h2⟩:=h
  rw[filter_cons,filter_cons]
  by_cases e:p.1=k
  ·have a:¬decide (p.1≠k)=true:=by simp[e]
   have b:¬decide (q.1≠k)=true:=by simp[h1.symm.trans e]
   rw[Ku a,Ku b];exact ih
  ·have e':¬q.1=k:=λz=>e (h1.trans z)
   have a:decide (p.1≠k)=true:=by simp[e]
   have b:decide (q.1≠k)=true:=by simp[e']
   rw[Kn a,Kn b];exact .cons ⟨h1,h2⟩ ih
end
theorem GK {P:Program}{w:World}{k:Key}{u:Value}(r:RelV (kV k) u):(dq P w).is k u=true:=by
 cases k with
 |inl i=>obtain⟨t,e⟩:=(show ∃t,u=Value.int i t from r);subst e;exact sh P w i t
 |inr x=>obtain⟨t,e⟩:=(show ∃t,u=Value.str x t from r);subst e;exact su P w x t
section
variable {P:Program}{w:World}{H:Hp}{h:Heap}{a:Addr}
def HF {u:HO}(ok:jz P w H h)(e:Rd H a u):bK P w H h a u:=e.ok ok
def Hq {kvs:List (Key×V)}(ok:jz P w H h)(e:Rd H a (.dK kvs)):kvs.length<=sizeLine/\(a == sysModules)=false/\∃vs,KV kvs vs/\h.DictOf (dq P w) a vs:=
 show bK P w H h a (.dK kvs) from HF ok e
def Hv {kvs:List (Key×V)}(ok:jz P w H h)(e:H a=some (.dK kvs)):kvs.length<=sizeLine/\(a == sysModules)=false/\∃vs,KV kvs vs/\h.DictOf (dq P w) a vs:=Hq ok (.inl e)
end
def C9 (H:Hp)(a:Addr)(y:V)(r:Option V):Prop:=
 (∃kvs k,Rd H a (.dK kvs)/\y=kV k/\r=Ct kvs k)\/∃kvs k b,Rd H a (.dT kvs)/\y=.ref b/\Rd H b (.tup (k.map kV))/\r=Ct kvs k
def Ck (H:Hp)(a:Addr)(y v:V)(H':Hp):Prop:=
 (∃kvs k,H a=some (.dK kvs)/\y=kV k/\kvs.length < sizeLine/\H'=upd H a (.dK (putK kvs k v)))\/
 ∃kvs k b,H a=some (.dT kvs)/\y=.ref b/\Rd H b (.tup (k.map kV))/\kvs.length < sizeLine/\H'=upd H a (.dT (putK kvs k v))
def C9.k {H:Hp}{a:Addr}{kvs:List (Key×V)}{k:Key}(e:H a=some (.dK kvs)):C9 H a (kV k) (Ct kvs k):=.inl ⟨kvs,k,.inl e,rfl,rfl⟩
def C9.t {H:Hp}{a b:Addr}{kvs:List (List Key×V)}{k:List Key}(e:H a=some (.dT kvs))(eb:Rd H b (.tup (k.map kV))):C9 H a (.ref b) (Ct kvs k):=.inr ⟨kvs,k,b,.inl e,rfl,eb,rfl⟩
def Ck.k {H:Hp}{a:Addr}{kvs:List (Key×V)}{k:Key}{v:V}(e:H a=some (.dK kvs))(hl:kvs.length < sizeLine):Ck H a (kV k) v (upd H a (.dK (putK kvs k v))):=.inl ⟨kvs,k,e,rfl,hl,rfl⟩
def Ck.t {H:Hp}{a b:Addr}{kvs:List (List Key×V)}{k:List Key}{v:V}(e:H a=some (.dT kvs))(eb:Rd H b (.tup (k.map kV)))(hl:kvs.length < sizeLine) :
  Ck H a (.ref b) v (upd H a (.dT (putK kvs k v))):=.inr ⟨kvs,k,b,e,rfl,eb,hl,rfl⟩
section
variable {X:Cx}{pins:List (Addr×Obj)}{σ:St}{H:Hp}{s:Shared}{a:Addr}{y v:V}{u r:Value}{o:Option V}{A:Around}{E:Value->Shared->Prop}
def Inv.big (I:Inv X pins σ H s):sysModules < s.heap.objs.size:=by
 have h:mainGlobals < s.heap.objs.size:=(I.mod.glob.keeps I.bk).lt
 exact Nat.lt_trans (by decide) h
def CG {h':Heap}{t':Nat}{ob:HO}(I:Inv X pins σ H s)(mu:GO (H a))(hs:Heap.SameBut a s.heap h')(he:∃q,h'.get? a=some q)(new:bK X.prog X.w (upd H a ob) h' a ob) :
  Inv X pins σ (upd H a ob) {s with heap:=h',toks:=t'}:=
 I.write (x:=a) (e:=a) mu (.inl rfl) (λb q hb z=>(hs.2 b hb).trans z) he new
def EI {P:Program}{w:World}{H':Hp}{h':Heap}{kvs:List (Key×V)}{vs:List (Key×Value)}(z:kvs.length<=sizeLine)(hd:(a == sysModules)=false)(rel:KV kvs vs)(dd:h'.DictOf (dq P w) a vs) :
  bK P w H' h' a (.dK kvs):=⟨z,hd,vs,rel,dd⟩
end
def Bg {P:Program}{w:World}{H:Hp}(h:Heap)(hb:sysModules < h.objs.size):bK P w H (h.push {cls:=.type "dict",data:=.dict #[]}) h.objs.size (.dK []):=
 ⟨K5 _,beq_eq_false_iff_ne.mpr (Ne.symm (K1 hb)),[],.nil,Heap.DictOf.new h⟩
def vD:List (TE×TE)->St->Hp->(List (V×V)->Hp->Prop)->Prop
 | [],_,H,Q=>Q [] H
 | (tk,tv) :: r,σ,H,Q=>tk σ H λx H1=>tv σ H1 λy H2=>vD r σ H2 λps H3=>Q ((x,y) :: ps) H3
abbrev VV:List (V×V)->List (Value×Value)->Prop:=Paired λp q=>RelV p.1 q.1/\RelV p.2 q.2
def Ir (X:Cx)(pos:Pos)(keys:List (Option Expr))(values:List Expr)(trs:List (TE×TE)):Prop:=
 ∀(pins:List (Addr×Obj)) (s:Shared) (σ:St) (H:Hp) (Q:List (V×V)->Hp->Prop),Inv X pins σ H s->vD trs σ H Q->
  wpAny (model X.prog X.w) X.A (evalPairs (pairTrees keys values X.env pos)) (λvs s'=>∃ps H',Inv X pins σ H' s'/\VV ps vs/\Q ps H') X.xe s
def Cu {X:Cx}{pos:Pos}:Ir X pos [] [] []:=λpins s σ H Q I h=>pairTrees_nil_walk ⟨[],H,I,.nil,h⟩
def z0 {X:Cx}{pos:Pos}{k v:Expr}{ks:List (Option Expr)}{vs:List Expr}{tk tv:TE}{trs:List (TE×TE)}(hk:PE X k tk)(hv:PE X v tv)(hr:Ir X pos ks vs trs) :
  Ir X pos (some k :: ks) (v :: vs) ((tk,tv) :: trs):=λpins s σ H Q I h=>
 pairTrees_cons_walk (cn (hk pins s σ H _ I h) λu s1 ⟨x,H1,I1,rx,q1⟩=>cn (hv pins s1 σ H1 _ I1 q1) λw2 s2 ⟨y,H2,I2,ry,q2⟩=>
  cn (hr pins s2 σ H2 _ I2 q2) λws s3 ⟨ps,H3,I3,rel,q3⟩=>⟨(x,y) :: ps,H3,I3,.cons ⟨rx,ry⟩ rel,q3⟩)
def m9 (kvs more:List (Key×V)):List (Key×V):=more.foldl (λacc kv=>putK acc kv.1 kv.2) kvs
theorem KV.merge:∀{more:List (Key×V)} {rs:List (Key×Value)} {kvs:List (Key×V)} {vs:List (Key×Value)},KV more rs->KV kvs vs->KV (m9 kvs more) (merged vs rs):=by
 intro more rs kvs vs r
 unfold KV at r
 induction r generalizing kvs vs with
 |nil=>intro q;exact q
 | @cons p q ps qs h t ih=>
  intro r0
  have e:KV (putK kvs p.1 p.2) (stored vs q.1 q.2):=by
   have:=r0.put p.1 h.2
   rw[<-h.1];exact this
  exact ih e
theorem jZ:∀(more kvs:List (Key×V)),(m9 kvs more).length<=kvs.length + more.length
 | [],kvs=>by show kvs.length<=kvs.length + 0;omega
 |p :: r,kvs=>by
  have h1:=jZ r (putK kvs p.1 p.2)
  have h2:=tO kvs p.1 p.2
  show (m9 (putK kvs p.1 p.2) r).length<=_
  rw[KI];omega
theorem nr {P:Program}{w:World}:∀{kvs:List (Key×V)} {ws:List (Value×Value)},VV (kvs.map λkv=>(kV kv.1,kv.2)) ws->∃rs,Carries (dq P w) ws rs/\KV kvs rs
 | [],_,r=>by rw[List.map_nil] at r;cases r;exact⟨[],True.intro,.nil⟩
 |p :: kvs,_,r=>by
  rw[K7] at r
  cases r with
  | @cons a b as bs h t=>
   obtain⟨rs,c,q⟩:=nr (P:=P) (w:=w) t
   obtain⟨b1,b2⟩:=b
   exact⟨(p.1,b2) :: rs,⟨GK h.1,rfl,c⟩,.cons ⟨rfl,h.2⟩ q⟩
def Ha (trs:List (TE×TE)):TE:=λσ H Q=>∀p,H p=none->vD trs σ (upd H p (.dK [])) λps H2=>H2 p=some (.dK [])/\∃kvs:List (Key×V),ps=kvs.map (λkv=>(kV kv.1,kv.2))/\kvs.length<=15/\Q (.ref p) (upd H2 p (.dK (m9 [] kvs)))
def DG {X:Cx}{pos:Pos}{keys:List (Option Expr)}{values:List Expr}{trs:List (TE×TE)}(h:Ir X pos keys values trs)(hall:keys.all (·.isSome)=true)(hl:keys.length=values.length)(h0:keys≠ [])
  (h15:keys.length<=15):PE X (.Dict keys values pos) (Ha trs):=by
 intro pins s σ H Q I q
 have hn:=I.hok.fresh (Km s.heap.objs.size)
 have I1:=I.laid (a:=s.heap.objs.size) (o:=.dK []) (h':=s.heap.push {cls:=.type "dict",data:=.dict #[]}) (t':=s.toks) (λ_ _ q=>Kl _ q) (Km _) (Bg s.heap I.big)
 refine wpAny_Dict_walk (knd:=dq X.prog X.w) hall hl h0 h15 (cn (h pins _ σ _ _ I1 (q _ hn)) λws s2 ⟨ps,H2,I2,rel,e,kvs,ep,lk,q2⟩=>?_)
 subst ep
 obtain⟨rs,c,rk⟩:=nr (P:=X.prog) (w:=X.w) rel
 obtain⟨z,hd,vs0,r0,dd⟩:=Hv I2.hok e
 cases r0
 refine⟨rs,c,dd,λh' dd' hs=>⟨.ref s.heap.objs.size,_,?_,rfl,q2⟩⟩
 have hz:(m9 [] kvs).length<=sizeLine:=by
  have h1:=jZ kvs []
  rw[length_nil] at h1
  rw[KY];omega
 have he:∃q,h'.get? s.heap.objs.size=some q:=let ⟨q,_,_,hq,_⟩:=dd';⟨q,hq⟩
 exact CG I2 (by rw[e];exact True.intro) hs he (EI hz hd (rk.merge .nil) dd')
section
variable {X:Cx}{Γ:Fx}{E:XK}{pos:Pos}
def DD {k:Str}{i:Int}{j j'}{p p':Pos}:SE X Γ E (.Dict [some (.Constant (.str k) j p)] [.Constant (.int i) j' p'] pos) (cst (.dict [(.str k,.int i)])) [] .v:=by
 refine PE.post' (DG (z0 Ay qN Cu) rfl rfl (by simp) (by simp)) ?_
 rintro σ H Q ⟨env,G,B,β,I,o⟩ p hp
 have o:∀v G' H',SR Γ B G' H' σ (bb [] env) β->ak G G'->gx B H H'->Rp Γ.K G' v (.dict [(.str k,.int i)])->Q v H':=o
 refine⟨aw,[(.inr k,.int i)],rfl,by simp,?_⟩
 rw[BW]
 have xn:=Ext.new I.sub (o:=.dK [((.inr k:Key),V.int i)]) hp
 exact o _ _ _ (I.ext xn) xn.gg (xn.hh.mov B) (.dK (kvs:=[((.inr k:Key),V.int i)]) aw (.cons (.int i) .nil))
end
mutual
def DK:D->Bool
 | .list ds=>zK ds
 | .tuple ds=>zK ds
 | .dict kvs=> !kvs.isEmpty && kvs.all λkv=>match kv.1,kv.2 with
  | .str _,.int _=>true
  |_,_=>false
 |_=>true
def zK:List D->Bool
 | []=>true
 |d :: ds=>DK d && zK ds
end
section
variable {prog:Program}{w:World}{A:Around}{E:Value->Shared->Prop}{s:Shared}{it t:Addr}{i:Nat}{xs:Array Value}{Q:Value->Shared->Prop}
theorem JE (hi:s.heap.IsTupleIter it t i)(ht:s.heap.IsTuple t xs)
  (k1:∀x,xs[i]? =some x->∀h',h'.IsTupleIter it t (i + 1)->Heap.SameBut it s.heap h'->Q x {s with heap:=h'})
  (k2:xs[i]? =none->A.handled=none/\∀h' e,Heap.ExtBut it s.heap h'->(∃o,h'.get? e=some o/\o.cls=.type "StopIteration")->E (.ref e) {s with heap:=h'}) :
  wpAny (model prog w) A (Builtin.SmallTypes.nextOf (.ref it)) Q E s:=by
 obtain⟨o,ho,hc,hd⟩:=id hi
 obtain⟨ol,hol, -,nl,hdl⟩:=ht
 refine Kk (wpAny_callSpecial?_slot (name:=Str.ofString "__next__") hi.typeIs F.slot_tuple_iterator_next (Mf F.slot_tuple_iterator_next hi.typeIs F.entry_tuple_iterator_next ?_ (F.args_tuple_iterator_next_1 _)))
 refine (show wpAny _ _ (field (.ref it) 0 >>= _) _ _ s from Kk (wpAny_field ho hd (x:=.ref t) rfl ?_))
 refine (show wpAny _ _ (if (Value.ref t == Value.none)=true then _ else _) _ _ s from ?_)
 rw[Ku (by exact KN)]
 refine (show wpAny _ _ (field (.ref it) 1 >>= _) _ _ s from Kk (wpAny_field ho hd (x:=.int i 0) rfl ?_))
 refine (show wpAny _ _ (seqItems? (.ref t) >>= _) _ _ s from Kk (wpAny_seqItems hol hdl ?_))
 cases hx:xs[i]? with
 |some x=>
  simp only[K2,hx]
  refine Kk (Mg ho hd (by simp) (Ks ⟨x,rfl,Ks (k1 x hx _ ?_ (Heap.SameBut.update ..))⟩))
  refine⟨_,Lq _ ho (Obj.isFreed_of_fields (M1 hd _)),(Obj.cls_mapFields ..).trans hc,?_⟩
  rw[M1 hd]
  simp[rawInt]
 |none=>
  obtain⟨hh,hE⟩:=k2 hx
  simp only[K2,hx]
  refine Kk (wpAny_rule (Kk (Mg ho hd (by simp) (show wpAny _ _ (newExc (.type "StopIteration") [] >>= _) _ _ _ from Kk ?_))))
  simp only[newExc,newTuple]
  refine Kk (Mb (Kk (m:=firstArgMember _ _) (wpAny_of_eq (a:=Value.none) (by first |rfl | (simp only[firstArgMember];rfl)) (Mb ?_ (by size_fits)))) (by size_fits))
  simp only[raiseNew]
  refine Kk (wpAny_handled ?_)
  have hh':A.in1.handled=none:=hh
  first |rw[hh'] |rw[hh]
  exact Kk (Ks (wpAny_throw (hE _ _ (((Heap.SameBut.update ..).extBut.push _).push _) ⟨_,Ky _ rfl,rfl⟩)))
def FD (hh:A.handled=none)(hne:t≠it)(xs:Array Value):Draws prog w A it [it,t] xs.size (λi v=>xs[i]? =some v) (λi h=>h.IsTupleIter it t i/\h.IsTuple t xs) where
 live:=λ_ _ st=>let ⟨o,ho,_⟩:=st.1;⟨o,ho⟩
 frame:=λ_ _ _ st hk=>⟨st.1.at λo e=>hk it (by simp) o e,st.2.at λo e=>hk t (by simp) o e⟩
 item:=λi s Q E hi st k=>JE st.1 st.2 (λx hx h' q1 q2=>k x h' s.toks hx ⟨q1,st.2.extBut q2.extBut hne⟩ q2) λz=>by simp at z;omega
 done:=λs Q E st k=>JE st.1 st.2 (λx hx=>by simp at hx) λ_=>⟨hh,k⟩
end
abbrev Eu (t:Addr):Obj:={cls:=.type "tuple_iterator",data:=.fields #[.ref t,.int 0 0]}
abbrev Im (it:Addr):Obj:={cls:=.type "enumerate",data:=.fields #[.none,.bool false,.ref it,rawInt 0,.none,.none]}
def Bk (t:Addr)(xs:Array Value)(n:Nat)(dc:Option Addr)(sl:Array (Option Value)) :
  Meets (Builtin.«enumerate.__new__» ⟨[.type "enumerate",.ref t],[]⟩) (λ_ R s=>s.heap.get? t=some ⟨.type "tuple",dc,.seq xs n,sl⟩/\
   R (.ok (.ret (.ref (s.heap.push (Eu t)).objs.size))) {s with heap:=(s.heap.push (Eu t)).push (Im s.heap.objs.size)}):=by
 refine .of_wp λprog w A R s h=>?_
 obtain⟨hp,g,d,tk,os⟩:=s
 obtain⟨hl,h⟩:=h
 have sb:=sub_enumerate
 have hT:Heap.IsTuple (Shared.heap ⟨hp,g,d,tk,os⟩) t xs:=⟨_,hl,rfl,n,rfl⟩
 wp_walk using M5 hl
 refine wpAny_stack_any λst=>Ks ?_
 split
 ·rename_i c _ _ _ _ _
  cases (c == Value.type "enumerate") <;> (wp_walk using M5 hl,MI hT;exact⟨_,rfl,h⟩)
 ·wp_walk using M5 hl,MI hT
  exact⟨_,rfl,h⟩
section
variable {prog:Program}{w:World}{A:Around}{E:Value->Shared->Prop}{s:Shared}
def uP {t:Addr}{xs:Array Value}{Q:Value->Shared->Prop}(hT:s.heap.IsTuple t xs)
  (k:∀h',IsEnum h' (s.heap.objs.size + 1) s.heap.objs.size 0 .none->h'.IsTupleIter s.heap.objs.size t 0->(∀b o,s.heap.get? b=some o->h'.get? b=some o)->Q (.ref (s.heap.objs.size + 1)) {s with heap:=h'}) :
  wpAny (model prog w) A (call (.type "enumerate") [.ref t]) Q E s:=by
 obtain⟨⟨c,dc,dt,sl⟩,hl,hc,n,hd⟩:=hT
 have hc:c=.type "tuple":=hc
 have hd:dt=.seq xs n:=hd
 subst hc hd
 refine callType_new F.called_enumerate (by decide) (F.typeCall_enumerate_1 _) (F.newCall_enumerate_1 _) (λob=>F.args_object_init_2 ob _) F.entry_enumerate_new (Bk t xs n dc sl) ⟨hl,?_⟩
 have hz:(s.heap.push (Eu t)).objs.size=s.heap.objs.size + 1:=LR ..
 have g2:((s.heap.push (Eu t)).push (Im s.heap.objs.size)).get? (s.heap.push (Eu t)).objs.size=some (Im s.heap.objs.size):=Ky _ rfl
 have g1:((s.heap.push (Eu t)).push (Im s.heap.objs.size)).get? s.heap.objs.size=some (Eu t):=Kl _ (Ky _ rfl)
 rw[hz] at g2
 show _/\_
 rw[hz]
 exact⟨⟨_,g2,rfl⟩,k _ g2 ⟨_,g1,rfl,rfl⟩ λb o e=>Kl _ (Kl _ e)⟩
end
def FO {prog:Program}{w:World}{A:Around}{it t:Addr}{xs:Array Value}(hh:A.handled=none)(i:Nat)(hx:xs[i]? =none):Draws prog w A it [it,t] i (λ_ _=>False) (λj h=>j=i/\h.IsTupleIter it t i/\h.IsTuple t xs) where
 live:=λ_ _ st=>let ⟨o,ho,_⟩:=st.2.1;⟨o,ho⟩
 frame:=λ_ _ _ st hk=>⟨st.1,st.2.1.at λo e=>hk it (by simp) o e,st.2.2.at λo e=>hk t (by simp) o e⟩
 item:=λj s Q E hi st k=>absurd st.1 (by omega)
 done:=λs Q E st k=>JE st.2.1 st.2.2 (λx h=>by rw[hx] at h;cases h) λ_=>⟨hh,k⟩
def Jg (K:Frag)(a:Addr):It:=
 ⟨λi H=>∃xs x,dA K H a xs/\xs[i]? =some x,
  λi H v H'=>∃x t,H t=none/\(∀xs,dA K H a xs->xs[i]? =some x)/\v=.ref t/\H'=upd H t (.tup [.int i,x]),
  λi H=>∃xs,dA K H a xs/\xs.length<=i⟩
abbrev pw (n:Nat):List Nat:=[n + 1,n]
def yR {h:Heap}{a n:Addr}{i:Nat}{its:Array Value}{b:Addr}(p:h.IsTuple a its)(q:h.IsTupleIter n b i):a≠n:=λz=>by
 subst z
 obtain⟨o,e,c,_⟩:=p
 obtain⟨o',e',c',_⟩:=q
 rw[e] at e';cases e'
 rw[c] at c'
 simp at c'
def yi {h:Heap}{a n it:Addr}{i:Int}{its:Array Value}{old:Value}(p:h.IsTuple a its)(q:IsEnum h n it i old):n≠a:=λz=>by
 subst z
 obtain⟨o,e,c,_⟩:=p
 rw[q] at e;cases e
 simp at c
def vd {P:Program}{w:World}{K:Frag}{elts:List Expr}{x1}{pos:Pos}(a:Addr)(n:Nat):Turn P w K (.Tuple elts x1 pos) (Jg K a) (pw n) (n + 1)
  (λi h=>(∃old,IsEnum h (n + 1) n i old)/\h.IsTupleIter n a i) where
 mem:=by simp
 obj:=λi h st c hc=>by
  obtain⟨⟨old,z1⟩,⟨o2,z2,_,d2⟩⟩:=st
  simp only[pw,Kq,Lk,L7] at hc
  rcases hc with rfl |rfl
  ·exact⟨_,z1,λv z=>by
    have z':Data.fields _=Data.cell v:=z
    cases z'⟩
  ·exact⟨o2,z2,λv z=>by rw[d2] at z;cases z⟩
 keep:=λi h h' st k=>by
  obtain⟨⟨old,z1⟩,z2⟩:=st
  exact⟨⟨old,k _ (by simp) _ z1⟩,z2.at λo e=>k _ (by simp) o e⟩
 item:=by
  intro X hP hw hK hc i pins s σ H E I hf st hg
  subst hP hw hK
  obtain⟨xs,x,ha,hx⟩:=hg
  obtain⟨its,rv,p,hz⟩:=I.tuple ha
  have p:s.heap.IsTuple a its.toArray:=p
  obtain⟨u0,hu0,ru0⟩:=rv.get hx
  obtain⟨⟨old,z1⟩,z2⟩:=st
  have hh:X.A.in1.handled=none:=I.ok.hd hc
  have hlt:i < its.toArray.size:=by
   have:=Kz.mp hu0
   simpa using this.1
  refine wpAny_pyNext_enum_itemD (FD hh (yR p z2) its.toArray) z1 ⟨z2,p⟩ hlt (Gs 1 0 rfl) (by
   simp only[Kq,Lk,L7,not_or]
   exact⟨Gs 1 0 rfl,yi p z1⟩) λu h' tk hu q1 q2 q3 q4 q5=>?_
  have eu:u0=u:=by
   have hu:its.toArray[i]? =some u:=hu
   rw[Mm,hu0] at hu
   exact Option.some.inj hu
  subst eu
  refine⟨_,rfl,wpAny_letOwnedTupleGo_enum (s:={s with heap:=h',toks:=tk + 1}) q1 λh2 r1 r2=>?_⟩
  have r2:∀c,c≠n + 1->h2.get? c=h'.get? c:=r2.2
  have lz:n + 1 < s.heap.objs.size:=Kw z1
  have hT:H s.heap.objs.size=none:=I.hok.fresh (Km _)
  have I1:Inv X pins σ (upd H s.heap.objs.size (.tup [.int i,x])) {s with heap:=s.heap.push {cls:=.type "tuple",data:=.seq #[.int i tk,u0]},toks:=s.toks}:=
   I.laid (λb o e=>Kl _ e) (Km _) ⟨by show 2<=sizeLine;rw[KY];omega,[.int i tk,u0],.cons ⟨tk,rfl⟩ (.cons ru0 .nil),oO.new _ _⟩
  have hf':∀c∈pw n,lI X pins (upd H s.heap.objs.size (.tup [.int i,x])) c:=λc hc=>⟨by
   rw[ay (λz=>?_)]
   ·exact (hf c hc).1
   ·subst z
    simp only[pw,Kq,Lk,L7] at hc
    omega,(hf c hc).2⟩
  have I2:Inv X pins σ (upd H s.heap.objs.size (.tup [.int i,x])) {s with heap:=h2,toks:=tk + 1}:=by
   refine I1.turnedL (ch:=pw n) (λc o hc e=>?_) hf'
   have e:(s.heap.push {cls:=.type "tuple",data:=.seq #[.int i tk,u0]}).get? c=some o:=e
   simp only[pw,Kq,Lk,L7,not_or] at hc
   rw[r2 c hc.1]
   by_cases z:c=s.heap.objs.size
   ·subst z
    rw[Ky _ rfl] at e
    rw[<-e];exact q3
   ·refine q5 c o hc.1 hc.2 ?_
    rw[Heap.get?_push_ne _ _ _ z] at e
    exact e
  refine⟨.ref s.heap.objs.size,_,I2,rfl,⟨x,_,hT,λxs' h'=>?_,rfl,rfl⟩,⟨⟨u0,r1⟩,q2.1.at λo e=>(r2 _ (Gs 0 1 rfl)).trans e⟩,λc hc=>(hf' c hc).1⟩
  rw[I.tuple_inj h' ha];exact hx
 done:=by
  intro X hP hw hK hc i pins s σ H E I hf st hg
  subst hP hw hK
  obtain⟨xs,ha,hl⟩:=hg
  obtain⟨its,rv,p,hz⟩:=I.tuple ha
  obtain⟨⟨old,z1⟩,z2⟩:=st
  have hh:X.A.in1.handled=none:=I.ok.hd hc
  have l1:=rv.length
  refine wpAny_pyNext_enum_endD (FO hh i (xs:=its.toArray) (by simp;omega)) z1 ⟨rfl,z2,p⟩ λh' q=>⟨rfl,?_⟩
  refine I.turnedL (t':=s.toks) (ch:=pw n) (λc o hc e=>?_) hf
  simp only[pw,Kq,Lk,L7,not_or] at hc
  exact q c o hc.2 e
 self:=λ_ _ _ _ _ st h=>by
  obtain⟨⟨old,z1⟩,_⟩:=st
  exact M9 z1 h
def J8 (K:Frag)(ta:TA):TI:=λσ H R=>ta σ H λvs H2=>∃a xs,vs= [.ref a]/\dA K H2 a xs/\R (Jg K a) H2
def pN:bootBuiltins "enumerate"=some (.type "enumerate"):=by decide +kernel
section
variable {X:Cx}
theorem Ga {a:Expr}{ta:TA}{p pos pt:Pos}{elts:List Expr}{x1}(hg:Gl X "enumerate")(hm:X.mg "enumerate"=none)(ha:PA X [a] ta)(hs:starEach [a] X.env= [(false,eval a X.env)]:=by rfl) :
  PI X (.Tuple elts x1 pt) (.Call (.Name "enumerate" p) [a] [] pos) (J8 X.K ta):=by
 intro pins s σ H R I h
 refine Call_ (jm I hg hm pN (LG (cn (ha pos pins s σ H _ I h) λus s1 ⟨vs,H1,I1,r1,q1⟩=>?_) hs rfl))
 obtain⟨a,xs,e,h1,q⟩:=q1
 subst e
 cases r1 with
 |cons r rr=>
  cases rr
  cases r
  obtain⟨its,rv,p1,hz⟩:=I1.tuple h1
  refine uP (show s1.heap.IsTuple a its.toArray from p1) λh' z1 z2 z3=>?_
  refine M9 z1 ⟨_,pw s1.heap.objs.size,_,_,H1,rfl,I1.kept (t':=s1.toks) z3,vd a s1.heap.objs.size,⟨⟨_,z1⟩,z2⟩,λc hc=>?_,q⟩
  have:s1.heap.objs.size<=c:=by
   simp only[pw,Kq,Lk,L7] at hc
   rcases hc with rfl |rfl <;> first |exact Km _ |exact Nat.le_add_right _ _
  exact I1.fpOk this (I1.hok.fresh this)
end
section
variable {X:Cx}{Γ:Fx}{E:XK}{e a b c:Expr}{f fa fb:VF D}{L La Lb:List Nat}{md ma mb:Md}{pos:Pos}
def cX (ds:List D):List D:=ds.mapIdx λi d=>.tuple [.int i,d]
def AE (fa:VF D):VF (List D):=λvs β=>(fa vs β).bnd λx β1=>match x with
 | .tuple ds=>.ok (cX ds) β1
 |_=>.bad
def BF {K:Frag}{B:Option Addr}{G H1:Hp}{p:Addr}{xs:List V}{ds:List D}(hp:dA K G p xs)(r:b6 K G xs ds):Walk K B G H1 (cX ds) (Jg K p):=λGc H i s1 s2 m=>by
 have hp':=hp.grow (s1.trans s2).grow
 have l1:=r.len
 have lz:(cX ds).length=ds.length:=by unfold cX;rw[List.length_mapIdx]
 refine⟨λhi=>⟨?_,λx H' y=>?_⟩,λhi=>⟨xs,hp',by omega⟩⟩
 ·have h1:i < xs.length:=by omega
  exact⟨xs,xs[i],hp',by simp[h1]⟩
 ·obtain⟨x,t,ht,hx,rfl,rfl⟩:=y
  obtain⟨d,ed,rd⟩:=r.at' (hx xs hp')
  have xn:=Ext.new s2 (o:=.tup [.int i,x]) ht
  refine⟨upd Gc t (.tup [.int i,x]),.tuple [.int i,d],xn,?_,.tup (.inl (.inl aw)) (.cons (.int i) (.cons (rd.mono (s1.trans xn.gg)) .nil))⟩
  unfold cX
  rw[MS,ed];rfl
theorem zp {p pt:Pos}{elts:List Expr}{x1}(hK:X.K=Γ.K)(hg:Gl X "enumerate")(hm:X.mg "enumerate"=none)(ha:SE X Γ E a fa La ma)(hs:starEach [a] X.env= [(false,eval a X.env)]:=by rfl)(hs':starEach [a] X.env=(false,eval a X.env) :: starEach [] X.env:=by rfl) :
  SI X Γ E (.Tuple elts x1 pt) (.Call (.Name "enumerate" p) [a] [] pos) (AE fa) La md:=by
 refine PI.post (Ga hg hm (aK ha bq hs') hs) ?_
 rintro σ H Q ⟨env,G,B,β,I,o⟩
 refine⟨env,G,B,β,I,o.bnd.imp λd1 β1 h x G1 H1 I1 s1 m1 vx=>?_⟩
 have vx:=vx.brw I.boxThere
 rw[hK]
 cases d1 with
 |tuple ds=>
  rcases vx with vx | ⟨p,rfl,hb,q⟩
  ·cases vx with
   | @tup p xs _ hq r=>exact⟨p,xs,rfl,hq.grow I1.sub.grow,h _ G1 H1 I1 s1 m1 (BF hq r)⟩
  ·exact q.elim
 |_=>exact h.elim
end
end L2
namespace L2
open PySem PySem.Spec PyProof.Rows PySem.MeetsSeq PySem.MeetsSeq2 PySem.MeetsSeq3
def DX (K:Frag):R2:=λx y H Q=>∃a b xs ys,x=.ref a/\y=.ref b/\dA K H a xs/\dA K H b ys/\xs.length + ys.length<=sizeLine/\
 (xs= []->Q (.ref b) H)/\(xs≠ []->ys= []->Q (.ref a) H)/\(xs≠ []->ys≠ []->∀p,H p=none->Q (.ref p) (upd H p (.tup (xs ++ ys))))
section
variable {X:Cx}
def zE:jW X (binaryOp .Add) (DX X.K):=by
 intro pins s σ H x y v u Q I rx ry h
 obtain⟨a,b,xs,ys,rfl,rfl,ha,hb,hz,q0,q1,q2⟩:=h
 by_cases hx:xs= []
 ·cases rx
  cases ry
  obtain⟨its,r1,p1,_⟩:=I.tuple ha
  obtain⟨its2,r2,p2,_⟩:=I.tuple hb
  obtain⟨⟨cls,dd,data,sl⟩,ho,hc,n,hd⟩:=id p1
  obtain⟨⟨cls2,dd2,data2,sl2⟩,ho2,hc2,n2,hd2⟩:=id p2
  simp only at hc hd hc2 hd2
  subst hc hd hc2 hd2
  have he:its= []:=r1.nil_iff.mpr hx
  exact concat_meets ⟨_,ho,rfl⟩ ⟨_,ho2,rfl⟩ noFill_tuple_add seq_tuple_add PySem.F.slot_tuple_add PySem.F.entry_tuple_add (MX _ _)
   (tuple_addW0 a b its.toArray its2.toArray n n2 dd dd2 sl sl2 (by simp[he])) ⟨ho,ho2,.ref b,H,I,rfl,q0 hx⟩
 ·exact Cy pins s σ H _ _ v u Q I rx ry ⟨a,b,xs,ys,rfl,rfl,ha,hb,hx,hz,q1 hx,q2 hx⟩
end
def tV:D->D->Option D
 | .tuple a,.tuple b=>if a.length + b.length<=sizeLine then some (.tuple (a ++ b)) else none
 |_,_=>none
def Fm {K:Frag}:ku K (DX K) tV .v:=by
 intro B G H x y dx dy d Q s hB bx by' e k
 cases dx <;> cases dy <;> first | (cases e;done) |skip
 rename_i a b
 simp only[tV] at e
 split at e
 ·rename_i hz
  cases e
  rcases bx with bx | ⟨_,_,_,q⟩
  case inr=>exact q.elim
  rcases by' with by' | ⟨_,_,_,q⟩
  case inr=>exact q.elim
  cases bx with
  | @tup p xs _ hp r1=>
   cases by' with
   | @tup q ys _ hq r2=>
    refine⟨p,q,xs,ys,rfl,rfl,hp.grow s.grow,hq.grow s.grow,by rw[r1.len,r2.len];exact hz,λz=>?_,λz z'=>?_,λ_ _ l hl=>?_⟩
    ·subst z
     cases r1
     exact k _ G H (Ext.refl s) (.tup hq r2)
    ·subst z'
     cases r2
     rw[LF] at k
     exact k _ G H (Ext.refl s) (.tup hp r1)
    ·have xn:=Ext.new s (o:=.tup (xs ++ ys)) hl
     exact k _ _ _ xn (.tup (.inl (.inl aw)) ((r1.append r2).mono xn.gg))
 ·cases e
end L2
namespace L2
open PySem PySem.Spec PyProof.Rows
def isStar:Expr->Bool
 | .Starred _ _=>true
 |_=>false
def zd {a:Expr}{es:List Expr}{env:Env}(h:isStar a=false):starEach (a :: es) env=(false,eval a env) :: starEach es env:=by
 cases a <;> first |rfl |cases h
def Fl (sc:Scope)(x:Str):Bool:=match sc.names.lookup x with
 |some .local=>true
 |some .cell=>true
 |some .free=>true
 |_=>false
def C0 {sc:Scope}{x:Str}(h:Fl sc x=true):vL sc x:=by
 unfold Fl at h
 unfold vL
 split at h
 ·exact .inl (by assumption)
 ·exact .inr (.inl (by assumption))
 ·exact .inr (.inr (by assumption))
 ·cases h
def yn (N:List Str)(sc:Scope):List (Str×Nat)->Bool
 | []=>true
 | (x,i) :: r=>decide (N[i]? =some x) && (Fl sc x && ((!(x == ("__debug__":Str))) && ((!(x == ("__classdict__":Str))) && yn N sc r)))
theorem xC {N:List Str}{sc:Scope}:∀{l:List (Str×Nat)} {x:Str} {i:Nat},yn N sc l=true->l.lookup x=some i->N[i]? =some x/\vL sc x/\(x == ("__debug__":Str))=false/\(x == ("__classdict__":Str))=false
 | [],_,_,_,h=>by cases h
 | (y,j) :: r,x,i,h,e=>by
  simp only[yn,KP,K3,LM] at h
  obtain⟨h1,h2,h3,h4,h5⟩:=h
  rw[MR] at e
  split at e
  ·rename_i q
   have q:x=y:=by simpa using q
   subst q
   cases e
   exact⟨h1,C0 h2,h3,h4⟩
  ·exact xC h5 e
def yY:Expr->Option Int
 | .Constant (.int i) _ _=>some i
 |_=>none
theorem mJ {e:Expr}{i:Int}(h:yY e=some i):∃j p,e=.Constant (.int i) j p:=by
 cases e with
 |Constant c j p=>cases c <;> first | (cases h;exact⟨_,_,rfl⟩) |cases h
 |_=>cases h
def JA (op:UnaryOp)(e:Expr):Option Int:=match op with
 | .USub=>yY e
 |_=>none
def DM:Operator->Bool
 | .Pow=>true
 |_=>false
def zo {o:Operator}(h:DM o=true):o=.Pow:=by cases o <;> first |rfl |cases h
def Er (ks:List (Option Expr))(vs:List Expr):Option (Str×Int):=match ks,vs with
 | [some (.Constant (.str k) _ _)],[v]=>(yY v).map λi=>(k,i)
 |_,_=>none
def Cv {ks:List (Option Expr)}{vs:List Expr}{r:Str×Int}(h:Er ks vs=some r):∃j p j' p',ks= [some (.Constant (.str r.1) j p)]/\vs= [.Constant (.int r.2) j' p']:=by
 unfold Er at h
 split at h
 ·rename_i k j p v
  cases q:yY v with
  |none=>rw[q] at h;cases h
  |some i=>
   rw[q] at h
   cases h
   obtain⟨j',p',rfl⟩:=mJ q
   exact⟨_,_,_,_,rfl,rfl⟩
 ·cases h
def JM:Const->Option D
 | .int i=>some (.int i)
 | .bool b=>some (.bool b)
 | .none=>some .none
 | .str x=>some (.str x)
 |_=>none
mutual
def rD (nm:List (Str×Nat)):Expr->Option (VF D×List Nat)
 | .Name x _=>(nm.lookup x).map λi=>(gv i,[i])
 | .Constant c _ _=>(JM c).map λd=>(cst d,[])
 | .UnaryOp op a _=>(JA op a).map λi=>(cst (.int (-i)),[])
 | .BinOp a o b _=>if DM o=true then (yY a).bind λi=>(yY b).map λj=>(f2 (cst (.int i)) (cst (.int j)) GQ,[]) else none
 | .Dict ks vs _=>(Er ks vs).map λr=>(cst (.dict [(.str r.1,.int r.2)]),[])
 | .Tuple es _ _=>(Gq nm es).map λr=>(cB r.1,r.2)
 | .List es _=>(Gq nm es).map λr=>(bI r.1,r.2)
 | .BoolOp ..=>none
 | .NamedExpr ..=>none
 | .Lambda ..=>none
 | .IfExp ..=>none
 | .Set ..=>none
 | .ListComp ..=>none
 | .SetComp ..=>none
 | .DictComp ..=>none
 | .GeneratorExp ..=>none
 | .Await ..=>none
 | .Yield ..=>none
 | .YieldFrom ..=>none
 | .Compare ..=>none
 | .Call ..=>none
 | .FormattedValue ..=>none
 | .JoinedStr ..=>none
 | .Attribute ..=>none
 | .Subscript ..=>none
 | .Starred ..=>none
 | .Slice ..=>none
def Gq (nm:List (Str×Nat)):List Expr->Option (VF (List D)×List Nat)
 | []=>some (ah,[])
 |e :: es=>(rD nm e).bind λr=>(Gq nm es).map λq=>(aa r.1 q.1,r.2 ++ q.2)
end
section
variable {X:Cx}{Γ:Fx}{E:XK}{nm:List (Str×Nat)}
theorem i7 {α β:Type}{o:Option α}{f:α->β}{b:β}(h:o.map f=some b):∃a,o=some a/\f a=b:=by
 cases o with
 |none=>cases h
 |some a=>exact⟨a,rfl,Option.some.inj h⟩
theorem wo {α β:Type}{o:Option α}{f:α->Option β}{b:β}(h:o.bind f=some b):∃a,o=some a/\f a=some b:=by
 cases o with
 |none=>cases h
 |some a=>exact⟨a,rfl,h⟩
mutual
theorem GF (hc:yn X.N X.env.scope nm=true)(hb:∀i,Γ.br i=false):∀{e:Expr} {f:VF D} {L:List Nat},rD nm e=some (f,L)->SE X Γ E e f L .v/\isStar e=false
 | .Name x p,f,L,h=>by
  rw[rD] at h
  obtain⟨i,q,e⟩:=i7 h
  cases e
  obtain⟨h1,h2,h3,h4⟩:=xC hc q
  exact⟨aA i (hb i) h1 h2 h3 h4,rfl⟩
 | .Constant c j p,f,L,h=>by
  rw[rD] at h
  obtain⟨d,q,e⟩:=i7 h
  cases e
  cases c <;> first | (cases q;first |exact⟨ax,rfl⟩ |exact⟨jk,rfl⟩ |exact⟨ES,rfl⟩ |exact⟨qY,rfl⟩) |cases q
 | .UnaryOp op a p,f,L,h=>by
  rw[rD] at h
  obtain⟨i,q,e⟩:=i7 h
  cases e
  cases op <;> first | (cases q;done) |skip
  obtain⟨j,p,rfl⟩:=mJ q
  exact⟨wH qx wO ax,rfl⟩
 | .BinOp a op b p,f,L,h=>by
  rw[rD] at h
  split at h
  ·rename_i ho
   obtain rfl:=zo ho
   obtain⟨i,q,h⟩:=wo h
   obtain⟨j,q2,e⟩:=i7 h
   cases e
   obtain⟨j1,p1,rfl⟩:=mJ q
   obtain⟨j2,p2,rfl⟩:=mJ q2
   exact⟨bg FG Hb ax ax,rfl⟩
  ·cases h
 | .Dict ks vs p,f,L,h=>by
  rw[rD] at h
  obtain⟨r,q,e⟩:=i7 h
  cases e
  obtain⟨_,_,_,_,rfl,rfl⟩:=Cv q
  exact⟨DD,rfl⟩
 | .Tuple es c p,f,L,h=>by
  rw[rD] at h
  obtain⟨r,q,e⟩:=i7 h
  cases e
  exact⟨iu (rG hc hb q),rfl⟩
 | .List es p,f,L,h=>by
  rw[rD] at h
  obtain⟨r,q,e⟩:=i7 h
  cases e
  exact⟨SE.wv (b7 (rG hc hb q)),rfl⟩
 | .BoolOp ..,_,_,h=>by rw[rD] at h;cases h
 | .NamedExpr ..,_,_,h=>by rw[rD] at h;cases h
 | .Lambda ..,_,_,h=>by rw[rD] at h;cases h
 | .IfExp ..,_,_,h=>by rw[rD] at h;cases h
 | .Set ..,_,_,h=>by rw[rD] at h;cases h
 | .ListComp ..,_,_,h=>by rw[rD] at h;cases h
 | .SetComp ..,_,_,h=>by rw[rD] at h;cases h
 | .DictComp ..,_,_,h=>by rw[rD] at h;cases h
 | .GeneratorExp ..,_,_,h=>by rw[rD] at h;cases h
 | .Await ..,_,_,h=>by rw[rD] at h;cases h
 | .Yield ..,_,_,h=>by rw[rD] at h;cases h
 | .YieldFrom ..,_,_,h=>by rw[rD] at h;cases h
 | .Compare ..,_,_,h=>by rw[rD] at h;cases h
 | .Call ..,_,_,h=>by rw[rD] at h;cases h
 | .FormattedValue ..,_,_,h=>by rw[rD] at h;cases h
 | .JoinedStr ..,_,_,h=>by rw[rD] at h;cases h
 | .Attribute ..,_,_,h=>by rw[rD] at h;cases h
 | .Subscript ..,_,_,h=>by rw[rD] at h;cases h
 | .Starred ..,_,_,h=>by rw[rD] at h;cases h
 | .Slice ..,_,_,h=>by rw[rD] at h;cases h
theorem rG (hc:yn X.N X.env.scope nm=true)(hb:∀i,Γ.br i=false):∀{es:List Expr} {f:VF (List D)} {L:List Nat},Gq nm es=some (f,L)->SA X Γ E es f L
 | [],f,L,h=>by rw[Gq] at h;cases h;exact aq
 |e :: es,f,L,h=>by
  rw[Gq] at h
  obtain⟨r,q,h⟩:=wo h
  obtain⟨r2,q2,e⟩:=i7 h
  cases e
  obtain⟨a,b⟩:=GF hc hb q
  exact ae a (rG hc hb q2) (zd b)
end
def Gv {es:List Expr}{f:VF (List D)}{L:List Nat}{pos:Pos}(nm:List (Str×Nat))(hc:yn X.N X.env.scope nm=true)(hb:∀i,Γ.br i=false)(h:Gq nm es=some (f,L)):SE X Γ E (.List es pos) (bI f) L .w:=b7 (rG hc hb h)
end
end L2
namespace L2.ST
open PySem PySem.SetTable
section
variable {prog:Program}{w:World}{A:Around}{E:Value->Shared->Prop}{s:Shared}
set_option maxHeartbeats 3200000 in
theorem oW {l:Addr}{vs:List Value}{ns:List Int}{T:String}{itO:Obj}{St:Addr->Nat->Heap->Prop}{Q:Value->Shared->Prop}(X:Src prog w s.heap l vs T itO St)(hh:A.handled=none)(hi:PyProof.Rows.IntsAre vs ns)(hb:vs.length + 1 < scanBound)
  (h:∀(h':Heap) (tk:Nat),h'.SetOf (intKind prog w) s.heap.objs.size (λk'=>(PyProof.Rows.firstMet (λi=>ns.getD i 0) vs.length).any (· == k')) (PyProof.Rows.firstMet (λi=>ns.getD i 0) vs.length).length->(∀b o,s.heap.get? b=some o->h'.get? b=some o)->Q (.ref s.heap.objs.size) {s with heap:=h',toks:=tk}) :
  wpAny (model prog w) A (call (.type "set") [.ref l]) Q E s:=by
 obtain⟨c0,tl0,hmro0⟩:=Lv.mro
 have hmade0:=Lv.made
 have hsub0:=Lv.sub
 refine wpAny_call (codeAny_of_tree ?_)
 show wpAny _ _ (callAny (.type "set") ⟨[.ref l],[]⟩) _ _ _
 refine Ks ⟨Code.quiet_builtin _ (by decide +kernel),Mn F.entry_type_call ?_⟩
 (rw[Around.under_plain (weight_type_call_type "set" [.ref l] []) rfl])
 have g1:=Lv.notType
 have g2:=Lv.canCreate
 have g3:=F.typeCall_set_1 (.ref l)
 repeat (any_goals (first |assumption |wp_step))
 refine Mv (lQ (.ref l) (E:=E) (Q1:=λobj s1=>obj=.ref s.heap.objs.size/\s1={s with heap:=s.heap.push {cls:=.type "set",dict:=none,data:=.set #[] 0 (.fresh 0 0 (eB w))}}) ⟨rfl,rfl⟩) λr s1 hr=>?_
 cases r with
 |error e=>exact hr
 |ok fl=>
  cases fl with
  |ret obj=>
   obtain⟨rfl,rfl⟩:=hr
   generalize hO:({cls:=.type "set",dict:=none,data:=.set #[] 0 (.fresh 0 0 (eB w))}:Obj)=O
   have hS0:(s.heap.push O).get? s.heap.objs.size=some O:=Ky _ (by rw[<-hO];rfl)
   have hT0:Shared.TypeIs {s with heap:=s.heap.push O} (.ref s.heap.objs.size) "set":=⟨_,hS0,by rw[<-hO]⟩
   have g4:=Lv.init.lookup
   have g5:=Lv.init.bind (.ref s.heap.objs.size)
   repeat (any_goals (first |assumption |wp_step))
   refine Mv (codeAny_call_builtin (R:=wants (λr s2=>r=.none/\∃h' tk,s2={s with heap:=h',toks:=tk}/\h'.SetOf (intKind prog w) s.heap.objs.size (λk'=>(PyProof.Rows.firstMet (λi=>ns.getD i 0) vs.length).any (· == k')) (PyProof.Rows.firstMet (λi=>ns.getD i 0) vs.length).length/\(∀b o,s.heap.get? b=some o->h'.get? b=some o)) E)
    Lv.init.plain F.entry_set_init (check_set_init_1 hT0 ?_)) λr2 s2 hr2=>?_
   ·obtain⟨ol,hol,hcl⟩:=X.ty
    have hol':(s.heap.push O).get? l=some ol:=Kl _ hol
    have e1:=X.ns
    have e2:=X.nf
    have e3:=X.nd
    have hTl:Shared.TypeIs {s with heap:=s.heap.push O} (.ref l) T:=⟨ol,hol',hcl⟩
    have hdat:O.data=.set #[] 0 (.fresh 0 0 (eB w)):=by rw[<-hO]
    (unfold Builtin.«set.__init__» noKeywords Builtin.Frozenset.updateFrom)
    subst hO
    obtain⟨oc,od,odt,osl⟩:=ol
    simp only at hcl
    subst hcl
    (generalize hPI0:pyIter=PI0)
    wp_walk
    subst hPI0
    have kp:∀b o,s.heap.get? b=some o->(s.heap.push {cls:=.type "set",dict:=none,data:=.set #[] 0 (.fresh 0 0 (eB w))}).get? b=some o:=λb o e=>Kl _ e
    refine X.it _ _ _ _ kp ?_
    refine Kk (wpAny_runValue ?_)
    have hlS:l < s.heap.objs.size:=Kw hol
    have hh3:A.in1.in1.in1.handled=none:=by simp[hh]
    have hneI:l≠(s.heap.push {cls:=.type "set",dict:=none,data:=.set #[] 0 (.fresh 0 0 (eB w))}).objs.size:=by
     rw[LR];exact K1 (Nat.lt_succ_of_lt hlS)
    have hSf:s.heap.objs.size∉ [(s.heap.push {cls:=.type "set",dict:=none,data:=.set #[] 0 (.fresh 0 0 (eB w))}).objs.size,l]:=by
     rw[LR]
     intro z
     rcases Kq.mp z with e |z
     ·exact absurd e (K1 (Nat.lt_succ_self _))
     ·exact absurd (KS.mp z) (Nat.ne_of_gt hlS)
    refine PyProof.Rows.codeAny_set_update_loopS ((X.wk _ _ hh3 hneI).toS) s.heap.objs.size hSf (λi=>ns.getD i 0) (λi v e=>PyProof.Rows.IntsAre.int_at hi i v e) hb (vs.length - 0) 0 _ (by omega) (K5 _) (X.st _ kp) ?_ ?_
    ·exact PyProof.Rows.SetOf_congr ((PyProof.Rows.setObjOf_fresh (knd:=intKind prog w) (eB w)).setOf (Kl _ hS0) (by unfold scanBound;omega)) (λ_=>rfl) rfl
    ·intro s' hm F'
     obtain⟨h',g',d',tk,os'⟩:=s'
     have eg:g'=s.gens:=hm.gens
     have ed:d'=s.drawn:=hm.drawn
     have eo:os'=s.os:=hm.os
     subst eg;subst ed;subst eo
     show wpAny _ _ _ _ _ _
     refine Ks ?_
     show wpAny _ _ (ret Value.none) _ _ _
     refine Ks ⟨rfl,h',tk,rfl,F',λb o e=>hm.heap b o (λz=>?_) (Kl _ (kp b o e))⟩
     have hlt:=Kw e
     rw[LR] at z
     rcases Kq.mp z with z |z
     ·exact absurd hlt (by rw[z];exact Ld _)
     ·rw[KS.mp z] at hlt
      exact absurd hlt (Nat.not_lt.mpr (Nat.le_succ _))
   ·cases r2 with
    |error e=>exact hr2
    |ok fl2=>
     cases fl2 with
     |ret r=>
      obtain⟨rfl,h',tk,rfl,hF,hk⟩:=hr2
      repeat (any_goals (first |assumption |wp_step))
      exact h _ _ hF hk
     |_=>exact hr2.elim
  |_=>exact hr.elim
end
end L2.ST
namespace L2
open PySem PyProof.Rows
section
variable {X:Cx}{K:Frag}{pins:List V}{σ:St}{H:Hp}{s:Shared}{E:XK}
def HP (ns:List Int)(k:Int):Bool:=(firstMet (λi=>ns.getD i 0) ns.length).any (· == k)
def o4 (ns:List Int):Nat:=(firstMet (λi=>ns.getD i 0) ns.length).length
def DR (K:Frag):List V->Hp->VK->Prop:=λxs H Q=>∃a ns,xs= [.ref a]/\(e8 K H a (ns.map V.int)\/dA K H a (ns.map V.int))/\ns.length<=1000/\∀S,H S=none->Q (.ref S) (upd H S (.set (HP ns) (o4 ns)))
def ye (hc:X.calm=true):cp X (.type "set") (DR X.K):=by
 intro pins s σ H xs us Q I r h
 obtain⟨a,ns,rfl,hq,hz,q⟩:=h
 obtain⟨u,rfl,rx⟩:=vals1 r
 cases rx
 have hh:=I.ok.hd hc
 have core:∀{its:List Value} {T:String} {itO:Obj} {St:Addr->Nat->Heap->Prop},Vals (ns.map V.int) its->L2.ST.Src X.prog X.w s.heap a its T itO St->wpAny (model X.prog X.w) X.A (call (.type "set") [.ref a]) (EP X pins σ Q) X.xe s:=λ{its T itO St} rv src=>by
  have hl:its.length=ns.length:=by rw[<-rv.length,Kx]
  refine L2.ST.oW src hh (intsAre_of rv) (by unfold scanBound;omega) λh' tk F k=>?_
  rw[hl] at F
  exact⟨.ref _,_,I.laid (t':=tk) (o:=.set (HP ns) (o4 ns)) k (Km _) F,rfl,q _ (I.hok.fresh (Km _))⟩
 rcases hq with hq |hq
 ·obtain⟨its,rv,pl,hz⟩:=I.list hq
  exact core rv (L2.ST.Src.list pl.isList)
 ·obtain⟨its,rv,pl,hz⟩:=I.tuple hq
  exact core rv (L2.ST.Src.tuple pl)
def yh:cp X (.builtin "len") (λxs H Q=>∃S f n,xs= [.ref S]/\H S=some (.set f n)/\Q (.int n) H):=by
 intro pins s σ H xs us Q I r h
 obtain⟨S,f,n,rfl,hS,q⟩:=h
 obtain⟨u,rfl,rx⟩:=vals1 r
 cases rx
 obtain⟨o,es,ep,t,ho,hex,hd,_,_,hb,hf,e⟩:s.heap.SetOf (intKind X.prog X.w) S f n:=I.hok _ _ hS
 refine call_len_set ho hex hd hf (by unfold scanBound at hb;omega) ⟨.int n,H,I.tok _,⟨_,by rw[e]⟩,q⟩
def mr (d:D):Option D:=match ja d with
 |some ds=>(match fq ds with
  |some ns=>if ns.length<=1000 then some (.int (o4 ns)) else none
  |none=>none)
 |none=>none
theorem b6.intsB {G:Hp}:∀{ns:List Int} {xs:List V},b6 K G xs (ns.map int)->xs=ns.map V.int
 | [],_,.nil=>rfl
 |n :: ns,_,.cons r t=>by cases r;rw[b6.intsB t];rfl
variable {Γ:Fx}{e a b c:Expr}{f fa fb fc:VF D}{L La Lb:List Nat}{md ma mb mc:Md}{pos:Pos}
theorem yc {p1 p2 pos2:Pos}(hc:X.calm=true)(hK:X.K=Γ.K)(hg:Gl X "len")(hm:X.mg "len"=none)(hg2:Gl X "set")(hm2:X.mg "set"=none)(ha:SE X Γ E a fa La ma)
  (he:starEach [a] X.env=(false,eval a X.env) :: starEach [] X.env:=by rfl)
  (he2:starEach [.Call (.Name "set" p2) [a] [] pos2] X.env=(false,eval (.Call (.Name "set" p2) [a] [] pos2) X.env) :: starEach [] X.env:=by rfl) :
  SE X Γ E (.Call (.Name "len" p1) [.Call (.Name "set" p2) [a] [] pos2] [] pos) (f1 fa mr) La .v:=by
 refine PE.post' (g7 yh hg hm (by decide +kernel) (aK (fO (ye hc) hg2 hm2 (by decide +kernel) (aK ha bq he) (by decide) (by decide) he) bq he2) (by decide) (by decide) he2) λσ H Q ⟨env,G,B,β,I,o⟩=>?_
 refine gH (r:=λx H1 Q=>DR X.K [x] H1 λy H2=>∃S f n,[y]= [V.ref S]/\H2 S=some (.set f n)/\Q (.int n) H2) ?_ I o
 intro B G H x dx d Q s hB bx e k
 rw[hK]
 unfold mr at e
 cases q:ja dx with
 |none=>rw[q] at e;cases e
 |some ds=>
  rw[q] at e
  dsimp only at e
  cases q2:fq ds with
  |none=>rw[q2] at e;cases e
  |some ns=>
   rw[q2] at e
   dsimp only at e
   split at e
   ·rename_i hz
    cases e
    obtain⟨p,xs,rfl,hq,r⟩:=bx.seq q s
    rw[kU q2] at r
    have r:=r.intsB
    subst r
    exact⟨p,ns,rfl,hq,hz,λS hS=>⟨S,_,_,rfl,aw,k _ _ _ (Ext.own s hS) (.int _)⟩⟩
   ·cases e
end
end L2
namespace L2
open PySem
section
variable {K:Frag}{h:Heap}{mg:Str->Option Value}
theorem xk {α:Type}{P:List α->Prop}(q:∀a,P [a]):∀us:List α,us.length=1->P us
 | [a],_=>q a
theorem ln2 {α:Type}{P:List α->Prop}(q:∀a b,P [a,b]):∀us:List α,us.length=2->P us
 | [a,b],_=>q a b
theorem Kg {α:Type}{P:List α->Prop}(q:∀a b c d,P [a,b,c,d]):∀us:List α,us.length=4->P us
 | [a,b,c,d],_=>q a b c d
def bc (x:Str)(st:Stmt)(ps:List Str):Prop:=∀(kV doc pm:Value) (an:Option Addr) (cdv ct:Value) (us:List Value),us.length=ps.length->bindArgs (PySem.W.fnOf x x (gy st) (cx st) (av st) .none kV doc pm an cdv ct) ⟨us,[]⟩=pure (ps.zip us)
structure Fo (K:Frag)(mg:Str->Option Value)(x:Str)(st:Stmt)(ps:List Str):Prop where
 ex:∃f fd,jC K mg x st ps f fd
def bS {x:Str}{st:Stmt}{ps:List Str}{f:Addr}{oc:Value}{od an:Option Addr}{sl:Array (Option Value)}{kV doc pm cdv ct:Value}(X:K.In h)(G:h.Ns mainGlobals mg)(b:bc x st ps)(a:PySem.W.nsIn K mainGlobals x=some (some (.ref f)))
  (l:K.lookup f=some ⟨oc,od,.func (PySem.W.fnOf x x (gy st) (cx st) (av st) .none kV doc pm an cdv ct),sl⟩) (c:PySem.W.codeIn K cdv x=true) (k:PySem.W.keepIn K (.ref f)=true):Fo K mg x st ps:=
 ⟨⟨f,_,MG X G a,uQ l c k,(uQ l c k).binds b⟩⟩
def Jt:List Str:=["len","range","enumerate","zip","min","max","sum","abs","sorted","reversed","int","str","bool","list","tuple","dict","set","isinstance","repr","any","all","divmod"]
def JQ (K:Frag):Bool:=Jt.all λx=>match PySem.W.nsIn K mainGlobals x with
 |some none=>true
 |_=>false
def E9 (q:JQ K=true){x:Str}(hx:x∈Jt):PySem.W.nsIn K mainGlobals x=some none:=by
 have:=LJ.mp q x hx
 split at this
 ·assumption
 ·cases this
def HN (X:K.In h)(G:h.Ns mainGlobals mg)(q:JQ K=true):jV mg:=by
 have key:∀{x:Str},x∈Jt->mg x=none:=λhx=>PySem.W.mg_none_of X G (E9 q hx)
 constructor <;> exact key (by decide)
end
end L2
namespace L2
open PySem PySem.Spec PyProof.Rows
def Di {prog:Program}{w:World}{A:Around}{it t:Addr}{xs:Array Value}(hh:A.handled=none)(i:Nat)(hx:xs[i]? =none):Draws prog w A it [it,t] i (λ_ _=>False) (λj h=>j=i/\h.IsListIter it t i/\h.IsList t xs) where
 live:=λ_ _ st=>let ⟨o,ho,_⟩:=st.2.1;⟨o,ho⟩
 frame:=λ_ _ _ st hk=>⟨st.1,st.2.1.at λo e=>hk it (by simp) o e,st.2.2.at λo e=>hk t (by simp) o e⟩
 item:=λj s Q E hi st k=>absurd st.1 (by omega)
 done:=λs Q E st k=>wpAny_nextOf_list_end hh st.2.1 st.2.2 hx k
def Gn (K:Frag)(a:Addr):It:=
 ⟨λi H=>∃xs x,e8 K H a xs/\xs[i]? =some x,
  λi H v H'=>∃x t,H t=none/\(∀xs,e8 K H a xs->xs[i]? =some x)/\v=.ref t/\H'=upd H t (.tup [.int i,x]),
  λi H=>∃xs,e8 K H a xs/\xs.length<=i⟩
def xI {h:Heap}{a n:Addr}{i:Nat}{its:Array Value}{b:Addr}(p:h.IsList a its)(q:h.IsListIter n b i):a≠n:=λz=>by
 subst z
 obtain⟨o,e,c,_⟩:=p
 obtain⟨o',e',c',_⟩:=q
 rw[e] at e';cases e'
 rw[c] at c'
 simp at c'
def zb {h:Heap}{a n it:Addr}{i:Int}{its:Array Value}{old:Value}(p:h.IsList a its)(q:IsEnum h n it i old):n≠a:=λz=>by
 subst z
 obtain⟨o,e,c,_⟩:=p
 rw[q] at e;cases e
 simp at c
def uR {P:Program}{w:World}{K:Frag}{elts:List Expr}{x1}{pos:Pos}(a:Addr)(n:Nat):Turn P w K (.Tuple elts x1 pos) (Gn K a) (pw n) (n + 1)
  (λi h=>(∃old,IsEnum h (n + 1) n i old)/\h.IsListIter n a i) where
 mem:=by simp
 obj:=λi h st c hc=>by
  obtain⟨⟨old,z1⟩,⟨o2,z2,_,d2⟩⟩:=st
  simp only[pw,Kq,Lk,L7] at hc
  rcases hc with rfl |rfl
  ·exact⟨_,z1,λv z=>by
    have z':Data.fields _=Data.cell v:=z
    cases z'⟩
  ·exact⟨o2,z2,λv z=>by rw[d2] at z;cases z⟩
 keep:=λi h h' st k=>by
  obtain⟨⟨old,z1⟩,z2⟩:=st
  exact⟨⟨old,k _ (by simp) _ z1⟩,z2.at λo e=>k _ (by simp) o e⟩
 item:=by
  intro X hP hw hK hc i pins s σ H E I hf st hg
  subst hP hw hK
  obtain⟨xs,x,ha,hx⟩:=hg
  obtain⟨its,rv,p,hz⟩:=I.list ha
  have p:s.heap.IsList a its.toArray:=p.isList
  obtain⟨u0,hu0,ru0⟩:=rv.get hx
  obtain⟨⟨old,z1⟩,z2⟩:=st
  have hh:X.A.in1.handled=none:=I.ok.hd hc
  have hlt:i < its.toArray.size:=by
   have:=Kz.mp hu0
   simpa using this.1
  refine wpAny_pyNext_enum_itemD (Draws.list hh n a (xI p z2) its.toArray) z1 ⟨z2,p⟩ hlt (Gs 1 0 rfl) (by
   simp only[Kq,Lk,L7,not_or]
   exact⟨Gs 1 0 rfl,zb p z1⟩) λu h' tk hu q1 q2 q3 q4 q5=>?_
  have eu:u0=u:=by
   have hu:its.toArray[i]? =some u:=hu
   rw[Mm,hu0] at hu
   exact Option.some.inj hu
  subst eu
  refine⟨_,rfl,wpAny_letOwnedTupleGo_enum (s:={s with heap:=h',toks:=tk + 1}) q1 λh2 r1 r2=>?_⟩
  have r2:∀c,c≠n + 1->h2.get? c=h'.get? c:=r2.2
  have lz:n + 1 < s.heap.objs.size:=Kw z1
  have hT:H s.heap.objs.size=none:=I.hok.fresh (Km _)
  have I1:Inv X pins σ (upd H s.heap.objs.size (.tup [.int i,x])) {s with heap:=s.heap.push {cls:=.type "tuple",data:=.seq #[.int i tk,u0]},toks:=s.toks}:=
   I.laid (λb o e=>Kl _ e) (Km _) ⟨by show 2<=sizeLine;rw[KY];omega,[.int i tk,u0],.cons ⟨tk,rfl⟩ (.cons ru0 .nil),oO.new _ _⟩
  have hf':∀c∈pw n,lI X pins (upd H s.heap.objs.size (.tup [.int i,x])) c:=λc hc=>⟨by
   rw[ay (λz=>?_)]
   ·exact (hf c hc).1
   ·subst z
    simp only[pw,Kq,Lk,L7] at hc
    omega,(hf c hc).2⟩
  have I2:Inv X pins σ (upd H s.heap.objs.size (.tup [.int i,x])) {s with heap:=h2,toks:=tk + 1}:=by
   refine I1.turnedL (ch:=pw n) (λc o hc e=>?_) hf'
   have e:(s.heap.push {cls:=.type "tuple",data:=.seq #[.int i tk,u0]}).get? c=some o:=e
   simp only[pw,Kq,Lk,L7,not_or] at hc
   rw[r2 c hc.1]
   by_cases z:c=s.heap.objs.size
   ·subst z
    rw[Ky _ rfl] at e
    rw[<-e];exact q3
   ·refine q5 c o hc.1 hc.2 ?_
    rw[Heap.get?_push_ne _ _ _ z] at e
    exact e
  refine⟨.ref s.heap.objs.size,_,I2,rfl,⟨x,_,hT,λxs' h'=>?_,rfl,rfl⟩,⟨⟨u0,r1⟩,q2.1.at λo e=>(r2 _ (Gs 0 1 rfl)).trans e⟩,λc hc=>(hf' c hc).1⟩
  rw[I.list_inj h' ha];exact hx
 done:=by
  intro X hP hw hK hc i pins s σ H E I hf st hg
  subst hP hw hK
  obtain⟨xs,ha,hl⟩:=hg
  obtain⟨its,rv,p,hz⟩:=I.list ha
  obtain⟨⟨old,z1⟩,z2⟩:=st
  have hh:X.A.in1.handled=none:=I.ok.hd hc
  have l1:=rv.length
  refine wpAny_pyNext_enum_endD (Di hh i (xs:=its.toArray) (by simp;omega)) z1 ⟨rfl,z2,p.isList⟩ λh' q=>⟨rfl,?_⟩
  refine I.turnedL (t':=s.toks) (ch:=pw n) (λc o hc e=>?_) hf
  simp only[pw,Kq,Lk,L7,not_or] at hc
  exact q c o hc.2 e
 self:=λ_ _ _ _ _ st h=>by
  obtain⟨⟨old,z1⟩,_⟩:=st
  exact M9 z1 h
def IU (K:Frag)(ta:TA):TI:=λσ H R=>ta σ H λvs H2=>∃a xs,vs= [.ref a]/\e8 K H2 a xs/\R (Gn K a) H2
section
variable {X:Cx}
theorem Fb {a:Expr}{ta:TA}{p pos pt:Pos}{elts:List Expr}{x1}(hg:Gl X "enumerate")(hm:X.mg "enumerate"=none)(ha:PA X [a] ta)(hs:starEach [a] X.env= [(false,eval a X.env)]:=by rfl) :
  PI X (.Tuple elts x1 pt) (.Call (.Name "enumerate" p) [a] [] pos) (IU X.K ta):=by
 intro pins s σ H R I h
 refine Call_ (jm I hg hm pN (LG (cn (ha pos pins s σ H _ I h) λus s1 ⟨vs,H1,I1,r1,q1⟩=>?_) hs rfl))
 obtain⟨a,xs,e,h1,q⟩:=q1
 subst e
 cases r1 with
 |cons r rr=>
  cases rr
  cases r
  obtain⟨its,rv,p1,hz⟩:=I1.list h1
  refine call_enumerate_list p1.isList λh' z1 z2 _ z3=>?_
  refine M9 z1 ⟨_,pw s1.heap.objs.size,_,_,H1,rfl,I1.kept (t':=s1.toks) z3,uR a s1.heap.objs.size,⟨⟨_,z1⟩,z2⟩,λc hc=>?_,q⟩
  have:s1.heap.objs.size<=c:=by
   simp only[pw,Kq,Lk,L7] at hc
   rcases hc with rfl |rfl <;> first |exact Km _ |exact Nat.le_add_right _ _
  exact I1.fpOk this (I1.hok.fresh this)
end
section
variable {X:Cx}{Γ:Fx}{E:XK}{e a b c:Expr}{f fa fb:VF D}{L La Lb:List Nat}{md ma mb:Md}{pos:Pos}
def Hr (fa:VF D):VF (List D):=λvs β=>(fa vs β).bnd λx β1=>match x with
 | .list ds=>.ok (cX ds) β1
 |_=>.bad
def zy {K:Frag}{B:Option Addr}{G H1:Hp}{p:Addr}{xs:List V}{ds:List D}(hp:∀Gc H,ak G Gc->ak Gc H->gx B H1 H->e8 K H p xs)(r:b6 K G xs ds):Walk K B G H1 (cX ds) (Gn K p):=λGc H i s1 s2 m=>by
 have hp':=hp Gc H s1 s2 m
 have l1:=r.len
 have lz:(cX ds).length=ds.length:=by unfold cX;rw[List.length_mapIdx]
 refine⟨λhi=>⟨?_,λx H' y=>?_⟩,λhi=>⟨xs,hp',by omega⟩⟩
 ·have h1:i < xs.length:=by omega
  exact⟨xs,xs[i],hp',by simp[h1]⟩
 ·obtain⟨x,t,ht,hx,rfl,rfl⟩:=y
  obtain⟨d,ed,rd⟩:=r.at' (hx xs hp')
  have xn:=Ext.new s2 (o:=.tup [.int i,x]) ht
  refine⟨upd Gc t (.tup [.int i,x]),.tuple [.int i,d],xn,?_,.tup (.inl (.inl aw)) (.cons (.int i) (.cons (rd.mono (s1.trans xn.gg)) .nil))⟩
  unfold cX
  rw[MS,ed];rfl
theorem zF {p pt:Pos}{elts:List Expr}{x1}(hK:X.K=Γ.K)(hg:Gl X "enumerate")(hm:X.mg "enumerate"=none)(ha:SE X Γ E a fa La .v)(hs:starEach [a] X.env= [(false,eval a X.env)]:=by rfl)(hs':starEach [a] X.env=(false,eval a X.env) :: starEach [] X.env:=by rfl) :
  SI X Γ E (.Tuple elts x1 pt) (.Call (.Name "enumerate" p) [a] [] pos) (Hr fa) La .v:=by
 refine PI.post (Fb hg hm (aK ha bq hs') hs) ?_
 rintro σ H Q ⟨env,G,B,β,I,o⟩
 refine⟨env,G,B,β,I,o.bnd.imp λd1 β1 h x G1 H1 I1 s1 m1 vx=>?_⟩
 have vx:Rp Γ.K G1 x d1:=vx
 rw[hK]
 cases d1 with
 |list ds=>
  cases vx with
  | @lst p xs _ hq r=>exact⟨p,xs,rfl,.inl (Rd.mono (.inl hq) I1.sub),h _ G1 H1 I1 s1 m1 (zy (λGc H t1 t2 _=>.inl (Rd.mono (.inl hq) (t1.trans t2))) r)⟩
 |_=>exact h.elim
end
end L2
namespace L2
open PySem PyProof.Rows
section
variable {X:Cx}{K:Frag}{pins:List V}{σ:St}{H:Hp}{s:Shared}{E:XK}
theorem ny:∀{us:List Value} {ns:List Int},IntsAre us ns->∃xs:List (Int×Tok),us=xs.map (λp=>Value.int p.1 p.2)/\xs.map (·.1)=ns
 |_,_,.nil=>⟨[],rfl,rfl⟩
 |_,_,.cons n t hr=>by
  obtain⟨xs,e1,e2⟩:=ny hr
  exact⟨(n,t) :: xs,by rw[e1];rfl,by rw[<-e2];rfl⟩
def BE {us:List Value}{ns:List Int}(h:IntsAre us ns):∃xs:Array (Int×Tok),us.toArray=intItems xs/\(∀i,numAt xs i=ns.getD i 0)/\xs.size=ns.length:=by
 obtain⟨xs,e1,e2⟩:=ny h
 refine⟨xs.toArray,?_,λi=>?_,?_⟩
 ·rw[e1,intItems,List.map_toArray]
 ·rw[numAt_eq];show ((xs.map (·.1)).getD i 0)=_;rw[e2]
 ·rw[<-e2];simp
end
end L2
namespace RM
open PySem L2
def kM:SF:=(cj (gk (f1 (gv 0) (iz "int")) (f1 (f1 (gv 0) (iz "bool")) xU)))
def jR (aX:List D->FR):SF:=(aE (j3 ([] ++ ([] ++ [])) (oo (rV (oB (f1 (gv 0) (iz "tuple")))) (eJ (f2 (f1 (gv 0) di) (gv 1) (fm true))))
 (cj (cst (.bool false)))
 lh)
 (cj (gk (f1 (bh 1 [1] (.nm 0) (bW (gv 0)) mF (au aX (aa (gv 0) (aa (gv 1) ah)))) (dw λbs=>bs.all id)) (f2 (f1 (gv 0) mr) (gv 1) (fm false)))))
def k7:SF:=(aE (hU 1 (([] ++ []) ++ []) (f2 (bI (aa (cst (.int 0)) ah)) (f1 (gv 0) di) me))
 (aE (cP (.two 2 3) [] (AE (gv 0))
 (kN 1 [2] [] (gv 2) (gv 3)))
 (kS 1)))
def dX (fK hW:List D->FR):SF:=(aE (j3 ([0] ++ (([] ++ []) ++ [])) (rV (oB (au fK (aa (gv 0) (aa (f2 (gv 1) (cst (.int 0)) b8) ah)))))
 (cj (cst (.bool false)))
 lh)
 (aE (aY 2 ([0] ++ []) (au hW (aa (gv 0) ah)))
 (cj (f1 (bh 2 [2] (.two 0 1) (bW (f2 (gv 1) (cst (.int 1)) b8)) mF (f2 (f2 (gv 2) (gv 0) b8) (f2 (gv 2) (gv 1) b8) xG)) (dw λbs=>bs.all id)))))
def fD:SF:=(cj (f2 (gv 0) (f2 (cst (.int 1)) (gv 1) vB) J0))
def dU (ao:List D->FR):SF:=(aE (hU 1 (([] ++ []) ++ ([] ++ [])) (f2 (bI (aa (cst (.int 0)) ah)) (f2 (gv 0) (cst (.int 0)) b8) me))
 (aE (cP (.two 2 3) ([] ++ []) (bW (f2 (gv 0) (cst (.int 1)) b8))
 (kN 1 (([] ++ []) ++ ([2] ++ [])) [] (au ao (aa (f2 (gv 1) (gv 3) b8) (aa (gv 2) ah))) (gv 3)))
 (kS 1)))
def dP (ao:List D->FR):SF:=(aE (hU 2 [] (bI ah))
 (aE (cP (.two 3 4) [0] (Hr (gv 0))
 (j3 ((([1] ++ ([3] ++ [])) ++ []) ++ (([] ++ []) ++ [])) (BS (eJ (f2 (au ao (aa (gv 1) (aa (gv 3) ah))) (gv 1) (fm true))) (eJ (f2 (f2 (gv 1) (gv 4) Ah) (gv 4) (fm false))))
 (kL 2 [3] (gv 3))
 lh))
 (kS 2)))
end RM
namespace L2
open PySem PySem.Spec PyProof.Rows
section
variable {X:Cx}{tg:Expr}
def Hn (lo:Int)(n:Nat):It:=⟨λi _=>i < n,λi H x H'=>H'=H/\x=.int (lo - i),λi _=>n<=i⟩
def tL {P:Program}{w:World}{K:Frag}{tg:Expr}(it:Addr)(lo:Int)(n:Nat):Turn P w K tg (Hn lo n) [it] it (λi h=>IsRangeIter h it (lo + (i:Nat) * (-1)) ((n:Int) - (i:Nat)) (-1)) where
 mem:=by simp
 obj:=λi h st b hb=>by
  have e:b=it:=by simpa using hb
  subst e
  exact⟨_,st,λv z=>by
   have z':Data.fields _=Data.cell v:=z
   cases z'⟩
 keep:=λi h h' st k=>k it (by simp) _ st
 item:=by
  intro X hP hw hK hc i pins s σ H E I hf st hg
  subst hP hw hK
  obtain⟨f0,f1,f2,f3,f4,f5⟩:=hf it (by simp)
  have W:=Walks.range (prog:=X.prog) (w:=X.w) (I.ok.hd hc) it lo (-1) n
  refine W.item i s _ _ hg st λv h' tk hv st' kk=>?_
  obtain⟨t,rfl⟩:=hv
  have I1:Inv X pins σ H {s with heap:=h',toks:=tk}:=I.turned (λb o hb e=>kk b o (by simpa using hb) e) f0 f1 f3 f4 f5
  refine⟨_,rfl,v9 (s:={s with heap:=h',toks:=tk}) (n:="range_iterator") st' rfl rfl (by decide) ⟨.int (lo - i),H,I1,⟨t,?_⟩,⟨rfl,rfl⟩,st',λb hb=>(hf b hb).1⟩⟩
  rw[show lo + (i:Int) * (-1)=lo - i by omega]
 done:=by
  intro X hP hw hK hc i pins s σ H E I hf st hg
  subst hP hw hK
  obtain⟨f0,f1,f2,f3,f4,f5⟩:=hf it (by simp)
  exact wpAny_pyNext_range_end (I.ok.hd hc) st (by have:n<=i:=hg;omega) λh' eb=>⟨rfl,I.turned (t':=s.toks) (λb o hb e=>eb b o hb e) f0 f1 f3 f4 f5⟩
 self:=λ_ _ _ _ _ st h=>wpAny_pyIter_rangeiter st h
def xF {pins:List (Addr×Obj)}{σ:St}{H:Hp}{s:Shared}{R:It->Hp->Prop}{E:Value->Shared->Prop}{lo hi:Int}{t u v:Tok}{tk:Nat}(I:Inv X pins σ H s)(h1: -(2 ^ 62)<=lo)(h2:lo < 2 ^ 62)(h3: -(2 ^ 62)<=hi)(h4:hi < 2 ^ 62)
  (q:R (Hn lo (lo - hi).toNat) H):wpAny (model X.prog X.w) X.A (pyIter (.ref s.heap.objs.size)) (Jx X pins σ tg R) E {s with heap:=s.heap.push {cls:=.type "range",data:=.fields #[.int lo t,.int hi u,.int (-1) v]},toks:=tk}:=by
 refine wpAny_pyIter_range (IsRange.new ..) (PySem.W.small_down h1 h2 h3 h4) ?_
 have I1:Inv X pins σ H {s with heap:=s.heap.push {cls:=.type "range",data:=.fields #[.int lo t,.int hi u,.int (-1) v]},toks:=tk}:=I.kept λb o e=>Kl _ e
 refine⟨(s.heap.push {cls:=.type "range",data:=.fields #[.int lo t,.int hi u,.int (-1) v]}).objs.size,[(s.heap.push {cls:=.type "range",data:=.fields #[.int lo t,.int hi u,.int (-1) v]}).objs.size],_,_,H,rfl,
  I1.kept (t':=tk) λb o e=>Kl _ e,tL _ lo (lo - hi).toNat,?_,λb hb=>?_,q⟩
 ·have e1:lo + ((0:Nat):Int) * (-1)=lo:=by simp
  have e2:(((lo - hi).toNat:Nat):Int) - ((0:Nat):Int)=Builtin.Range.rangeSize lo hi (-1):=by rw[PySem.W.rangeSize_downNat];omega
  show IsRangeIter _ _ (lo + ((0:Nat):Int) * (-1)) ((((lo - hi).toNat:Nat):Int) - ((0:Nat):Int)) (-1)
  rw[e1,e2]
  exact Ky _ rfl
 ·have e:b=(s.heap.push {cls:=.type "range",data:=.fields #[.int lo t,.int hi u,.int (-1) v]}).objs.size:=by simpa using hb
  subst e
  exact I1.fpOk (Km _) (I1.hok.fresh (Km _))
def GL (ta:TA):TI:=λσ H R=>ta σ H λvs H1=>∃i j:Int,vs= [.int i,.int j,.int (-1)]/\(-(2 ^ 62)<=i/\i < 2 ^ 62/\ -(2 ^ 62)<=j/\j < 2 ^ 62)/\R (Hn i (i - j).toNat) H1
theorem y7 {a b c:Expr}{ta:TA}{p pos:Pos}(hg:Gl X "range")(hm:X.mg "range"=none)(ha:PA X [a,b,c] ta)(hs:starEach [a,b,c] X.env= [(false,eval a X.env),(false,eval b X.env),(false,eval c X.env)]:=by rfl)(hs2:starEach [b,c] X.env= [(false,eval b X.env),(false,eval c X.env)]:=by rfl) :
  PI X tg (.Call (.Name "range" p) [a,b,c] [] pos) (GL ta):=by
 intro pins s σ H R I h
 refine Call_ (jm I hg hm boot_range (LG (cn (ha pos pins s σ H _ I h) λus s1 ⟨vs,H1,I1,r1,q1⟩=>?_) (by rw[hs,hs2]) (by rw[hs2];rfl)))
 obtain⟨i,j,e,⟨q1,q2,q3,q4⟩,q⟩:=q1
 subst e
 cases r1 with
 |cons r rr=>
  cases rr with
  |cons r' rr=>
   cases rr with
   |cons r'' rr=>
    cases rr
    obtain⟨t,rfl⟩:=r
    obtain⟨t',rfl⟩:=r'
    obtain⟨t'',rfl⟩:=r''
    exact call_range_3 (by decide) (xF I1 q1 q2 q3 q4 q) (.inl (PyProof.noPylong_small (by omega)))
end
def kH (lo:Int)(n:Nat):List D:=(List.range n).map λ(k:Nat)=>int (lo - k)
def lj (lo:Int)(n:Nat):(kH lo n).length=n:=by unfold kH;simp
def xR {K:Frag}{B:Option Addr}{G H1:Hp}(lo:Int)(n:Nat):Walk K B G H1 (kH lo n) (Hn lo n):=λGc H i s1 s2 m=>by
 rw[lj]
 refine⟨λhi=>⟨hi,λx H' y=>?_⟩,λhi=>hi⟩
 obtain⟨rfl,rfl⟩:=y
 refine⟨Gc,.int (lo - i),Ext.refl s2,?_,.int _⟩
 unfold kH
 rw[Kv,LO hi];rfl
def DW (fa fb fc:VF D):VF (List D):=λvs β=>(fa vs β).bnd λx β1=>(fb vs β1).bnd λy β2=>(fc vs β2).bnd λz β3=>match x,y,z with
 | .int i,.int j,.int k=>if (rX i && rX j && k == -1)=true then .ok (kH i (i - j).toNat) β3 else .bad
 |_,_,_=>.bad
section
variable {X:Cx}{Γ:Fx}{tg:Expr}{a b c:Expr}{fa fb fc:VF D}{La Lb Lc:List Nat}{md ma mb mc:Md}{pos:Pos}{E:XK}
def GJ {p:Pos}(hg:Gl X "range")(hm:X.mg "range"=none)(ha:SE X Γ E a fa La ma)(hb:SE X Γ E b fb Lb mb)(hc:SE X Γ E c fc Lc mc)(hs:starEach [a,b,c] X.env= [(false,eval a X.env),(false,eval b X.env),(false,eval c X.env)]:=by rfl)(hs2:starEach [b,c] X.env= [(false,eval b X.env),(false,eval c X.env)]:=by rfl)(hs':starEach [a,b,c] X.env=(false,eval a X.env) :: starEach [b,c] X.env:=by rfl)(hs3:starEach [b,c] X.env=(false,eval b X.env) :: starEach [c] X.env:=by rfl)(hs4:starEach [c] X.env=(false,eval c X.env) :: starEach [] X.env:=by rfl):SI X Γ E tg (.Call (.Name "range" p) [a,b,c] [] pos) (DW fa fb fc) (La ++ Lb ++ Lc) md:=by
 refine PI.post (y7 hg hm (aK ha (aK hb (aK hc bq hs4) hs3) hs') hs hs2) λσ H Q ⟨env,G,B,β,I,o⟩=>?_
 refine two (W:=λx y H2=>pT Γ E fc Lc mc σ H2 λz H3=>∃i j:Int,[x,y,z]= [.int i,.int j,.int (-1)]/\(-(2 ^ 62)<=i/\i < 2 ^ 62/\ -(2 ^ 62)<=j/\j < 2 ^ 62)/\Q (Hn i (i - j).toNat) H3) I (o.bnd.imp λd1 β1 h=>h.bnd.imp λd2 β2 h x y G2 H2 I2 s2 m2 bx by'=>?_)
 refine⟨_,G2,B,β2,I2,?_⟩
 rw[iJ]
 refine h.bnd.imp λd3 β3 h z G3 H3 I3 s3 m3 bz=>?_
 have bz:=bz.brw I2.boxThere
 obtain⟨i,j,k,rfl,rfl,rfl⟩:∃i j k,d1=.int i/\d2=.int j/\d3=.int k:=by
  cases d1 <;> cases d2 <;> cases d3 <;> first |exact h.elim |exact⟨_,_,_,rfl,rfl,rfl⟩
 obtain rfl:=bx.int
 obtain rfl:=by'.int
 obtain rfl:=bz.int
 dsimp only at h
 by_cases hj:(rX i && rX j && k == -1)=true
 ·rw[Kn hj] at h
  rw[KP,KP,beq_iff_eq] at hj
  obtain⟨⟨hi,hj⟩,rfl⟩:=hj
  exact⟨i,j,rfl,⟨(gN hi).1,(gN hi).2,(gN hj).1,(gN hj).2⟩,h _ G3 H3 (by rw[cI];exact I3) (s2.trans s3) (m2.trans m3) (xR i _)⟩
 ·rw[Ku hj] at h;exact h.elim
end
end L2
namespace L2
open PySem PyProof.Rows
section
variable {X:Cx}{K:Frag}{pins:List V}{σ:St}{H:Hp}{s:Shared}{E:XK}
def GZ (K:Frag):List V->Hp->VK->Prop:=λxs H Q=>∃(a:Addr) (ns:List Int),xs= [.ref a]/\e8 K H a (ns.map V.int)/\Q (.int ns.sum) H
def tq (hc:X.calm=true):cp X (.builtin "sum") (GZ X.K):=by
 intro pins s σ H xs us Q I r h
 obtain⟨a,ns,rfl,hq,q⟩:=h
 obtain⟨u,rfl,rx⟩:=vals1 r
 cases rx
 have hh:=I.ok.hd hc
 obtain⟨its,rv,pl,_⟩:=I.list hq
 obtain⟨xs,e,hx,hs⟩:=BE (intsAre_of rv)
 refine sum_intListG (xs:=xs) hh (e▸pl.isList) λh' tk t' k=>⟨.int ns.sum,H,I.kept k,⟨t',?_⟩,q⟩
 have:preSum (numAt xs) xs.size=ns.sum:=by
  rw[show numAt xs=λi=>ns.getD i 0 from funext hx,preSum_getD,hs,Mh (Km _)]
 rw[this]
def oM (d:D):Option D:=match d with
 | .list ds=>(fq ds).map λns=>.int ns.sum
 |_=>none
def DN:xZ K (λx=>GZ K [x]) oM .v:=by
 intro B G H x dx d Q s hB bx e k
 unfold oM at e
 split at e
 ·rename_i ds
  cases q2:fq ds with
  |none=>rw[q2] at e;cases e
  |some ns=>
   rw[q2] at e
   cases e
   obtain⟨p,xs,rfl,hq,r⟩:=bx.list s
   rw[kU q2] at r
   have r:=r.intsB
   subst r
   exact⟨p,ns,rfl,.inl hq,k _ G H (Ext.refl s) (.int _)⟩
 ·cases e
end
end L2
namespace RM
open PySem L2
def jD (aN ao:List D->FR):SF:=(aE (aY 1 (([] ++ []) ++ []) (f2 (f2 (cst (.int 1)) (f1 (gv 0) di) vB) (cst (.int 1)) lg))
 (aE (hU 2 ((([] ++ []) ++ []) ++ ([] ++ [])) (f2 (f2 (bI (aa (cst (.int 0)) ah)) (gv 1) me) (bI (aa (cst (.int 1)) ah)) iQ))
 (aE (cP (.nm 3) ((([] ++ []) ++ []) ++ []) (DW (f2 (gv 1) (cst (.int 1)) lg) (f1 (cst (.int 1)) B6) (f1 (cst (.int 1)) B6))
 (kN 2 (([0] ++ ([3] ++ [])) ++ [3]) [] (f1 (bh 1 [2,3] (.nm 0) (bW (au aN (aa (gv 0) (aa (gv 3) ah)))) mF (f2 (gv 1) (au ao (aa (gv 2) (aa (gv 0) ah))) b8)) oM) (gv 3)))
 (kS 2))))
def gp (aQ bp aM:List D->FR):SF:=(aE (tu ([0] ++ []) (au aQ (aa (gv 0) ah)))
 (cj (f2 (au bp (aa (au aM (aa (gv 0) ah)) ah)) (cst (.int 0)) b8)))
def kz (aN ao:List D->FR):SF:=(aE (aY 4 ([0] ++ ([2] ++ [])) (au aN (aa (gv 0) (aa (gv 2) ah))))
 (aE (aY 5 [] (cst (.int 0)))
 (aE (gM ([] ++ ([] ++ ([2] ++ (([] ++ []) ++ [])))) (eJ (f2 (gv 3) (f2 (gv 1) (au ao (aa (gv 2) (aa (f2 (gv 4) (gv 5) b8) ah))) b8) Jn))
 (aE (aY 3 ([] ++ ([] ++ ([2] ++ (([] ++ []) ++ [])))) (f2 (gv 3) (f2 (gv 1) (au ao (aa (gv 2) (aa (f2 (gv 4) (gv 5) b8) ah))) b8) lg))
 (aY 5 ([] ++ []) (f2 (gv 5) (cst (.int 1)) cy))) 1000)
 (cj (cB (aa (f2 (gv 4) (gv 5) b8) (aa (gv 3) ah)))))))
def jF (aQ aM bp aX g9 ao:List D->FR):SF:=(aE (tu ([0] ++ []) (au aQ (aa (gv 0) ah)))
 (aE (aY 2 ([0] ++ []) (au aM (aa (gv 0) ah)))
 (aE (aY 3 ([2] ++ []) (au bp (aa (gv 2) ah)))
 (aE (j3 ([1] ++ (([] ++ []) ++ [])) (rV (oB (au aX (aa (gv 1) (aa (f2 (gv 3) (cst (.int 0)) b8) ah)))))
 (λenv β=>toS ((aa (cst (.str "this is no number of a row of the order")) ah) (vl env) β) λds _=>if ds.length<=sizeLine then .exc "NoNumber" else .bad)
 lh)
 (aE (hU 4 [] (bI ah))
 (aE (aY 5 [] (cst (.int 0)))
 (aE (aY 6 [1] (gv 1))
 (aE (cP (.nm 7) ([] ++ []) (i6 (f2 (gv 0) (cst (.int 0)) b8))
 (aE (aY 8 ([2] ++ ([3] ++ ([5] ++ ([6] ++ [])))) (au g9 (aa (gv 2) (aa (gv 3) (aa (gv 5) (aa (gv 6) ah))))))
 (aE (kL 4 ([] ++ []) (f2 (gv 8) (cst (.int 0)) b8))
 (aE (aY 5 ([5] ++ (([] ++ []) ++ [])) (au ao (aa (gv 5) (aa (f2 (gv 8) (cst (.int 0)) b8) ah))))
 (aY 6 ([] ++ []) (f2 (gv 8) (cst (.int 1)) b8))))))
 (cj (f1 (gv 4) uJ))))))))))
def jB (aQ cu aM bp aN ao:List D->FR):SF:=(aE (tu ([0] ++ []) (au aQ (aa (gv 0) ah)))
 (aE (j3 ([1] ++ ([0] ++ [])) (rV (oB (au cu (aa (gv 1) (aa (gv 0) ah)))))
 (λenv β=>toS ((aa (cst (.str "this is no row of the order")) ah) (vl env) β) λds _=>if ds.length<=sizeLine then .exc "NoRow" else .bad)
 lh)
 (aE (aY 2 ([0] ++ []) (au aM (aa (gv 0) ah)))
 (aE (aY 3 ([2] ++ []) (au bp (aa (gv 2) ah)))
 (aE (aY 4 [] (cst (.int 0)))
 (aE (aY 5 [] (cst (.int 0)))
 (aE (cP (.nm 6) [1] (bW (gv 1))
 (aE (aY 7 (([2] ++ ([5] ++ [])) ++ []) (bh 1 [6] (.nm 0) (bW (au aN (aa (gv 2) (aa (gv 5) ah)))) (eJ (f2 (gv 0) (gv 1) xG)) (gv 0)))
 (aE (aY 4 ([] ++ ([] ++ [5])) (f2 (gv 4) (f1 (bh 1 [3,5] (.nm 0) (bW (gv 7)) mF (f2 (gv 1) (au ao (aa (gv 2) (aa (gv 0) ah))) b8)) oM) cy))
 (aY 5 ([5] ++ ([6] ++ [])) (au ao (aa (gv 5) (aa (gv 6) ah)))))))
 (kS 4))))))))
def eH:SF:=(aE (aY 1 ([] ++ []) (bI (aa (cB ah) ah)))
 (aE (cP (.nm 2) ([] ++ []) (i6 (f2 (gv 0) (cst (.int 0)) b8))
 (aE (hU 3 [] (bI ah))
 (aE (cP (.nm 4) [1] (bW (gv 1))
 (cP (.nm 5) ([] ++ []) (i6 (f2 (gv 0) (cst (.int 0)) b8))
 (aE (aY 6 (([] ++ []) ++ []) (bh 2 [5,4] (.two 0 1) (bW (f2 (gv 0) (cst (.int 1)) b8)) (BS (eJ (f2 (gv 1) (gv 2) (fm false))) (eJ (f2 (gv 0) (gv 3) (Fv true)))) (gv 0)))
 (j3 (([] ++ []) ++ ([] ++ [])) (BS (eJ (f2 (gv 5) (gv 4) (Fv true))) (eJ (f2 (gv 6) (bI ah) (fm false))))
 (kL 3 ([] ++ ([5] ++ [])) (f2 (gv 4) (cB (aa (gv 5) ah)) tV))
 lh))))
 (aY 1 [3] (gv 3)))))
 (kS 1)))
end RM
namespace L2.SO
open PySem PySem.W PyProof.Rows
theorem pk:∀(f n r:Nat),r<=1->minRun' f n r<=n + r
 | 0,n,r,_=>Km (n + r)
 |f + 1,n,r,h=>by
  rw[minRun'_succ]
  split
  ·exact Km _
  ·have:=pk f (n / 2) (max r (n % 2)) (by have:=MP n (show 0 < 2 by omega);omega)
   have:=MP n (show 0 < 2 by omega)
   omega
section
variable {prog:Program}{w:World}{A:Around}{E:Value->Shared->Prop}{κ:SortKind}{it:Array Keyed}{s:Shared}
def ym {n:Nat}{Q:Unit->SortSt->Shared->Prop}{G:Array Nat->Shared->Prop}(h2:2<=n)
  (hG:∀p' st' s',p'.size=n->arrOf st'=p'.map (kas_item it)->failedOf st'=none->G p' s'->Q () st' s') (h:(kas_count n (List.toArray (List.range n))).kasWp (kas_cmp prog w A κ it) (λr s'=>r.1=n/\G r.2 s') s) :
  kasC (model prog w) A E sortRuns' Q (kas_st κ it (List.toArray (List.range n))) s:=by
 obtain⟨r,rfl⟩:∃r,n=r + 2:=⟨n - 2,by omega⟩
 have hrs:(List.toArray (List.range (r + 2))).size=r + 2:=by simp
 rw[sortRuns'_eq]
 refine kasC_bind (kasC_get ?_)
 dsimp only
 have hsz:(arrOf (kas_st κ it (List.toArray (List.range (r + 2))))).size=r + 2:=by
  show ((List.toArray (List.range (r + 2))).map (kas_item it)).size=_
  rw[Array.size_map,hrs]
 have hmr:minRun' (r + 2) (r + 2) 0<=r + 2:=pk _ _ 0 (by omega)
 simp only[hsz]
 refine kasC_bind (kasC_range ?_)
 show kasC _ _ _ (forIn (0 :: 1 :: List.range' 2 r) _ _) _ _ _
 refine kasC_cons ?_
 dsimp only
 rw[Ku (by omega)]
 simp only[Nat.sub_zero,Lm]
 refine kasC_bind (kas_count_ (by omega) (by rw[hrs];exact Km _) (λm p' s' hm1 hm2 hp hg=>?_) h)
 have hps:p'.size=r + 2:=hp.trans hrs
 dsimp only
 obtain⟨hm,hg'⟩:=hg
 dsimp only at hm hg'
 subst hm
 rw[Ku (by omega)]
 refine kasC_bind (kasC_get ?_)
 rw[show (pendingOf (kas_st κ it p')).back? =none from rfl]
 dsimp only
 refine kasC_bind (kasC_modify (kasC_pure ?_))
 show kasC _ _ _ (forIn (1 :: List.range' 2 r) _ _) _ _ _
 refine kasC_cons ?_
 dsimp only
 rw[Kn (Km _)]
 refine kasC_pure ?_
 dsimp only
 refine kasC_bind (kasC_range ?_)
 show kasC _ _ _ (forIn (0 :: 1 :: List.range' 2 r) _ _) _ _ _
 refine kasC_cons ?_
 refine kasC_bind (kasC_get ?_)
 rw[Kn (show (pendingOf (setPending (kas_st κ it p') ((pendingOf (kas_st κ it p')).push (0,r + 2,0)))).size<=1 from Km 1)]
 refine kasC_pure ?_
 dsimp only
 exact kasC_pure (hG p' _ _ hps rfl rfl hg')
theorem BH {cmp:Nat->Nat->(Bool->Shared->Prop)->Shared->Prop}{n:Nat}{Q:Nat->Shared->Prop}(hc:∀k C,1<=k->k < n->C false s->cmp k (k - 1) C s):∀(f k:Nat),1<=k->k + f=n->Q n s->(kas_asc (List.toArray (List.range n)) f k).kasWp cmp Q s
 | 0,k,_,e,h=>by rw[Nat.add_zero] at e;subst e;exact h
 |f + 1,k,h1,e,h=>by
  show cmp ((List.toArray (List.range n)).getD k 0) ((List.toArray (List.range n)).getD (k - 1) 0) (λb s'=>(if b=true then KasT.ret k else kas_asc (List.toArray (List.range n)) f (k + 1)).kasWp cmp Q s') s
  rw[show (List.toArray (List.range n)).getD k 0=k by simp[show k < n by omega],show (List.toArray (List.range n)).getD (k - 1) 0=k - 1 by simp[show k - 1 < n by omega]]
  refine hc k _ h1 (by omega) ?_
  rw[Ku KN]
  exact BH hc f (k + 1) (by omega) (by omega) h
def xP {cmp:Nat->Nat->(Bool->Shared->Prop)->Shared->Prop}{n:Nat}{Q:Nat×Array Nat->Shared->Prop}(h1:1<=n)(hc:∀k C,1<=k->k < n->C false s->cmp k (k - 1) C s)(h:Q (n,List.toArray (List.range n)) s):(kas_count n (List.toArray (List.range n))).kasWp cmp Q s:=by
 unfold kas_count
 rw[KasT.kasWp_bind]
 refine BH hc (n - 1) 1 (Km _) (by omega) ?_
 rw[Kn (by simp)]
 exact h
def Bl {vs:List Value}{Q:SortSt->Shared->Prop}(h2:2<=vs.length)(hc:∀k C,1<=k->k < vs.length->C false s->kas_ask prog w A κ vs k (k - 1) C s)
  (hQ:∀st',arrOf st'=(List.toArray (List.range vs.length)).map (kas_item (vs.toArray.zip vs.toArray))->failedOf st'=none->Q st' s) :
  wpAny (model prog w) A ((sortRuns').run (SortSt.mk' κ (vs.toArray.zip vs.toArray) #[] 7 none)) (λr s'=>Q r.2 s') E s:=by
 have e:=kat_ask_eq (prog:=prog) (w:=w) (A:=A) (κ:=κ) (ks:=vs) (vs:=vs) rfl
 rw[e] at hc
 have run:=ym (E:=E) (Q:=λ_ st' s'=>Q st' s') (G:=λp s'=>p=List.toArray (List.range vs.length)/\s'=s) h2 (λp' st' s' _ a2 a3 a4=>by obtain⟨rfl,rfl⟩:=a4;exact hQ st' a2 a3) (xP (by omega) hc ⟨rfl,rfl,rfl⟩)
 have est:SortSt.mk' κ (vs.toArray.zip vs.toArray) #[] 7 none=kas_st κ (vs.toArray.zip vs.toArray) (List.toArray (List.range vs.length)):=by
  have e:=kas_range (vs.toArray.zip vs.toArray)
  rw[show (vs.toArray.zip vs.toArray).size=vs.length by simp] at e
  show SortSt.mk' κ (vs.toArray.zip vs.toArray) #[] 7 none=SortSt.mk' κ ((List.toArray (List.range vs.length)).map (kas_item (vs.toArray.zip vs.toArray))) #[] 7 none
  rw[e]
 rw[est]
 exact run
end
end L2.SO
namespace L2.ST
open PySem PySem.W PyProof.Rows
def ko:List Int->List Int->Bool
 |x :: xs,y :: ys=>if x=y then ko xs ys else decide (x < y)
 |_,_=>false
def zV (h:Heap)(r:List Int)(a:Addr):Prop:=∃o items n,h.get? a=some o/\o.cls=.type "tuple"/\o.data=.seq items n/\IntsAre items.toList r
def lF (h:Heap)(vs:List Value)(rs:List (List Int)):Prop:=vs.length=rs.length/\∀(i:Nat) (v:Value) (r:List Int),vs[i]? =some v->rs[i]? =some r->∃a,v=.ref a/\zV h r a
section
variable {prog:Program}{w:World}{A:Around}{E:Value->Shared->Prop}{s:Shared}
theorem zC {Q:Bool->Shared->Prop}:∀{r q:List Int} {vs us:List Value} (i:Nat),IntsAre vs r->IntsAre us q->r.length=q.length->Q (ko r q) s->KatLex prog w A true false Q (vs.zip us) i s
 |_,_,_,_,i,.nil,.nil,_,h=>h
 |_,_,_,_,i,.cons x t hv,.cons y u hu,e,h=>by
  rw[List.zip_cons_cons]
  refine kat_cons (wpAny_eqBool_int ?_)
  unfold ko at h
  by_cases c:x=y
  ·rw[Kn c] at h
   rw[show (x == y)=true by simpa using c]
   exact kat_yes (zC (i + 1) hv hu (by simpa using e) h)
  ·rw[Ku c] at h
   rw[show (x == y)=false by simpa using c]
   refine kat_no ?_
   cases i with
   |zero=>exact oneLt_int h
   |succ i=>exact kat_one _ _ (lt_int h)
def Gb {a b:Addr}{r q:List Int}{Q:Bool->Shared->Prop}(ha:zV s.heap r a)(hb:zV s.heap q b)(hl:r.length=q.length)(h:Q (ko r q) s):wpAny (model prog w) A (keyLt' (tuples' true) (.ref a) (.ref b)) Q E s:=by
 obtain⟨oa,ia,na,hoa,hca,hda,hia⟩:=ha
 obtain⟨ob,ib,nb,hob,hcb,hdb,hib⟩:=hb
 refine kat_lt hoa hda hob hdb ?_
 have z1:ia.size=r.length:=by rw[<-hia.length];simp
 have z2:ib.size=q.length:=by rw[<-hib.length];simp
 rw[show decide (ia.size < ib.size)=false from KA (by omega)]
 exact zC 0 hia hib hl h
theorem sD:∀{vs:List Value} {rs:List (List Int)},lF s.heap vs rs->(∀r,r∈rs->r≠ [])->∃fs,KatTups s.heap vs fs/\fs.length=vs.length/\∀v∈fs,∃(i:Int) (t:Tok),v=.int i t
 | [],ps,_,_=>⟨[],KatTups.nil,rfl,λv hv=>by cases hv⟩
 |v :: vs,[],h,_=>by have:=h.1;simp at this
 |v :: vs,p :: ps,h,hne=>by
  obtain⟨a,rfl,o,items,n,ho,hc,hd,hi⟩:=h.2 0 v p rfl rfl
  obtain⟨fs,k,e,f⟩:=sD (vs:=vs) (rs:=ps) ⟨by simpa using h.1,λi v p h1 h2=>h.2 (i + 1) v p (by simpa using h1) (by simpa using h2)⟩ λr hr=>hne r (Ko _ hr)
  obtain⟨l1,rfl⟩:∃l,items=List.toArray l:=⟨items.toList,by simp⟩
  simp only[LN] at hi
  cases hi with
  |nil=>exact absurd rfl (hne [] (Kr ..))
  |cons x t hi=>
   exact⟨_ :: fs,KatTups.cons ho hc hd rfl k,by simp[e],λv hv=>by
    rcases Kq.mp hv with z |z
    ·exact⟨_,_,z⟩
    ·exact f v z⟩
def vE {a:Addr}{vs:List Value}{rs:List (List Int)}{n m:Nat}{P:PySem.Fin->Shared->Prop}(ho:s.heap.get? a=some (seqObj "list" vs.toArray n))(hps:lF s.heap vs rs)(hm:∀r,r∈rs->r.length=m/\r≠ [])(hasc:∀k r q,rs[k]? =some q->rs[k + 1]? =some r->ko r q=false)(hz:vs.length<=sizeLine)
  (h:∀(h':Heap) (c:Nat),(∀b o,b≠a->s.heap.get? b=some o->h'.get? b=some o)->h'.get? a=some (seqObj "list" vs.toArray c)->P (.done (.ret .none)) {s with heap:=h'}) :
  wpAny (model prog w) A (Builtin.«list.sort» ⟨[.ref a],[]⟩) P E s:=by
 have ha:a < s.heap.objs.size:=Kw ho
 obtain⟨e1,ho1⟩:∃e1,(s.heap.update a (Obj.mapSeq λ_=>(#[]:Array Value))).get? a=some (seqObj "list" #[] e1):=⟨_,get?_update_seq ho λ_=>#[]⟩
 generalize hH1:(s.heap.update a (Obj.mapSeq λ_=>(#[]:Array Value)))=H1 at ho1
 have sb1:Heap.SameBut a s.heap H1:=by rw[<-hH1];exact Heap.SameBut.update ..
 have kp2:∀b o,H1.get? b=some o->((H1.push (seqObj "tuple" vs.toArray 0)).push (seqObj "list" #[] 0)).get? b=some o:=λb o e=>Kl _ (Kl _ e)
 generalize hH2:((H1.push (seqObj "tuple" vs.toArray 0)).push (seqObj "list" #[] 0))=H2 at kp2
 have kp:∀b o,b≠a->s.heap.get? b=some o->H2.get? b=some o:=λb o hb e=>kp2 b o ((sb1.2 b hb).trans e)
 have ho2:=kp2 _ _ ho1
 have hps2:lF H2 vs rs:=⟨hps.1,λi v p h1 h2=>by
  obtain⟨b,e,o,it,k,hb,hc,hd,r⟩:=hps.2 i v p h1 h2
  refine⟨b,e,o,it,k,kp b o (λz=>?_) hb,hc,hd,r⟩
  subst z
  rw[ho] at hb;cases hb
  exact absurd hc (by simp[seqObj])⟩
 rw[list_sort_plain]
 refine Kk (listItems_at ho rfl (Kk (listUpdate_at ho rfl ?_ (by simpa using hz) (K5 _))))
 rw[hH1]
 refine Kk (seqEpoch_at (s:={s with heap:=H1}) ho1 rfl (Kk (wpAny_newTuple ?_ (by simpa using hz))))
 refine Kk (wpAny_newList ?_ (K5 _))
 refine LK ?_
 show wpAny (model prog w) A _ P E {s with heap:=(H1.push (seqObj "tuple" vs.toArray 0)).push (seqObj "list" #[] 0)}
 rw[hH2]
 have fin:∀(st:SortSt),(arrOf st).map (·.2)=List.toArray vs->failedOf st=none->
   wpAny (model prog w) A (do
    let sorted:=(arrOf st).map (·.2)
    let touched:=(<-seqEpoch a) != e1
    Builtin.List.listUpdate (.ref a) λ_=>sorted
    if let some e:=failedOf st then rule "list.sort.comparison-raised";throw e
    if touched then rule "list.sort.modified";raiseError "ValueError" "list modified during sort"
    ret .none) P E {s with heap:=H2}:=λst hout hf=>by
  dsimp only
  rw[hout]
  refine Kk (seqEpoch_at (s:={s with heap:=H2}) ho2 rfl ?_)
  refine Kk (listUpdate_at (s:={s with heap:=H2}) ho2 rfl ?_ (K5 _) (Nat.le_succ_of_le (by simpa using hz)))
  rw[hf]
  simp only[bne_self_eq_false,KG,Lh]
  obtain⟨c2,hc2⟩:∃c2,(H2.update a (Obj.mapSeq λ_=>List.toArray vs)).get? a=some (seqObj "list" (List.toArray vs) c2):=⟨_,get?_update_seq ho2 λ_=>List.toArray vs⟩
  exact Ks (h _ c2 (λb o hb e=>((Heap.SameBut.update H2 a _).2 b hb).trans (kp b o hb e)) hc2)
 have hout:∀l:List Value,(List.range l.length).map (λi=>l.getD i Value.none)=l:=λl=>by
  refine MA (by simp) λi h1 h2=>by simp[h2]
 by_cases h2:vs.length < 2
 ·have h2':vs.toArray.size < 2:=by simpa using h2
  dsimp only
  rw[Kn h2',Kn h2']
  refine Kk (Ks ?_)
  rw[StateT.run_pure]
  refine Kk (Ks ?_)
  refine fin (SortSt.mk' general' (vs.toArray.zip vs.toArray) #[] 7 none) ?_ rfl
  have:∀{l:List Value},l.length < 2->((l.toArray.zip l.toArray).map (·.2))=List.toArray l:=λ{l} hl=>by
   match l,hl with
   | [],_=>simp
   | [x],_=>simp
  exact this h2
 ·have h2':¬vs.toArray.size < 2:=by simpa using h2
  dsimp only
  rw[Ku h2',Ku h2']
  obtain⟨fs,kt,fl,ff⟩:=sD (s:={s with heap:=H2}) hps2 λr hr=>(hm r hr).2
  refine Kk (kat_kind (s:={s with heap:=H2}) (T:=.type "int") kt (by omega) (λv hv=>?_) (by decide) ?_)
  ·obtain⟨i,t,rfl⟩:=ff v hv
   exact .now
  ·rw[show ((Value.type "int" != Value.type "tuple"):Bool)=true by decide]
   refine Kk (LQ (L2.SO.Bl (s:={s with heap:=H2}) (κ:=tuples' true) (vs:=vs) (Q:=λst s'=>s'={s with heap:=H2}/\arrOf st=(List.toArray (List.range vs.length)).map (kas_item (vs.toArray.zip vs.toArray))/\failedOf st=none) (by omega) (λk C hk1 hk hC=>?_) λst a2 a3=>⟨rfl,a2,a3⟩) ?_ λ_ _ x=>x)
   ·unfold kas_ask
    have hj:k - 1 < vs.length:=by omega
    have hi':k < rs.length:=by rw[<-hps.1];exact hk
    have hj':k - 1 < rs.length:=by omega
    obtain⟨b1,eb1,hb1⟩:=hps2.2 k vs[k] rs[k] (Kj hk) (Kj hi')
    obtain⟨b2,eb2,hb2⟩:=hps2.2 (k - 1) vs[k - 1] rs[k - 1] (Kj hj) (Kj hj')
    have e1:vs.getD k Value.none=.ref b1:=by rw[<-eb1];simp[hk]
    have e2:vs.getD (k - 1) Value.none=.ref b2:=by rw[<-eb2];simp[hj]
    rw[e1,e2]
    refine Gb (s:={s with heap:=H2}) hb1 hb2 (by rw[(hm _ (LB hi')).1,(hm _ (LB hj')).1]) ?_
    have:ko rs[k] rs[k - 1]=false:=hasc (k - 1) _ _ (Kj hj') (by rw[show k - 1 + 1=k by omega];exact Kj hi')
    rw[this];exact hC
   ·rintro⟨⟨⟩,st⟩ s' ⟨rfl,har,hf⟩
    exact fin st ((kat_snds rfl har).trans (by rw[show (List.toArray (List.range vs.length)).toList=List.range vs.length by simp,hout])) hf
end
end L2.ST
section
namespace L2.ST
open PySem PySem.W PyProof.Rows
section
variable {prog:Program}{w:World}{A:Around}{E:Value->Shared->Prop}{s:Shared}
def um {v:Value}{vs:List Value}{rs:List (List Int)}{m:Nat}{Q:Value->Shared->Prop}(hps:lF s.heap vs rs)(hm:∀r,r∈rs->r.length=m/\r≠ [])(hasc:∀k r q,rs[k]? =some q->rs[k + 1]? =some r->ko r q=false)(hz:vs.length<=sizeLine)
  (hcol:∀(Q':List Value->Shared->Prop),(∀h' tk,(∀b o,s.heap.get? b=some o->h'.get? b=some o)->Q' vs {s with heap:=h',toks:=tk})->wpAny (model prog w) A.in1 (collect v) Q' (λe s'=>E e s') s)
  (h:∀(h1 h':Heap) (tk:Nat) (D:Addr) (c:Nat),(∀b o,s.heap.get? b=some o->h1.get? b=some o)->D=h1.objs.size->(∀b o,h1.get? b=some o->h'.get? b=some o)->h'.get? D=some (seqObj "list" vs.toArray c)->Q (.ref D) {s with heap:=h',toks:=tk}):wpAny (model prog w) A (call (.builtin "sorted") [v]) Q E s:=by
 refine Calls.call_function_entry kind_sorted plain_sorted entry_sorted (args_sorted1 _) ?_
 unfold Builtin.«sorted»
 refine Kk (m:=checkCount "sorted" 1 1 ([v]:List Value).length) (Ks ?_)
 refine Kk (hcol _ λh1 tk1 k1=>?_)
 refine Kk (wpAny_newList ?_ hz)
 show wpAny _ _ _ _ _ {s with heap:=h1.push (seqObj "list" vs.toArray 0),toks:=tk1}
 have hoL:(h1.push (seqObj "list" vs.toArray 0)).get? h1.objs.size=some (seqObj "list" vs.toArray 0):=Ky _ rfl
 have kp:∀b o,s.heap.get? b=some o->(h1.push (seqObj "list" vs.toArray 0)).get? b=some o:=λb o e=>Kl _ (k1 b o e)
 have hp1:lF (h1.push (seqObj "list" vs.toArray 0)) vs rs:=⟨hps.1,λi v p a b=>by
  obtain⟨c,e,o,it,n,ho,r⟩:=hps.2 i v p a b
  exact⟨c,e,o,it,n,kp _ _ ho,r⟩⟩
 refine Kk (LK (Mf slot_list_sort ⟨_,hoL,rfl⟩ entry_list_sort ?_ (args_list_sort _)))
 refine vE (s:={s with heap:=h1.push (seqObj "list" vs.toArray 0),toks:=tk1}) hoL hp1 hm hasc hz λh' c hk ho=>?_
 refine⟨_,rfl,Ks ⟨_,rfl,?_⟩⟩
 exact h h1 h' tk1 h1.objs.size c k1 rfl (λb o e=>hk b o (K1 (Kw e)) (Kl _ e)) ho
end
end L2.ST
namespace L2
open PySem PyProof.Rows
section
variable {X:Cx}{K:Frag}{σ:St}{G H:Hp}{s:Shared}{E:XK}
def l4 (K:Frag)(H:Hp):List V->List (List Int)->Prop:=Paired λv r=>∃b,v=.ref b/\dA K H b (r.map V.int)
def zX (K:Frag):List V->Hp->VK->Prop:=λxs H Q=>∃a vs rs m,xs= [.ref a]/\e8 K H a vs/\l4 K H vs rs/\(∀r,r∈rs->r.length=m/\r≠ [])/\(∀k r q,rs[k]? =some q->rs[k + 1]? =some r->ST.ko r q=false)/\∀l,H l=none->Q (.ref l) (upd H l (.lst vs))
theorem xq {pins:List (Addr×Obj)}(I:Inv X pins σ H s):∀{vs:List V} {us:List Value} {rs:List (List Int)},Vals vs us->l4 X.K H vs rs->ST.lF s.heap us rs
 |_,_,_,.nil,.nil=>⟨rfl,λi v r h _=>by simp at h⟩
 |_,_,_,.cons hv tv,.cons hr tr=>by
  obtain⟨e,f⟩:=xq I tv tr
  refine⟨by simp[e],λi v r h1 h2=>?_⟩
  cases i with
  |zero=>
   simp at h1 h2
   subst h1 h2
   obtain⟨b,rfl,hq⟩:=hr
   cases hv
   obtain⟨its,rv,tp,_⟩:=I.tuple hq
   obtain⟨o,ho,hc,n,hd⟩:=tp
   exact⟨b,rfl,o,its.toArray,n,ho,hc,hd,intsAre_of rv⟩
  |succ i=>exact f i v r (by simpa using h1) (by simpa using h2)
def vS:cp X (.builtin "sorted") (zX X.K):=by
 intro pins s σ H xs us Q I r h
 obtain⟨a,vs,rs,m,rfl,hq,hp,hm,hasc,q⟩:=h
 obtain⟨u,rfl,rx⟩:=vals1 r
 cases rx
 obtain⟨its,rv,pl,hz⟩:=I.list hq
 have hz':its.length<=sizeLine:=by rw[<-rv.length];exact hz
 refine ST.um (v:=.ref a) (xq I rv hp) hm hasc hz' (λQ' hQ'=>collect_list pl.isList ?_ hz') λh1 h' tk D c k1 eD k2 ho=>?_
 ·exact hQ' _ s.toks λb o e=>by
   rw[Heap.get?_update_ne _ _ _ _ (K1 (Kw e)),Heap.get?_push_ne _ _ _ (K1 (Kw e))];exact e
 ·have I1:Inv X pins σ H {s with heap:=h1,toks:=tk}:=I.kept k1
  have hf:H D=none:=by rw[eD];exact I1.hok.fresh (Km _)
  have I2:Inv X pins σ (upd H D (.lst vs)) {s with heap:=h',toks:=tk}:=I1.laid (t':=tk) k2 (by rw[eD];exact Km _) (show bK X.prog X.w _ h' _ (.lst vs) from⟨hz,its,c,rv,ho⟩)
  exact⟨.ref D,_,I2,rfl,q D hf⟩
def j4:List D->Option (List (List Int))
 | []=>some []
 | .tuple ds :: es=>match fq ds,j4 es with
  |some r,some rs=>some (r :: rs)
  |_,_=>none
 |_=>none
def o6:List (List Int)->Bool
 |r :: q :: rs=>decide (r.length=q.length) && !r.isEmpty && !ST.ko q r && o6 (q :: rs)
 | [r]=> !r.isEmpty
 | []=>true
theorem sr:∀{rs:List (List Int)},o6 rs=true->∃m,∀r,r∈rs->r.length=m/\r≠ []
 | [],_=>⟨0,λr hr=>by cases hr⟩
 | [r],h=>⟨r.length,λq hq=>by
  rw[KS] at hq
  subst hq
  refine⟨rfl,λe=>?_⟩
  rw[e] at h;cases h⟩
 |r :: q :: rs,h=>by
  unfold o6 at h
  simp only[KP,K3,LM] at h
  obtain⟨m,hm⟩:=sr h.2
  refine⟨m,λx hx=>?_⟩
  rcases Kq.mp hx with rfl |hx
  ·exact⟨h.1.1.1.trans (hm q (Kr ..)).1,λe=>by rw[e] at h;cases h.1.1.2⟩
  ·exact hm x hx
theorem wy:∀{rs:List (List Int)},o6 rs=true->∀k r q,rs[k]? =some q->rs[k + 1]? =some r->ST.ko r q=false
 | [],_,k,r,q,h1,_=>by simp at h1
 | [x],_,k,r,q,_,h2=>by simp at h2
 |x :: y :: rs,h,k,r,q,h1,h2=>by
  unfold o6 at h
  simp only[KP,K3,LM] at h
  cases k with
  |zero=>simp at h1 h2;subst h1 h2;exact h.1.2
  |succ k=>exact wy h.2 k r q (by simpa using h1) (by simpa using h2)
theorem Bj:∀{ds:List D} {xs:List V} {rs:List (List Int)},b6 K G xs ds->j4 ds=some rs->l4 K G xs rs
 | [],_,_,.nil,e=>by cases e;exact .nil
 |d :: ds,_,rs,.cons h t,e=>by
  unfold j4 at e
  split at e
  ·rename_i z;cases z
  ·rename_i ts es z
   cases z
   cases e1:fq ts with
   |none=>rw[e1] at e;cases e
   |some r=>
    cases e2:j4 ds with
    |none=>rw[e1,e2] at e;cases e
    |some qs=>
     rw[e1,e2] at e
     cases e
     cases h with
     |tup hq r'=>
      rw[kU e1] at r'
      have:=r'.intsB
      subst this
      exact .cons ⟨_,rfl,hq⟩ (Bj t e2)
  ·cases e
def qK:D->Option D
 | .list ds=>match j4 ds with
  |some rs=>if o6 rs=true then some (.list ds) else none
  |none=>none
 |_=>none
theorem l4.grow {G H:Hp}(s:ak G H):∀{vs:List V} {rs:List (List Int)},l4 K G vs rs->l4 K H vs rs
 |_,_,.nil=>.nil
 |_,_,.cons ⟨b,e,q⟩ t=>.cons ⟨b,e,q.grow s.grow⟩ (l4.grow s t)
theorem Dc:xZ K (λx=>zX K [x]) qK .w:=by
 intro B G H x dx d Q s hB bx e k
 cases dx with
 |list ds=>
  unfold qK at e
  dsimp only at e
  cases e1:j4 ds with
  |none=>rw[e1] at e;cases e
  |some rs=>
   rw[e1] at e
   dsimp only at e
   split at e
   ·rename_i hz
    cases e
    obtain⟨p,xs,rfl,hq,r⟩:=bx.list s
    obtain⟨m,hm⟩:=sr hz
    refine⟨p,xs,rs,m,rfl,.inl hq,l4.grow s (Bj r e1),hm,wy hz,λl hl=>?_⟩
    have hh:ak H (upd H l (.lst xs)):=ak.new hl
    refine k _ _ _ (Ext.tups s hh) ⟨l,rfl,hl,?_,xs,aw,r.mono (Ext.tups s hh).gg⟩
    unfold kQ
    rw[s.free hl,aw]
    exact Ku λy=>y
   ·cases e
 |_=>cases e
end
end L2
end
namespace RM
open PySem L2
noncomputable def xD (dH a9 c9 df cc fP fN:List D->FR)(cO aP:List D->Int->FB):SF:=(aE (cP (.nm 1) ([] ++ ([] ++ [])) (i6 (f2 (cst (.int 1)) (f2 (f1 (gv 0) di) (cst (.int 2)) (pK λi j=>.int (if j < i then j else i))) (pK λi j=>.int (if j > i then j else i))))
 (aE (xo 2 ([0] ++ ([1] ++ [])) (sy dH (aa (gv 0) (aa (gv 1) ah))))
 (aE (aY 3 ([] ++ []) (ml 2 cO (aa (cst (.int 5)) ah)))
 (aE (j3 (([] ++ []) ++ []) (eJ (f2 (ml 2 aP (aa (cst (.int 4)) ah)) (cst (.int 3)) (fm false)))
 (aY 3 ([] ++ (((([] ++ ([] ++ [])) ++ (([] ++ ([] ++ [])) ++ (([] ++ ([] ++ [])) ++ (([] ++ ([] ++ [])) ++ (([] ++ ([] ++ [])) ++ []))))) ++ []) ++ [])) (cB (aa (cst (.int 6)) (aa (au a9 (aa (bI (aa (cB (aa (cst (.int 0)) (aa (cst (.int 2)) ah))) (aa (cB (aa (cst (.int 1)) (aa (cst (.int 2)) ah))) (aa (cB (aa (cst (.int 2)) (aa (cst (.int 3)) ah))) (aa (cB (aa (cst (.int 3)) (aa (cst (.int 4)) ah))) (aa (cB (aa (cst (.int 2)) (aa (cst (.int 5)) ah))) ah)))))) ah)) ah))))
 lh)
 (aE (aY 4 ([3] ++ []) (f1 (au c9 (aa (gv 3) ah)) qK))
 (aE (aY 5 ([3] ++ []) (au df (aa (gv 3) ah)))
 (aE (j3 (([5] ++ []) ++ ([] ++ [])) (oo (rV (oB (au cc (aa (gv 5) ah)))) (eJ (f2 (gv 5) (f1 (gv 4) di) (fm true))))
 (cj (cst (.bool false)))
 lh)
 (cP (.nm 6) (([] ++ []) ++ (([] ++ []) ++ [])) (bW (f2 (f1 (f2 (gv 5) (cst (.int 40)) (pK λi j=>.int (if j < i then j else i))) cS) (bI (aa (f2 (gv 5) (cst (.int 1)) lg) ah)) iQ))
 (aE (aY 7 ([3] ++ ([6] ++ [])) (au fP (aa (gv 3) (aa (gv 6) ah))))
 (aE (j3 ([] ++ ([] ++ [])) (eJ (f2 (f1 (gv 7) pj) (f1 (f2 (gv 4) (gv 6) b8) pj) (EH true)))
 (cj (cst (.bool false)))
 lh)
 (aE (aY 8 ([3] ++ (([] ++ []) ++ [])) (au fN (aa (gv 3) (aa (f2 (gv 4) (gv 6) b8) ah))))
 (j3 (([8] ++ []) ++ ([] ++ [])) (oo (rV (oB (au cc (aa (gv 8) ah)))) (eJ (f2 (gv 8) (gv 6) (fm true))))
 (cj (cst (.bool false)))
 lh))))))))))))
 (cj (cst (.bool true))))
end RM
section
set_option maxHeartbeats 0
namespace RQ
open PySem L2 RM
def top (i:Nat):Stmt:=PySem.Challenge.pw_rowsorder_k09_rows_counted_and_numbered.main.body.getD i (.Pass ⟨0,0,0,0⟩)
section
variable {P:Program}{w:World}{K:Frag}{mg:Str->Option Value}{base:Heap}{ca:Str->Addr}
abbrev il:Stmt:=top 2
def sv:aL ["thing"] ["thing"] (av il):=⟨rfl,rfl,rfl,by decide +kernel,rfl,by decide +kernel,by decide +kernel⟩
def qW {f:Addr}{fd:FuncData}(F:jC K mg "is_whole" il ["thing"] f fd)(B:jV mg):cA P w K mg base ca "is_whole" ["thing"] 1 (bt 1 1 (n5)):=
 ⟨⟨f,fd,F.mg,F.F.kp,F.b,a7 (N:=["thing"]) (k:=0) F.F sv λcdv A outer s H G E hr=>
  (az (bu (kc (jo "int" (by decide) rfl rfl B.isinstance rfl B.int (by decide +kernel) (af 0)) (km (uS (jo "bool" (by decide) rfl rfl B.isinstance rfl B.bool (by decide +kernel) (af 0)))) (λ_ _=>rfl))))⟩,λds h=>aU ds h⟩
abbrev iO:Stmt:=top 3
def uk:aL ["thing","bound"] ["thing","bound"] (av iO):=⟨rfl,rfl,rfl,by decide +kernel,rfl,by decide +kernel,by decide +kernel⟩
def rM {f:Addr}{fd:FuncData}{bJ:List D->FR}(F:jC K mg "is_below" iO ["thing","bound"] f fd)(B:jV mg)(dF:cA P w K mg base ca "is_whole" ["thing"] 1 bJ):cA P w K mg base ca "is_below" ["thing","bound"] 2 (bt 2 2 (nG bJ)):=
 ⟨⟨f,fd,F.mg,F.F.kp,F.b,a7 (N:=["thing","bound"]) (k:=1) F.F uk λcdv A outer s H G E hr=>
  (az (bu (kc (aC dF (hr.mono (by decide)) aW rfl rfl (ae (aA 0 rfl) aq)) (km (tW Bi wm Fe DB ax (af 0) (af 1))) (λ_ _=>rfl))))⟩,λds h=>aU ds h⟩
abbrev jP:Stmt:=top 4
def vI:aL ["thing"] ["thing"] (av jP):=⟨rfl,rfl,rfl,by decide +kernel,rfl,by decide +kernel,by decide +kernel⟩
def ug {f:Addr}{fd:FuncData}{bJ:List D->FR}(F:jC K mg "is_many" jP ["thing"] f fd)(B:jV mg)(dF:cA P w K mg base ca "is_whole" ["thing"] 1 bJ){oQ:Tok}(gK:mg "MOST_THINGS"=some (.int 8 oQ)):cA P w K mg base ca "is_many" ["thing"] 2 (bt 1 1 (pB bJ)):=
 ⟨⟨f,fd,F.mg,F.F.kp,F.b,a7 (N:=["thing"]) (k:=1) F.F vI λcdv A outer s H G E hr=>
  (az (bu (kc (aC dF (hr.mono (by decide)) aW rfl rfl (ae (aA 0 rfl) aq)) (km (tW Bi Bi Fe Fe ax (af 0) (CL (by rfl) gK))) (λ_ _=>rfl))))⟩,λds h=>aU ds h⟩
abbrev jO:Stmt:=top 5
def v7:aL ["thing","many"] ["thing","many"] (av jO):=⟨rfl,rfl,rfl,by decide +kernel,rfl,by decide +kernel,by decide +kernel⟩
def tE {f:Addr}{fd:FuncData}{aX:List D->FR}(F:jC K mg "is_pair" jO ["thing","many"] f fd)(B:jV mg)(b5:cA P w K mg base ca "is_below" ["thing","bound"] 2 aX):cA P w K mg base ca "is_pair" ["thing","many"] 3 (bt 2 2 (ph aX)):=
 ⟨⟨f,fd,F.mg,F.F.kp,F.b,a7 (N:=["thing","many"]) (k:=2) F.F v7 λcdv A outer s H G E hr=>
  (ag (dB (si.t (pR (fk (fj rfl (jo "tuple" (by decide) rfl rfl B.isinstance rfl B.tuple (by decide +kernel) (af 0)))) (lK (bY (jd hr.units) i4 (ba cF jh rfl B.len LL (af 0)) ax (bL _))) (λ_ _=>rfl)))
  (az (bu jk))
  cw)
  (az (bu (kc (aC b5 (hr.mono (by decide)) aW rfl rfl (ae (bE aZ cJ (af 0) ax (λ_ _=>rfl)) (ae (aA 1 rfl) aq))) (km (aC b5 (hr.mono (by decide)) aW rfl rfl (ae (bE aZ cJ (af 0) ax (λ_ _=>rfl)) (ae (aA 1 rfl) aq)))) (λ_ _=>rfl)))))⟩,λds h=>aU ds h⟩
abbrev jG:Stmt:=top 6
def uT:aL ["thing","many"] ["thing","many"] (av jG):=⟨rfl,rfl,rfl,by decide +kernel,rfl,by decide +kernel,by decide +kernel⟩
def r6 {f:Addr}{fd:FuncData}{aX:List D->FR}(F:jC K mg "is_line" jG ["thing","many"] f fd)(B:jV mg)(b5:cA P w K mg base ca "is_below" ["thing","bound"] 2 aX):cA P w K mg base ca "is_line" ["thing","many"] 3 (bt 2 2 (jR aX)):=
 ⟨⟨f,fd,F.mg,F.F.kp,F.b,a7 (N:=["thing","many"]) (k:=2) F.F uT λcdv A outer s H G E hr=>
  (ag (dB (si.t (pR (fk (fj rfl (jo "tuple" (by decide) rfl rfl B.isinstance rfl B.tuple (by decide +kernel) (af 0)))) (lK (bY (jd hr.units) i4 (ba cF jh rfl B.len LL (af 0)) (af 1) (bL _))) (λ_ _=>rfl)))
  (az (bu jk))
  cw)
  (az (bu (kc (ba (mU rfl) mw rfl B.all (by decide +kernel) (gr (NB:=["one","many"]) (own:=1) (ixs:=[1]) [1] rfl (gP (by kernel_rfl)) (λ_ _=>rfl) (rn rfl (af 0)) (λH0 G0 par br bx C ex s3 H3 pn=>(eZ (i:=0) (show (["one","many"]:List Str).Nodup by decide +kernel))) (λH0 G0 par br bx C ex s3 H3 pn hB1=>iH) (λH0 G0 par br bx C ex s3 H3 pn hB1=>(aC b5 (hr.mono (by decide)) wD rfl rfl (ae (aA 0 (hB1 0 (by decide))) (ae (aA 1 (hB1 1 (by decide))) aq)))))) (km (rS (gQ hr.units) i4 (yc rfl rfl rfl B.len rfl B.set (af 0)) (af 1) (bL _))) (λ_ _=>rfl)))))⟩,λds h=>aU ds h⟩
abbrev dv:Stmt:=top 7
def oK:aL ["many"] ["many"] (av dv):=⟨rfl,rfl,rfl,by decide +kernel,rfl,by decide +kernel,by decide +kernel⟩
def nR {f:Addr}{fd:FuncData}(F:jC K mg "every_pair" dv ["many"] f fd)(B:jV mg):cA P w K mg base ca "every_pair" ["many"] 1 (bt 1 1 (qt)):=
 ⟨⟨f,fd,F.mg,F.F.kp,F.b,a7 (N:=["many"]) (k:=0) F.F oK λcdv A outer s H G E hr=>
  (az (rF (gr (NB:=["number","many"]) (own:=1) (ixs:=[0]) [] rfl (gP (by kernel_rfl)) (λ_ _=>rfl) (om rfl B.range (bg jx kl (af 0) (af 0))) (λH0 G0 par br bx C ex s3 H3 pn=>(eZ (i:=0) (show (["number","many"]:List Str).Nodup by decide +kernel))) (λH0 G0 par br bx C ex s3 H3 pn hB1=>iH) (λH0 G0 par br bx C ex s3 H3 pn hB1=>(iu (ae (bg kJ B3 (af 0) (af 1)) (ae (bg kg pI (af 0) (af 1)) aq)))))))⟩,λds h=>aU ds h⟩
abbrev ip:Stmt:=top 16
def tH:aL ["pairs"] ["pairs"] (av ip):=⟨rfl,rfl,rfl,by decide +kernel,rfl,by decide +kernel,by decide +kernel⟩
def rj {f:Addr}{fd:FuncData}(F:jC K mg "has_ring" ip ["pairs"] f fd)(B:jV mg):cA P w K mg base ca "has_ring" ["pairs"] 1 (bt 1 1 (oy)):=
 ⟨⟨f,fd,F.mg,F.F.kp,F.b,a7 (N:=["pairs"]) (k:=0) F.F tH λcdv A outer s H G E hr=>
  (az (bu (ba (BG rfl) mw rfl B.any (by decide +kernel) (gr (NB:=["a","b"]) (own:=2) (ixs:=[]) [] rfl (gP (by kernel_rfl)) (λ_ _=>rfl) (rn rfl (af 0)) (λH0 G0 par br bx C ex s3 H3 pn=>(i8 (i:=0) (j:=1) (show (["a","b"]:List Str).Nodup by decide +kernel))) (λH0 G0 par br bx C ex s3 H3 pn hB1=>iH) (λH0 G0 par br bx C ex s3 H3 pn hB1=>(rS (gQ hr.units) i4 (af 0) (af 1) (bL _)))))))⟩,λds h=>aU ds h⟩
abbrev iY:Stmt:=top 14
def jy:aL ["thing","many","pairs"] ["thing"] (av iY):=⟨rfl,rfl,rfl,by decide +kernel,rfl,by decide +kernel,by decide +kernel⟩
def rq {f:Addr}{fd:FuncData}{fQ fL h9 dM:List D->FR}(F:jC K mg "is_order" iY ["thing"] f fd)(B:jV mg)(lA:cA P w K mg base ca "is_many" ["thing"] 2 fQ)(lu:cA P w K mg base ca "is_pair" ["thing","many"] 3 fL)(nv:cA P w K mg base ca "closed" ["many","pairs"] 3 h9)(kq:cA P w K mg base ca "has_ring" ["pairs"] 1 dM):cA P w K mg base ca "is_order" ["thing"] 4 (bt 3 1 (fS fQ fL h9 dM)):=
 ⟨⟨f,fd,F.mg,F.F.kp,F.b,a7 (N:=["thing","many","pairs"]) (k:=3) F.F jy λcdv A outer s H G E hr=>
  (ag (dB (si.t (pR (fk (fj rfl (jo "tuple" (by decide) rfl rfl B.isinstance rfl B.tuple (by decide +kernel) (af 0)))) (lK (bY (jd hr.units) i4 (ba cF jh rfl B.len LL (af 0)) ax (bL _))) (λ_ _=>rfl)))
  (az (bu jk))
  cw)
  (ag (aO (i:=1) (bE aZ cJ (af 0) ax (λ_ _=>rfl)) jy.nd)
  (ag (aO (i:=2) (bE aZ cJ (af 0) ax (λ_ _=>rfl)) jy.nd)
  (ag (dB (si.t (pR (fk (fj rfl (aC lA (hr.mono (by decide)) aW rfl rfl (ae (aA 1 rfl) aq)))) (lK (fk (fj rfl (jo "tuple" (by decide) rfl rfl B.isinstance rfl B.tuple (by decide +kernel) (af 2))))) (λ_ _=>rfl)))
  (az (bu jk))
  cw)
  (ag (dB (fk (fj rfl (ba (mU rfl) mw rfl B.all (by decide +kernel) (gr (NB:=["pair","many"]) (own:=1) (ixs:=[1]) [1] rfl (gP (by kernel_rfl)) (λ_ _=>rfl) (rn rfl (af 2)) (λH0 G0 par br bx C ex s3 H3 pn=>(eZ (i:=0) (show (["pair","many"]:List Str).Nodup by decide +kernel))) (λH0 G0 par br bx C ex s3 H3 pn hB1=>iH) (λH0 G0 par br bx C ex s3 H3 pn hB1=>(aC lu (hr.mono (by decide)) wD rfl rfl (ae (aA 0 (hB1 0 (by decide))) (ae (aA 1 (hB1 1 (by decide))) aq))))))))
  (az (bu jk))
  cw)
  (az (bu (kc (rS (gQ hr.units) i4 (af 2) (aC nv (hr.mono (by decide)) aW rfl rfl (ae (aA 1 rfl) (ae (aA 2 rfl) aq))) (bL _)) (km (uS (aC kq (hr.mono (by decide)) aW rfl rfl (ae (aA 2 rfl) aq)))) (λ_ _=>rfl)))))))))⟩,λds h=>aU ds h⟩
abbrev fH:Stmt:=top 17
def o9:aL ["thing"] ["thing"] (av fH):=⟨rfl,rfl,rfl,by decide +kernel,rfl,by decide +kernel,by decide +kernel⟩
def nq {f:Addr}{fd:FuncData}{dG:List D->FR}(F:jC K mg "need_order" fH ["thing"] f fd)(B:jV mg)(kj:cA P w K mg base ca "is_order" ["thing"] 4 dG)(hV:Exc K mg ca "NoOrder"):cA P w K mg base ca "need_order" ["thing"] 5 (bt 1 1 (fJ dG)):=
 ⟨⟨f,fd,F.mg,F.F.kp,F.b,a7 (N:=["thing"]) (k:=4) F.F o9 λcdv A outer s H G E hr=>
  (az (dB (fk (fj rfl (aC kj (hr.mono (by decide)) aW rfl rfl (ae (aA 0 rfl) aq))))
  (az (nD hV.ex hV.ca rfl hV.mg (ae qY aq)))
  cw))⟩,λds h=>aU ds h⟩
abbrev kX:Stmt:=top 20
def lC:aL ["row","found","place","thing"] ["row"] (av kX):=⟨rfl,rfl,rfl,by decide +kernel,rfl,by decide +kernel,by decide +kernel⟩
def vF {f:Addr}{fd:FuncData}(F:jC K mg "places" kX ["row"] f fd)(B:jV mg):cA P w K mg base ca "places" ["row"] 1 (bt 4 1 (k7)):=
 ⟨⟨f,fd,F.mg,F.F.kp,F.b,a7 (N:=["row","found","place","thing"]) (k:=0) F.F lC λcdv A outer s H G E hr=>
  (ag (fu (i:=1) (uD (b7 (ae ax aq)) (ba cF jh rfl B.len LL (af 0))) lC.nd)
  (ag (c7 PassesOwn.leaving rfl (zp rfl rfl B.enumerate (af 0)) (i8 (i:=2) (j:=3) lC.nd)
  (az (rR 1 (λ_=>rfl) (aA 2 rfl) (af 3))))
  (az (iF 1))))⟩,λds h=>aU ds h⟩
abbrev dY:Stmt:=top 19
def ju:aL ["thing","order","place"] ["thing","order"] (av dY):=⟨rfl,rfl,rfl,by decide +kernel,rfl,by decide +kernel,by decide +kernel⟩
def l8 {f:Addr}{fd:FuncData}{fK hW:List D->FR}(F:jC K mg "keeps_order" dY ["thing","order"] f fd)(B:jV mg)(lq:cA P w K mg base ca "is_line" ["thing","many"] 3 fK)(oA:cA P w K mg base ca "places" ["row"] 1 hW):cA P w K mg base ca "keeps_order" ["thing","order"] 4 (bt 3 2 (dX fK hW)):=
 ⟨⟨f,fd,F.mg,F.F.kp,F.b,a7 (N:=["thing","order","place"]) (k:=3) F.F ju λcdv A outer s H G E hr=>
  (ag (dB (fk (fj rfl (aC lq (hr.mono (by decide)) aW rfl rfl (ae (aA 0 rfl) (ae (bE aZ cJ (af 1) ax (λ_ _=>rfl)) aq)))))
  (az (bu jk))
  cw)
  (ag (aO (i:=2) (aC oA (hr.mono (by decide)) aW rfl rfl (ae (aA 0 rfl) aq)) ju.nd)
  (az (bu (ba (mU rfl) mw rfl B.all (by decide +kernel) (gr (NB:=["a","b","place"]) (own:=2) (ixs:=[2]) [] rfl (gP (by kernel_rfl)) (λ_ _=>rfl) (rn rfl (bE aZ cJ (af 1) ax (λ_ _=>rfl))) (λH0 G0 par br bx C ex s3 H3 pn=>(i8 (i:=0) (j:=1) (show (["a","b","place"]:List Str).Nodup by decide +kernel))) (λH0 G0 par br bx C ex s3 H3 pn hB1=>iH) (λH0 G0 par br bx C ex s3 H3 pn hB1=>(rS wm DB (bE aZ cJ (af 2) (af 0) (λ_ _=>rfl)) (bE aZ cJ (af 2) (af 1) (λ_ _=>rfl)) (bL _)))))))))⟩,λds h=>aU ds h⟩
abbrev fE:Stmt:=top 24
def oG:aL ["placed","thing"] ["placed","thing"] (av fE):=⟨rfl,rfl,rfl,by decide +kernel,rfl,by decide +kernel,by decide +kernel⟩
def ox {f:Addr}{fd:FuncData}(F:jC K mg "with_thing" fE ["placed","thing"] f fd)(B:jV mg):cA P w K mg base ca "with_thing" ["placed","thing"] 1 (bt 2 2 (fD)):=
 ⟨⟨f,fd,F.mg,F.F.kp,F.b,a7 (N:=["placed","thing"]) (k:=0) F.F oG λcdv A outer s H G E hr=>
  (az (bu (bg GA Jb (af 0) (bg zS D0 ax (af 1)))))⟩,λds h=>aU ds h⟩
abbrev dS:Stmt:=top 27
def fU:aL ["masks","placed","free","thing","mask"] ["masks","placed"] (av dS):=⟨rfl,rfl,rfl,by decide +kernel,rfl,by decide +kernel,by decide +kernel⟩
def mi {f:Addr}{fd:FuncData}{ao:List D->FR}(F:jC K mg "free_things" dS ["masks","placed"] f fd)(B:jV mg)(aI:cA P w K mg base ca "with_thing" ["placed","thing"] 1 ao):cA P w K mg base ca "free_things" ["masks","placed"] 2 (bt 5 2 (dP ao)):=
 ⟨⟨f,fd,F.mg,F.F.kp,F.b,a7 (N:=["masks","placed","free","thing","mask"]) (k:=1) F.F fU λcdv A outer s H G E hr=>
  (ag (fu (i:=2) (b7 aq) fU.nd)
  (ag (c7 PassesOwn.leaving rfl (zF rfl rfl B.enumerate (aA 0 rfl)) (i8 (i:=3) (j:=4) fU.nd)
  (az (dB (si.t (uW (bY (jd hr.units) i4 (aC aI (hr.mono (by decide)) aW rfl rfl (ae (aA 1 rfl) (ae (aA 3 rfl) aq))) (af 1) (bL _)) (rA (bY (gQ hr.units) i4 (bg Gf Hy (af 1) (af 4)) (af 4) (bL _))) (λ_ _=>rfl)))
  (az (jT 2 (λ_=>rfl) (aA 3 rfl)))
  cw)))
  (az (iF 2))))⟩,λds h=>aU ds h⟩
abbrev jQ:Stmt:=top 28
def iB:aL ["masks","full","ways","placed"] ["masks"] (av jQ):=⟨rfl,rfl,rfl,by decide +kernel,rfl,by decide +kernel,by decide +kernel⟩
def tx {f:Addr}{fd:FuncData}{aN ao:List D->FR}(F:jC K mg "ways_on" jQ ["masks"] f fd)(B:jV mg)(bA:cA P w K mg base ca "free_things" ["masks","placed"] 2 aN)(aI:cA P w K mg base ca "with_thing" ["placed","thing"] 1 ao):cA P w K mg base ca "ways_on" ["masks"] 3 (bt 4 1 (jD aN ao)):=
 ⟨⟨f,fd,F.mg,F.F.kp,F.b,a7 (N:=["masks","full","ways","placed"]) (k:=2) F.F iB λcdv A outer s H G E hr=>
  (ag (aO (i:=1) (bg qg v8 (bg zS D0 ax (ba cF jh rfl B.len LL (af 0))) ax) iB.nd)
  (ag (fu (i:=2) (bg mC xb (uD (b7 (ae ax aq)) (af 1)) (b7 (ae ax aq))) iB.nd)
  (ag (c7 PassesOwn.leaving rfl (GJ rfl B.range (bg qg v8 (af 1) ax) (wH qx wO ax) (wH qx wO ax)) (eZ (i:=3) iB.nd)
  (az (rR 2 (λ_=>rfl) (ba (tq rfl) DN rfl B.sum (by decide +kernel) (gr (NB:=["thing","ways","placed"]) (own:=1) (ixs:=[2,3]) [3] rfl (gP (by kernel_rfl)) (λ_ _=>rfl) (rn rfl (aC bA (hr.mono (by decide)) aW rfl rfl (ae (aA 0 rfl) (ae (aA 3 rfl) aq)))) (λH0 G0 par br bx C ex s3 H3 pn=>(eZ (i:=0) (show (["thing","ways","placed"]:List Str).Nodup by decide +kernel))) (λH0 G0 par br bx C ex s3 H3 pn hB1=>iH) (λH0 G0 par br bx C ex s3 H3 pn hB1=>(bE aZ cJ (af 1) (aC aI (hr.mono (by decide)) wD rfl rfl (ae (aA 2 (hB1 2 (by decide))) (ae (aA 0 (hB1 0 (by decide))) aq))) (λ_ _=>rfl))))) (af 3))))
  (az (iF 2)))))⟩,λds h=>aU ds h⟩
abbrev dQ:Stmt:=top 26
def fW:aL ["order","masks","a","b"] ["order"] (av dQ):=⟨rfl,rfl,rfl,by decide +kernel,rfl,by decide +kernel,by decide +kernel⟩
def mh {f:Addr}{fd:FuncData}{ao:List D->FR}(F:jC K mg "masks_ahead" dQ ["order"] f fd)(B:jV mg)(aI:cA P w K mg base ca "with_thing" ["placed","thing"] 1 ao):cA P w K mg base ca "masks_ahead" ["order"] 2 (bt 4 1 (dU ao)):=
 ⟨⟨f,fd,F.mg,F.F.kp,F.b,a7 (N:=["order","masks","a","b"]) (k:=1) F.F fW λcdv A outer s H G E hr=>
  (ag (fu (i:=1) (uD (b7 (ae ax aq)) (bE aZ cJ (af 0) ax (λ_ _=>rfl))) fW.nd)
  (ag (c7 PassesOwn.leaving rfl (Bv rfl (bE aZ cJ (af 0) ax (λ_ _=>rfl))) (i8 (i:=2) (j:=3) fW.nd)
  (az (rR 1 (λ_=>rfl) (aC aI (hr.mono (by decide)) aW rfl rfl (ae (bE aZ cJ (af 1) (af 3) (λ_ _=>rfl)) (ae (aA 2 rfl) aq))) (af 3))))
  (az (iF 1))))⟩,λds h=>aU ds h⟩
abbrev gu:Stmt:=top 21
def qM:aL ["order"] ["order"] (av gu):=⟨rfl,rfl,rfl,by decide +kernel,rfl,by decide +kernel,by decide +kernel⟩
def oZ {f:Addr}{fd:FuncData}{aQ bp aM:List D->FR}(F:jC K mg "rows_many" gu ["order"] f fd)(B:jV mg)(bH:cA P w K mg base ca "need_order" ["thing"] 5 aQ)(cH:cA P w K mg base ca "ways_on" ["masks"] 3 bp)(bw:cA P w K mg base ca "masks_ahead" ["order"] 2 aM):cA P w K mg base ca "rows_many" ["order"] 6 (bt 1 1 (gp aQ bp aM)):=
 ⟨⟨f,fd,F.mg,F.F.kp,F.b,a7 (N:=["order"]) (k:=5) F.F qM λcdv A outer s H G E hr=>
  (ag (qy (aC bH (hr.mono (by decide)) aW rfl rfl (ae (aA 0 rfl) aq)))
  (az (bu (bE aZ cJ (aC cH (hr.mono (by decide)) aW rfl rfl (ae (aC bw (hr.mono (by decide)) aW rfl rfl (ae (aA 0 rfl) aq)) aq)) ax (λ_ _=>rfl)))))⟩,λds h=>aU ds h⟩
abbrev kE:Stmt:=top 23
def hZ:aL ["masks","ways","placed","left","free","at"] ["masks","ways","placed","left"] (av kE):=⟨rfl,rfl,rfl,by decide +kernel,rfl,by decide +kernel,by decide +kernel⟩
def vY {f:Addr}{fd:FuncData}{aN ao:List D->FR}(F:jC K mg "choose" kE ["masks","ways","placed","left"] f fd)(B:jV mg)(bA:cA P w K mg base ca "free_things" ["masks","placed"] 2 aN)(aI:cA P w K mg base ca "with_thing" ["placed","thing"] 1 ao):cA P w K mg base ca "choose" ["masks","ways","placed","left"] 3 (bt 6 4 (kz aN ao)):=
 ⟨⟨f,fd,F.mg,F.F.kp,F.b,a7 (N:=["masks","ways","placed","left","free","at"]) (k:=2) F.F hZ λcdv A outer s H G E hr=>
  (ag (aO (i:=4) (aC bA (hr.mono (by decide)) aW rfl rfl (ae (aA 0 rfl) (ae (aA 2 rfl) aq))) hZ.nd)
  (ag (aO (i:=5) ax hZ.nd)
  (ag (nt 1000 PassesOwn.leaving (bY Gw Ju (af 3) (bE aZ cJ (af 1) (aC aI (hr.mono (by decide)) aW rfl rfl (ae (aA 2 rfl) (ae (bE aZ cJ (af 4) (af 5) (λ_ _=>rfl)) aq))) (λ_ _=>rfl)) (bL _))
  (ag (aO (i:=3) (bg qg v8 (af 3) (bE aZ cJ (af 1) (aC aI (hr.mono (by decide)) aW rfl rfl (ae (aA 2 rfl) (ae (bE aZ cJ (af 4) (af 5) (λ_ _=>rfl)) aq))) (λ_ _=>rfl))) hZ.nd)
  (az (aO (i:=5) (bg iX iU (af 5) ax) hZ.nd))))
  (az (bu (iu (ae (bE aZ cJ (af 4) (af 5) (λ_ _=>rfl)) (ae (aA 3 rfl) aq))))))))⟩,λds h=>aU ds h⟩
abbrev jK:Stmt:=top 22
def bZ:aL ["order","number","masks","ways","row","placed","left","step","choice"] ["order","number"] (av jK):=⟨rfl,rfl,rfl,by decide +kernel,rfl,by decide +kernel,by decide +kernel⟩
def tJ {f:Addr}{fd:FuncData}{aQ aM bp aX g9 ao:List D->FR}(F:jC K mg "nth_row" jK ["order","number"] f fd)(B:jV mg)(bH:cA P w K mg base ca "need_order" ["thing"] 5 aQ)(bw:cA P w K mg base ca "masks_ahead" ["order"] 2 aM)(cH:cA P w K mg base ca "ways_on" ["masks"] 3 bp)(b5:cA P w K mg base ca "is_below" ["thing","bound"] 2 aX)(mX:cA P w K mg base ca "choose" ["masks","ways","placed","left"] 3 g9)(aI:cA P w K mg base ca "with_thing" ["placed","thing"] 1 ao)(fR:Exc K mg ca "NoNumber"):cA P w K mg base ca "nth_row" ["order","number"] 6 (bt 9 2 (jF aQ aM bp aX g9 ao)):=
 ⟨⟨f,fd,F.mg,F.F.kp,F.b,a7 (N:=["order","number","masks","ways","row","placed","left","step","choice"]) (k:=5) F.F bZ λcdv A outer s H G E hr=>
  (ag (qy (aC bH (hr.mono (by decide)) aW rfl rfl (ae (aA 0 rfl) aq)))
  (ag (aO (i:=2) (aC bw (hr.mono (by decide)) aW rfl rfl (ae (aA 0 rfl) aq)) bZ.nd)
  (ag (aO (i:=3) (aC cH (hr.mono (by decide)) aW rfl rfl (ae (aA 2 rfl) aq)) bZ.nd)
  (ag (dB (fk (fj rfl (aC b5 (hr.mono (by decide)) aW rfl rfl (ae (aA 1 rfl) (ae (bE aZ cJ (af 3) ax (λ_ _=>rfl)) aq)))))
  (az (nD fR.ex fR.ca rfl fR.mg (ae qY aq)))
  cw)
  (ag (fu (i:=4) (b7 aq) bZ.nd)
  (ag (aO (i:=5) ax bZ.nd)
  (ag (aO (i:=6) (aA 1 rfl) bZ.nd)
  (ag (c7 PassesOwn.leaving rfl (om rfl B.range (bE aZ cJ (af 0) ax (λ_ _=>rfl))) (eZ (i:=7) bZ.nd)
  (ag (aO (i:=8) (aC mX (hr.mono (by decide)) aW rfl rfl (ae (aA 2 rfl) (ae (aA 3 rfl) (ae (aA 5 rfl) (ae (aA 6 rfl) aq))))) bZ.nd)
  (ag (jT 4 (λ_=>rfl) (bE aZ cJ (af 8) ax (λ_ _=>rfl)))
  (ag (aO (i:=5) (aC aI (hr.mono (by decide)) aW rfl rfl (ae (aA 5 rfl) (ae (bE aZ cJ (af 8) ax (λ_ _=>rfl)) aq))) bZ.nd)
  (az (aO (i:=6) (bE aZ cJ (af 8) ax (λ_ _=>rfl)) bZ.nd))))))
  (az (bu (nQ gL wY rfl B.tuple (by decide +kernel) (af 4))))))))))))⟩,λds h=>aU ds h⟩
abbrev jL:Stmt:=top 25
def cg:aL ["order","row","masks","ways","rank","placed","thing","lesser"] ["order","row"] (av jL):=⟨rfl,rfl,rfl,by decide +kernel,rfl,by decide +kernel,by decide +kernel⟩
def tM {f:Addr}{fd:FuncData}{aQ cu aM bp aN ao:List D->FR}(F:jC K mg "rank_of" jL ["order","row"] f fd)(B:jV mg)(bH:cA P w K mg base ca "need_order" ["thing"] 5 aQ)(gR:cA P w K mg base ca "keeps_order" ["thing","order"] 4 cu)(bw:cA P w K mg base ca "masks_ahead" ["order"] 2 aM)(cH:cA P w K mg base ca "ways_on" ["masks"] 3 bp)(bA:cA P w K mg base ca "free_things" ["masks","placed"] 2 aN)(aI:cA P w K mg base ca "with_thing" ["placed","thing"] 1 ao)(kW:Exc K mg ca "NoRow"):cA P w K mg base ca "rank_of" ["order","row"] 6 (bt 8 2 (jB aQ cu aM bp aN ao)):=
 ⟨⟨f,fd,F.mg,F.F.kp,F.b,a7 (N:=["order","row","masks","ways","rank","placed","thing","lesser"]) (k:=5) F.F cg λcdv A outer s H G E hr=>
  (ag (qy (aC bH (hr.mono (by decide)) aW rfl rfl (ae (aA 0 rfl) aq)))
  (ag (dB (fk (fj rfl (aC gR (hr.mono (by decide)) aW rfl rfl (ae (aA 1 rfl) (ae (aA 0 rfl) aq)))))
  (az (nD kW.ex kW.ca rfl kW.mg (ae qY aq)))
  cw)
  (ag (aO (i:=2) (aC bw (hr.mono (by decide)) aW rfl rfl (ae (aA 0 rfl) aq)) cg.nd)
  (ag (aO (i:=3) (aC cH (hr.mono (by decide)) aW rfl rfl (ae (aA 2 rfl) aq)) cg.nd)
  (ag (aO (i:=4) ax cg.nd)
  (ag (aO (i:=5) ax cg.nd)
  (ag (c7 PassesOwn.leaving rfl (Bv rfl (aA 1 rfl)) (eZ (i:=6) cg.nd)
  (ag (wx (i:=7) (NB:=["other","thing"]) (own:=1) (ixs:=[6]) [] rfl (gP (by kernel_rfl)) (λ_ _=>rfl) (rn rfl (aC bA (hr.mono (by decide)) aW rfl rfl (ae (aA 2 rfl) (ae (aA 5 rfl) aq)))) (λH0 G0 par br bx C ex s3 H3 pn=>(eZ (i:=0) (show (["other","thing"]:List Str).Nodup by decide +kernel))) (λH0 G0 par br bx C ex s3 H3 pn hB1=>(qF (bY wm DB (af 0) (af 1) (bL _)))) (λH0 G0 par br bx C ex s3 H3 pn hB1=>(aA 0 (hB1 0 (by decide)))) cg.nd)
  (ag (aO (i:=4) (bg iX iU (af 4) (ba (tq rfl) DN rfl B.sum (by decide +kernel) (gr (NB:=["other","ways","placed"]) (own:=1) (ixs:=[3,5]) [5] rfl (gP (by kernel_rfl)) (λ_ _=>rfl) (rn rfl (af 7)) (λH0 G0 par br bx C ex s3 H3 pn=>(eZ (i:=0) (show (["other","ways","placed"]:List Str).Nodup by decide +kernel))) (λH0 G0 par br bx C ex s3 H3 pn hB2=>iH) (λH0 G0 par br bx C ex s3 H3 pn hB2=>(bE aZ cJ (af 1) (aC aI (hr.mono (by decide)) wD rfl rfl (ae (aA 2 (hB2 2 (by decide))) (ae (aA 0 (hB2 0 (by decide))) aq))) (λ_ _=>rfl)))))) cg.nd)
  (az (aO (i:=5) (aC aI (hr.mono (by decide)) aW rfl rfl (ae (aA 5 rfl) (ae (aA 6 rfl) aq))) cg.nd)))))
  (az (iF 4)))))))))⟩,λds h=>aU ds h⟩
abbrev gq:Stmt:=top 30
def rK:aL ["script","k"] ["script","k"] (av gq):=⟨rfl,rfl,rfl,by decide +kernel,rfl,by decide +kernel,by decide +kernel⟩
def oD {f:Addr}{fd:FuncData}(F:jC K mg "_law_cell" gq ["script","k"] f fd)(B:jV mg):cA P w K mg base ca "_law_cell" ["script","k"] 1 (bt 2 2 (eN)):=
 ⟨⟨f,fd,F.mg,F.F.kp,F.b,a7 (N:=["script","k"]) (k:=0) F.F rK λcdv A outer s H G E hr=>
  (ag (dB (bY wm DB (af 1) (ba cF jh rfl B.len LL (af 0)) (bL _))
  (az (bu (bE aZ cJ (af 0) (af 1) (λ_ _=>rfl))))
  cw)
  (az (bu ax)))⟩,λds h=>aU ds h⟩
abbrev dJ:Stmt:=top 31
def gn:aL ["cell","k","some","stir"] ["cell","k"] (av dJ):=⟨rfl,rfl,rfl,by decide +kernel,rfl,by decide +kernel,by decide +kernel⟩
def rE:∃(es:List Expr) (p1 p2 p3:Pos),cx dJ=.Assign [.Name "some" p1] (.List es p2) p3 :: (cx dJ).drop 1/\constsOf es=some [48271,69621,16807,39373,30269,40014,40692,50021,61687,71993,83869,95561,30307]:=⟨_,_,_,_,rfl,by kernel_rfl⟩
def ql {f:Addr}{fd:FuncData}(F:jC K mg "_law_mix" dJ ["cell","k"] f fd)(B:jV mg):cA P w K mg base ca "_law_mix" ["cell","k"] 1 (bt 4 2 (iM)):=by
 obtain⟨es,p1,p2,p3,hb,hes⟩:=rE
 refine⟨⟨f,fd,F.mg,F.F.kp,F.b,a7 (N:=["cell","k","some","stir"]) (k:=0) F.F gn λcdv A outer s H G E hr=>?_⟩,λds h=>aU ds h⟩
 rw[hb]
 exact (ag (aO (i:=2) (SE.wv (b7 (pe hes))) gn.nd) (ag (aO (i:=3) (bg iX iU (bg iX iU (bg jx kl (bg iX iU (bg kg pI (af 0) ax) ax) (bE aZ cJ (af 2) (bg kg pI (af 1) ax) (λ_ _=>rfl))) (bg jx kl ax (af 1))) (bg jx kl ax (bg kJ B3 (af 1) ax))) gn.nd)
  (ag (aO (i:=3) (bg kg pI (af 3) ax) gn.nd)
  (az (bu (bg kJ B3 (bg kg pI (bg iX iU (bg jx kl (af 3) (af 3)) (bg jx kl ax (af 1))) ax) ax))))))
abbrev iy:Stmt:=top 32
def eR:aL ["script","k","cell","number","j"] ["script","k"] (av iy):=⟨rfl,rfl,rfl,by decide +kernel,rfl,by decide +kernel,by decide +kernel⟩
def qA {f:Addr}{fd:FuncData}{dh dE:List D->FR}(F:jC K mg "_law_box" iy ["script","k"] f fd)(B:jV mg)(jj:cA P w K mg base ca "_law_cell" ["script","k"] 1 dh)(kn:cA P w K mg base ca "_law_mix" ["cell","k"] 1 dE):cA P w K mg base ca "_law_box" ["script","k"] 2 (bt 5 2 (iW dh dE)):=
 ⟨⟨f,fd,F.mg,F.F.kp,F.b,a7 (N:=["script","k","cell","number","j"]) (k:=1) F.F eR λcdv A outer s H G E hr=>
  (ag (aO (i:=2) (aC jj (hr.mono (by decide)) aW rfl rfl (ae (aA 0 rfl) (ae (aA 1 rfl) aq))) eR.nd)
  (ag (dB (bY (gQ hr.units) i4 (bg kg pI (af 2) ax) ax (bL _))
  (az (rF (b7 (ae (bg kJ B3 (ba Br Hw rfl B.abs (by decide +kernel) (af 2)) ax) aq))))
  cw)
  (ag (aO (i:=3) ax eR.nd)
  (ag (c7 PassesOwn.leaving rfl (om rfl B.range ax) (eZ (i:=4) eR.nd)
  (az (aO (i:=3) (bg iX iU (bg jx kl (af 3) ax) (aC kn (hr.mono (by decide)) aW rfl rfl (ae (aA 2 rfl) (ae (aA 4 rfl) aq)))) eR.nd)))
  (az (rF (b7 (ae (aA 3 rfl) aq))))))))⟩,λds h=>aU ds h⟩
abbrev gB:Stmt:=top 33
def kF:aL ["box","many","left","digit"] ["box","many"] (av gB):=⟨rfl,rfl,rfl,by decide +kernel,rfl,by decide +kernel,by decide +kernel⟩
def oR {f:Addr}{fd:FuncData}(F:jC K mg "_law_take" gB ["box","many"] f fd)(B:jV mg):qi P w K mg base "_law_take" ["box","many"] 1 cT:=by
 refine⟨⟨f,fd,F.mg,F.F.kp,F.b,?_⟩,λds β h=>?_⟩
 ·refine F.F.rX kF (λvs H Q E h=>?_) (λcdv A outer s H vs Q E hr h=>?_)
  ·obtain⟨b,rest,G,ds,β,rfl,hb,gb,sG,hl,r,_⟩:=h
   rw[KI,r.len,hl];rfl
  ·obtain⟨b,rest,G,ds,β,rfl,hb,gb,sG,hl,r,h⟩:=h
   obtain⟨m,rfl,h0,h1⟩:=xj (λz=>by rw[z] at h;exact h)
   rw[qS h0 h1] at h
   have kk:∀v G' H',gx (some b) H H'->H' b=some (.lst [.int (β / m)])->ak G G'->ak G' H'->(∀c,Mx H c->G c=none->G' c=none)->FV K H G' H' false (.int (β % m)) v->Q v H':=h
   cases r with
   |cons r1 r2=>
    cases r1
    cases r2
    refine⟨_,fY (nh (g7 ux rfl B.divmod (by decide +kernel) (aK (jY fI (pv 0) qN (λ_ _=>rfl)) (aK (pv 1) bq))) (Co (i:=2) (j:=3) kF.nd rfl rfl rfl rfl rfl))
     (fY (nh (pv 2) (rP (pv 0) qN set_list)) (gA (lE (pv 3)))),?_⟩
    refine⟨_,rfl,b,_,0,.int β,rfl,rfl,.inl (.inl hb),rfl,_,rfl,β,m,rfl,⟨h0,h1⟩,λp hp=>⟨p,_,rfl,.inl (.inl aw),rfl,_,_,rfl,_,_,rfl,rfl,?_⟩⟩
    have hbp:b≠p:=aG hb hp
    exact⟨_,rfl,_,rfl,b,[.int β],0,0,rfl,rfl,by rw[ay hbp];exact hb,rfl,_,rfl,Bx hb sG hp kk gb⟩
 ·obtain⟨m,rfl,_⟩:=xj h
  rfl
abbrev fG:Stmt:=top 34
def oE:aL ["thing"] ["thing"] (av fG):=⟨rfl,rfl,rfl,by decide +kernel,rfl,by decide +kernel,by decide +kernel⟩
def nJ {f:Addr}{fd:FuncData}(F:jC K mg "_law_whole" fG ["thing"] f fd)(B:jV mg):cA P w K mg base ca "_law_whole" ["thing"] 1 (bt 1 1 (kM)):=
 ⟨⟨f,fd,F.mg,F.F.kp,F.b,a7 (N:=["thing"]) (k:=0) F.F oE λcdv A outer s H G E hr=>
  (az (bu (kc (jo "int" (by decide) rfl rfl B.isinstance rfl B.int (by decide +kernel) (af 0)) (km (uS (jo "bool" (by decide) rfl rfl B.isinstance rfl B.bool (by decide +kernel) (af 0)))) (λ_ _=>rfl))))⟩,λds h=>aU ds h⟩
abbrev cZ:Stmt:=top 35
def dN:aL ["box","some","left","found"] ["box","some"] (av cZ):=⟨rfl,rfl,rfl,by decide +kernel,rfl,by decide +kernel,by decide +kernel⟩
def k9 {f:Addr}{fd:FuncData}{aP:List D->Int->FB}(F:jC K mg "_law_mixed_up" cZ ["box","some"] f fd)(B:jV mg)(bC:qi P w K mg base "_law_take" ["box","many"] 1 aP):qi P w K mg base "_law_mixed_up" ["box","some"] 2 (sf 4 1 (c3 aP)):=
 ⟨⟨f,fd,F.mg,F.F.kp,F.b,tD (ca:=λ_=>0) (N:=["box","some","left","found"]) (k:=1) F.F dN (by decide) λcdv A outer s H G b E hr=>
  (ag (fu (i:=2) (nQ qZ EY rfl B.list (by decide +kernel) (af 1)) dN.nd)
  (ag (fu (i:=3) (b7 aq) dN.nd)
  (ag (nt 1000 PassesOwn.leaving (bY (jd hr.units) i4 (af 2) (b7 aq) (bL _))
  (az (y6 3 2 (λ_=>rfl) (mQ 0 bC (hr.mono (by decide)) aW rfl rfl (ae (ba cF jh rfl B.len LL (af 2)) aq)))))
  (az (iF 3)))))⟩,λds β h=>td ds β h⟩
abbrev dW:Stmt:=top 36
def bB:aL ["pairs","found","size","more","a","b"] ["pairs"] (av dW):=⟨rfl,rfl,rfl,by decide +kernel,rfl,by decide +kernel,by decide +kernel⟩
def mq {f:Addr}{fd:FuncData}(F:jC K mg "_law_closed" dW ["pairs"] f fd)(B:jV mg):cA P w K mg base ca "_law_closed" ["pairs"] 1 (bt 6 1 (dR)):=
 ⟨⟨f,fd,F.mg,F.F.kp,F.b,a7 (N:=["pairs","found","size","more","a","b"]) (k:=0) F.F bB λcdv A outer s H G E hr=>
  (ag (aO (i:=1) (SE.wv (nW rfl hr.units rfl rfl B.sorted rfl B.set (af 0))) bB.nd)
  (ag (aO (i:=2) (wH qx wO ax) bB.nd)
  (ag (nt 1000 PassesOwn.leaving (bY (jd hr.units) i4 (af 2) (ba cF jh rfl B.len LL (af 1)) (bL _))
  (ag (aO (i:=2) (ba cF jh rfl B.len LL (af 1)) bB.nd)
  (ag (aO (i:=3) (SE.wv (b7 aq)) bB.nd)
  (ag (c7 PassesOwn.leaving rfl (Bv rfl (aA 1 rfl)) (i8 (i:=4) (j:=5) bB.nd)
  (az (aO (i:=3) (SE.wv (bg mC xb (af 3) (gr (NB:=["c","d","b","a"]) (own:=2) (ixs:=[5,4]) [4] rfl (gP (by kernel_rfl)) (λ_ _=>rfl) (rn rfl (af 1)) (λH0 G0 par br bx C ex s3 H3 pn=>(i8 (i:=0) (j:=1) (show (["c","d","b","a"]:List Str).Nodup by decide +kernel))) (λH0 G0 par br bx C ex s3 H3 pn hB1=>(qF (bY (gQ hr.units) i4 (af 0) (af 2) (bL _)))) (λH0 G0 par br bx C ex s3 H3 pn hB1=>(iu (ae (aA 3 (hB1 3 (by decide))) (ae (aA 1 (hB1 1 (by decide))) aq))))))) bB.nd)))
  (az (aO (i:=1) (SE.wv (nW rfl hr.units rfl rfl B.sorted rfl B.set (bg mC xb (af 1) (af 3)))) bB.nd))))))
  (az (bu (nQ gL wY rfl B.tuple (by decide +kernel) (af 1)))))))⟩,λds h=>aU ds h⟩
abbrev fF:Stmt:=top 37
def b4:aL ["box","most","many","names","thin","pairs","i","j"] ["box","most"] (av fF):=⟨rfl,rfl,rfl,by decide +kernel,rfl,by decide +kernel,by decide +kernel⟩
def oi {f:Addr}{fd:FuncData}{a9:List D->FR}{aP bO:List D->Int->FB}(F:jC K mg "_law_order" fF ["box","most"] f fd)(B:jV mg)(cv:cA P w K mg base ca "_law_closed" ["pairs"] 1 a9)(bC:qi P w K mg base "_law_take" ["box","many"] 1 aP)(fh:qi P w K mg base "_law_mixed_up" ["box","some"] 2 bO):qi P w K mg base "_law_order" ["box","most"] 3 (sf 8 1 (fy a9 aP bO)):=
 ⟨⟨f,fd,F.mg,F.F.kp,F.b,tD (ca:=ca) (N:=["box","most","many","names","thin","pairs","i","j"]) (k:=2) F.F b4 (by decide) λcdv A outer s H G b E hr=>
  (ag (aO (i:=2) (bg iX iU ax (mQ 0 bC (hr.mono (by decide)) aW rfl rfl (ae (aA 1 rfl) aq))) b4.nd)
  (ag (aO (i:=3) (mQ 0 fh (hr.mono (by decide)) aW rfl rfl (ae (SE.wv (mT rfl rfl B.list rfl B.range (af 2))) aq)) b4.nd)
  (ag (aO (i:=4) (bE aZ cJ (b7 (ae ax (ae ax (ae ax (ae ax aq))))) (mQ 0 bC (hr.mono (by decide)) aW rfl rfl (ae ax aq)) (λ_ _=>rfl)) b4.nd)
  (ag (fu (i:=5) (b7 aq) b4.nd)
  (ag (c7 PassesOwn.leaving rfl (om rfl B.range (af 2)) (eZ (i:=6) b4.nd)
  (az (c7 PassesOwn.leaving rfl (Hi rfl B.range (bg iX iU (af 6) ax) (af 2)) (eZ (i:=7) b4.nd)
  (az (dB (bY (gQ hr.units) i4 (mQ 0 bC (hr.mono (by decide)) aW rfl rfl (ae (aA 4 rfl) aq)) ax (bL _))
  (az (jT 5 (λ_=>rfl) (iu (ae (bE aZ cJ (af 3) (af 6) (λ_ _=>rfl)) (ae (bE aZ cJ (af 3) (af 7) (λ_ _=>rfl)) aq)))))
  cw)))))
  (az (bu (iu (ae (aA 2 rfl) (ae (aC cv (hr.mono (by decide)) aW rfl rfl (ae (aA 5 rfl) aq)) aq))))))))))⟩,λds β h=>td ds β h⟩
abbrev gF:Stmt:=top 38
def bV:aL ["order","found","turn","more","row","thing","left"] ["order"] (av gF):=⟨rfl,rfl,rfl,by decide +kernel,rfl,by decide +kernel,by decide +kernel⟩
def oH {f:Addr}{fd:FuncData}(F:jC K mg "_law_rows" gF ["order"] f fd)(B:jV mg):cA P w K mg base ca "_law_rows" ["order"] 1 (bt 7 1 (eH)):=
 ⟨⟨f,fd,F.mg,F.F.kp,F.b,a7 (N:=["order","found","turn","more","row","thing","left"]) (k:=0) F.F bV λcdv A outer s H G E hr=>
  (ag (aO (i:=1) (SE.wv (b7 (ae (iu aq) aq))) bV.nd)
  (ag (c7 PassesOwn.leaving rfl (om rfl B.range (bE aZ cJ (af 0) ax (λ_ _=>rfl))) (eZ (i:=2) bV.nd)
  (ag (fu (i:=3) (b7 aq) bV.nd)
  (ag (c7 PassesOwn.leaving rfl (Bv rfl (aA 1 rfl)) (eZ (i:=4) bV.nd)
  (az (c7 PassesOwn.leaving rfl (om rfl B.range (bE aZ cJ (af 0) ax (λ_ _=>rfl))) (eZ (i:=5) bV.nd)
  (ag (wx (i:=6) (NB:=["a","b","thing","row"]) (own:=2) (ixs:=[5,4]) [] rfl (gP (by kernel_rfl)) (λ_ _=>rfl) (rn rfl (bE aZ cJ (af 0) ax (λ_ _=>rfl))) (λH0 G0 par br bx C ex s3 H3 pn=>(i8 (i:=0) (j:=1) (show (["a","b","thing","row"]:List Str).Nodup by decide +kernel))) (λH0 G0 par br bx C ex s3 H3 pn hB1=>(qF (si.t (uW (bY (gQ hr.units) i4 (af 1) (af 2) (bL _)) (rA (bY (pH hr.u1) Hm (af 0) (af 3) (by with_unfolding_all rfl))) (λi hi=>hB1 i (by revert i hi;decide)))))) (λH0 G0 par br bx C ex s3 H3 pn hB1=>(aA 0 (hB1 0 (by decide)))) bV.nd)
  (az (dB (si.t (uW (bY (pH hr.u1) Hm (af 5) (af 4) (by with_unfolding_all rfl)) (rA (bY (gQ hr.units) i4 (af 6) (b7 aq) (bL _))) (λ_ _=>rfl)))
  (az (jT 3 (λ_=>rfl) (bg zE Fm (af 4) (iu (ae (aA 5 rfl) aq)))))
  cw))))))
  (az (aO (i:=1) (aA 3 rfl) bV.nd)))))
  (az (iF 1))))⟩,λds h=>aU ds h⟩
abbrev j5:Stmt:=top 39
def gO:aL ["script","k","box","order","due","many","number","found","place"] ["script"] (av j5):=⟨rfl,rfl,rfl,by decide +kernel,rfl,by decide +kernel,by decide +kernel⟩
set_option maxHeartbeats 0 in
theorem Dr {f:Addr}{fd:FuncData}{dH a9 c9 df cc fP fN:List D->FR}{cO aP:List D->Int->FB}(F:jC K mg "law" j5 ["script"] f fd)(B:jV mg)(ki:cA P w K mg base ca "_law_box" ["script","k"] 2 dH)(cv:cA P w K mg base ca "_law_closed" ["pairs"] 1 a9)(ji:cA P w K mg base ca "_law_rows" ["order"] 1 c9)(jg:cA P w K mg base ca "rows_many" ["order"] 6 df)(fA:cA P w K mg base ca "_law_whole" ["thing"] 1 cc)(lx:cA P w K mg base ca "nth_row" ["order","number"] 6 fP)(lH:cA P w K mg base ca "rank_of" ["order","row"] 6 fN)(iE:qi P w K mg base "_law_order" ["box","most"] 3 cO)(bC:qi P w K mg base "_law_take" ["box","many"] 1 aP):eQ P w K mg base (mf P w) 7 f fd ["script"] (BQ K ca 1 (bt 9 1 (xD dH a9 c9 df cc fP fN cO aP))):=
 a7 (N:=["script","k","box","order","due","many","number","found","place"]) (k:=6) F.F gO λcdv A outer s H G E hr=>
  (ag (c7 PassesOwn.leaving rfl (om rfl B.range (ni (yI rfl) Gd rfl B.max (by decide +kernel) ax (ni (qe rfl) Be rfl B.min (by decide +kernel) (ba cF jh rfl B.len LL (af 0)) ax))) (eZ (i:=1) gO.nd)
  (ag (Cj (i:=2) rfl (BC ki (hr.mono (by decide)) aW rfl rfl (ae (aA 0 rfl) (ae (aA 1 rfl) aq))) gO.nd)
  (ag (aO (i:=3) (mQ 2 iE (hr.mono (by decide)) aW rfl rfl (ae ax aq)) gO.nd)
  (ag (dB (bY (gQ hr.units) i4 (mQ 2 bC (hr.mono (by decide)) aW rfl rfl (ae ax aq)) ax (bL _))
  (az (aO (i:=3) (iu (ae ax (ae (aC cv (hr.mono (by decide)) aW rfl rfl (ae (SE.wv (@Gv _ _ _ _ (aa (cB (aa (cst (.int 0)) (aa (cst (.int 2)) ah))) (aa (cB (aa (cst (.int 1)) (aa (cst (.int 2)) ah))) (aa (cB (aa (cst (.int 2)) (aa (cst (.int 3)) ah))) (aa (cB (aa (cst (.int 3)) (aa (cst (.int 4)) ah))) (aa (cB (aa (cst (.int 2)) (aa (cst (.int 5)) ah))) ah))))) (([] ++ ([] ++ [])) ++ (([] ++ ([] ++ [])) ++ (([] ++ ([] ++ [])) ++ (([] ++ ([] ++ [])) ++ (([] ++ ([] ++ [])) ++ []))))) _ [] (by kernel_rfl) (λ_=>rfl) (by kernel_rfl))) aq)) aq))) gO.nd))
  cw)
  (ag (aO (i:=4) (SE.wv (ba vS Dc rfl B.sorted (by decide +kernel) (aC ji (hr.mono (by decide)) aW rfl rfl (ae (aA 3 rfl) aq)))) gO.nd)
  (ag (aO (i:=5) (aC jg (hr.mono (by decide)) aW rfl rfl (ae (aA 3 rfl) aq)) gO.nd)
  (ag (dB (si.t (pR (fk (fj rfl (aC fA (hr.mono (by decide)) aW rfl rfl (ae (aA 5 rfl) aq)))) (lK (bY (jd hr.units) i4 (af 5) (ba cF jh rfl B.len LL (af 4)) (bL _))) (λ_ _=>rfl)))
  (az (bu jk))
  cw)
  (az (c7 PassesOwn.leaving rfl (Bv rfl (SE.wv (bg mC xb (mT rfl rfl B.list rfl B.range (ni (qe rfl) Be rfl B.min (by decide +kernel) (af 5) ax)) (b7 (ae (bg qg v8 (af 5) ax) aq))))) (eZ (i:=6) gO.nd)
  (ag (aO (i:=7) (aC lx (hr.mono (by decide)) aW rfl rfl (ae (aA 3 rfl) (ae (aA 6 rfl) aq))) gO.nd)
  (ag (dB (bY HM HG (ba (pd hr.gd hr.u1) zJ rfl B.repr (by decide +kernel) (af 7)) (ba (pd hr.gd hr.u1) zJ rfl B.repr (by decide +kernel) (bE aZ cJ (af 4) (af 6) (λ_ _=>rfl))) (bL _))
  (az (bu jk))
  cw)
  (ag (aO (i:=8) (aC lH (hr.mono (by decide)) aW rfl rfl (ae (aA 3 rfl) (ae (bE aZ cJ (af 4) (af 6) (λ_ _=>rfl)) aq))) gO.nd)
  (az (dB (si.t (pR (fk (fj rfl (aC fA (hr.mono (by decide)) aW rfl rfl (ae (aA 8 rfl) aq)))) (lK (bY (jd hr.units) i4 (af 8) (af 6) (bL _))) (λ_ _=>rfl)))
  (az (bu jk))
  cw))))))))))))))
  (az (bu jk)))
end
end RQ
end
namespace RM
open PySem L2
theorem uV {t u:VF Bool}{vs:List Nv}{β:Int}{a b:Bool}(h:t vs β=.ok a β)(h':u vs β=.ok b β):BS t u vs β=.ok (a && b) β:=by
 rw[FT,h];dsimp only[R.bnd]
 cases a with
 |true=>rw[Kn rfl,h'];rfl
 |false=>rfl
def iw {t:VF Bool}{vs:List Nv}{β:Int}{a:Bool}(h:t vs β=.ok a β):rV t vs β=.ok (!a) β:=by rw[qR,h];rfl
def El {fa:VF D}{vs:List Nv}{β:Int}{l:List Pr}{f:Pr->Bool}(h:fa vs β=.ok (.list (l.map λq=>PyData.bool (f q))) β):f1 fa (dw λbs=>bs.all id) vs β=.ok (.bool (l.all f)) β:=by
 refine de h ?_
 simp only[dw]
 rw[gW]
 simp[all_map]
def tupI (r:List Int):D:=.tuple (r.map int)
def Dm:D->Bool
 | .tuple _=>true
 |_=>false
theorem C8 {d:D}(h:Dm d=true):∃ds,d=.tuple ds:=by
 cases d with
 |tuple ds=>exact⟨ds,rfl⟩
 |_=>cases h
def Aa {d:D}(h:dg d=false):iz "tuple" d=some (.bool (Dm d)):=by
 unfold iz;rw[h];cases d <;> rfl
section
variable {fa fb:VF D}{vs:List Nv}{β:Int}
def HC {d:D}(ha:fa vs β=.ok d β)(h:dg d=false):oB (f1 fa (iz "tuple")) vs β=.ok (Dm d) β:=pC (de ha (Aa h))
def CF {l:List D}{f:D->Bool}(h:fa vs β=.ok (.list (l.map λq=>PyData.bool (f q))) β):f1 fa (dw λbs=>bs.all id) vs β=.ok (.bool (l.all f)) β:=by
 refine de h ?_
 simp only[dw]
 rw[gW]
 simp[all_map]
def DV {ds:List D}(ha:fa vs β=.ok (.tuple ds) β):f1 fa di vs β=.ok (.int ds.length) β:=de ha rfl
def Gz {t u:VF Bool}(h:t vs β=.ok true β):oo t u vs β=.ok true β:=by rw[rB,h];rfl
def xr {t u:VF Bool}{c:Bool}(h:t vs β=.ok false β)(h':u vs β=.ok c β):oo t u vs β=.ok c β:=by rw[rB,h];exact h'
def Hg (h:fa vs β=.ok (.bool false) β):gk fa fb vs β=.ok (.bool false) β:=by unfold gk;rw[h];rfl
def Hl {d:D}(h:fa vs β=.ok (.bool true) β)(h':fb vs β=.ok d β):gk fa fb vs β=.ok d β:=by unfold gk;rw[h];exact h'
end
def Sq (c k:Nat)(d:D):Prop:=d.showable=true/\d.depth<=k/\d.shown.length<=c
def Sq.mono {c k c' k':Nat}{d:D}(h:Sq c k d)(h1:c<=c')(h2:k<=k'):Sq c' k' d:=⟨h.1,Ls h.2.1 h2,Ls h.2.2 h1⟩
theorem ve {c k:Nat}:∀{ds:List D},(∀d,d∈ds->Sq c k d)->PyData.showableAll ds=true/\PyData.depthAll ds<=k/\(∀t,t∈PyData.shownAll ds->t.length<=c)/\(PyData.shownAll ds).length=ds.length
 | [],_=>⟨by simp[PyData.showableAll],by simp[PyData.depthAll],λt h=>by simp[PyData.shownAll] at h,by simp[PyData.shownAll]⟩
 |d :: ds,h=>by
  obtain⟨h1,h2,h3,h4⟩:=ve λx hx=>h x (Ko _ hx)
  obtain⟨q1,q2,q3⟩:=h d (Kr ..)
  refine⟨?_,?_,λt ht=>?_,?_⟩
  ·rw[PyData.showableAll,q1,h1];rfl
  ·rw[PyData.depthAll];omega
  ·rw[PyData.shownAll] at ht
   rcases Kq.mp ht with rfl |ht
   ·exact q3
   ·exact h3 t ht
  ·rw[PyData.shownAll,KI,KI,h4]
theorem tY {c:Nat}:∀{ts:List Str},(∀t,t∈ts->t.length<=c)->(Str.join ", " ts).length<=(c + 2) * ts.length
 | [],_=>by show (Str.join ", " []).length<=_;exact K5 _
 | [x],h=>by
  have:=h x (Kr ..)
  show x.length<=(c + 2) * 1
  omega
 |x :: y :: r,h=>by
  have ih:=tY (ts:=y :: r) λt ht=>h t (Ko _ ht)
  have:=h x (Kr ..)
  show (x ++ ", " ++ Str.join ", " (y :: r)).length<=_
  rw[MF,MF]
  have e2:((", ":String):Str).length=2:=rfl
  rw[e2]
  have e:(c + 2) * (x :: y :: r).length=(c + 2) * (y :: r).length + (c + 2):=by rw[KI,Nat.mul_succ]
  omega
def BO {c k:Nat}{ds:List D}(h:∀d,d∈ds->Sq c k d):Sq (3 + (c + 2) * ds.length) (k + 1) (.tuple ds):=by
 obtain⟨h1,h2,h3,h4⟩:=ve h
 refine⟨by rw[PyData.showable];exact h1,by rw[PyData.depth];omega,?_⟩
 rw[PyData.shown]
 unfold tupleText
 rw[MF,MF]
 have j:=tY h3
 rw[h4] at j
 have e1:((("(":String):Str)).length=1:=rfl
 have e3:((if (PyData.shownAll ds).length == 1 then ",)" else ")":String):Str).length<=2:=by split <;> exact by decide
 rw[e1]
 omega
def FC {c k:Nat}{ds:List D}(h:∀d,d∈ds->Sq c k d):Sq (2 + (c + 2) * ds.length) (k + 1) (.list ds):=by
 obtain⟨h1,h2,h3,h4⟩:=ve h
 refine⟨by rw[PyData.showable];exact h1,by rw[PyData.depth];omega,?_⟩
 rw[PyData.shown]
 unfold listText
 rw[MF]
 have:=zD (c:=c + 2) (PyData.shownAll ds) 0 "[" λt ht=>by have:=h3 t ht;omega
 rw[h4] at this
 have e1:((("[":String):Str)).length=1:=rfl
 have e2:((("]":String):Str)).length=1:=rfl
 rw[e1] at this
 rw[e2];omega
def Bf (d:D):Prop:=DK d=true
theorem vj:∀{ds:List D},(∀d,d∈ds->Bf d)->zK ds=true
 | [],_=>rfl
 |d :: ds,h=>by
  have h1:=vj λx hx=>h x (Ko _ hx)
  have q1:DK d=true:=h d (Kr ..)
  rw[zK,q1,h1];rfl
def AN {ds:List D}(h:∀d,d∈ds->Bf d):Bf (.tuple ds):=by show DK (.tuple ds)=true;rw[DK];exact vj h
def F0 {ds:List D}(h:∀d,d∈ds->Bf d):Bf (.list ds):=by show DK (.list ds)=true;rw[DK];exact vj h
def JC:List Int:=[-1,0,1,2,3,4,5,6,7,8,9]
def A9:∀i∈JC,(int i).showable=true/\(int i).shown.length<=20:=by decide +kernel
def xg {i:Int}(h: -1<=i/\i<=9):i∈JC:=by
 simp only[JC,Kq,Lk,L7]
 omega
def BU (d:D):Prop:=d=.none\/(∃b,d=.bool b)\/∃i:Int,d=.int i/\ -1<=i/\i<=9
def BU.sq {d:D}(h:BU d):Sq 20 0 d:=by
 rcases h with rfl | ⟨b,rfl⟩ | ⟨i,rfl,h⟩
 ·exact⟨by simp[PyData.showable],by simp[PyData.depth],by rw[PyData.shown];decide⟩
 ·exact⟨by simp[PyData.showable],by simp[PyData.depth],by rw[PyData.shown];cases b <;> decide⟩
 ·exact⟨(A9 i (xg h)).1,by simp[PyData.depth],(A9 i (xg h)).2⟩
def BU.bf {d:D}(h:BU d):Bf d:=by
 rcases h with rfl | ⟨b,rfl⟩ | ⟨i,rfl,h⟩ <;> exact by simp[Bf,DK]
def BU.scr {d:D}(h:BU d):dg d=false:=by
 rcases h with rfl | ⟨b,rfl⟩ | ⟨i,rfl,h⟩ <;> rfl
section
variable {vs:List Nv}{β β1 β2:Int}{fa:VF D}{fr:VF (List D)}{d:D}{ds:List D}
def ac {fa:VF D}{fr:VF (List D)}(h:fa vs β=.ok d β)(h':fr vs β=.ok ds β):aa fa fr vs β=.ok (d :: ds) β:=by rw[cD,h];dsimp only[R.bnd];rw[h']
def an:ah vs β=.ok [] β:=rfl
def tp (h:fr vs β=.ok ds β)(hz:ds.length<=1000:=by simp):cB fr vs β=.ok (.tuple ds) β:=jS h hz
def lp (h:fr vs β=.ok ds β)(hz:ds.length<=1000:=by simp):bI fr vs β=.ok (.list ds) β:=gz h hz
def ck (d:D):cst d vs β=.ok d β:=rfl
end
def wQ {i:Int}(h: -1<=i/\i<=9):BU (.int i):=.inr (.inr ⟨i,rfl,h⟩)
def Am {fa:VF D}{vs:List Nv}{β:Int}{ds:List D}(ha:fa vs β=.ok (.list ds) β):f1 fa di vs β=.ok (.int ds.length) β:=de ha rfl
def Ge (e:D):Prop:=dg e=false/\∀es,e=.tuple es->es.length<=100/\∀x,x∈es->dg x=false
def JN:List D->FR:=bt 1 1 kM
def GP {d:D}(h:dg d=false):JN [d]=.ok (.bool (FQ d)) false:=by
 have:=xa [d] (by rw[kG h];exact λz=>by cases z)
 rw[kG h] at this
 exact this
def Sp (p:Pr):Prop:=(0<=p.1/\p.1<=8)/\(0<=p.2/\p.2<=8)
def Af {es:List D}(hl:es.length<=100)(h:∀x,x∈es->dg x=false):Ge (.tuple es):=⟨rfl,λes' e=>by cases e;exact⟨hl,h⟩⟩
end RM
namespace RM
open PySem PySem.Spec L2 PyProof.Rows
theorem nc:∀(ns acc:List Int),acc.Nodup->(ns.foldl step_dedup acc).length<=acc.length + ns.length/\((ns.foldl step_dedup acc).length=acc.length + ns.length↔(ns.Nodup/\∀x,x∈ns->x∉acc))
 | [],acc,_=>by simp
 |n :: ns,acc,hn=>by
  rw[MV]
  by_cases h:n∈acc
  ·have e:step_dedup acc n=acc:=by unfold step_dedup;rw[Kn (by simpa using h)]
   rw[e]
   obtain⟨h1,h2⟩:=nc ns acc hn
   refine⟨by rw[KI];omega,⟨λz=>?_,λz=>absurd h (z.2 n (Kr ..))⟩⟩
   rw[KI] at z;omega
  ·have e:step_dedup acc n=acc ++ [n]:=by unfold step_dedup;rw[Ku (by simpa using h)]
   have hn':(acc ++ [n]).Nodup:=by
    rw[Na]
    refine⟨hn,K6.mpr ⟨by simp,Mu⟩,λa ha b hb=>?_⟩
    rw[KS] at hb
    subst hb
    exact λq=>h (q▸ha)
   rw[e]
   obtain⟨h1,h2⟩:=nc ns (acc ++ [n]) hn'
   rw[KO,L1] at h1 h2
   refine⟨by rw[KI];omega,?_⟩
   rw[KI,show acc.length + (ns.length + 1)=acc.length + 1 + ns.length by omega,h2,K6]
   constructor
   ·rintro⟨z1,z2⟩
    refine⟨⟨λq=>z2 n q (by simp),z1⟩,λx hx=>?_⟩
    rcases Kq.mp hx with rfl |hx
    ·exact h
    ·exact λq=>z2 x hx (LH _ q)
   ·rintro⟨⟨z1,z2⟩,z3⟩
    refine⟨z2,λx hx q=>?_⟩
    rcases KU.mp q with q |q
    ·exact z3 x (Ko _ hx) q
    ·rw[KS] at q;subst q;exact z1 hx
def ur (ns:List Int):o4 ns=ns.length↔ns.Nodup:=by
 have e:firstMet (λi=>ns.getD i 0) ns.length=ns.foldl step_dedup []:=by
  unfold firstMet
  congr 1
  refine MA (by simp) λi h1 h2=>?_
  simp[KZ,h2]
 unfold o4
 rw[e]
 have:=(nc ns [] Mu).2
 simpa using this
theorem lW:∀{l m:List Int},l.Nodup->(∀x,x∈l->x∈m)->m.length<=l.length->l.Perm m
 | [],m,_,_,h=>by
  have:m= []:=List.length_eq_zero_iff.mp (by simpa using h)
  rw[this]
 |x :: l,m,nd,hs,h=>by
  obtain⟨h1,h2⟩:=K6.mp nd
  have hx:x∈m:=hs x (Kr ..)
  have pm:m.Perm (x :: m.erase x):=List.perm_cons_erase hx
  refine (List.Perm.cons x (lW (m:=m.erase x) h2 (λy hy=>?_) ?_)).trans pm.symm
  ·have hy':=pm.mem_iff.mp (hs y (Ko _ hy))
   rcases Kq.mp hy' with rfl |q
   ·exact absurd hy h1
   ·exact q
  ·have:=pm.length_eq
   rw[KI] at this h
   omega
def mS {n:Nat}{r:List Int}(hl:r.length=n)(hb:∀x,x∈r->0<=x/\x < n)(nd:r.Nodup):r.Perm (dZ n):=lW nd (λx hx=>aV.mpr (hb x hx)) (by rw[bM];omega)
noncomputable def nC (n:Nat)(d:D):Bool:=@decide (∃r:List Int,d=tupI r/\r.Perm (dZ n)) (Classical.propDecidable _)
def FI {n:Nat}{d:D}(h:nC n d=true):∃r:List Int,d=tupI r/\r.Perm (dZ n):=@MO _ (Classical.propDecidable _) h
def sO {n:Nat}{r:List Int}(h:r.Perm (dZ n)):nC n (tupI r)=true:=@Kt _ (Classical.propDecidable _) ⟨r,rfl,h⟩
def qJ {n:Nat}{d:D}(h:∀r:List Int,d=tupI r->¬r.Perm (dZ n)):nC n d=false:=@KA _ (Classical.propDecidable _) λ⟨r,e,p⟩=>h r e p
def uw {r q:List Int}(h:tupI r=tupI q):r=q:=by
 unfold tupI at h
 have h:=PyData.tuple.inj h
 exact List.map_inj_right (λa b e=>int.inj e) |>.mp h
theorem xX {d:D}{n:Int}(h:gJ d n=true):∃i:Int,d=.int i/\0<=i/\i < n:=by
 cases d with
 |int i=>exact⟨i,rfl,MO h⟩
 |_=>cases h
theorem pJ {n:Int}:∀{ds:List D},(ds.all λe=>gJ e n)=true->∃r:List Int,ds=r.map int/\∀x,x∈r->0<=x/\x < n
 | [],_=>⟨[],rfl,λx hx=>by cases hx⟩
 |d :: ds,h=>by
  rw[all_cons,KP] at h
  obtain⟨i,rfl,hi⟩:=xX h.1
  obtain⟨r,rfl,hr⟩:=pJ h.2
  refine⟨i :: r,rfl,λx hx=>?_⟩
  rcases Kq.mp hx with rfl |hx
  ·exact hi
  ·exact hr x hx
def yk {n:Nat}{r:List Int}(h:∀x,x∈r->0<=x/\x < (n:Int)):((r.map int).all λe=>gJ e n)=true:=by
 rw[all_map,LJ]
 intro x hx
 exact Kt (h x hx)
theorem dD:∀r:List Int,fq (r.map int)=some r
 | []=>rfl
 |x :: r=>by
  have:=dD r
  simp only[K7,fq,this]
  try rfl
def xy:List D->FR:=bt 2 2 (jR c8)
theorem Es {n:Nat}{d:D}(h8:n<=100)(h:Ge d):xy [d,.int n]=.ok (.bool (nC n d)) false:=by
 show fin (jR c8 [.fz d,.fz (.int n)] 0)=_
 unfold jR
 have g0:gv 0 (vl [.fz d,.fz (.int n)]) 0=.ok d 0:=rfl
 have t1:=HC g0 h.1
 cases hy:Dm d with
 |false=>
  rw[hy] at t1
  rw[kC (d:=.bool false) (b:=false) (β':=0) (by rw[kT (Gz (iw t1))];rfl),qJ]
  ·rfl
  ·intro r e;subst e;cases hy
 |true=>
  obtain⟨es,rfl⟩:=C8 hy
  rw[hy] at t1
  have t2:eJ (f2 (f1 (gv 0) di) (gv 1) (fm true)) (vl [.fz (.tuple es),.fz (.int n)]) 0=.ok (!decide ((es.length:Int)=n)) 0:=fB (neg:=true) (DV g0) rfl
  by_cases hl:es.length=n
  ·rw[Kt (show (es.length:Int)=n by omega)] at t2
   rw[ar (env':=[.fz (.tuple es),.fz (.int n)]) (β':=0) (by rw[gC (xr (iw t1) t2)];rfl)]
   have hs:=(h.2 _ rfl).2
   have ec:bh 1 [1] (.nm 0) (bW (gv 0)) mF (au c8 (aa (gv 0) (aa (gv 1) ah))) (vl [.fz (.tuple es),.fz (.int n)]) 0=.ok (.list (es.map λe=>PyData.bool (gJ e n))) 0:=
    xV (λe=>PyData.bool (gJ e n)) rfl (by omega) λe he=>⟨_,rfl,aB (ds:=[e,.int n]) rfl (qw (hs e he))⟩
   have ea:=CF ec
   rw[jA]
   cases hb:(es.all λe=>gJ e n) with
   |false=>
    rw[hb] at ea
    rw[Hg ea,qJ]
    ·rfl
    ·intro r e pm
     have e:=PyData.tuple.inj e
     subst e
     rw[yk λx hx=>aV.mp (pm.mem_iff.mp hx)] at hb
     cases hb
   |true=>
    rw[hb] at ea
    obtain⟨r,rfl,hr⟩:=pJ hb
    have hrl:r.length=n:=by rw[Kx] at hl;exact hl
    have es:f1 (gv 0) mr (vl [.fz (.tuple (r.map int)),.fz (.int n)]) 0=.ok (.int (o4 r)) 0:=by
     refine de g0 ?_
     show (match fq (r.map int) with |some ns=>if ns.length<=1000 then some (int (o4 ns)) else none |none=>none)=_
     rw[dD]
     exact Kn (by omega)
    rw[Hl ea (aF es rfl (qG false (o4 r) n))]
    show FR.ok (.bool (decide ((o4 r:Int)=(n:Int)))) false=_
    by_cases nd:r.Nodup
    ·have:=(ur r).mpr nd
     rw[Kt (by omega),show nC n (.tuple (r.map int))=true from sO (mS hrl hr nd)]
    ·have:o4 r≠r.length:=λq=>nd ((ur r).mp q)
     rw[KA (by omega),qJ]
     intro q e pm
     have e:=uw (r:=r) e
     subst e
     exact nd (pm.nodup_iff.mpr (cN n))
  ·rw[KA (show ¬(es.length:Int)=n by omega)] at t2
   rw[kC (d:=.bool false) (b:=false) (β':=0) (by rw[kT (xr (iw t1) t2)];rfl),qJ]
   ·rfl
   ·intro r e pm
    have e:=PyData.tuple.inj e
    subst e
    have:=pm.length_eq
    rw[bM] at this
    rw[Kx] at hl
    exact hl this
end RM
namespace RM
open PySem L2
def zh (r:List Int):List Int:=(List.range r.length).map λ(a:Nat)=>((r.idxOf (a:Int):Nat):Int)
def eM (r:List Int)(k:Nat):List Int:=(List.range r.length).map λ(a:Nat)=>if r.idxOf (a:Int) < k then ((r.idxOf (a:Int):Nat):Int) else 0
def xH {n:Nat}{r:List Int}(h:r.Perm (dZ n)):eM r r.length=zh r:=by
 unfold eM zh
 refine Lw λa ha=>?_
 have hl:=h.length_eq
 rw[bM] at hl
 have:=KR.mp ha
 rw[Kn (MB.mpr (h.mem_iff.mpr (aV.mpr ⟨by omega,by omega⟩)))]
def uI (r:List Int):eM r 0=List.replicate r.length 0:=by
 unfold eM
 refine MA (by simp) λi h1 h2=>by simp
def vp {n:Nat}{r:List Int}(h:r.Perm (dZ n)){k:Nat}{x:Int}(hk:r[k]? =some x):(eM r k).set x.toNat (k:Int)=eM r (k + 1):=by
 have hl:=h.length_eq
 rw[bM] at hl
 have hx:=aV.mp (h.mem_iff.mp (KD hk))
 have nd:r.Nodup:=h.nodup_iff.mpr (cN n)
 obtain⟨hkl,hke⟩:=Kz.mp hk
 have hix:r.idxOf x=k:=by rw[<-hke];exact nd.idxOf_getElem k hkl
 unfold eM
 refine MA (by simp) λi h1 h2=>?_
 have hi:i < r.length:=by simpa using h2
 rw[List.getElem_set]
 simp only[List.getElem_map,MZ]
 by_cases e:x.toNat=i
 ·rw[Kn e]
  have ex:(i:Int)=x:=by omega
  rw[ex,hix,Kn (by omega)]
 ·rw[Ku e]
  have:r.idxOf (i:Int)≠k:=λq=>by
   have hm:(i:Int)∈r:=h.mem_iff.mpr (aV.mpr ⟨by omega,by omega⟩)
   have h3:=List.getElem_idxOf (MB.mpr hm)
   simp only[q] at h3
   rw[hke] at h3
   omega
  by_cases z:r.idxOf (i:Int) < k
  ·rw[Kn z,Kn (by omega)]
  ·rw[Ku z,Ku (by omega)]
def Bb {n:Nat}{r:List Int}(h:r.Perm (dZ n)){a:Int}(ha:0<=a/\a < n):ij (zh r) a=some ((r.idxOf a:Nat):Int):=by
 have hl:=h.length_eq
 rw[bM] at hl
 have e:(a.toNat:Int)=a:=by omega
 have:=jI (xs:=zh r) (j:=a.toNat) (v:=((r.idxOf a:Nat):Int)) (by
  unfold zh
  rw[Kv,LO (by omega)]
  simp only[Option.map_some,e])
 rw[e] at this
 exact this
def JD:List D->FR:=bt 4 1 k7
def IJ {n:Nat}{r:List Int}(h100:n<=100)(h:r.Perm (dZ n)):JD [tupI r]=.ok (.list ((zh r).map int)) true:=by
 have hl:=h.length_eq
 rw[bM] at hl
 show fin (k7 [.fz (tupI r),.no,.no,.no] 0)=_
 unfold k7
 rw[ar (env':=[.fz (tupI r),.ow (.list ((eM r 0).map int)),.no,.no]) (β':=0) ?a]
 case a=>
  have e:f2 (bI (aa (cst (.int 0)) ah)) (f1 (gv 0) di) me (vl [.fz (tupI r),.no,.no,.no]) 0=.ok (.list ((eM r 0).map int)) 0:=by
   refine aF (lp (ac (ck _) an)) (DV (ds:=r.map int) rfl) ?_
   rw[Kx,uI,List.map_replicate]
   simp only[me]
   rw[Kn ?q]
   ·congr 2
    rw[K2]
    induction r.length with
    |zero=>rfl
    |succ m ih=>first |rw[Ll,Ll,LV,ih];rfl | (simp[Ll] at ih ⊢;try exact ih)
   case q=>first | (constructor <;> first |omega | (show _<=_;simp;try omega)) | (rw[KY];simp;omega)
  rw[i9,e];rfl
 have ee:AE (gv 0) (vl [.fz (tupI r),.ow (.list ((eM r 0).map int)),.no,.no]) 0=.ok (cX (r.map int)) 0:=rfl
 obtain⟨env',β',ef,s,t,rfl,rfl⟩:=cU (t:=.two 2 3) (m:=kN 1 [2] [] (gv 2) (gv 3)) (ds:=cX (r.map int)) (k:=0)
  (λk env β=>∃s t:Sl,env= [.fz (tupI r),.ow (.list ((eM r k).map int)),s,t]/\β=0)
  (env:=[.fz (tupI r),.ow (.list ((eM r 0).map int)),.no,.no]) (β:=0) ⟨.no,.no,rfl,rfl⟩ (by
   rintro k d env β hk ⟨s,t,rfl,rfl⟩
   unfold cX at hk
   rw[MS,Kv] at hk
   cases hx:r[k]? with
   |none=>rw[hx] at hk;cases hk
   |some x=>
    rw[hx] at hk
    cases hk
    have hxm:=aV.mp (h.mem_iff.mp (KD hx))
    refine⟨[.fz (tupI r),.ow (.list ((eM r (0 + k)).map int)),.fz (.int k),.fz (.int x)],rfl,?_⟩
    rw[Lm]
    refine⟨[.fz (tupI r),.ow (.list ((eM r (k + 1)).map int)),.fz (.int k),.fz (.int x)],0,?_,_,_,rfl,rfl⟩
    rw[mV (ds:=(eM r k).map int) (d:=.int k) (k:=x) (n:=x.toNat) (β1:=0) (β2:=0) rfl (by rfl) rfl (by rfl) ?b]
    ·rw[<-vp h hx,List.map_set];rfl
    case b=>
     unfold rT
     rw[Kn hxm.1,Kn (by rw[Kx];unfold eM;simp;omega)])
 have hle:(cX (r.map int)).length=r.length:=by unfold cX;simp
 rw[Lm,hle,xH h] at ef
 rw[ar (env':=[.fz (tupI r),.ow (.list ((zh r).map int)),s,t]) (β':=0) (by
  rw[dz (env:=[.fz (tupI r),.ow (.list ((eM r 0).map int)),.no,.no]) ee]
  exact ef)]
 rfl
def Ds (l:List Pr)(r:List Int):Bool:=l.all λp=>decide (r.idxOf p.1 < r.idxOf p.2)
def Row (n:Nat)(l:List Pr)(r:List Int):Prop:=r.Perm (dZ n)/\Ds l r=true
noncomputable def Dy (n:Nat)(l:List Pr)(d:D):Bool:=@decide (∃r:List Int,d=tupI r/\Row n l r) (Classical.propDecidable _)
def wU {n:Nat}{l:List Pr}{r:List Int}(h:Row n l r):Dy n l (tupI r)=true:=@Kt _ (Classical.propDecidable _) ⟨r,rfl,h⟩
def DY {n:Nat}{l:List Pr}{d:D}(h:∀r:List Int,d=tupI r->¬Row n l r):Dy n l d=false:=@KA _ (Classical.propDecidable _) λ⟨r,e,p⟩=>h r e p
noncomputable def Iy:List D->FR:=bt 3 2 (dX xy JD)
def Ft {n:Nat}{r:List Int}(h:r.Perm (dZ n)){a b:Int}(ha:0<=a/\a < n)(hb:0<=b/\b < n){fp fa fb:VF D}{vs:List Nv}{β:Int}(hp:fp vs β=.ok (.list ((zh r).map int)) β)(h1:fa vs β=.ok (.int a) β)(h2:fb vs β=.ok (.int b) β) :
  f2 (f2 fp fa b8) (f2 fp fb b8) xG vs β=.ok (.bool (decide (r.idxOf a < r.idxOf b))) β:=by
 refine aF (aF hp h1 (show ij ((zh r).map int) a=_ by rw[c4,Bb h ha];rfl)) (aF hp h2 (show ij ((zh r).map int) b=_ by rw[c4,Bb h hb];rfl)) ?_
 show some (PyData.bool (decide (((r.idxOf a:Nat):Int) < ((r.idxOf b:Nat):Int))))=_
 congr 2
 rw[Ln,K3,K3]
 omega
theorem JK {n:Nat}{l:List Pr}{d:D}(O:OM.Ord n l)(h:Ge d):Iy [d,aH n l]=.ok (.bool (Dy n l d)) false:=by
 have h8:=O.hi
 show fin (dX xy JD [.fz d,.fz (aH n l),.no] 0)=_
 unfold dX
 have t:oB (au xy (aa (gv 0) (aa (f2 (gv 1) (cst (.int 0)) b8) ah))) (vl [.fz d,.fz (aH n l),.no]) 0=.ok (nC n d) 0:=pC (aB (ds:=[d,.int n]) (ac rfl (ac (Hd (n:=n) (l:=l) rfl) an)) (Es (by omega) h))
 cases q:nC n d with
 |false=>
  rw[q] at t
  rw[kC (d:=.bool false) (b:=false) (β':=0) (by rw[kT (iw t)];rfl),DY]
  ·rfl
  ·rintro r rfl hr
   rw[sO hr.1] at q;cases q
 |true=>
  rw[q] at t
  obtain⟨r,rfl,pm⟩:=FI q
  rw[ar (env':=[.fz (tupI r),.fz (aH n l),.no]) (β':=0) (by rw[gC (iw t)];rfl)]
  rw[ar (env':=[.fz (tupI r),.fz (aH n l),.fz (.list ((zh r).map int))]) (β':=0) (by rw[cf,aB (ds:=[tupI r]) (β1:=0) rfl (IJ (by omega) pm)];rfl)]
  have ec:bh 2 [2] (.two 0 1) (bW (f2 (gv 1) (cst (.int 1)) b8)) mF (f2 (f2 (gv 2) (gv 0) b8) (f2 (gv 2) (gv 1) b8) xG) (vl [.fz (tupI r),.fz (aH n l),.fz (.list ((zh r).map int))]) 0=.ok (.list (l.map λp=>PyData.bool (decide (r.idxOf p.1 < r.idxOf p.2)))) 0:=by
   refine gj (l:=l) (e:=aR) (λp=>PyData.bool (decide (r.idxOf p.1 < r.idxOf p.2))) rfl (by have:=mG O;omega) λp hp=>⟨_,rfl,?_⟩
   have hw:=O.wn p hp
   exact Ft pm hw.1 hw.2 rfl rfl rfl
  rw[jA,El (f:=λp=>decide (r.idxOf p.1 < r.idxOf p.2)) ec]
  show FR.ok (.bool (Ds l r)) false=_
  cases qf:Ds l r with
  |true=>rw[wU ⟨pm,qf⟩]
  |false=>
   rw[DY]
   rintro r' e hr
   have e:=uw e
   subst e
   rw[hr.2] at qf;cases qf
theorem any_ints (a:Int):∀s:List Int,((s.map int).any λe=>PyData.eqv e (.int a))=decide (a∈s)
 | []=>rfl
 |b :: s=>by
  rw[K7,ME,any_ints a s]
  show ((b == a) || _)=_
  rw[Ln]
  simp only[Bool.or_eq_true,beq_iff_eq,K3,Kq]
  exact⟨λh=>h.imp Eq.symm id,λh=>h.imp Eq.symm id⟩
def yv (s:List Int):(s.map int).all SeqAt.shaped=true:=by
 rw[LJ]
 intro d hd
 obtain⟨p,_,rfl⟩:=KC.mp hd
 rfl
def xB (neg:Bool)(a:Int)(s:List Int):Fv neg (.int a) (tupI s)=some (.bool (if neg then !decide (a∈s) else decide (a∈s))):=by
 unfold Fv tupI
 simp only[ja,yv,any_ints]
 rfl
def AF {a b:List D}(h:a.length + b.length<=1000):tV (.tuple a) (.tuple b)=some (.tuple (a ++ b)):=Kn (by rw[KY];omega)
def Jw {fa fb:VF D}{vs:List Nv}{β β1 β2:Int}{r q:List Int}(h1:fa vs β=.ok (tupI r) β1)(h2:fb vs β1=.ok (tupI q) β2)(hz:r.length + q.length<=1000):f2 fa fb tV vs β=.ok (tupI (r ++ q)) β2:=
 aF h1 h2 (by unfold tupI;rw[AF (by simpa using hz),<-Lo])
def qX (l:List Pr)(r:List Int)(x:Int):List Int:=(l.filter λp=>decide (p.2=x) && !decide (p.1∈r)).map (·.1)
def gm {l:List Pr}{r:List Int}{x a:Int}:a∈qX l r x↔(a,x)∈l/\a∉r:=by
 unfold qX
 rw[KC]
 constructor
 ·rintro⟨p,hp,rfl⟩
  have:=KQ.mp hp
  simp only[KP,K3,LM,Mc] at this
  obtain⟨pa,pb⟩:=p
  obtain⟨h1,h2,h3⟩:=this
  simp only at h2 h3
  subst h2
  exact⟨h1,h3⟩
 ·rintro⟨h1,h2⟩
  exact⟨(a,x),KQ.mpr ⟨h1,by simp[h2]⟩,rfl⟩
def yq {n:Nat}{l:List Pr}(O:OM.Ord n l)(r:List Int)(x:Int):(qX l r x).Nodup:=by
 unfold qX
 rw[Mp,LC]
 refine LP (λ{a b} ha hb h e=>h ?_) (Mp.mp ((OM.gX O.ris).filter _))
 have h1:=(KQ.mp ha).2
 have h2:=(KQ.mp hb).2
 simp only[KP,K3] at h1 h2
 exact Prod.ext e (h1.1.trans h2.1.symm)
theorem least {n:Nat}{l:List Pr}(O:OM.Ord n l)(r:List Int):∀(k:Nat) (x:Int),(0<=x/\x < n)->x∉r->(qX l r x).length<=k->∃y:Int,(0<=y/\y < n)/\y∉r/\qX l r y= []
 | 0,x,hx,hr,hk=>⟨x,hx,hr,List.length_eq_zero_iff.mp (by omega)⟩
 |k + 1,x,hx,hr,hk=>by
  by_cases he:qX l r x= []
  ·exact⟨x,hx,hr,he⟩
  ·obtain⟨a,ha⟩:=List.exists_mem_of_ne_nil _ he
   obtain⟨h1,h2⟩:=gm.mp ha
   refine least O r k a (O.wn _ h1).1 h2 ?_
   have nd:(a :: qX l r a).Nodup:=K6.mpr ⟨λq=>O.irr a (gm.mp q).1,yq O r a⟩
   have:=L2.ST.bo nd (m:=qX l r x) λy hy=>by
    rcases Kq.mp hy with rfl |hy
    ·exact ha
    ·obtain⟨q1,q2⟩:=gm.mp hy
     exact gm.mpr ⟨O.tr _ _ _ q1 h1,q2⟩
   rw[KI] at this
   omega
structure oC (n:Nat)(l:List Pr)(r:List Int):Prop where
 nd:r.Nodup
 inn:∀x,x∈r->0<=x/\x < (n:Int)
 fit:∀p,p∈l->p.2∈r->p.1∈r/\r.idxOf p.1 < r.idxOf p.2
def oC.len {n:Nat}{l:List Pr}{r:List Int}(B:oC n l r):r.length<=n:=by
 have:=L2.ST.bo B.nd (m:=dZ n) λx hx=>aV.mpr (B.inn x hx)
 rwa [bM] at this
def oC.row {n:Nat}{l:List Pr}{r:List Int}(O:OM.Ord n l)(B:oC n l r)(h:n<=r.length):Row n l r:=by
 have pm:=mS (Nat.le_antisymm B.len h) B.inn B.nd
 refine⟨pm,LJ.mpr λp hp=>Kt ?_⟩
 exact (B.fit p hp (pm.mem_iff.mpr (aV.mpr (O.wn p hp).2))).2
def cV (l:List Pr)(r:List Int)(x:Int):Bool:= !decide (x∈r) && decide (qX l r x= [])
def oC.more {n:Nat}{l:List Pr}{r:List Int}{x:Int}(B:oC n l r)(hx:0<=x/\x < (n:Int))(hf:cV l r x=true):oC n l (r ++ [x]):=by
 unfold cV at hf
 rw[KP,LM,Mc,K3] at hf
 obtain⟨h1,h2⟩:=hf
 refine⟨?_,λy hy=>?_,λp hp hm=>?_⟩
 ·rw[Na]
  refine⟨B.nd,K6.mpr ⟨by simp,Mu⟩,λa ha b hb=>?_⟩
  rw[KS] at hb
  subst hb
  exact λq=>h1 (q▸ha)
 ·rcases KU.mp hy with hy |hy
  ·exact B.inn y hy
  ·rw[KS] at hy;subst hy;exact hx
 ·rcases KU.mp hm with hm |hm
  ·obtain⟨q1,q2⟩:=B.fit p hp hm
   refine⟨LH _ q1,?_⟩
   rw[LX,LX,Kn q1,Kn hm]
   exact q2
  ·rw[KS] at hm
   have hp1:p.1∈r:=by
    by_cases z:p.1∈r
    ·exact z
    ·have:p.1∈qX l r x:=gm.mpr ⟨by rw[<-hm];exact hp,z⟩
     rw[h2] at this;cases this
   refine⟨LH _ hp1,?_⟩
   rw[LX,LX,Kn hp1,Ku (by rw[hm];exact h1)]
   have:=MB.mpr hp1
   omega
def oC.free {n:Nat}{l:List Pr}{r:List Int}(O:OM.Ord n l)(B:oC n l r)(h:r.length < n):(dZ n).filter (cV l r)≠ []:=by
 have:∃x,x∈dZ n/\x∉r:=by
  apply Classical.byContradiction
  intro z
  have:=L2.ST.bo (cN n) (m:=r) λx hx=>Classical.byContradiction λq=>z ⟨x,hx,q⟩
  rw[bM] at this
  omega
 obtain⟨x,hx,hr⟩:=this
 obtain⟨y,hy,hyr,hp⟩:=least O r _ x (aV.mp hx) hr (Km _)
 intro q
 have:y∈(dZ n).filter (cV l r):=KQ.mpr ⟨aV.mpr hy,by unfold cV;simp[hyr,hp]⟩
 rw[q] at this
 cases this
def aJ (l:List Pr)(r:List Int)(i:Nat):List Int:=(dZ i).filter (cV l r)
def AI (i:Nat):dZ (i + 1)=dZ i ++ [(i:Int)]:=by unfold dZ;rw[List.range_succ,Lo];rfl
def ll (l:List Pr)(r:List Int)(i:Nat):aJ l r (i + 1)=aJ l r i ++ if cV l r (i:Int)=true then [(i:Int)] else []:=by
 unfold aJ
 rw[AI,List.filter_append]
 congr 1
 by_cases h:cV l r (i:Int)=true
 ·rw[Kn h];simp[h]
 ·rw[Ku h];simp[h]
def jb (l:List Pr)(r:List Int)(i:Nat):(aJ l r i).length<=i:=by
 have:(aJ l r i).length<=(dZ i).length:=Mo _ _
 rwa [bM] at this
end RM
namespace RM
open PySem L2 PyProof.Rows
def mk (f:Nat->Bool):Nat->Nat
 | 0=>0
 |n + 1=>mk f n ||| if f n=true then 2 ^ n else 0
theorem cR (f:Nat->Bool):∀(n i:Nat),(mk f n).testBit i=(decide (i < n) && f i)
 | 0,i=>by simp[mk]
 |n + 1,i=>by
  unfold mk
  rw[Nat.testBit_or,cR f n i]
  by_cases h:f n=true
  ·rw[Kn h,Nat.testBit_two_pow]
   by_cases e:n=i
   ·subst e;simp[h]
   ·have e2:decide (i < n)=decide (i < n + 1):=by
     rw[LY];omega
    simp[e,e2]
  ·rw[Ku h]
   by_cases e:i=n
   ·subst e;simp[h]
   ·have e2:decide (i < n)=decide (i < n + 1):=by
     rw[LY];omega
    simp[e2]
def mk_eq {f g:Nat->Bool}{n:Nat}:mk f n=mk g n↔∀i,i < n->f i=g i:=by
 constructor
 ·intro h i hi
  have:=congrArg (λx=>x.testBit i) h
  simp only[cR,Kt hi,Bool.true_and] at this
  exact this
 ·intro h
  apply L9
  intro i
  rw[cR,cR]
  by_cases hi:i < n
  ·rw[h i hi]
  ·rw[KA hi];simp
def ie (f:Nat->Bool)(t:Nat):Nat->Bool:=λi=>f i || decide (i=t)
def DO {f:Nat->Bool}{n t:Nat}(h:t < n):mk f n ||| 2 ^ t=mk (ie f t) n:=by
 apply L9
 intro i
 rw[Nat.testBit_or,cR,cR,Nat.testBit_two_pow]
 unfold ie
 by_cases e:t=i
 ·subst e;simp[h]
 ·have e':¬i=t:=λq=>e q.symm
  simp[e,e']
def Gj {f g:Nat->Bool}{n:Nat}:(mk f n &&& mk g n=mk g n)↔∀i,i < n->g i=true->f i=true:=by
 have e:mk f n &&& mk g n=mk (λi=>f i && g i) n:=by
  apply L9
  intro i
  rw[Nat.testBit_and,cR,cR,cR]
  by_cases h:i < n
  ·simp[h]
  ·simp[h]
 rw[e,mk_eq]
 constructor
 ·intro h i hi hg
  have:=h i hi
  rw[hg,Bool.and_true] at this
  exact this
 ·intro h i hi
  cases hg:g i with
  |false=>simp
  |true=>rw[h i hi hg];rfl
def yo (a b:Nat):Builtin.bitOr (a:Int) (b:Int)=((a ||| b:Nat):Int):=by
 have h1:¬(0<=Builtin.bitNot (a:Int)):=by show ¬(0<= -(a:Int) - 1);omega
 have h2:¬(0<=Builtin.bitNot (b:Int)):=by show ¬(0<= -(b:Int) - 1);omega
 show Builtin.bitNot (Builtin.bitAnd (Builtin.bitNot a) (Builtin.bitNot b))=_
 rw[bitAnd_nn h1 h2]
 have e1:Builtin.bitNot (Builtin.bitNot (a:Int))=a:=by show -(-(a:Int) - 1) - 1=a;omega
 have e2:Builtin.bitNot (Builtin.bitNot (b:Int))=b:=by show -(-(b:Int) - 1) - 1=b;omega
 rw[e1,e2]
 show -(-((((a:Int).toNat ||| (b:Int).toNat:Nat):Int)) - 1) - 1=_
 rw[K2,K2];omega
def vK (a b:Nat):Builtin.bitAnd (a:Int) (b:Int)=((a &&& b:Nat):Int):=by
 rw[bitAnd_pp (by omega) (by omega),K2,K2]
def mI (f:Nat->Bool)(n:Nat):D:=.int ((mk f n:Nat):Int)
def zL:∀t:Nat,t < 8->vB (.int 1) (.int (t:Int))=some (.int ((2 ^ t:Nat):Int)):=by
 intro t ht
 have:t=0\/t=1\/t=2\/t=3\/t=4\/t=5\/t=6\/t=7:=by omega
 rcases this with rfl |rfl |rfl |rfl |rfl |rfl |rfl |rfl <;> rfl
def j8:List D->FR:=bt 2 2 fD
def y2 {f:Nat->Bool}{n t:Nat}(h8:n<=8)(h:t < n):j8 [mI f n,.int (t:Int)]=.ok (mI (ie f t) n) false:=by
 show fin (fD [.fz (mI f n),.fz (.int t)] 0)=_
 unfold fD
 rw[jA,aF (x:=mI f n) (y:=.int ((2 ^ t:Nat):Int)) (d:=mI (ie f t) n) (β1:=0) (β2:=0) rfl (aF (x:=.int 1) (y:=.int t) rfl rfl (zL t (by omega))) ?a]
 ·rfl
 case a=>
  show some (int (Builtin.bitOr _ _))=_
  rw[yo,DO h];rfl
def cG (n:Nat)(M:Nat->Nat->Bool):D:=.list ((List.range n).map λb=>mI (M b) n)
def cq (l:List Pr)(b a:Nat):Bool:=decide ((((a:Nat):Int),((b:Nat):Int))∈l)
def GC {n b:Nat}{M:Nat->Nat->Bool}(h:b < n):ij ((List.range n).map λb=>mI (M b) n) (b:Int)=some (mI (M b) n):=jI (by rw[Kv,LO h];rfl)
def Ei:List D->FR:=bt 4 1 (dU j8)
def orM (M:Nat->Nat->Bool)(p:Pr)(b a:Nat):Bool:=M b a || (decide ((b:Int)=p.2) && decide ((a:Int)=p.1))
def Fy {n:Nat}{M:Nat->Nat->Bool}{p:Pr}(h1:0<=p.1/\p.1 < n)(h2:0<=p.2/\p.2 < n):((List.range n).map λb=>mI (M b) n).set p.2.toNat (mI (ie (M p.2.toNat) p.1.toNat) n)=(List.range n).map λb=>mI (orM M p b) n:=by
 refine MA (by simp) λi h3 h4=>?_
 rw[List.getElem_set]
 simp only[List.getElem_map,MZ]
 unfold mI
 by_cases e:p.2.toNat=i
 ·rw[Kn e]
  congr 2
  rw[mk_eq]
  intro j hj
  unfold ie orM
  rw[e]
  have e1:((i:Nat):Int)=p.2:=by omega
  rw[Kt e1,Bool.true_and]
  congr 1
  rw[LY];omega
 ·rw[Ku e]
  congr 2
  rw[mk_eq]
  intro j hj
  unfold orM
  rw[KA (by omega:¬((i:Nat):Int)=p.2)];simp
theorem xA {n:Nat}{l:List Pr}(h8:n<=8):∀(ps:List Pr) (M:Nat->Nat->Bool) (s2 s3:Sl),OM.Wn n ps->∃M' s2' s3',kx (.two 2 3) (kN 1 (([] ++ []) ++ ([2] ++ [])) [] (au j8 (aa (f2 (gv 1) (gv 3) b8) (aa (gv 2) ah))) (gv 3)) (ps.map aR) [.fz (aH n l),.ow (cG n M),s2,s3] 0=.nx [.fz (aH n l),.ow (cG n M'),s2',s3'] 0/\∀b a,b < n->a < n->M' b a=(M b a || cq ps b a)
 | [],M,s2,s3,_=>⟨M,s2,s3,rfl,λb a _ _=>by unfold cq;simp⟩
 |p :: ps,M,s2,s3,wn=>by
  have hp:=wn p (Kr ..)
  obtain⟨M',s2',s3',e,hM⟩:=xA (l:=l) h8 ps (orM M p) (.fz (.int p.1)) (.fz (.int p.2)) λq hq=>wn q (Ko _ hq)
  refine⟨M',s2',s3',?_,λb a hb ha=>?_⟩
  ·rw[K7]
   unfold kx
   rw[show eS (.two 2 3) (aR p) [.fz (aH n l),.ow (cG n M),s2,s3]=some [.fz (aH n l),.ow (cG n M),.fz (.int p.1),.fz (.int p.2)] from rfl]
   dsimp only
   have e1:(p.2.toNat:Int)=p.2:=by omega
   have e2:(p.1.toNat:Int)=p.1:=by omega
   have ew:au j8 (aa (f2 (gv 1) (gv 3) b8) (aa (gv 2) ah)) (vl [.fz (aH n l),.ow (cG n M),.fz (.int p.1),.fz (.int p.2)]) 0=.ok (mI (ie (M p.2.toNat) p.1.toNat) n) 0:=by
    refine aB (b:=false) (ds:=[mI (M p.2.toNat) n,.int (p.1.toNat:Int)]) (ac (aF (x:=cG n M) (y:=.int p.2) rfl rfl ?_) (ac ?_ an)) (y2 h8 (by omega))
    ·have:=GC (n:=n) (M:=M) (b:=p.2.toNat) (by omega)
     rw[e1] at this
     exact this
    ·show R.ok (int p.1) 0=_
     rw[e2]
   rw[mV (ds:=(List.range n).map λb=>mI (M b) n) (d:=mI (ie (M p.2.toNat) p.1.toNat) n) (k:=p.2) (n:=p.2.toNat) (β1:=0) (β2:=0) ew (by rfl) rfl (by rfl) (by
    unfold rT
    rw[Kn hp.2.1,Kn (by simp;omega)]),Fy hp.1 hp.2]
   dsimp only
   exact e
  ·rw[hM b a hb ha]
   unfold orM cq
   obtain⟨p1,p2⟩:=p
   rw[Bool.or_assoc]
   congr 1
   rw[Ln]
   simp only[Bool.or_eq_true,KP,K3,Kq,Prod.mk.injEq]
   constructor
   ·rintro (⟨h1,h2⟩ |h)
    ·exact .inl ⟨h2,h1⟩
    ·exact .inr h
   ·rintro (⟨h1,h2⟩ |h)
    ·exact .inl ⟨h2,h1⟩
    ·exact .inr h
def yu {n:Nat}{M N:Nat->Nat->Bool}(h:∀b a,b < n->a < n->M b a=N b a):cG n M=cG n N:=by
 unfold cG
 congr 1
 refine Lw λb hb=>?_
 unfold mI
 congr 2
 rw[mk_eq]
 exact λa ha=>h b a (KR.mp hb) ha
def E5 {n:Nat}{l:List Pr}(O:OM.Ord n l):Ei [aH n l]=.ok (cG n (cq l)) true:=by
 have h8:=O.hi
 show fin (dU j8 [.fz (aH n l),.no,.no,.no] 0)=_
 unfold dU
 rw[ar (env':=[.fz (aH n l),.ow (cG n λ_ _=>false),.no,.no]) (β':=0) ?a]
 case a=>
  have e:f2 (bI (aa (cst (.int 0)) ah)) (f2 (gv 0) (cst (.int 0)) b8) me (vl [.fz (aH n l),.no,.no,.no]) 0=.ok (cG n λ_ _=>false) 0:=by
   refine aF (lp (ac (ck _) an)) (Hd (n:=n) (l:=l) rfl) ?_
   simp only[me]
   rw[Kn ⟨by omega,by omega,by rw[KY];simp;omega⟩]
   unfold cG
   congr 2
   rw[K2]
   have hz:∀m,mk (λ_=>false) m=0:=λm=>by
    induction m with
    |zero=>rfl
    |succ m ih=>unfold mk;rw[ih];simp
   unfold mI
   simp only[hz]
   have:∀m:Nat,(List.replicate m [int 0]).flatten=List.replicate m (int 0):=λm=>by
    induction m with
    |zero=>rfl
    |succ m ih=>rw[Ll,Ll,LV,ih];rfl
   rw[this]
   refine MA (by simp) λi h1 h2=>by simp
  rw[i9,e];rfl
 obtain⟨M',s2,s3,e,hM⟩:=xA (l:=l) h8 l (λ_ _=>false) .no .no O.wn
 have hm:cG n M'=cG n (cq l):=yu λb a hb ha=>by rw[hM b a hb ha];rfl
 rw[hm] at e
 rw[ar (env':=[.fz (aH n l),.ow (cG n (cq l)),s2,s3]) (β':=0) (by
  rw[dz (env:=[.fz (aH n l),.ow (cG n λ_ _=>false),.no,.no]) (ds:=l.map aR) (β1:=0) (by unfold bW;rw[Kc (n:=n) (l:=l) rfl];rfl)]
  exact e)]
 rfl
end RM
namespace RM
open PySem L2
def bD (r:List Int)(i:Nat):Bool:=decide ((i:Int)∈r)
def wM:List D->FR:=bt 5 2 (dP j8)
def A7 {n:Nat}{l:List Pr}(O:OM.Ord n l){r:List Int}{t:Nat}(ht:t < n):(!decide (mk (ie (bD r) t) n=mk (bD r) n) && decide (mk (bD r) n &&& mk (cq l t) n=mk (cq l t) n))=cV l r t:=by
 unfold cV
 congr 1
 ·congr 1
  rw[LY,mk_eq]
  constructor
  ·intro h
   have:=h t ht
   unfold ie bD at this
   simp at this
   exact this
  ·intro h i hi
   unfold ie bD
   by_cases e:i=t
   ·subst e;simp[h]
   ·simp[e]
 ·rw[LY,Gj]
  constructor
  ·intro h
   rw[List.eq_nil_iff_forall_not_mem]
   intro a ha
   obtain⟨h1,h2⟩:=gm.mp ha
   have hw:=(O.wn _ h1).1
   simp only at hw
   have e:((a.toNat:Nat):Int)=a:=by omega
   have:=h a.toNat (by omega) (by unfold cq;rw[e];exact Kt h1)
   unfold bD at this
   rw[e] at this
   exact h2 (MO this)
  ·intro h i hi hg
   unfold bD
   refine Kt (Classical.byContradiction λq=>?_)
   have:(i:Int)∈qX l r t:=gm.mpr ⟨MO hg,q⟩
   rw[h] at this;cases this
def Cf {n:Nat}{l:List Pr}(O:OM.Ord n l)(r:List Int):∃s3 s4,kx (.two 3 4) (j3 ((([1] ++ ([3] ++ [])) ++ []) ++ (([] ++ []) ++ [])) (BS (eJ (f2 (au j8 (aa (gv 1) (aa (gv 3) ah))) (gv 1) (fm true))) (eJ (f2 (f2 (gv 1) (gv 4) Ah) (gv 4) (fm false))))
  (kL 2 [3] (gv 3)) lh) (cX ((List.range n).map λb=>mI (cq l b) n)) [.fz (cG n (cq l)),.fz (mI (bD r) n),.ow (.list []),.no,.no] 0=.nx [.fz (cG n (cq l)),.fz (mI (bD r) n),.ow (.list ((aJ l r n).map int)),s3,s4] 0:=by
 have h8:=O.hi
 obtain⟨env',β',ef,s3,s4,rfl,rfl⟩:=cU (t:=.two 3 4) (m:=j3 ((([1] ++ ([3] ++ [])) ++ []) ++ (([] ++ []) ++ [])) (BS (eJ (f2 (au j8 (aa (gv 1) (aa (gv 3) ah))) (gv 1) (fm true))) (eJ (f2 (f2 (gv 1) (gv 4) Ah) (gv 4) (fm false))))
  (kL 2 [3] (gv 3)) lh) (ds:=cX ((List.range n).map λb=>mI (cq l b) n)) (k:=0)
  (λk env b=>∃s3 s4,env= [.fz (cG n (cq l)),.fz (mI (bD r) n),.ow (.list ((aJ l r k).map int)),s3,s4]/\b=0)
  (env:=[.fz (cG n (cq l)),.fz (mI (bD r) n),.ow (.list []),.no,.no]) (β:=0) ⟨.no,.no,rfl,rfl⟩ (by
   rintro k d env b hk ⟨s3,s4,rfl,rfl⟩
   unfold cX at hk
   rw[MS,Kv] at hk
   have hkn:k < n:=by
    by_cases h:k < n
    ·exact h
    ·rw[L4 (by simp;omega)] at hk;cases hk
   rw[LO hkn] at hk
   cases hk
   refine⟨[.fz (cG n (cq l)),.fz (mI (bD r) n),.ow (.list ((aJ l r (0 + k)).map int)),.fz (.int k),.fz (mI (cq l k) n)],rfl,?_⟩
   rw[Lm]
   have et:BS (eJ (f2 (au j8 (aa (gv 1) (aa (gv 3) ah))) (gv 1) (fm true))) (eJ (f2 (f2 (gv 1) (gv 4) Ah) (gv 4) (fm false))) (vl [.fz (cG n (cq l)),.fz (mI (bD r) n),.ow (.list ((aJ l r k).map int)),.fz (.int k),.fz (mI (cq l k) n)]) 0=.ok (cV l r k) 0:=by
    rw[<-A7 O hkn]
    refine uV (fV _ _ _ _ (aF (x:=mI (ie (bD r) k) n) (y:=mI (bD r) n) (aB (ds:=[mI (bD r) n,.int k]) rfl (y2 h8 hkn)) rfl ?_)) (fV _ _ _ _ (aF (x:=.int ((mk (bD r) n &&& mk (cq l k) n:Nat):Int)) (y:=mI (cq l k) n) (aF (x:=mI (bD r) n) (y:=mI (cq l k) n) rfl rfl ?_) rfl ?_))
    ·unfold mI;rw[qG,Kn rfl];congr 3;rw[LY];omega
    ·show some (int (Builtin.bitAnd _ _))=_
     rw[vK]
    ·unfold mI;rw[qG,Ku KN];congr 2;rw[LY];omega
   cases c:cV l r (k:Int) with
   |true=>
    rw[c] at et
    refine⟨[.fz (cG n (cq l)),.fz (mI (bD r) n),.ow (.list ((aJ l r (k + 1)).map int)),.fz (.int k),.fz (mI (cq l k) n)],0,?_,_,_,rfl,rfl⟩
    rw[kT et]
    have hz:=jb l r k
    rw[show bb ((([1] ++ ([3] ++ [])) ++ []) ++ (([] ++ []) ++ [])) [.fz (cG n (cq l)),.fz (mI (bD r) n),.ow (.list ((aJ l r k).map int)),.fz (.int k),.fz (mI (cq l k) n)]= [.fz (cG n (cq l)),.fz (mI (bD r) n),.ow (.list ((aJ l r k).map int)),.fz (.int k),.fz (mI (cq l k) n)] from rfl]
    rw[mz (i:=2) (ds:=(aJ l r k).map int) (d:=.int k) (β':=0) (by rfl) rfl (by rfl) (by rw[Kx];omega),ll,Kn c,Lo]
    rfl
   |false=>
    rw[c] at et
    refine⟨[.fz (cG n (cq l)),.fz (mI (bD r) n),.ow (.list ((aJ l r (k + 1)).map int)),.fz (.int k),.fz (mI (cq l k) n)],0,?_,_,_,rfl,rfl⟩
    rw[gC et,ll,c,show aJ l r k ++ (if false=true then [(k:Int)] else [])=aJ l r k by simp]
    rfl)
 have hle:(cX ((List.range n).map λb=>mI (cq l b) n)).length=n:=by unfold cX;simp
 rw[Lm,hle] at ef
 exact⟨s3,s4,ef⟩
def FY {n:Nat}{l:List Pr}(O:OM.Ord n l)(r:List Int):wM [cG n (cq l),mI (bD r) n]=.ok (.list ((aJ l r n).map int)) true:=by
 show fin (dP j8 [.fz (cG n (cq l)),.fz (mI (bD r) n),.no,.no,.no] 0)=_
 unfold dP
 rw[ar (env':=[.fz (cG n (cq l)),.fz (mI (bD r) n),.ow (.list []),.no,.no]) (β':=0) (by rw[i9,lp (ds:=[]) an];rfl)]
 obtain⟨s3,s4,e⟩:=Cf O r
 rw[ar (env':=[.fz (cG n (cq l)),.fz (mI (bD r) n),.ow (.list ((aJ l r n).map int)),s3,s4]) (β':=0) (by
  rw[dz (env:=[.fz (cG n (cq l)),.fz (mI (bD r) n),.ow (.list []),.no,.no]) (ds:=cX ((List.range n).map λb=>mI (cq l b) n)) (β1:=0) rfl]
  exact e)]
 rfl
def AY (n:Nat):mI (bD []) n=.int 0:=by
 unfold mI
 congr 1
 have:mk (bD []) n=0:=by
  induction n with
  |zero=>rfl
  |succ m ih=>unfold mk;rw[ih];simp[bD]
 rw[this];rfl
def uK {n:Nat}{r:List Int}{x:Int}(h:0<=x/\x < n):mI (ie (bD r) x.toNat) n=mI (bD (r ++ [x])) n:=by
 unfold mI
 congr 2
 rw[mk_eq]
 intro i hi
 unfold ie bD
 rw[Ln]
 simp only[Bool.or_eq_true,K3,KU,KS]
 constructor
 ·rintro (h |h)
  ·exact .inl h
  ·exact .inr (by omega)
 ·rintro (h |h)
  ·exact .inl h
  ·exact .inr (by omega)
def wV (f:Nat->Bool)(n:Nat):mk f n < 2 ^ n:=by
 apply Nat.lt_pow_two_of_testBit
 intro i hi
 rw[cR,KA (by omega)];rfl
def ofM (n m:Nat):List Int:=(dZ n).filter λx=>m.testBit x.toNat
def AD {n m:Nat}(h:m < 2 ^ n):mk (bD (ofM n m)) n=m:=by
 apply L9
 intro i
 rw[cR]
 by_cases c:i < n
 ·rw[Kt c,Bool.true_and]
  unfold bD ofM
  rw[Ln,K3,KQ]
  constructor
  ·intro h;simpa using h.2
  ·intro h;exact⟨aV.mpr ⟨by omega,by omega⟩,by simpa using h⟩
 ·rw[KA c,Bool.false_and]
  exact (Nat.testBit_lt_two_pow (KW h (Nat.pow_le_pow_right (by omega) (by omega)))).symm
def B8 {f:Nat->Bool}{n t:Nat}(ht:t < n)(hf:f t=false):mk f n < mk (ie f t) n:=by
 have h1:mk f n<=mk (ie f t) n:=by rw[<-DO ht];exact Nat.left_le_or
 have h2:mk f n≠mk (ie f t) n:=λe=>by
  have:=mk_eq.mp e t ht
  unfold ie at this
  rw[hf] at this
  simp at this
 omega
def Az (n m:Nat)(x:Int):Nat:=mk (ie (bD (ofM n m)) x.toNat) n
def DU (n m:Nat)(x:Int):Az n m x < 2 ^ n:=wV _ _
def D9 {n m:Nat}{l:List Pr}{x:Int}(hm:m < 2 ^ n)(hx:x∈aJ l (ofM n m) n):m < Az n m x:=by
 unfold aJ at hx
 obtain⟨h1,h2⟩:=KQ.mp hx
 have h1:=aV.mp h1
 unfold cV at h2
 rw[KP,LM,Mc] at h2
 have:=B8 (f:=bD (ofM n m)) (n:=n) (t:=x.toNat) (by omega) (by
  unfold bD
  rw[KA]
  rw[show ((x.toNat:Nat):Int)=x by omega]
  exact h2.1)
 rw[AD hm] at this
 exact this
def oY (n:Nat)(l:List Pr)(T:List Int)(m:Nat):Int:=((aJ l (ofM n m) n).map λx=>T.getD (Az n m x) 0).sum
structure Wt (n:Nat)(l:List Pr)(lo:Nat)(T:List Int):Prop where
 len:T.length=2 ^ n
 top:T.getD (2 ^ n - 1) 0=1
 eq:∀m,lo<=m->m < 2 ^ n - 1->T.getD m 0=oY n l T m
def je {T:List Int}{i j:Nat}{v:Int}(h:i≠j):(T.set i v).getD j 0=T.getD j 0:=by
 rw[KZ,KZ,KH h]
def Wt.step {n:Nat}{l:List Pr}{lo:Nat}{T:List Int}(W:Wt n l (lo + 1) T)(h:lo < 2 ^ n - 1):Wt n l lo (T.set lo (oY n l T lo)):=by
 have key:∀m,lo<=m->m < 2 ^ n->oY n l (T.set lo (oY n l T lo)) m=oY n l T m:=λm h1 h2=>by
  unfold oY
  congr 1
  refine Lw λx hx=>je ?_
  have:=D9 h2 hx
  omega
 refine⟨by rw[Lx];exact W.len,by rw[je (by omega)];exact W.top,λm h1 h2=>?_⟩
 rw[key m h1 (by omega)]
 by_cases c:m=lo
 ·subst c
  rw[KZ,KL (by rw[W.len];omega)];rfl
 ·rw[je (by omega)]
  exact W.eq m (by omega) h2
noncomputable def Aq:List D->FR:=bt 4 1 (jD wM j8)
def IM {n:Nat}{l:List Pr}(O:OM.Ord n l):∃T,Aq [cG n (cq l)]=.ok (.list (T.map int)) true/\Wt n l 0 T:=by
 have h8:=O.hi
 have hp:2 ^ n<=256:=Nat.pow_le_pow_right (n:=2) (by omega) h8
 have hp0:1<=2 ^ n:=Nat.one_le_two_pow
 show ∃T,fin (jD wM j8 [.fz (cG n (cq l)),.no,.no,.no] 0)=_/\_
 unfold jD
 have ef:f2 (f2 (cst (.int 1)) (f1 (gv 0) di) vB) (cst (.int 1)) lg (vl [.fz (cG n (cq l)),.no,.no,.no]) 0=.ok (.int ((2 ^ n - 1:Nat):Int)) 0:=by
  have el:f1 (gv 0) di (vl [.fz (cG n (cq l)),.no,.no,.no]) 0=.ok (.int n) 0:=by
   rw[Am (ds:=(List.range n).map λb=>mI (cq l b) n) rfl,Kx,MN]
  have es:vB (.int 1) (.int (n:Int))=some (.int ((2 ^ n:Nat):Int)):=by
   obtain⟨k,hk⟩:∃k,k=n:=⟨_,rfl⟩
   have:∀t:Nat,t < 9->vB (.int 1) (.int (t:Int))=some (.int ((2 ^ t:Nat):Int)):=by
    intro t ht
    rcases (by omega:t < 8\/t=8) with h |rfl
    ·exact zL t h
    ·rfl
   exact this n (by omega)
  refine aF (x:=.int ((2 ^ n:Nat):Int)) (y:=.int 1) (aF (x:=.int 1) (y:=.int n) rfl el es) rfl ?_
  show some (int (((2 ^ n:Nat):Int) - 1))=_
  congr 2
  omega
 rw[ar (env':=[.fz (cG n (cq l)),.fz (.int ((2 ^ n - 1:Nat):Int)),.no,.no]) (β':=0) (by rw[cf,ef];rfl)]
 generalize hF:2 ^ n - 1=F
 have hF8:F<=255:=by omega
 obtain⟨L0,hL⟩:∃L0,L0=List.replicate F (0:Int) ++ [1]:=⟨_,rfl⟩
 rw[ar (env':=[.fz (cG n (cq l)),.fz (.int ((F:Nat):Int)),.ow (.list (L0.map int)),.no]) (β':=0) ?g1]
 case g1=>
  have er:f2 (bI (aa (cst (.int 0)) ah)) (gv 1) me (vl [.fz (cG n (cq l)),.fz (.int ((F:Nat):Int)),.no,.no]) 0=.ok (.list ((List.replicate F (0:Int)).map int)) 0:=by
   refine aF (x:=.list [.int 0]) (y:=.int F) (lp (ds:=[.int 0]) (ac rfl an)) rfl ?_
   unfold me
   dsimp only
   rw[Kn ⟨by omega,by omega,by rw[KY];simp;omega⟩]
   congr 2
   simp
  have ec:f2 (f2 (bI (aa (cst (.int 0)) ah)) (gv 1) me) (bI (aa (cst (.int 1)) ah)) iQ (vl [.fz (cG n (cq l)),.fz (.int ((F:Nat):Int)),.no,.no]) 0=.ok (.list ((List.replicate F (0:Int) ++ [1]).map int)) 0:=by
   refine aF (y:=.list [.int 1]) er (lp (ds:=[.int 1]) (ac rfl an)) ?_
   rw[mE (by simp;omega),Lo];rfl
  rw[i9,ec,hL];rfl
 obtain⟨env',β',el,T,s3,rfl,rfl,W⟩:=cU (t:=.nm 3) (m:=kN 2 (([0] ++ ([3] ++ [])) ++ [3]) [] (f1 (bh 1 [2,3] (.nm 0) (bW (au wM (aa (gv 0) (aa (gv 3) ah)))) mF (f2 (gv 1) (au j8 (aa (gv 2) (aa (gv 0) ah))) b8)) oM) (gv 3)) (ds:=kH ((F:Int) - 1) F) (k:=0)
  (λk env b=>∃(T:List Int) (s3:Sl),env= [.fz (cG n (cq l)),.fz (.int ((F:Nat):Int)),.ow (.list (T.map int)),s3]/\b=0/\Wt n l (F - k) T)
  (env:=[.fz (cG n (cq l)),.fz (.int ((F:Nat):Int)),.ow (.list (L0.map int)),.no]) (β:=0)
  ⟨_,.no,rfl,rfl,by rw[hL];simp;omega,by
   rw[hL,hF,KZ,K4 (by simp)];simp,λm h1 h2=>by omega⟩ (by
   rintro k d env b hk ⟨T,s3,rfl,rfl,W⟩
   have hkF:k < F:=by have:=(Kz.mp hk).1;rwa [lj] at this
   have hd:d=.int ((F - 1 - k:Nat):Int):=by
    unfold kH at hk
    rw[Kv,LO hkF] at hk
    cases hk
    rw[show ((F - 1 - k:Nat):Int)=(F:Int) - 1 - (k:Int) by omega]
   subst hd
   rw[Lm] at W
   generalize hm:F - 1 - k=m
   rw[show F - k=m + 1 by omega] at W
   have hmN:m < 2 ^ n:=by omega
   refine⟨[.fz (cG n (cq l)),.fz (.int ((F:Nat):Int)),.ow (.list (T.map int)),.fz (.int ((m:Nat):Int))],rfl,?_⟩
   have emk:int ((m:Nat):Int)=mI (bD (ofM n m)) n:=by unfold mI;rw[AD hmN]
   have ec:bh 1 [2,3] (.nm 0) (bW (au wM (aa (gv 0) (aa (gv 3) ah)))) mF (f2 (gv 1) (au j8 (aa (gv 2) (aa (gv 0) ah))) b8) (vl [.fz (cG n (cq l)),.fz (.int ((F:Nat):Int)),.ow (.list (T.map int)),.fz (.int ((m:Nat):Int))]) 0=.ok (.list ((aJ l (ofM n m) n).map λx=>int (T.getD (Az n m x) 0))) 0:=by
    refine gj (l:=aJ l (ofM n m) n) (e:=int) (λx=>int (T.getD (Az n m x) 0)) ?_ (by have:=jb l (ofM n m) n;omega) λx hx=>⟨[.da (.int x),.da (.list (T.map int)),.da (.int ((m:Nat):Int))],rfl,?_⟩
    ·have:=aB (F:=wM) (fr:=aa (gv 0) (aa (gv 3) ah)) (vs:=vl [.fz (cG n (cq l)),.fz (.int ((F:Nat):Int)),.ow (.list (T.map int)),.fz (.int ((m:Nat):Int))]) (β:=0) (β1:=0) (ds:=[cG n (cq l),mI (bD (ofM n m)) n]) (by rw[<-emk];rfl) (FY O (ofM n m))
     unfold bW
     rw[this];rfl
    ·have hxr:=aV.mp (KQ.mp hx).1
     have ew:au j8 (aa (gv 2) (aa (gv 0) ah)) [.da (.int x),.da (.list (T.map int)),.da (.int ((m:Nat):Int))] 0=.ok (.int ((Az n m x:Nat):Int)) 0:=aB (ds:=[mI (bD (ofM n m)) n,.int (x.toNat:Int)]) (by rw[<-emk,show ((x.toNat:Nat):Int)=x by omega];rfl) (y2 h8 (by omega))
     refine aF (x:=.list (T.map int)) rfl ew ?_
     have hl:=DU n m x
     show ij (T.map int) ((Az n m x:Nat):Int)=_
     rw[c4,iA (by rw[W.len];exact hl),KZ,Kj (by rw[W.len];exact hl)];rfl
   have es:f1 (bh 1 [2,3] (.nm 0) (bW (au wM (aa (gv 0) (aa (gv 3) ah)))) mF (f2 (gv 1) (au j8 (aa (gv 2) (aa (gv 0) ah))) b8)) oM (vl [.fz (cG n (cq l)),.fz (.int ((F:Nat):Int)),.ow (.list (T.map int)),.fz (.int ((m:Nat):Int))]) 0=.ok (.int (oY n l T m)) 0:=by
    refine de ec ?_
    have e9:((aJ l (ofM n m) n).map λx=>int (T.getD (Az n m x) 0))=((aJ l (ofM n m) n).map λx=>T.getD (Az n m x) 0).map int:=by rw[My];rfl
    unfold oM
    dsimp only
    rw[e9,dD];rfl
   refine⟨[.fz (cG n (cq l)),.fz (.int ((F:Nat):Int)),.ow (.list ((T.set m (oY n l T m)).map int)),.fz (.int ((m:Nat):Int))],0,?_,_,_,rfl,rfl,?_⟩
   ·rw[mV (i:=2) (ds:=T.map int) (d:=.int (oY n l T m)) (k:=m) (n:=m) (β1:=0) (β2:=0) es (by rfl) rfl (by rfl) (by
     unfold rT
     rw[Kn (by omega),Kn (by rw[Kx,W.len];omega)];rfl),<-List.map_set];rfl
   ·rw[Lm,show F - (k + 1)=m by omega]
    exact W.step (by omega))
 rw[Lm,lj,Nat.sub_self] at W
 refine⟨T,?_,W⟩
 rw[ar (env':=[.fz (cG n (cq l)),.fz (.int ((F:Nat):Int)),.ow (.list (T.map int)),s3]) (β':=0) ?g2]
 case g2=>
  rw[dz (env:=[.fz (cG n (cq l)),.fz (.int ((F:Nat):Int)),.ow (.list (L0.map int)),.no]) (ds:=kH ((F:Int) - 1) F) (β1:=0) ?g3]
  ·exact el
  case g3=>
   show (if (rX ((F:Int) - 1) && rX (-1) && (-1:Int) == -1)=true then R.ok (kH ((F:Int) - 1) (((F:Int) - 1) - (-1)).toNat) 0 else R.bad)=_
   rw[Kn (by rw[jH (by omega) (by omega)];rfl),show (((F:Int) - 1) - (-1)).toNat=F by omega]
 rfl
theorem vU:∀{L:List Int},(∀x,x∈L->0<=x)->0<=L.sum
 | [],_=>by simp
 |x :: L,h=>by
  rw[sum_cons]
  have h1:=h x (Kr ..)
  have h2:=vU (L:=L) λy hy=>h y (Ko _ hy)
  omega
theorem BM:∀{L:List Int} {x:Int},(∀x,x∈L->0<=x)->x∈L->x<=L.sum
 |y :: L,x,h,hx=>by
  rw[sum_cons]
  have h1:=h y (Kr ..)
  have h2:=vU (L:=L) λz hz=>h z (Ko _ hz)
  rcases Kq.mp hx with rfl |hx
  ·omega
  ·have:=BM (L:=L) (λz hz=>h z (Ko _ hz)) hx
   omega
theorem Wt.nn {n:Nat}{l:List Pr}{T:List Int}(W:Wt n l 0 T):∀d m,m < 2 ^ n->2 ^ n - m<=d->0<=T.getD m 0
 | 0,m,h,hd=>by omega
 |d + 1,m,h,hd=>by
  by_cases c:m=2 ^ n - 1
  ·rw[c,W.top];omega
  ·rw[W.eq m (K5 _) (by omega)]
   refine vU λy hy=>?_
   obtain⟨x,hx,rfl⟩:=KC.mp hy
   have:=D9 h hx
   exact W.nn d _ (DU n m x) (by omega)
def bF (n:Nat)(T:List Int)(r:List Int):Int:=T.getD (mk (bD r) n) 0
def A0 {l:List Pr}{r r':List Int}(h:∀x,x∈r↔x∈r')(x:Int):cV l r x=cV l r' x:=by
 unfold cV qX
 have e1:decide (x∈r)=decide (x∈r'):=by rw[LY];exact h x
 rw[e1]
 congr 2
 simp only[h]
def AR {n:Nat}{r:List Int}(hr:∀x,x∈r->0<=x/\x < (n:Int))(x:Int):x∈r↔x∈ofM n (mk (bD r) n):=by
 unfold ofM
 rw[KQ,aV]
 constructor
 ·intro h
  have hx:=hr x h
  refine⟨hx,?_⟩
  rw[cR,Kt (by omega)]
  unfold bD
  rw[show ((x.toNat:Nat):Int)=x by omega]
  simp[h]
 ·rintro⟨hx,hb⟩
  rw[cR,Kt (by omega)] at hb
  unfold bD at hb
  rw[show ((x.toNat:Nat):Int)=x by omega] at hb
  simpa using hb
def GV {n:Nat}{r:List Int}(hr:∀x,x∈r->0<=x/\x < (n:Int)){x:Int}(hx:0<=x/\x < (n:Int)):Az n (mk (bD r) n) x=mk (bD (r ++ [x])) n:=by
 unfold Az
 rw[mk_eq]
 intro i hi
 unfold ie bD
 rw[Ln]
 simp only[Bool.or_eq_true,K3,KU,KS]
 constructor
 ·rintro (h |h)
  ·exact .inl ((AR hr _).mpr h)
  ·exact .inr (by omega)
 ·rintro (h |h)
  ·exact .inl ((AR hr _).mp h)
  ·exact .inr (by omega)
def jv {n:Nat}{l:List Pr}{r:List Int}(B:oC n l r):mk (bD r) n=2 ^ n - 1↔n<=r.length:=by
 constructor
 ·intro e
  have:(dZ n).length<=r.length:=L2.ST.bo (cN n) λx hx=>by
   have hx:=aV.mp hx
   have hb:(mk (bD r) n).testBit x.toNat=true:=by rw[e,Nat.testBit_two_pow_sub_one,Kt (by omega)]
   rw[cR,Kt (by omega)] at hb
   unfold bD at hb
   rw[show ((x.toNat:Nat):Int)=x by omega] at hb
   simpa using hb
  rw[bM] at this
  exact this
 ·intro h
  apply L9
  intro i
  rw[cR,Nat.testBit_two_pow_sub_one]
  by_cases c:i < n
  ·have hl:=B.len
   have hp:=mS (n:=n) (r:=r) (by omega) B.inn B.nd
   rw[Kt c,Bool.true_and]
   unfold bD
   rw[Kt]
   exact hp.mem_iff.mpr (aV.mpr ⟨by omega,by omega⟩)
  ·rw[KA c];rfl
def Wt.at {n:Nat}{l:List Pr}{T:List Int}{r:List Int}(W:Wt n l 0 T)(B:oC n l r)(h:r.length < n):bF n T r=((aJ l r n).map λx=>bF n T (r ++ [x])).sum:=by
 have hm:=wV (bD r) n
 have hne:RM.mk (bD r) n≠2 ^ n - 1:=λe=>by have:=(jv B).mp e;omega
 unfold bF
 rw[W.eq _ (K5 _) (by omega)]
 unfold oY
 have e1:aJ l (ofM n (RM.mk (bD r) n)) n=aJ l r n:=by
  unfold aJ
  refine List.filter_congr λx _=>(A0 (λy=>AR B.inn y) x).symm
 rw[e1]
 congr 1
 refine Lw λx hx=>?_
 rw[GV B.inn (aV.mp (KQ.mp hx).1)]
def Wt.ways0 {n:Nat}{l:List Pr}{T:List Int}(W:Wt n l 0 T)(r:List Int):0<=bF n T r:=W.nn (2 ^ n) _ (wV _ _) (Nat.sub_le _ _)
def qH {n:Nat}{l:List Pr}{r:List Int}{x:Int}(B:oC n l r)(hx:x∈aJ l r n):oC n l (r ++ [x]):=B.more (aV.mp (KQ.mp hx).1) (KQ.mp hx).2
theorem Wt.pos {n:Nat}{l:List Pr}{T:List Int}(O:OM.Ord n l)(W:Wt n l 0 T):∀(k:Nat) (r:List Int),n - r.length<=k->oC n l r->1<=bF n T r
 | 0,r,hk,B=>by
  unfold bF
  rw[(jv B).mpr (by omega),W.top];omega
 |k + 1,r,hk,B=>by
  by_cases c:r.length < n
  ·have hne:=B.free O c
   obtain⟨x,hx⟩:=List.exists_mem_of_ne_nil _ hne
   have h1:=W.pos O k (r ++ [x]) (by rw[KO,L1];omega) (qH B hx)
   rw[W.at B c]
   have:=BM (L:=(aJ l r n).map λx=>bF n T (r ++ [x])) (x:=bF n T (r ++ [x])) (λy hy=>by
    obtain⟨z,_,rfl⟩:=KC.mp hy
    exact W.ways0 _) (KC.mpr ⟨x,hx,rfl⟩)
   omega
  ·unfold bF
   rw[(jv B).mpr (by omega),W.top];omega
def Ak {n:Nat}{l:List Pr}{T r:List Int}{x:Int}(h8:n<=8)(hT:T.length=2 ^ n)(hx:0<=x/\x < (n:Int)){fw fp fx:VF D}{vs:List Nv}{β:Int}(hw:fw vs β=.ok (.list (T.map int)) β)(hp:fp vs β=.ok (mI (bD r) n) β)(hfx:fx vs β=.ok (.int x) β) :
  f2 fw (au j8 (aa fp (aa fx ah))) b8 vs β=.ok (.int (bF n T (r ++ [x]))) β:=by
 have ew:au j8 (aa fp (aa fx ah)) vs β=.ok (mI (bD (r ++ [x])) n) β:=by
  rw[<-uK hx]
  exact aB (ds:=[mI (bD r) n,.int (x.toNat:Int)]) (ac hp (ac (by rw[hfx,show ((x.toNat:Nat):Int)=x by omega]) an)) (y2 h8 (by omega))
 refine aF (x:=.list (T.map int)) hw ew ?_
 have hl:=wV (bD (r ++ [x])) n
 show ij (T.map int) ((mk (bD (r ++ [x])) n:Nat):Int)=_
 unfold bF
 rw[c4,iA (by rw[hT];exact hl),KZ,Kj (by rw[hT];exact hl)];rfl
noncomputable def IC:List D->FR:=bt 6 4 (kz wM j8)
abbrev cE (n:Nat)(l:List Pr)(T r:List Int)(a:Int)(j:Nat):En:=[.fz (cG n (cq l)),.fz (.list (T.map int)),.fz (mI (bD r) n),.fz (.int a),.fz (.list ((aJ l r n).map int)),.fz (.int ((j:Nat):Int))]
def BR (n:Nat)(l:List Pr)(T r:List Int)(x:Int):Int:=(((aJ l r n).take ((aJ l r n).idxOf x)).map λy=>bF n T (r ++ [y])).sum
def AS {L:List Int}(nd:L.Nodup){j:Nat}{x:Int}(h:L[j]? =some x):L.idxOf x=j:=by
 obtain⟨hj,e⟩:=Kz.mp h
 rw[<-e];exact nd.idxOf_getElem j hj
def JJ {n:Nat}{l:List Pr}{T r:List Int}{a:Int}(O:OM.Ord n l)(W:Wt n l 0 T)(B:oC n l r)(hlt:r.length < n)(h0:0<=a)(h1:a < bF n T r):∃x b,IC [cG n (cq l),.list (T.map int),mI (bD r) n,.int a]=.ok (.tuple [.int x,.int b]) false/\x∈aJ l r n/\(0<=b/\b < bF n T (r ++ [x]))/\a=BR n l T r x + b:=by
 have h8:=O.hi
 show ∃x b,fin (kz wM j8 [.fz (cG n (cq l)),.fz (.list (T.map int)),.fz (mI (bD r) n),.fz (.int a),.no,.no] 0)=_/\_
 unfold kz
 rw[ar (env':=[.fz (cG n (cq l)),.fz (.list (T.map int)),.fz (mI (bD r) n),.fz (.int a),.fz (.list ((aJ l r n).map int)),.no]) (β':=0) (by rw[cf,aB (ds:=[cG n (cq l),mI (bD r) n]) (β1:=0) rfl (FY O r)];rfl)]
 rw[ar (env':=cE n l T r a 0) (β':=0) (by rfl)]
 have hfl:=jb l r n
 obtain⟨env',β',ew,b,j,x,rfl,rfl,hx,hb0,hb1,hsj⟩:=iD (L:=[] ++ ([] ++ ([2] ++ (([] ++ []) ++ [])))) (t:=eJ (f2 (gv 3) (f2 (gv 1) (au j8 (aa (gv 2) (aa (f2 (gv 4) (gv 5) b8) ah))) b8) Jn))
  (m:=aE (aY 3 ([] ++ ([] ++ ([2] ++ (([] ++ []) ++ [])))) (f2 (gv 3) (f2 (gv 1) (au j8 (aa (gv 2) (aa (f2 (gv 4) (gv 5) b8) ah))) b8) lg))
   (aY 5 ([] ++ []) (f2 (gv 5) (cst (.int 1)) cy)))
  (λk env β=>∃(b:Int) (j:Nat),env=cE n l T r b j/\β=0/\k=(aJ l r n).length - j/\0<=b/\b < (((aJ l r n).drop j).map λx=>bF n T (r ++ [x])).sum/\a=(((aJ l r n).take j).map λx=>bF n T (r ++ [x])).sum + b)
  (λenv β=>∃(b:Int) (j:Nat) (x:Int),env=cE n l T r b j/\β=0/\(aJ l r n)[j]? =some x/\0<=b/\b < bF n T (r ++ [x])/\a=(((aJ l r n).take j).map λx=>bF n T (r ++ [x])).sum + b)
  (n:=1000) (k:=(aJ l r n).length) (env:=cE n l T r a 0) (β:=0) (by omega)
  ⟨a,0,rfl,rfl,rfl,h0,by rw[W.at B hlt] at h1;exact h1,by simp⟩ (by
   rintro k env β ⟨b,j,rfl,rfl,rfl,hb0,hb1,hsj⟩
   have hj:j < (aJ l r n).length:=by
    apply Classical.byContradiction
    intro hn
    rw[List.drop_eq_nil_of_le (by omega)] at hb1
    simp at hb1
    omega
   obtain⟨x,hx⟩:∃x,(aJ l r n)[j]? =some x:=⟨_,Kj hj⟩
   have hxm:x∈aJ l r n:=KD hx
   have hxr:=aV.mp (KQ.mp hxm).1
   have hdr:(aJ l r n).drop j=x :: (aJ l r n).drop (j + 1):=by
    rw[Mt hj]
    rw[Kj hj] at hx
    rw[Option.some.inj hx]
   rw[hdr,K7,sum_cons] at hb1
   have ei:∀c:Int,f2 (gv 4) (gv 5) b8 (vl (cE n l T r c j)) 0=.ok (.int x) 0:=λc=>by
    refine aF (x:=.list ((aJ l r n).map int)) (y:=.int j) rfl rfl ?_
    show ij ((aJ l r n).map int) (j:Int)=_
    rw[c4,iA hj]
    rw[Kj hj] at hx
    rw[Option.some.inj hx];rfl
   have ev:f2 (gv 1) (au j8 (aa (gv 2) (aa (f2 (gv 4) (gv 5) b8) ah))) b8 (vl (cE n l T r b j)) 0=.ok (.int (bF n T (r ++ [x]))) 0:=Ak (l:=l) h8 W.len hxr rfl rfl (ei b)
   refine⟨decide (b>=bF n T (r ++ [x])),0,fV _ _ _ _ (aF (x:=.int b) (y:=.int (bF n T (r ++ [x]))) rfl ev rfl),?_⟩
   by_cases c:b>=bF n T (r ++ [x])
   ·refine .inr ⟨Kt c,?_⟩
    show ∃env2 β2 k',aE _ _ (cE n l T r b j) 0=.nx env2 β2/\k' < (aJ l r n).length - j/\_
    rw[ar (env':=cE n l T r (b - bF n T (r ++ [x])) j) (β':=0) (by
     rw[cf,aF (x:=.int b) (y:=.int (bF n T (r ++ [x]))) (d:=.int (b - bF n T (r ++ [x]))) (β1:=0) (β2:=0) rfl ev rfl];rfl)]
    refine⟨cE n l T r (b - bF n T (r ++ [x])) (j + 1),0,(aJ l r n).length - (j + 1),?_,by omega,_,_,rfl,rfl,rfl,by omega,by omega,by rw[LW,hx,Lo,List.sum_append,show ((some x).toList.map λx=>bF n T (r ++ [x])).sum=bF n T (r ++ [x]) by simp];omega⟩
    show aY 5 ([] ++ []) (f2 (gv 5) (cst (.int 1)) cy) (cE n l T r (b - bF n T (r ++ [x])) j) 0=.nx [.fz (cG n (cq l)),.fz (.list (T.map int)),.fz (mI (bD r) n),.fz (.int (b - bF n T (r ++ [x]))),.fz (.list ((aJ l r n).map int)),.fz (.int ((j + 1:Nat):Int))] 0
    rw[show ((j + 1:Nat):Int)=(j:Int) + 1 by omega];rfl
   ·exact .inl ⟨KA c,b,j,x,rfl,rfl,hx,hb0,by omega,hsj⟩)
 have hxm:x∈aJ l r n:=KD hx
 refine⟨x,b,?_,hxm,⟨hb0,hb1⟩,by rw[BR,AS (show (aJ l r n).Nodup from (cN n).sublist MC) hx];exact hsj⟩
 have hj:=(Kz.mp hx).1
 have ei:f2 (gv 4) (gv 5) b8 (vl (cE n l T r b j)) 0=.ok (.int x) 0:=by
  refine aF (x:=.list ((aJ l r n).map int)) (y:=.int j) rfl rfl ?_
  show ij ((aJ l r n).map int) (j:Int)=_
  rw[c4,iA hj]
  rw[Kj hj] at hx
  rw[Option.some.inj hx];rfl
 rw[ar ew,jA,jS (ds:=[.int x,.int b]) (β1:=0) (ac ei (ac rfl an)) (by simp)];rfl
noncomputable def JO:List D->FR:=bt 1 1 (gp js Aq Ei)
def Dk (n:Nat)(T:List Int):bF n T []=T.getD 0 0:=by
 unfold bF
 have:mk (bD []) n=0:=by
  apply L9
  intro i
  rw[cR]
  unfold bD
  simp
 rw[this]
noncomputable def cQ (n:Nat)(l:List Pr):List Int:=Classical.epsilon λT:List Int=>Aq [cG n (cq l)]=.ok (.list (T.map int)) true/\Wt n l 0 T
def iK {n:Nat}{l:List Pr}(O:OM.Ord n l):Aq [cG n (cq l)]=.ok (.list ((cQ n l).map int)) true/\Wt n l 0 (cQ n l):=Classical.epsilon_spec (p:=λT:List Int=>Aq [cG n (cq l)]=.ok (.list (T.map int)) true/\Wt n l 0 T) (IM O)
noncomputable def ou (n:Nat)(l:List Pr):Int:=bF n (cQ n l) []
def rm (n:Nat)(l:List Pr):oC n l []:=⟨Mu,(λx hx=>by cases hx),(λp _ h=>by cases h)⟩
def Ce {n:Nat}{l:List Pr}(O:OM.Ord n l):1<=ou n l:=(iK O).2.pos O n [] (by simp) (rm n l)
def wt {n:Nat}{l:List Pr}(O:OM.Ord n l):ij ((cQ n l).map int) 0=some (.int (ou n l)):=by
 have hl:=(iK O).2.len
 have hp0:1<=2 ^ n:=Nat.one_le_two_pow
 unfold ou
 rw[Dk,show (0:Int)=((0:Nat):Int) from rfl,c4,iA (by omega),KZ,Kj (by omega)];rfl
def I0 {n:Nat}{l:List Pr}(O:OM.Ord n l):JO [aH n l]=.ok (.int (ou n l)) false:=by
 show fin (gp js Aq Ei [.fz (aH n l)] 0)=_
 unfold gp
 rw[ar (env':=[.fz (aH n l)]) (β':=0) (by rw[oz,aB (ds:=[aH n l]) (β1:=0) rfl (qq O)];rfl)]
 have e1:au Aq (aa (au Ei (aa (gv 0) ah)) ah) (vl [.fz (aH n l)]) 0=.ok (.list ((cQ n l).map int)) 0:=aB (ds:=[cG n (cq l)]) (ac (aB (ds:=[aH n l]) rfl (E5 O)) an) (iK O).1
 rw[jA,aF (y:=.int 0) (β1:=0) (β2:=0) e1 rfl (wt O)];rfl
noncomputable def Iq:List D->FR:=bt 9 2 (jF js Ei Aq c8 IC j8)
noncomputable abbrev nE (n:Nat)(l:List Pr)(d:D)(a b c e f:Sl):En:=[.fz (aH n l),.fz d,.fz (cG n (cq l)),.fz (.list ((cQ n l).map int)),a,b,c,e,f]
def B5 {n:Nat}{l:List Pr}{d:D}(O:OM.Ord n l)(h:dg d=false):oB (au c8 (aa (gv 1) (aa (f2 (gv 3) (cst (.int 0)) b8) ah))) (vl (nE n l d .no .no .no .no .no)) 0=.ok (gJ d (ou n l)) 0:=
 pC (aB (ds:=[d,.int (ou n l)]) (ac rfl (ac (aF (x:=.list ((cQ n l).map int)) (y:=.int 0) rfl rfl (wt O)) an)) (qw h))
def y1 (n:Nat)(l:List Pr)(T:List Int):List Int->List Int->Int
 |_,[]=>0
 |q,x :: xs=>BR n l T q x + y1 n l T (q ++ [x]) xs
theorem xt {n:Nat}{l:List Pr}{T:List Int}{x:Int}:∀(r q:List Int),y1 n l T q (r ++ [x])=y1 n l T q r + BR n l T (q ++ r) x
 | [],q=>by simp[y1]
 |y :: r,q=>by
  show BR n l T q y + y1 n l T (q ++ [y]) (r ++ [x])=BR n l T q y + y1 n l T (q ++ [y]) r + _
  rw[xt r,Lj,List.singleton_append];omega
def HL {n:Nat}{l:List Pr}{a:Int}(O:OM.Ord n l)(h0:0<=a)(h1:a < ou n l):∃r,Iq [aH n l,.int a]=.ok (tupI r) false/\Row n l r/\y1 n l (cQ n l) [] r=a:=by
 have h8:=O.hi
 have W:=(iK O).2
 show ∃r,fin (jF js Ei Aq c8 IC j8 [.fz (aH n l),.fz (.int a),.no,.no,.no,.no,.no,.no,.no] 0)=_/\_
 unfold jF
 rw[ar (env':=[.fz (aH n l),.fz (.int a),.no,.no,.no,.no,.no,.no,.no]) (β':=0) (by rw[oz,aB (ds:=[aH n l]) (β1:=0) rfl (qq O)];rfl)]
 rw[ar (env':=[.fz (aH n l),.fz (.int a),.fz (cG n (cq l)),.no,.no,.no,.no,.no,.no]) (β':=0) (by rw[cf,aB (ds:=[aH n l]) (β1:=0) rfl (E5 O)];rfl)]
 rw[ar (env':=nE n l (.int a) .no .no .no .no .no) (β':=0) (by rw[cf,aB (ds:=[cG n (cq l)]) (β1:=0) rfl (iK O).1];rfl)]
 have t:=B5 (d:=.int a) O rfl
 rw[show gJ (.int a) (ou n l)=true from Kt ⟨h0,h1⟩] at t
 rw[ar (env':=nE n l (.int a) .no .no .no .no .no) (β':=0) (by rw[gC (iw t)];rfl)]
 rw[ar (env':=nE n l (.int a) (.ow (.list (([]:List Int).map int))) .no .no .no .no) (β':=0) (by rw[i9,lp (ds:=[]) an];rfl)]
 rw[ar (env':=nE n l (.int a) (.ow (.list (([]:List Int).map int))) (.fz (mI (bD []) n)) .no .no .no) (β':=0) (by rw[cf,AY];rfl)]
 rw[ar (env':=nE n l (.int a) (.ow (.list (([]:List Int).map int))) (.fz (mI (bD []) n)) (.fz (.int a)) .no .no) (β':=0) (by rfl)]
 obtain⟨env',β',ef,r,b,s7,s8,rfl,rfl,B,hl,hb,hs⟩:=cU (t:=.nm 7) (m:=aE (aY 8 ([2] ++ ([3] ++ ([5] ++ ([6] ++ [])))) (au IC (aa (gv 2) (aa (gv 3) (aa (gv 5) (aa (gv 6) ah))))))
   (aE (kL 4 ([] ++ []) (f2 (gv 8) (cst (.int 0)) b8))
   (aE (aY 5 ([5] ++ (([] ++ []) ++ [])) (au j8 (aa (gv 5) (aa (f2 (gv 8) (cst (.int 0)) b8) ah))))
   (aY 6 ([] ++ []) (f2 (gv 8) (cst (.int 1)) b8))))) (ds:=cC 0 n) (k:=0)
  (λk env β=>∃(r:List Int) (b:Int) (s7 s8:Sl),env=nE n l (.int a) (.ow (.list (r.map int))) (.fz (mI (bD r) n)) (.fz (.int b)) s7 s8/\β=0/\oC n l r/\r.length=k/\(0<=b/\b < bF n (cQ n l) r)/\a=y1 n l (cQ n l) [] r + b)
  (env:=nE n l (.int a) (.ow (.list (([]:List Int).map int))) (.fz (mI (bD []) n)) (.fz (.int a)) .no .no) (β:=0) ⟨[],a,.no,.no,rfl,rfl,rm n l,rfl,⟨h0,h1⟩,by simp[y1]⟩ (by
   rintro k d env β hk ⟨r,b,s7,s8,rfl,rfl,B,hl,⟨hb0,hb1⟩,hs⟩
   obtain⟨hkn,rfl⟩:=g8 hk
   rw[Lm] at hl
   obtain⟨x,c,ec,hx,hc,hac⟩:=JJ O W B (by omega) hb0 hb1
   have hxr:=aV.mp (KQ.mp hx).1
   refine⟨nE n l (.int a) (.ow (.list (r.map int))) (.fz (mI (bD r) n)) (.fz (.int b)) (.fz (.int (0 + (k:Int)))) s8,rfl,?_⟩
   generalize int (0 + (k:Int))=dk
   rw[ar (env':=nE n l (.int a) (.ow (.list (r.map int))) (.fz (mI (bD r) n)) (.fz (.int b)) (.fz dk) (.fz (.tuple [.int x,.int c]))) (β':=0) (by
    rw[cf,aB (ds:=[cG n (cq l),.list ((cQ n l).map int),mI (bD r) n,.int b]) (β1:=0) rfl ec];rfl)]
   rw[ar (env':=nE n l (.int a) (.ow (.list ((r ++ [x]).map int))) (.fz (mI (bD r) n)) (.fz (.int b)) (.fz dk) (.fz (.tuple [.int x,.int c]))) (β':=0) (by
    rw[mz (i:=4) (ds:=r.map int) (d:=.int x) (β':=0) (by rfl) (aF (x:=.tuple [.int x,.int c]) (y:=.int 0) rfl rfl rfl) (by rfl) (by rw[Kx];omega),Lo];rfl)]
   rw[ar (env':=nE n l (.int a) (.ow (.list ((r ++ [x]).map int))) (.fz (mI (bD (r ++ [x])) n)) (.fz (.int b)) (.fz dk) (.fz (.tuple [.int x,.int c]))) (β':=0) (by
    rw[cf,aB (ds:=[mI (bD r) n,.int (x.toNat:Int)]) (β1:=0) (ac rfl (ac (aF (x:=.tuple [.int x,.int c]) (y:=.int 0) rfl rfl (by rw[show ((x.toNat:Nat):Int)=x by omega];rfl)) an)) (y2 h8 (by omega)),uK hxr];rfl)]
   refine⟨nE n l (.int a) (.ow (.list ((r ++ [x]).map int))) (.fz (mI (bD (r ++ [x])) n)) (.fz (.int c)) (.fz dk) (.fz (.tuple [.int x,.int c])),0,by rfl,r ++ [x],c,_,_,rfl,rfl,qH B hx,by rw[KO,L1];omega,hc,by rw[xt,MW];omega⟩)
 rw[Lm,hJ] at hl
 refine⟨r,?_,B.row O (by omega),?_⟩
 rotate_left
 ·have hw:bF n (cQ n l) r=1:=by unfold bF;rw[(jv B).mpr (by omega),W.top]
  omega
 rw[ar (env':=nE n l (.int a) (.ow (.list (r.map int))) (.fz (mI (bD r) n)) (.fz (.int b)) s7 s8) (β':=0) ?g]
 case g=>
  rw[dz (env:=nE n l (.int a) (.ow (.list (([]:List Int).map int))) (.fz (mI (bD []) n)) (.fz (.int a)) .no .no) (ds:=cC 0 n) (β1:=0) (jc (n:=n) (Hd (n:=n) (l:=l) rfl) (by omega))]
  exact ef
 rw[jA,de (x:=.list (r.map int)) (d:=tupI r) (β1:=0) rfl (by rfl)];rfl
def B7 (n:Nat)(l:List Pr)(T:List Int):List Int->List Int->Int
 |_,[]=>0
 |q,x :: xs=>(((aJ l q n).filter λy=>decide (y < x)).map λy=>bF n T (q ++ [y])).sum + B7 n l T (q ++ [x]) xs
noncomputable def IB:List D->FR:=bt 8 2 (jB js Iy Ei Aq wM j8)
noncomputable abbrev zr:SF:=aE (aY 7 (([2] ++ ([5] ++ [])) ++ []) (bh 1 [6] (.nm 0) (bW (au wM (aa (gv 2) (aa (gv 5) ah)))) (eJ (f2 (gv 0) (gv 1) xG)) (gv 0)))
 (aE (aY 4 ([] ++ ([] ++ [5])) (f2 (gv 4) (f1 (bh 1 [3,5] (.nm 0) (bW (gv 7)) mF (f2 (gv 1) (au j8 (aa (gv 2) (aa (gv 0) ah))) b8)) oM) cy))
 (aY 5 ([5] ++ ([6] ++ [])) (au j8 (aa (gv 5) (aa (gv 6) ah)))))
noncomputable abbrev kR (n:Nat)(l:List Pr)(d:D)(v:Int)(q:List Int)(s6 s7:Sl):En:=[.fz (aH n l),.fz d,.fz (cG n (cq l)),.fz (.list ((cQ n l).map int)),.fz (.int v),.fz (mI (bD q) n),s6,s7]
def Jv {n:Nat}{l:List Pr}{d:D}{v x:Int}{q:List Int}{s7:Sl}(O:OM.Ord n l)(hx:0<=x/\x < (n:Int)):∃t7,zr (kR n l d v q (.fz (.int x)) s7) 0=.nx (kR n l d (v + (((aJ l q n).filter λy=>decide (y < x)).map λy=>bF n (cQ n l) (q ++ [y])).sum) (q ++ [x]) (.fz (.int x)) t7) 0:=by
 have h8:=O.hi
 have W:=(iK O).2
 have hfl:=jb l q n
 unfold zr
 have e7:bh 1 [6] (.nm 0) (bW (au wM (aa (gv 2) (aa (gv 5) ah)))) (eJ (f2 (gv 0) (gv 1) xG)) (gv 0) (vl (kR n l d v q (.fz (.int x)) s7)) 0=.ok (.list (((aJ l q n).filter λy=>decide (y < x)).map int)) 0:=by
  refine kh (l:=aJ l q n) (e:=int) (λy=>decide (y < x)) int ?_ (by omega) λy hy=>⟨[.da (.int y),.da (.int x)],rfl,fV _ _ _ _ (aF (x:=.int y) (y:=.int x) rfl rfl rfl),λ_=>rfl⟩
  have:=aB (F:=wM) (fr:=aa (gv 2) (aa (gv 5) ah)) (vs:=vl (kR n l d v q (.fz (.int x)) s7)) (β:=0) (β1:=0) (ds:=[cG n (cq l),mI (bD q) n]) rfl (FY O q)
  unfold bW
  rw[this];rfl
 rw[ar (env':=kR n l d v q (.fz (.int x)) (.fz (.list (((aJ l q n).filter λy=>decide (y < x)).map int)))) (β':=0) (by rw[cf,e7];rfl)]
 have hsub:∀y,y∈((aJ l q n).filter λy=>decide (y < x))->0<=y/\y < (n:Int):=λy hy=>aV.mp (KQ.mp (KQ.mp hy).1).1
 have hln:((aJ l q n).filter λy=>decide (y < x)).length<=(aJ l q n).length:=Mo _ _
 generalize hG:((aJ l q n).filter λy=>decide (y < x))=G at hsub hln
 have ec:bh 1 [3,5] (.nm 0) (bW (gv 7)) mF (f2 (gv 1) (au j8 (aa (gv 2) (aa (gv 0) ah))) b8) (vl (kR n l d v q (.fz (.int x)) (.fz (.list (G.map int))))) 0=.ok (.list (G.map λy=>int (bF n (cQ n l) (q ++ [y])))) 0:=
  gj (l:=G) (e:=int) (λy=>int (bF n (cQ n l) (q ++ [y]))) rfl (by omega) λy hy=>⟨[.da (.int y),.da (.list ((cQ n l).map int)),.da (mI (bD q) n)],rfl,Ak (l:=l) h8 W.len (hsub y hy) rfl rfl rfl⟩
 have es:f1 (bh 1 [3,5] (.nm 0) (bW (gv 7)) mF (f2 (gv 1) (au j8 (aa (gv 2) (aa (gv 0) ah))) b8)) oM (vl (kR n l d v q (.fz (.int x)) (.fz (.list (G.map int))))) 0=.ok (.int (G.map λy=>bF n (cQ n l) (q ++ [y])).sum) 0:=by
  refine de ec ?_
  have e9:(G.map λy=>int (bF n (cQ n l) (q ++ [y])))=(G.map λy=>bF n (cQ n l) (q ++ [y])).map int:=by rw[My];rfl
  unfold oM
  dsimp only
  rw[e9,dD];rfl
 rw[ar (env':=kR n l d (v + (G.map λy=>bF n (cQ n l) (q ++ [y])).sum) q (.fz (.int x)) (.fz (.list (G.map int)))) (β':=0) (by
  rw[cf,aF (x:=.int v) (y:=.int (G.map λy=>bF n (cQ n l) (q ++ [y])).sum) (d:=.int (v + (G.map λy=>bF n (cQ n l) (q ++ [y])).sum)) (β1:=0) (β2:=0) rfl es rfl];rfl)]
 refine⟨.fz (.list (G.map int)),?_⟩
 rw[cf,aB (ds:=[mI (bD q) n,.int (x.toNat:Int)]) (β1:=0) (by rw[show ((x.toNat:Nat):Int)=x by omega];rfl) (y2 h8 (by omega)),uK hx];rfl
theorem GX {n:Nat}{l:List Pr}{d:D}(O:OM.Ord n l):∀(rest q:List Int) (v:Int) (s6 s7:Sl),(∀x,x∈rest->0<=x/\x < (n:Int))->∃t6 t7,kx (.nm 6) zr (rest.map int) (kR n l d v q s6 s7) 0=.nx (kR n l d (v + B7 n l (cQ n l) q rest) (q ++ rest) t6 t7) 0
 | [],q,v,s6,s7,_=>⟨s6,s7,by rw[show B7 n l (cQ n l) q []=0 from rfl,Int.add_zero,LF];rfl⟩
 |x :: rest,q,v,s6,s7,h=>by
  obtain⟨t7,e⟩:=Jv (d:=d) (v:=v) (q:=q) (s7:=s7) O (h x (Kr ..))
  obtain⟨u6,u7,e2⟩:=GX (d:=d) O rest (q ++ [x]) (v + (((aJ l q n).filter λy=>decide (y < x)).map λy=>bF n (cQ n l) (q ++ [y])).sum) (.fz (.int x)) t7 λy hy=>h y (Ko _ hy)
  refine⟨u6,u7,?_⟩
  rw[K7]
  conv=>lhs;unfold kx
  rw[show eS (.nm 6) (.int x) (kR n l d v q s6 s7)=some (kR n l d v q (.fz (.int x)) s7) from rfl]
  dsimp only
  rw[e]
  dsimp only
  rw[e2,show B7 n l (cQ n l) q (x :: rest)=(((aJ l q n).filter λy=>decide (y < x)).map λy=>bF n (cQ n l) (q ++ [y])).sum + B7 n l (cQ n l) (q ++ [x]) rest from rfl,Int.add_assoc,Lj];rfl
def IZ {n:Nat}{l:List Pr}{r:List Int}(O:OM.Ord n l)(hR:Row n l r):IB [aH n l,tupI r]=.ok (.int (B7 n l (cQ n l) [] r)) false:=by
 have hl:r.length=n:=by rw[hR.1.length_eq,bM]
 have h8:=O.hi
 have hG:Ge (tupI r):=Af (by rw[Kx];omega) λx hx=>by obtain⟨y,_,rfl⟩:=KC.mp hx;rfl
 show fin (jB js Iy Ei Aq wM j8 [.fz (aH n l),.fz (tupI r),.no,.no,.no,.no,.no,.no] 0)=_
 unfold jB
 rw[ar (env':=[.fz (aH n l),.fz (tupI r),.no,.no,.no,.no,.no,.no]) (β':=0) (by rw[oz,aB (ds:=[aH n l]) (β1:=0) rfl (qq O)];rfl)]
 have t:oB (au Iy (aa (gv 1) (aa (gv 0) ah))) (vl [.fz (aH n l),.fz (tupI r),.no,.no,.no,.no,.no,.no]) 0=.ok (Dy n l (tupI r)) 0:=pC (aB (ds:=[tupI r,aH n l]) rfl (JK O hG))
 rw[wU hR] at t
 rw[ar (env':=[.fz (aH n l),.fz (tupI r),.no,.no,.no,.no,.no,.no]) (β':=0) (by rw[gC (iw t)];rfl)]
 rw[ar (env':=[.fz (aH n l),.fz (tupI r),.fz (cG n (cq l)),.no,.no,.no,.no,.no]) (β':=0) (by rw[cf,aB (ds:=[aH n l]) (β1:=0) rfl (E5 O)];rfl)]
 rw[ar (env':=[.fz (aH n l),.fz (tupI r),.fz (cG n (cq l)),.fz (.list ((cQ n l).map int)),.no,.no,.no,.no]) (β':=0) (by rw[cf,aB (ds:=[cG n (cq l)]) (β1:=0) rfl (iK O).1];rfl)]
 rw[ar (env':=[.fz (aH n l),.fz (tupI r),.fz (cG n (cq l)),.fz (.list ((cQ n l).map int)),.fz (.int 0),.no,.no,.no]) (β':=0) (by rfl)]
 rw[ar (env':=kR n l (tupI r) 0 [] .no .no) (β':=0) (by unfold kR;rw[cf,AY];rfl)]
 obtain⟨t6,t7,e⟩:=GX (d:=tupI r) O r [] 0 .no .no λx hx=>aV.mp (hR.1.mem_iff.mp hx)
 rw[Mz,MW] at e
 rw[ar (env':=kR n l (tupI r) (B7 n l (cQ n l) [] r) r t6 t7) (β':=0) (by
  rw[dz (env:=kR n l (tupI r) 0 [] .no .no) (ds:=r.map int) (β1:=0) rfl]
  exact e)]
 rfl
structure WP (r:SO)(Q:SO->Prop):Prop where
 out:Q r
section
variable {m m' m1 m2:SF}{env env1:En}{β β1 β2 z:Int}{Q:SO->Prop}{f fa fb:VF D}{t:VF Bool}{d e:D}{L La Lb:List Nat}{i j:Nat}{c:Bool}
def wp_at (env1:En)(e:env=env1)(k:WP (m env1 β) Q):WP (m env β) Q:=by rw[e];exact k
def wp_seq (h:m env β=.nx env1 β1)(k:WP (m' env1 β1) Q):WP (aE m m' env β) Q:=by rw[ar h];exact k
theorem m6 (h:WP (aE m lh env β) Q):WP (m env β) Q:=by
 obtain⟨h⟩:=h
 unfold aE at h
 cases e:m env β with
 |_=>rw[e] at h;exact⟨h⟩
def lY (q:Q (.nx env β)):WP (lh env β) Q:=⟨q⟩
def iq (h:f (vl env) β=.ok d β1)(k:WP (m' ((bb L env).set i (.fz d)) β1) Q):WP (aE (aY i L f) m' env β) Q:=wp_seq (by unfold aY;rw[h];rfl) k
def Cw (h:f (vl env) β=.ok d β1)(k:WP (m' ((bb L env).set i (.ow d)) β1) Q):WP (aE (hU i L f) m' env β) Q:=wp_seq (by unfold hU;rw[h];rfl) k
def C7 (h:f (vl env) β=.ok (.list [.int z]) β1)(k:WP (m' ((o8 (bb L env)).set i .bx) z) Q):WP (aE (xo i L f) m' env β) Q:=wp_seq (by unfold xo;rw[h];rfl) k
def Fq {ds:List D}(hi:env[i]? =some (.ow (.list ds)))(h:f (vl env) β=.ok d β1)(hL:(bb L env)[i]? =some (.ow (.list ds)))(hz:ds.length<=1000)(k:WP (m' ((bb L env).set i (.ow (.list (ds ++ [d])))) β1) Q):WP (aE (kL i L f) m' env β) Q:=wp_seq (mz hi h hL hz) k
def wb (h:t (vl env) β=.ok false β1)(k:WP (m' (bb L env) β1) Q):WP (aE (j3 L t m1 lh) m' env β) Q:=wp_seq (by rw[gC h];rfl) k
def Jd (h:t (vl env) β=.ok true β1)(k:WP (m1 (bb L env) β1) Q):WP (j3 L t m1 m2 env β) Q:=by rw[kT h];exact k
def HU (h:t (vl env) β=.ok false β1)(k:WP (m2 (bb L env) β1) Q):WP (j3 L t m1 m2 env β) Q:=by rw[gC h];exact k
def E4 (h:f (vl env) β=.ok d β1)(q:Q (.rt d false β1)):WP (cj f env β) Q:=⟨by unfold cj;rw[h];exact q⟩
def FK {R:FR}(h:WP (m env β) λr=>fin r=R):fin (m env β)=R:=h.out
def nN {t:Tg}{fi:VF (List D)}{ds:List D}(I:Nat->En->Int->Prop)(hi:fi (vl env) β=.ok ds β1)(h0:I 0 (bb L env) β1)
  (hs:∀i d env β,ds[i]? =some d->I i env β->∃env1,eS t d env=some env1/\WP (m env1 β) λr=>∃env2 β2,r=.nx env2 β2/\I (i + 1) env2 β2)
  (k:∀env β,I ds.length env β->WP (m' env β) Q):WP (aE (cP t L fi m) m' env β) Q:=by
 obtain⟨env',β',e,h⟩:=cU (t:=t) (m:=m) I (ds:=ds) (k:=0) h0 λi d env β hd h=>by
  rw[Lm] at h
  obtain⟨env1,e1,⟨env2,β2,e2,h2⟩⟩:=hs i d env β hd h
  exact⟨env1,e1,env2,β2,e2,by rw[Lm];exact h2⟩
 rw[Lm] at h
 exact wp_seq ((dz hi).trans e) (k _ _ h)
end
def AG (c:Int)(hc:0<=c/\c<=100)(ns:List Int)(vs:List Nv)(β:Int)(h:gv 0 vs β=.ok (bN ns) β):∃m:Nat,m<=101/\i6 (f2 (cst (.int 1)) (f2 (f1 (gv 0) di) (cst (.int c)) (pK λi j=>.int (if j < i then j else i))) (pK λi j=>.int (if j > i then j else i))) vs β=.ok (cC 0 m) β:=by
 have e1:f2 (cst (.int 1)) (f2 (f1 (gv 0) di) (cst (.int c)) (pK λi j=>.int (if j < i then j else i))) (pK λi j=>.int (if j > i then j else i)) vs β=.ok (.int (if (if c < ((ns.map int).length:Int) then c else ((ns.map int).length:Int)) > 1 then (if c < ((ns.map int).length:Int) then c else ((ns.map int).length:Int)) else 1)) β:=
  aF (x:=.int 1) rfl (aF (x:=.int (ns.map int).length) (y:=.int c) (de h rfl) rfl rfl) rfl
 generalize ((ns.map int).length:Nat)=k at e1
 refine⟨(if (if c < (k:Int) then c else (k:Int)) > 1 then (if c < (k:Int) then c else (k:Int)) else 1).toNat,?_,jc (e1.trans ?_) ?_⟩
 ·split <;> split <;> omega
 ·congr 2
  split <;> split <;> omega
 ·split <;> split <;> omega
def It (d:D):Prop:=dg d=false/\Sq 400 8 d/\Bf d
def Th (d:D):Prop:=Ge d/\Sq 10000 9 d/\Bf d
def Ap (P:D->Prop)(k:Nat)(es:List D):Prop:=es.length<=k/\∀x,x∈es->P x
abbrev Al:Nat->List D->Prop:=Ap It
def BU.it {d:D}(h:BU d):It d:=⟨h.scr,h.sq.mono (by omega) (by omega),h.bf⟩
def FH {i:Int}(h: -1<=i/\i<=9):It (.int i):=(wQ h).it
def Ap.take {P:D->Prop}{k:Nat}{a:List D}(h:Ap P k a)(n:Nat):Ap P k (a.take n):=⟨by have:=h.1;rw[LI];omega,λx hx=>h.2 x (L6 hx)⟩
def Ap.drop {P:D->Prop}{k:Nat}{a:List D}(h:Ap P k a)(n:Nat):Ap P k (a.drop n):=⟨by have:=h.1;rw[List.length_drop];omega,λx hx=>h.2 x (List.mem_of_mem_drop hx)⟩
def Dq {k:Nat}{r:List Int}(hl:r.length<=k)(h:∀x,x∈r->0<=x/\x < 9):Al k (r.map int):=⟨by rw[Kx];exact hl,λx hx=>by
 obtain⟨y,hy,rfl⟩:=KC.mp hx
 exact FH (by have:=h y hy;omega)⟩
def Ap.tup {k:Nat}{a:List D}(h:Al k a)(hk:k<=24):Th (.tuple a):=by
 have:=h.1
 refine⟨Af (by omega) λx hx=>(h.2 x hx).1,(BO (c:=400) (k:=8) λd hd=>(h.2 d hd).2.1).mono ?_ (by omega),AN λd hd=>(h.2 d hd).2.2⟩
 have:(400 + 2) * a.length<=402 * 24:=L5 (by omega) (by omega)
 omega
def Ap.lst {k:Nat}{a:List D}(h:Al k a)(hk:k<=24):Th (.list a):=by
 have:=h.1
 refine⟨⟨rfl,λes' e=>by cases e⟩,(FC (c:=400) (k:=8) λd hd=>(h.2 d hd).2.1).mono ?_ (by omega),F0 λd hd=>(h.2 d hd).2.2⟩
 have:(400 + 2) * a.length<=402 * 24:=L5 (by omega) (by omega)
 omega
def Gp {r:List Int}(hl:r.length<=9)(h:∀x,x∈r->0<=x/\x < 9):It (tupI r):=by
 have sm:∀d,d∈r.map int->BU d:=λd hd=>by
  obtain⟨y,hy,rfl⟩:=KC.mp hd
  exact wQ (by have:=h y hy;omega)
 refine⟨rfl,(BO (c:=20) (k:=0) λd hd=>(sm d hd).sq).mono ?_ (by omega),AN λd hd=>(sm d hd).bf⟩
 rw[Kx]
 have:(20 + 2) * r.length<=22 * 9:=L5 (by omega) hl
 omega
def Hh {n:Nat}{r:List Int}(h8:n<=8)(hp:r.Perm (dZ n)):r.length=n/\∀x,x∈r->0<=x/\x < 9:=⟨by rw[hp.length_eq,bM],λx hx=>by have:=aV.mp (hp.mem_iff.mp hx);omega⟩
def Bz {ds:List D}{k:Nat}(h:k < ds.length):∃d,ds[k]? =some d/\d∈ds/\ij ds (k:Int)=some d:=⟨ds[k],Kj h,LB h,jI (Kj h)⟩
def HZ {fa fb:VF D}{vs:List Nv}{β β1 β2:Int}{a b:List D}(h1:fa vs β=.ok (.list a) β1)(h2:fb vs β1=.ok (.list b) β2)(hz:a.length + b.length<=1000):f2 fa fb iQ vs β=.ok (.list (a ++ b)) β2:=aF h1 h2 (mE (by omega))
def ext (n:Nat)(l:List Pr)(r:List Int):List (List Int):=(aJ l r n).map λx=>r ++ [x]
def lvl (n:Nat)(l:List Pr):Nat->List (List Int)
 | 0=>[[]]
 |k + 1=>(lvl n l k).flatMap (ext n l)
def B4 {n:Nat}{l:List Pr}{r q:List Int}(h:q∈ext n l r):∃x,x∈aJ l r n/\q=r ++ [x]:=let ⟨x,h1,h2⟩:=KC.mp h;⟨x,h1,h2.symm⟩
theorem mL {n:Nat}{l:List Pr}:∀{k:Nat} {r:List Int},r∈lvl n l k->oC n l r/\r.length=k
 | 0,r,h=>by
  rw[lvl,KS] at h
  subst h
  exact⟨⟨Mu,(λx hx=>by cases hx),(λp _ h=>by cases h)⟩,rfl⟩
 |k + 1,r,h=>by
  rw[lvl,List.mem_flatMap] at h
  obtain⟨q,hq,hr⟩:=h
  obtain⟨x,hx,rfl⟩:=B4 hr
  obtain⟨B,hk⟩:=mL hq
  exact⟨B.more (aV.mp (KQ.mp hx).1) (KQ.mp hx).2,by rw[KO,hk];rfl⟩
def EW {n:Nat}{l:List Pr}{r:List Int}(B:oC n l r):(aJ l r n).length<=n - r.length:=by
 have nd:(aJ l r n ++ r).Nodup:=by
  rw[Na]
  refine⟨(cN n).sublist MC,B.nd,λa ha b hb e=>?_⟩
  subst e
  have:=(KQ.mp ha).2
  unfold cV at this
  rw[KP,LM,Mc] at this
  exact this.1 hb
 have:=L2.ST.bo nd (m:=dZ n) λx hx=>(KU.mp hx).elim (λh=>(KQ.mp h).1) λh=>aV.mpr (B.inn x h)
 rw[KO,bM] at this
 omega
def ID (n:Nat):Nat->Nat
 | 0=>1
 |k + 1=>ID n k * (n - k)
theorem sS {n:Nat}{l:List Pr}{c:Nat}:∀{L:List (List Int)},(∀r,r∈L->(ext n l r).length<=c)->(L.flatMap (ext n l)).length<=L.length * c
 | [],_=>by simp
 |r :: L,h=>by
  rw[MM,KO,KI,Nat.succ_mul]
  have h1:=h r (Kr ..)
  have h2:=sS (L:=L) λq hq=>h q (Ko _ hq)
  omega
def Dp {n:Nat}{l:List Pr}{k:Nat}{r:List Int}(h:r∈lvl n l k):(ext n l r).length<=n - k:=by
 obtain⟨B,hk⟩:=mL h
 unfold ext
 rw[Kx,<-hk]
 exact EW B
theorem rh {n:Nat}{l:List Pr}:∀k,(lvl n l k).length<=ID n k
 | 0=>Km _
 |k + 1=>by
  rw[lvl,ID]
  exact Ls (sS (c:=n - k) λr hr=>Dp hr) (Nat.mul_le_mul_right _ (rh k))
def D5:∀n,n < 7->∀k,k < 8->ID n k<=720:=by decide +kernel
noncomputable def vT:List D->FR:=bt 7 1 eH
def yC {n:Nat}{l:List Pr}{L:List (List Int)}{j:Nat}{r:List Int}(h:L[j]? =some r):(L.take (j + 1)).flatMap (ext n l)=(L.take j).flatMap (ext n l) ++ ext n l r:=by
 rw[LW,h]
 simp
def x8 {n:Nat}{l:List Pr}(L:List (List Int))(j:Nat):((L.take j).flatMap (ext n l)).length<=(L.flatMap (ext n l)).length:=by
 have:L.flatMap (ext n l)=(L.take j).flatMap (ext n l) ++ (L.drop j).flatMap (ext n l):=by rw[<-List.flatMap_append,Ml]
 rw[this,KO]
 omega
def Ca {n:Nat}{l:List Pr}(O:OM.Ord n l)(h6:n<=6):∃b,vT [aH n l]=.ok (.list ((lvl n l n).map tupI)) b:=by
 show ∃b,fin (eH [.fz (aH n l),.no,.no,.no,.no,.no,.no] 0)=_
 have hl:=mG O
 have bd:∀k,k<=n->(lvl n l k).length<=720:=λk hk=>Ls (rh k) (D5 n (by omega) k (by omega))
 suffices h:WP (eH [.fz (aH n l),.no,.no,.no,.no,.no,.no] 0) λs=>∃b,fin s=.ok (.list ((lvl n l n).map tupI)) b from h.out
 unfold eH
 refine iq (lp (ds:=[tupI []]) (ac (tp an) an)) ?_
 refine nN (λk env _=>∃s2 s3 s4 s5 s6,env= [.fz (aH n l),.fz (.list ((lvl n l k).map tupI)),s2,s3,s4,s5,s6]) (jc (n:=n) (Hd (n:=n) (l:=l) rfl) (by omega)) ⟨_,_,_,_,_,rfl⟩ ?_ ?_
 ·rintro k d env β hk ⟨s2,s3,s4,s5,s6,rfl⟩
  obtain⟨hkn,rfl⟩:=g8 hk
  refine⟨[.fz (aH n l),.fz (.list ((lvl n l k).map tupI)),.fz (.int (0 + k)),s3,s4,s5,s6],rfl,?_⟩
  refine Cw (lp (ds:=[]) an) ?_
  generalize Sl.fz (int (0 + (k:Int)))=u2
  refine nN (ds:=(lvl n l k).map tupI) (λj env _=>∃s4 s5 s6,env= [.fz (aH n l),.fz (.list ((lvl n l k).map tupI)),u2,.ow (.list ((((lvl n l k).take j).flatMap (ext n l)).map tupI)),s4,s5,s6]) rfl ⟨s4,s5,s6,rfl⟩ ?_ ?_
  ·rintro j d env β hj ⟨s4,s5,s6,rfl⟩
   rw[Kv] at hj
   cases hr:(lvl n l k)[j]? with
   |none=>rw[hr] at hj;cases hj
   |some r=>
    rw[hr] at hj
    cases hj
    have hm:=KD hr
    obtain⟨B,hb⟩:=mL hm
    have hA:(((lvl n l k).take j).flatMap (ext n l)).length<=720:=Ls (x8 _ _) (bd (k + 1) (by omega))
    rw[yC hr]
    generalize ((lvl n l k).take j).flatMap (ext n l)=A at hA
    refine⟨[.fz (aH n l),.fz (.list ((lvl n l k).map tupI)),u2,.ow (.list (A.map tupI)),.fz (tupI r),s5,s6],rfl,?_⟩
    refine m6 (nN (λt env _=>∃s5 s6,env= [.fz (aH n l),.fz (.list ((lvl n l k).map tupI)),u2,.ow (.list ((A ++ (aJ l r t).map λx=>r ++ [x]).map tupI)),.fz (tupI r),s5,s6]) (jc (n:=n) (Hd (n:=n) (l:=l) rfl) (by omega)) ⟨s5,s6,by have e0:A ++ (aJ l r 0).map (λx=>r ++ [x])=A:=LF A;rw[e0];rfl⟩ ?_ ?_)
    ·rintro t d env β ht ⟨s5,s6,rfl⟩
     obtain⟨htn,rfl⟩:=g8 ht
     rw[Mz]
     have hz:=jb l r t
     have hzA:(A ++ (aJ l r t).map λx=>r ++ [x]).length<=800:=by rw[KO,Kx];omega
     have es:A ++ (aJ l r (t + 1)).map (λx=>r ++ [x])=(A ++ (aJ l r t).map λx=>r ++ [x]) ++ if cV l r (t:Int)=true then [r ++ [(t:Int)]] else []:=by
      rw[ll,Lo,<-Lj]
      congr 1
      split <;> rfl
     rw[es]
     generalize (A ++ (aJ l r t).map λx=>r ++ [x])=A' at hzA
     refine⟨[.fz (aH n l),.fz (.list ((lvl n l k).map tupI)),u2,.ow (.list (A'.map tupI)),.fz (tupI r),.fz (.int t),s6],rfl,?_⟩
     refine iq (d:=.list ((qX l r t).map int)) (β1:=β) ?_ ?_
     ·unfold qX
      rw[My]
      refine kh (l:=l) (e:=aR) (λp=>decide (p.2=(t:Int)) && !decide (p.1∈r)) (λp=>int p.1) rfl (by omega) λp hp=>⟨_,rfl,?_,λ_=>rfl⟩
      refine uV (fB (neg:=false) (i:=p.2) (j:=t) rfl rfl) ?_
      exact fV _ _ _ _ (aF (x:=.int p.1) (y:=tupI r) rfl rfl (xB true p.1 r))
     have et:BS (eJ (f2 (gv 5) (gv 4) (Fv true))) (eJ (f2 (gv 6) (bI ah) (fm false))) (vl [.fz (aH n l),.fz (.list ((lvl n l k).map tupI)),u2,.ow (.list (A'.map tupI)),.fz (tupI r),.fz (.int t),.fz (.list ((qX l r t).map int))]) β=.ok (cV l r t) β:=
      uV (fV _ _ _ _ (aF (x:=.int t) (y:=tupI r) rfl rfl (xB true t r))) (fV _ _ _ _ (aF (x:=.list ((qX l r t).map int)) (y:=.list (([]:List Int).map int)) rfl (lp (ds:=[]) an) (tf false _ _)))
     cases c:cV l r (t:Int) with
     |true=>
      rw[c] at et
      have hrl:=B.len
      refine Jd et (m6 (Fq (ds:=A'.map tupI) (d:=tupI (r ++ [(t:Int)])) (β1:=β) rfl ?_ rfl (by rw[Kx];omega) (lY ⟨_,_,rfl,.fz (.int t),.fz (.list ((qX l r t).map int)),?_⟩)))
      ·exact Jw (r:=r) (q:=[(t:Int)]) rfl (tp (ds:=[.int t]) (ac rfl an)) (by simp;omega)
      ·rw[Kn rfl,Lo];rfl
     |false=>
      rw[c] at et
      refine HU et (lY ⟨_,_,rfl,.fz (.int t),.fz (.list ((qX l r t).map int)),?_⟩)
      rw[Ku (by simp),LF A'];rfl
    ·rintro env β ⟨s5,s6,rfl⟩
     rw[hJ]
     exact lY ⟨_,_,rfl,_,_,_,rfl⟩
  ·rintro env β ⟨s4,s5,s6,rfl⟩
   refine m6 (iq (d:=.list ((lvl n l (k + 1)).map tupI)) (β1:=β) ?_ (lY ⟨_,_,rfl,_,_,_,_,_,rfl⟩))
   rw[Kx,List.take_length]
   rfl
 ·rintro env β ⟨s2,s3,s4,s5,s6,rfl⟩
  rw[hJ]
  exact⟨⟨_,rfl⟩⟩
section
variable {m m' m1 m2:SF}{env env1:En}{β β1 β2 z:Int}{Q:SO->Prop}{f fa fb:VF D}{t:VF Bool}{d e:D}{L La Lb:List Nat}{i j:Nat}{c:Bool}
theorem FF (J:En->Int->Prop)(h:∃c β1,t (vl env) β=.ok c β1/\(c=true->WP (m1 (bb L env) β1) λs=>∃env2 β2,s=.nx env2 β2/\J env2 β2)/\(c=false->WP (m2 (bb L env) β1) λs=>∃env2 β2,s=.nx env2 β2/\J env2 β2))(k:∀env β,J env β->WP (m' env β) Q):WP (aE (j3 L t m1 m2) m' env β) Q:=by
 obtain⟨c,β1,e,h1,h2⟩:=h
 cases c with
 |true=>obtain⟨env2,β2,e2,hj⟩:=(h1 rfl).out;exact wp_seq ((kT e).trans e2) (k _ _ hj)
 |false=>obtain⟨env2,β2,e2,hj⟩:=(h2 rfl).out;exact wp_seq ((gC e).trans e2) (k _ _ hj)
end
def Ig (d:D):Prop:=Ge d/\Sq 400 8 d/\Bf d
def Gg {r:List Int}(hl:r.length<=9)(h:∀x,x∈r->0<=x/\x < 9):Ig (tupI r):=⟨(Dq (k:=9) hl h).tup (by omega) |>.1,(Gp hl h).2⟩
def wN {n:Nat}{l:List Pr}{q s:List Int}(h:Row n l (q ++ s)):oC n l q:=by
 obtain⟨pm,hf⟩:=h
 have nd:(q ++ s).Nodup:=pm.nodup_iff.mpr (cN n)
 refine⟨nd.sublist (List.sublist_append_left q s),λx hx=>aV.mp (pm.mem_iff.mp (LH _ hx)),λp hp hm=>?_⟩
 unfold Ds at hf
 have:=MO (LJ.mp hf p hp)
 rw[LX,LX,Kn hm] at this
 have h2:=MB.mpr hm
 by_cases c:p.1∈q
 ·rw[Kn c] at this;exact⟨c,this⟩
 ·rw[Ku c] at this;omega
def tj {n:Nat}{l:List Pr}{q s:List Int}{x:Int}(h:Row n l (q ++ x :: s)):x∈aJ l q n:=by
 have B:oC n l (q ++ [x]):=wN (s:=s) (by rw[Lj];exact h)
 have hx:x∉q:=λhq=>(Na.mp B.nd).2.2 x hq x (KS.mpr rfl) rfl
 refine KQ.mpr ⟨aV.mpr (B.inn x (by simp)),?_⟩
 unfold cV
 rw[KP,LM,Mc,K3]
 refine⟨hx,List.eq_nil_iff_forall_not_mem.mpr λy hy=>?_⟩
 obtain⟨h1,h2⟩:=gm.mp hy
 obtain⟨h3,h4⟩:=B.fit (y,x) h1 (by simp)
 rw[LX,LX,Ku h2,Ku hx] at h4
 simp at h4;omega
def rf (n:Nat)(l:List Pr):Nat->List Int->List (List Int)
 | 0,q=>[q]
 |k + 1,q=>(aJ l q n).flatMap λx=>rf n l k (q ++ [x])
theorem BA {n:Nat}{l:List Pr}:∀(j k:Nat),(lvl n l k).flatMap (rf n l j)=lvl n l (k + j)
 | 0,k=>by
  show (lvl n l k).flatMap (λq=>[q])=lvl n l k
  simp
 |j + 1,k=>by
  have h:=BA (n:=n) (l:=l) j (k + 1)
  rw[show k + 1 + j=k + (j + 1) by omega] at h
  rw[<-h]
  show _=((lvl n l k).flatMap (ext n l)).flatMap (rf n l j)
  rw[List.flatMap_assoc]
  congr 1
  funext q
  show (aJ l q n).flatMap (λx=>rf n l j (q ++ [x]))=((aJ l q n).map λx=>q ++ [x]).flatMap (rf n l j)
  rw[List.flatMap_map]
def rL (n:Nat)(l:List Pr):lvl n l n=rf n l n []:=by
 have h:=BA (n:=n) (l:=l) n 0
 rw[Lm] at h
 rw[<-h]
 show [[]].flatMap (rf n l n)=_
 simp
theorem mP {f:Int->List (List Int)}{g:Int->Int}:∀{L:List Int},(∀x,x∈L->((f x).length:Int)=g x)->((L.flatMap f).length:Int)=(L.map g).sum
 | [],_=>rfl
 |x :: L,h=>by
  rw[MM,KO,K7,sum_cons,<-h x (Kr ..),<-mP λy hy=>h y (Ko _ hy)]
  omega
theorem uL {n:Nat}{l:List Pr}{T:List Int}(W:Wt n l 0 T):∀(k:Nat) (q:List Int),q.length + k=n->oC n l q->((rf n l k q).length:Int)=bF n T q
 | 0,q,hk,B=>by
  unfold bF
  rw[(jv B).mpr (by omega),W.top];rfl
 |k + 1,q,hk,B=>by
  rw[W.at B (by omega)]
  exact mP λx hx=>uL W k (q ++ [x]) (by rw[KO,L1];omega) (qH B hx)
theorem DT {n:Nat}{l:List Pr}{T:List Int}(W:Wt n l 0 T):∀(s q:List Int),Row n l (q ++ s)->∃i:Nat,(i:Int)=y1 n l T q s/\(rf n l s.length q)[i]? =some (q ++ s)
 | [],q,h=>⟨0,rfl,by rw[LF];rfl⟩
 |x :: s,q,h=>by
  have hl:=h.1.length_eq
  rw[bM,KO,KI] at hl
  have B:=wN h
  have h':Row n l ((q ++ [x]) ++ s):=by rw[Lj];exact h
  obtain⟨i,e1,e2⟩:=DT W s (q ++ [x]) h'
  obtain⟨j,hj⟩:=List.mem_iff_getElem?.mp (tj h)
  have ej:=AS (show (aJ l q n).Nodup from (cN n).sublist MC) hj
  have hjl:=(Kz.mp hj).1
  have hs:aJ l q n=(aJ l q n).take j ++ x :: (aJ l q n).drop (j + 1):=by
   rw[show x :: (aJ l q n).drop (j + 1)=(aJ l q n).drop j by
    rw[Mt hjl]
    rw[Kj hjl] at hj
    rw[Option.some.inj hj],Ml]
  have hlen:((((aJ l q n).take j).flatMap λx=>rf n l s.length (q ++ [x])).length:Int)=BR n l T q x:=by
   rw[BR,ej]
   exact mP λy hy=>uL W _ (q ++ [y]) (by rw[KO,L1];omega) (qH B (L6 hy))
  refine⟨(((aJ l q n).take j).flatMap λx=>rf n l s.length (q ++ [x])).length + i,?_,?_⟩
  ·show _=BR n l T q x + y1 n l T (q ++ [x]) s
   omega
  ·show ((aJ l q n).flatMap λx=>rf n l s.length (q ++ [x]))[_]? =_
   have ef:((aJ l q n).flatMap λx=>rf n l s.length (q ++ [x]))=(((aJ l q n).take j).flatMap λx=>rf n l s.length (q ++ [x])) ++ (rf n l s.length (q ++ [x]) ++ ((aJ l q n).drop (j + 1)).flatMap λx=>rf n l s.length (q ++ [x])):=by
    conv=>lhs;rw[hs]
    rw[List.flatMap_append,MM]
   rw[ef,K4 (by omega),Nat.add_sub_cancel_left,K9 (Kz.mp e2).1,e2,Lj];rfl
theorem xh:∀(q a b:List Int),ST.ko (q ++ a) (q ++ b)=ST.ko a b
 | [],_,_=>rfl
 |x :: q,a,b=>by
  show (if x=x then ST.ko (q ++ a) (q ++ b) else _)=_
  rw[Kn rfl,xh q]
theorem uZ {n:Nat}{l:List Pr}:∀{k:Nat} {q r:List Int},r∈rf n l k q->∃s,r=q ++ s
 | 0,q,r,h=>⟨[],by rw[LF];exact KS.mp h⟩
 |k + 1,q,r,h=>by
  obtain⟨x,_,hr⟩:=List.mem_flatMap.mp h
  obtain⟨s,rfl⟩:=uZ hr
  exact⟨x :: s,by rw[Lj];rfl⟩
def EX (n:Nat):(dZ n).Pairwise (· < ·):=by
 unfold dZ
 exact List.Pairwise.map _ (λa b h=>by omega) List.pairwise_lt_range
def Ea (l:List Pr)(q:List Int)(n:Nat):(aJ l q n).Pairwise (· < ·):=(EX n).sublist MC
theorem Ac {n:Nat}{l:List Pr}:∀(k:Nat) (q:List Int),(rf n l k q).Pairwise λa b=>ST.ko b a=false
 | 0,q=>List.pairwise_singleton ..
 |k + 1,q=>by
  refine List.pairwise_flatMap.mpr ⟨λx _=>Ac k _,(Ea l q n).imp λ{x y} hxy a ha b hb=>?_⟩
  obtain⟨s,rfl⟩:=uZ ha
  obtain⟨t,rfl⟩:=uZ hb
  rw[Lj,Lj,xh]
  show (if y=x then _ else decide (y < x))=false
  rw[Ku (by omega)];exact KA (by omega)
theorem zw {m:Nat}(h1:1<=m):∀{rs:List (List Int)},(∀r,r∈rs->r.length=m)->(rs.Pairwise λa b=>ST.ko b a=false)->o6 rs=true
 | [],_,_=>rfl
 | [r],h,_=>by
  have:=h r (Kr ..)
  show (!r.isEmpty)=true
  cases r with
  |nil=>simp at this;omega
  |cons _ _=>rfl
 |r :: q :: rs,h,p=>by
  have e1:=h r (Kr ..)
  have e2:=h q (by simp)
  have hp:=MH.mp p
  unfold o6
  rw[zw h1 (λx hx=>h x (Ko _ hx)) hp.2,hp.1 q (Kr ..),Kt (e1.trans e2.symm)]
  cases r with
  |nil=>simp at e1;omega
  |cons _ _=>rfl
theorem tI {x:Int}:∀{L:List Int},L.Pairwise (· < ·)->x∈L->L.filter (λy=>decide (y < x))=L.take (L.idxOf x)
 |a :: L,p,hx=>by
  have hp:=MH.mp p
  by_cases c:a=x
  ·subst c
   rw[List.idxOf_cons_self,List.take_zero,filter_cons,Ku (by simp)]
   exact List.filter_eq_nil_iff.mpr λy hy=>by have:=hp.1 y hy;simp;omega
  ·have hx:x∈L:=(Kq.mp hx).resolve_left λz=>c z.symm
   have:=hp.1 x hx
   rw[filter_cons,Kn (by simpa using this),List.idxOf_cons,show (a == x)=false by simpa using c,tI hp.2 hx];rfl
theorem DH {n:Nat}{l:List Pr}{T:List Int}:∀(s q:List Int),Row n l (q ++ s)->B7 n l T q s=y1 n l T q s
 | [],_,_=>rfl
 |x :: s,q,h=>by
  show (((aJ l q n).filter λy=>decide (y < x)).map λy=>bF n T (q ++ [y])).sum + B7 n l T (q ++ [x]) s=BR n l T q x + y1 n l T (q ++ [x]) s
  rw[DH s (q ++ [x]) (by rw[Lj];exact h),tI (Ea l q n) (tj h)];rfl
def C6 {r:List Int}(hl:r.length<=9)(h:∀x,x∈r->0<=x/\x < 9):pj (tupI r)=some (.str (tupI r).shown):=by
 have hc:(tupI r).canLay0=true:=by unfold tupI;simp only[PyData.canLay0];exact lay_ints r
 obtain⟨h1,h2,h3⟩:=(Gg hl h).2.1
 unfold pj
 exact Kn ⟨h1,PyData.hasDict_of_canLay _ hc,by omega,by rw[KY];omega,rQ _ hc⟩
theorem AO:∀rs:List (List Int),j4 (rs.map tupI)=some rs
 | []=>rfl
 |r :: rs=>by
  rw[K7]
  unfold j4 tupI
  dsimp only
  rw[show fq (r.map int)=some r from dD r,show j4 (rs.map λns=>PyData.tuple (ns.map int))=some rs from AO rs]
def zq {n:Nat}{l:List Pr}(O:OM.Ord n l):qK (.list ((lvl n l n).map tupI))=some (.list ((lvl n l n).map tupI)):=by
 have ha:o6 (lvl n l n)=true:=zw O.lo (λr hr=>(mL hr).2) (by rw[rL];exact Ac n [])
 show (match j4 ((lvl n l n).map tupI) with |some rs=>if o6 rs=true then some (PyData.list ((lvl n l n).map tupI)) else none |none=>none)=_
 rw[AO]
 dsimp only
 rw[Kn ha]
def CU {n:Nat}{l:List Pr}{a:Int}(O:OM.Ord n l)(h0:0<=a)(h1:a < ou n l):∃r,ij ((lvl n l n).map tupI) a=some (tupI r)/\Iq [aH n l,.int a]=.ok (tupI r) false/\IB [aH n l,tupI r]=.ok (.int a) false/\Row n l r:=by
 have W:=(iK O).2
 obtain⟨r,e,hR,ho⟩:=HL O h0 h1
 obtain⟨i,e1,e2⟩:=DT W r [] hR
 have hl:r.length=n:=by rw[hR.1.length_eq,bM]
 rw[hl,MW,<-rL] at e2
 have ea:a=(i:Int):=by omega
 refine⟨r,?_,e,?_,hR⟩
 ·rw[ea];exact jI (by rw[Kv,e2];rfl)
 ·rw[IZ O hR,DH r [] hR,ho]
def CK {n:Nat}{l:List Pr}(O:OM.Ord n l):((lvl n l n).length:Int)=ou n l:=by
 rw[rL]
 exact uL (iK O).2 n [] (by simp) (rm n l)
def six:List Pr:=[(0,2),(1,2),(2,3),(3,4),(2,5)]
def wg (a:Int):¬OM.Tr (OM.Mem six) a a:=λh=>by
 have:a < a:=h.least (S:=λa b=>a < b) (λx y hxy=>by
  have hm:((x,y):Pr)∈six:=hxy
  unfold six at hm
  simp at hm
  omega) (λx y z h1 h2=>by omega)
 omega
def Ad:OM.Wn 6 six:=λp hp=>by
 unfold six at hp
 simp at hp
 rcases hp with rfl |rfl |rfl |rfl |rfl <;> simp
noncomputable def Fg:List D->FR:=bt 9 1 (xD Gi eT vT JO JN Iq IB q8 cT)
theorem HX (ns:List Int):Fg [bN ns]=.ok (.bool true) false:=by
 show fin (xD Gi eT vT JO JN Iq IB q8 cT [.fz (bN ns),.no,.no,.no,.no,.no,.no,.no,.no] 0)=_
 refine FK ?_
 obtain⟨m,hm,em⟩:=AG 2 (by omega) ns (vl [.fz (bN ns),.no,.no,.no,.no,.no,.no,.no,.no]) 0 rfl
 unfold xD
 refine nN (λ_ env _=>∃s1 s2 s3 s4 s5 s6 s7 s8,env= [.fz (bN ns),s1,s2,s3,s4,s5,s6,s7,s8]) em ⟨_,_,_,_,_,_,_,_,rfl⟩ ?_ λenv β ⟨s1,s2,s3,s4,s5,s6,s7,s8,e⟩=>E4 (d:=.bool true) rfl rfl
 rintro i d env β hi ⟨s1,s2,s3,s4,s5,s6,s7,s8,rfl⟩
 obtain⟨_,rfl⟩:=g8 hi
 rw[Mz]
 refine⟨[.fz (bN ns),.fz (.int i),s2,s3,s4,s5,s6,s7,s8],rfl,?_⟩
 obtain⟨z,ez⟩:=GG ns i
 obtain⟨n0,l0,β1,eo,O0,hn5⟩:=Ag (most:=5) (by omega) (by omega) z
 obtain⟨q,hq,eq⟩:=la (m:=4) (by omega) (by omega) β1
 generalize β1 / ((4:Nat):Int)=β2 at eq
 obtain⟨t3,t4,t5,t6,t7,t8,hcl⟩:∃t3 t4 t5 t6 t7 t8:Sl,(o8 (bb ([0] ++ ([1] ++ [])) [.fz (bN ns),.fz (.int i),s2,s3,s4,s5,s6,s7,s8])).set 2 .bx= [.fz (bN ns),.fz (.int i),.bx,t3,t4,t5,t6,t7,t8]:=⟨_,_,_,_,_,_,rfl⟩
 refine C7 (Ao (ds:=[bN ns,.int i]) rfl ez) (wp_at _ hcl ?_)
 refine iq (ke (ds:=[.int 5]) rfl rfl eo) (wp_at [.fz (bN ns),.fz (.int i),.bx,.fz (aH n0 l0),t4,t5,t6,t7,t8] rfl ?_)
 refine FF (λenv _=>∃(n:Nat) (l:List Pr),env= [.fz (bN ns),.fz (.int i),.bx,.fz (aH n l),t4,t5,t6,t7,t8]/\OM.Ord n l/\n<=6) ⟨_,_,fB (neg:=false) (i:=(q:Int)) (j:=3) (ke (ds:=[.int 4]) rfl rfl eq) rfl,λ_=>?_,λ_=>lY ⟨_,_,rfl,n0,l0,rfl,O0,by omega⟩⟩ ?_
 ·have et:=p4 (n:=6) (ps:=six) (by omega) (by omega) Ad wg
  have O:=OM.A6 (n:=6) (l:=six) (by omega) (by omega) Ad wg
  generalize OM.bX 6 (OM.Tr (OM.Mem six))=l at et O
  refine m6 (iq (tp (ds:=[.int (6:Nat),.tuple (l.map aR)]) (ac rfl (ac (aB (ds:=[.list (six.map aR)]) ?_ et) an))) (lY ⟨_,_,rfl,6,l,rfl,O,Km _⟩))
  exact ac (lp (ds:=six.map aR) (ac (jr rfl rfl) (ac (jr rfl rfl) (ac (jr rfl rfl) (ac (jr rfl rfl) (ac (jr rfl rfl) an))))) (by decide)) an
 rintro env β ⟨n,l,rfl,O,h6⟩
 obtain⟨b,er⟩:=Ca O h6
 have hc1:=Ce O
 have hcl:=CK O
 have hrn:=λa h0 h1=>CU (n:=n) (l:=l) (a:=a) O h0 h1
 have ec:=I0 O
 have hlen:(lvl n l n).length<=720:=Ls (rh n) (D5 n (by omega) n (by omega))
 refine iq (de (aB (ds:=[aH n l]) rfl er) (zq O)) (wp_at [.fz (bN ns),.fz (.int i),.bx,.fz (aH n l),.fz (.list ((lvl n l n).map tupI)),t5,t6,t7,t8] rfl ?_)
 generalize lvl n l n=R at hcl hrn hlen
 generalize ou n l=c at hcl hrn hc1 ec
 refine iq (aB (ds:=[aH n l]) rfl ec) (wp_at [.fz (bN ns),.fz (.int i),.bx,.fz (aH n l),.fz (.list (R.map tupI)),.fz (.int c),t6,t7,t8] rfl ?_)
 refine wb (xr (c:=false) (iw (a:=true) (pC (c:=true) (aB (ds:=[.int c]) rfl (GP (d:=.int c) rfl)))) ?_) (wp_at [.fz (bN ns),.fz (.int i),.bx,.fz (aH n l),.fz (.list (R.map tupI)),.fz (.int c),t6,t7,t8] rfl ?_)
 ·have:=fB (neg:=true) (fa:=gv 5) (fb:=f1 (gv 4) di) (vs:=vl [.fz (bN ns),.fz (.int i),.bx,.fz (aH n l),.fz (.list (R.map tupI)),.fz (.int c),t6,t7,t8]) (β:=β) (i:=c) (j:=(R.length:Nat)) rfl (by rw[Am (ds:=R.map tupI) rfl,Kx])
  rw[hcl,Kt (show c=c from rfl)] at this
  exact this
 obtain⟨c',rfl⟩:∃c':Nat,c=(c':Nat):=⟨c.toNat,by omega⟩
 have el:bW (f2 (f1 (f2 (gv 5) (cst (.int 40)) (pK λi j=>.int (if j < i then j else i))) cS) (bI (aa (f2 (gv 5) (cst (.int 1)) lg) ah)) iQ) (vl [.fz (bN ns),.fz (.int i),.bx,.fz (aH n l),.fz (.list (R.map tupI)),.fz (.int (c':Nat)),t6,t7,t8]) β=.ok ((dZ (min c' 40) ++ [(c':Int) - 1]).map int) β:=by
  have e1:f1 (f2 (gv 5) (cst (.int 40)) (pK λi j=>.int (if j < i then j else i))) cS (vl [.fz (bN ns),.fz (.int i),.bx,.fz (aH n l),.fz (.list (R.map tupI)),.fz (.int (c':Nat)),t6,t7,t8]) β=.ok (.list ((dZ (min c' 40)).map int)) β:=by
   refine de (x:=.int ((min c' 40:Nat):Int)) (aF (x:=.int (c':Nat)) (y:=.int 40) rfl rfl ?_) (lR (by omega))
   show some (int (if (40:Int) < (c':Int) then 40 else (c':Int)))=_
   congr 2
   split <;> omega
  have e2:=HZ (a:=(dZ (min c' 40)).map int) (b:=[.int ((c':Int) - 1)]) e1 (lp (fr:=aa (f2 (gv 5) (cst (.int 1)) lg) ah) (ds:=[.int ((c':Int) - 1)]) (ac (aF (x:=.int (c':Nat)) (y:=.int 1) rfl rfl rfl) an)) (by rw[Kx,bM];simp;omega)
  unfold bW
  rw[e2,Lo];rfl
 refine m6 (nN (λ_ env _=>∃s6 s7 s8,env= [.fz (bN ns),.fz (.int i),.bx,.fz (aH n l),.fz (.list (R.map tupI)),.fz (.int (c':Nat)),s6,s7,s8]) el ⟨_,_,_,rfl⟩ ?_ λenv β ⟨s6,s7,s8,e⟩=>lY ⟨_,_,rfl,_,_,_,_,_,_,_,_,e⟩)
 rintro k d env β hk ⟨s6,s7,s8,rfl⟩
 rw[Kv] at hk
 cases hx:(dZ (min c' 40) ++ [(c':Int) - 1])[k]? with
 |none=>rw[hx] at hk;cases hk
 |some x=>
  rw[hx] at hk
  cases hk
  have hxb:0<=x/\x < (c':Int):=by
   rcases KU.mp (KD hx) with h |h
   ·have:=aV.mp h;omega
   ·rw[KS] at h;omega
  obtain⟨r,ea,en,ek,hR⟩:=hrn x hxb.1 hxb.2
  obtain⟨hl,hrb⟩:=Hh O.hi hR.1
  have hrep:=C6 (r:=r) (by have:=O.hi;omega) hrb
  refine⟨[.fz (bN ns),.fz (.int i),.bx,.fz (aH n l),.fz (.list (R.map tupI)),.fz (.int (c':Nat)),.fz (.int x),s7,s8],rfl,?_⟩
  refine iq (aB (ds:=[aH n l,.int x]) rfl en) (wp_at [.fz (bN ns),.fz (.int i),.bx,.fz (aH n l),.fz (.list (R.map tupI)),.fz (.int (c':Nat)),.fz (.int x),.fz (tupI r),s8] rfl ?_)
  refine wb (fV _ _ _ _ (aF (de (x:=tupI r) rfl hrep) (de (x:=tupI r) (aF (x:=.list (R.map tupI)) (y:=.int x) rfl rfl ea) hrep) (by simp[EH]))) (wp_at [.fz (bN ns),.fz (.int i),.bx,.fz (aH n l),.fz (.list (R.map tupI)),.fz (.int (c':Nat)),.fz (.int x),.fz (tupI r),s8] rfl ?_)
  refine iq (aB (ds:=[aH n l,tupI r]) (ac rfl (ac (aF (x:=.list (R.map tupI)) (y:=.int x) rfl rfl ea) an)) ek) (wp_at [.fz (bN ns),.fz (.int i),.bx,.fz (aH n l),.fz (.list (R.map tupI)),.fz (.int (c':Nat)),.fz (.int x),.fz (tupI r),.fz (.int x)] rfl ?_)
  have t2:=fB (neg:=true) (fa:=gv 8) (fb:=gv 6) (vs:=vl [.fz (bN ns),.fz (.int i),.bx,.fz (aH n l),.fz (.list (R.map tupI)),.fz (.int (c':Nat)),.fz (.int x),.fz (tupI r),.fz (.int x)]) (β:=β) (i:=x) (j:=x) rfl rfl
  rw[Kt (show x=x from rfl)] at t2
  exact HU (xr (c:=false) (iw (a:=true) (pC (c:=true) (aB (ds:=[.int x]) rfl (GP (d:=.int x) rfl)))) t2) (lY ⟨_,_,rfl,_,_,_,rfl⟩)
end RM
namespace RO
open PySem L2
abbrev iP:Stmt:=RQ.dv
abbrev kP:Stmt:=RQ.top 15
abbrev Fn (K:Frag)(mg:Str->Option Value)(x:Str)(st:Stmt)(ps:List Str)(f:Addr)(fd:FuncData):Prop:=jC K mg x st ps f fd
abbrev Bt (mg:Str->Option Value):Prop:=jV mg
end RO
section
namespace L2
open PySem PySem.Spec PyProof.Rows
section
variable {K:Frag}{H H':Hp}{a:Addr}
theorem aS.snoc {x y:Int}(q:dA K H a [.int x,.int y]):∀{vs:List V} {ps:List (Int×Int)},aS K H vs ps->aS K H (vs ++ [.ref a]) (ps ++ [(x,y)])
 |_,_,.nil=>.cons ⟨a,rfl,q⟩ .nil
 |_,_,.cons r t=>.cons r (aS.snoc q t)
def aS.len {vs:List V}{ps:List (Int×Int)}(h:aS K H vs ps):vs.length=ps.length:=Paired.length h
def aS.same {vs:List V}{ps:List (Int×Int)}(h:aS K H vs ps)(s:ak H H'):aS K H' vs ps:=h.grow s.grow
def aS.at {vs:List V}{ps:List (Int×Int)}{i:Nat}{v:V}(h:aS K H vs ps)(e:vs[i]? =some v):∃p:Int×Int,ps[i]? =some p/\∃b,v=.ref b/\dA K H b [.int p.1,.int p.2]:=Paired.getP h e
def ak.put {o:HO}(s:ak H H')(h:H a=none):ak H (L2.upd H' a o):=λb u e=>by rw[ay (aG e h)];exact s b u e
end
end L2
namespace RO
open PySem L2
def zH (N:List Str)(sc:Scope)(NB:List Str)(own:Nat)(ixs:List Nat)(scope:Scope):Bool:=
 decide (scope.kind=.function) && (scope.names.all λy=>decide (y.2≠.cell)) && (scope.names.all λy=>decide (scope.names.lookup y.1=some y.2)) &&
 (scope.names.all λy=>decide (y.2=.free->(sc.names.lookup y.1=some .cell\/sc.names.lookup y.1=some .free))) && decide NB.Nodup && decide (NB.length=own + ixs.length) &&
 ((List.range ixs.length).all λk=>decide (NB[own + k]? =N[ixs.getD k 0]?) && (match NB[own + k]? with |some x=>decide ((x,NameKind.free)∈scope.names) |none=>true))
def lL {X:Cx}{NB:List Str}{own:Nat}{ixs:List Nat}{scope:Scope}(h:zH X.N X.env.scope NB own ixs scope=true):cM X NB own ixs scope:=by
 unfold zH at h
 simp only[KP,LJ,K3,KR] at h
 obtain⟨⟨⟨⟨⟨⟨h1,h2⟩,h3⟩,h4⟩,h5⟩,h6⟩,h7⟩:=h
 refine⟨h1,h2,h3,h4,h5,h6,λk hk=>⟨(h7 k hk).1,λx hx=>?_⟩⟩
 have:=(h7 k hk).2
 rw[hx] at this
 simpa using this
section
variable {X:Cx}{tg l:Expr}{tl:TE}{K:Frag}{H H1:Hp}{a:Addr}{xs:List V}{σ:St}
def Jz (K:Frag)(tl:TE):TI:=λσ H R=>tl σ H λx H1=>∃a xs,x=.ref a/\((e8 K H1 a xs/\R (yQ K a) H1)\/(dA K H1 a xs/\R (D7 K a) H1))
end
def J1 (K:Frag){X:Cx}(h:X.K=K:=by rfl):A5 X (Ek K):=by subst h;exact fI
def ER (K:Frag)(i j:Nat){X:Cx}{x y:Str}{px py pos:Pos}{k:Nat}(hN:X.N.Nodup)(hi:X.N[i]? =some x)(hj:X.N[j]? =some y)(hx:X.env.scope.names.lookup x=some .local)(hy:X.env.scope.names.lookup y=some .local)(hc:X.calm=true)(hK:X.K=K) :
  PG X (.Tuple [.Name x px,.Name y py] k pos) (DE K 2 (n9 (j7 i) (n9 (j7 j) Cd))):=by
 subst hK
 exact nP hc (cW (cz hN hi (Or.inl hx) (Or.inr hx)) (cW (cz hN hj (Or.inl hy) (Or.inr hy)) kY))
section
open PySem.Spec PyProof.Rows
variable {X:Cx}{tg l:Expr}{tl:TE}
def Ez (hl:PE X l tl):PI X tg l (Jz X.K tl):=by
 intro pins s σ H R I h
 refine cn (hl pins s σ H _ I h) λv s1 ⟨x,H1,I1,r1,q1⟩=>?_
 obtain⟨a,xs,e,q⟩:=q1
 subst e
 cases r1
 rcases q with⟨hq,q⟩ | ⟨hq,q⟩
 ·obtain⟨its,rv,p,hz⟩:=I1.list hq
  refine ML p.isList ?_
  refine⟨s1.heap.objs.size,[s1.heap.objs.size],_,_,H1,rfl,I1.kept (t':=s1.toks) λb o e=>Kl _ e,lD a _,⟨_,Ky _ rfl,rfl,rfl⟩,λb hb=>?_,q⟩
  have e:b=s1.heap.objs.size:=by simpa using hb
  subst e
  exact I1.fpOk (Km _) (I1.hok.fresh (Km _))
 ·obtain⟨its,rv,p,hz⟩:=I1.tuple hq
  refine MI (show s1.heap.IsTuple a its.toArray from p) ?_
  refine⟨s1.heap.objs.size,[s1.heap.objs.size],_,_,H1,rfl,I1.kept (t':=s1.toks) λb o e=>Kl _ e,mO a _,⟨_,Ky _ rfl,rfl,rfl⟩,λb hb=>?_,q⟩
  have e:b=s1.heap.objs.size:=by simpa using hb
  subst e
  exact I1.fpOk (Km _) (I1.hok.fresh (Km _))
end
section
variable {K:Frag}{H H1 H':Hp}{a:Addr}{xs:List V}{σ:St}
abbrev HR (J:It)(g:TG)(tb:TS)(D:Ends)(σ:St)(H:Hp):Prop:=∃W:Nat->Nat->St->Hp->Prop,(∃m,W 0 m σ H)/\∀i m σ H,W i m σ H->
   (J.stop i H/\D.nx σ H)\/(J.go i H/\∃N:St->Hp->Prop,(∀σ' H',N σ' H'->∃m',m' < m/\W (i + 1) m' σ' H')/\∀x H',J.yld i H x H'->g x σ H' λσ2 H2=>tb {D with nx:=N,ct:=N,bk:=D.nx} σ2 H2)
def DF (s:ak H1 H')(hq:e8 K H1 a xs\/dA K H1 a xs):e8 K H' a xs\/dA K H' a xs:=hq.elim (λq=>.inl (s.seq q)) λq=>.inr (q.grow s.grow)
def Cz {g:TG}{tb:TS}{D:Ends}(hq:e8 K H1 a xs\/dA K H1 a xs)(Pv:Nat->St->Hp->Prop)(h0:Pv 0 σ H)(hl:∀i σ H',Pv i σ H'->ak H1 H')
  (hs:∀i x σ H,xs[i]? =some x->Pv i σ H->g x σ H λσ2 H2=>tb {D with nx:=Pv (i + 1),ct:=Pv (i + 1),bk:=D.nx} σ2 H2) (hd:∀σ H,Pv xs.length σ H->D.nx σ H) :
  (e8 K H a xs/\HR (yQ K a) g tb D σ H)\/(dA K H a xs/\HR (D7 K a) g tb D σ H):=
 hq.elim (λq=>.inl ⟨(hl _ _ _ h0).seq q,tT Pv h0 (λi σ H' _ p=>(hl i σ H' p).seq q) hs hd⟩) λq=>.inr ⟨q.grow (hl _ _ _ h0).grow,BX Pv h0 (λi σ H' _ p=>q.grow (hl i σ H' p).grow) hs hd⟩
def we (J:It)(own:Nat)(ixs:List Nat)(g:TG)(tt:TT)(te:TE)(Q:VK)(D:Addr)(σ:St)(H:Hp):Prop:=∃W:Nat->Nat->St->Hp->Prop,(∃m,W 0 m (bD own ixs σ) (upd H D (.lst [])))/\∀i m σ' H',W i m σ' H'->
   (J.stop i H'/\(∃acc,H' D=some (.lst acc))/\Q (.ref D) H')\/
   (J.go i H'/\∃N:St->Hp->Prop,(∀σ2 H2,N σ2 H2->∃m',m' < m/\W (i + 1) m' σ2 H2)/\∀x H2,J.yld i H' x H2->du g tt te D x σ' H2 N)
structure ui (own:Nat)(ixs:List Nat)(wi:TI)(g:TG)(tt:TT)(te:TE)(σ:St)(H:Hp)(Q:VK):Prop where
 out:wi σ H λJ H1=>∀D,H1 D=none->we J own ixs g tt te Q D σ H1
def vv {own:Nat}{ixs:List Nat}{wi:TI}{g:TG}{tt:TT}{te:TE}{Q:VK}(h:wi σ H λJ H1=>∀D,H1 D=none->we J own ixs g tt te Q D σ H1):ui own ixs wi g tt te σ H Q:=⟨h⟩
def qC {X:Cx}{NB:List Str}{own:Nat}{ixs:List Nat}{scope:Scope}{tg iter elt:Expr}{ifs:List Expr}{wi:TI}{g:TG}{tt:TT}{te:TE}{pos:Pos}(hc:X.calm=true)(S:cM X NB own ixs scope)(hi:PI X tg iter wi)
  (hg:∀C ex s3 H3 pn,PG (gS X NB scope C ex s3 H3 pn) tg g) (ht:∀C ex s3 H3 pn,Bm (gS X NB scope C ex s3 H3 pn) ifs tt) (he:∀C ex s3 H3 pn,PE (gS X NB scope C ex s3 H3 pn) elt te)
  (hs:∀x,foldedSetIterable iter X.env x=pure x:=by intro _;rfl):PE X (.ListComp elt [⟨tg,iter,ifs,0⟩] scope pos) (ui own ixs wi g tt te):=
 λpins s σ H Q I h=>sE hc S hi hg ht he hs pins s σ H Q I h.out
section
variable {own:Nat}{ixs:List Nat}{g:TG}{tt:TT}{te:TE}{Q:VK}{D:Addr}
def Cc (Pv:Nat->St->Hp->Prop)(h0:Pv 0 (bD own ixs σ) (upd H D (.lst [])))(hl:∀i σ H,i<=xs.length->Pv i σ H->e8 K H a xs)
  (hs:∀i x σ H,xs[i]? =some x->Pv i σ H->du g tt te D x σ H (Pv (i + 1))) (hd:∀σ H,Pv xs.length σ H->(∃acc,H D=some (.lst acc))/\Q (.ref D) H):we (yQ K a) own ixs g tt te Q D σ H:=yJ Pv h0 hl hs hd
def tw {lo:Int}{n:Nat}(Pv:Nat->St->Hp->Prop)(h0:Pv 0 (bD own ixs σ) (upd H D (.lst [])))
  (hs:∀i σ H,i < n->Pv i σ H->du g tt te D (.int (lo + i)) σ H (Pv (i + 1))) (hd:∀σ H,Pv n σ H->(∃acc,H D=some (.lst acc))/\Q (.ref D) H):we (yL lo n) own ixs g tt te Q D σ H:=vP Pv h0 hs hd
end
def sV {i:Nat}{te:TE}{D:Addr}{x:V}{N:St->Hp->Prop}(h:te (σ.set i (some x)) H λv H5=>∃acc,H5 D=some (.lst acc)/\acc.length < sizeLine/\N (σ.set i (some x)) (upd H5 D (.lst (acc ++ [v])))):du (j7 i) Gk te D x σ H N:=by
 unfold du j7 Gk
 exact sN h
def zA {i j:Nat}{x y:V}{Q:St->Hp->Prop}(h:dA K H a [x,y])(q:Q ((σ.set i (some x)).set j (some y)) H):DE K 2 (n9 (j7 i) (n9 (j7 j) Cd)) (.ref a) σ H Q:=⟨a,_,rfl,h,rfl,x,_,rfl,y,_,rfl,rfl,q⟩
def Jf {c A B:Prop}[Decidable c](h:c)(a:A):if c then A else B:=by rw[Kn h];exact a
def IS {c A B:Prop}[Decidable c](h:¬c)(b:B):if c then A else B:=by rw[Ku h];exact b
def take_snoc {α:Type}{l:List α}{i:Nat}{x:α}(h:l[i]? =some x):l.take (i + 1)=l.take i ++ [x]:=by
 rw[LW,h];rfl
def take_all {α:Type}(l:List α):l.take l.length=l:=Mh (Km _)
end
def jn (n:Nat):(OM.gc n).length=n * n:=by unfold OM.gc;simp
def CO {n i:Nat}(h:i < n * n):(OM.gc n)[i]? =some (((i / n:Nat):Int),((i % n:Nat):Int)):=by
 unfold OM.gc
 rw[Kv,LO h];rfl
def JW {n:Nat}(h:n<=8):n * n<=64:=L5 h h
section
variable {P:Program}{w:World}{K:Frag}{mg:Str->Option Value}{base:Heap}
def xE (K:Frag):Sp:=λvs H Q _=>∃n:Nat,vs= [.int n]/\1<=n/\n<=8/\∀H' l ws,ak H H'->H l=none->H' l=some (.lst ws)->aS K H' ws (OM.gc n)->Q (.ref l) H'
def Dg:aL ["many"] ["many"] (av iP):=⟨rfl,rfl,rfl,by decide +kernel,rfl,by decide +kernel,by decide +kernel⟩
def GN:(["number","many"]:List Str).Nodup:=by decide +kernel
def Bs {f:Addr}{fd:FuncData}(F:Fn K mg "every_pair" iP ["many"] f fd)(B:Bt mg):eQ P w K mg base E8 1 f fd ["many"] (xE K):=by
 refine F.F.ok Dg (λvs H Q E h=>?_) (λcdv A outer s H vs Q E hr h=>?_)
 ·obtain⟨n,rfl,_⟩:=h;rfl
 ·obtain⟨n,rfl,h1,h8,k⟩:=h
  refine⟨_,gA (lE (qC (NB:=["number","many"]) (own:=1) (ixs:=[0]) rfl (lL (by kernel_rfl)) (jN rfl B.range (aK (pP jx (pv 0) (pv 0)) bq))
   (λC ex s3 H3 pn=>cz (i:=0) GN rfl (Or.inl rfl) (hf:=Or.inr rfl)) (λC ex s3 H3 pn=>qB)
   (λC ex s3 H3 pn=>u4 (aK (pP kJ (pv 0) (pv 1)) (aK (pP kg (pv 0) (pv 1)) bq))))),?_⟩
  have hn:=JW h8
  have e0:((n:Int) * (n:Int))=((n * n:Nat):Int):=by rw[Int.natCast_mul]
  refine vv ⟨_,rfl,_,rfl,_,_,rfl,rfl,.inl ⟨by omega,by omega⟩,_,rfl,by rw[e0];omega,by rw[e0];omega,λD hD=>?_⟩
  rw[e0,K2]
  refine tw (λi σ' H'=>(∃v,σ'= [v,some (.int n)])/\ak H H'/\∃vs,H' D=some (.lst vs)/\aS K H' vs ((OM.gc n).take i)) ⟨⟨none,rfl⟩,(ak.refl H).put hD,[],aw,.nil⟩ ?_ ?_
  ·rintro i σ' H' hi ⟨⟨v,rfl⟩,s1,vs,hv,hp⟩
   have hn0:(0:Int) < (n:Int):=by omega
   refine sV ⟨_,rfl,_,rfl,_,_,rfl,rfl,⟨hn0,by omega⟩,_,rfl,_,rfl,_,_,rfl,rfl,hn0,by show 2<=sizeLine;rw[KY];omega,λp hp0=>?_⟩
   have hpD:D≠p:=aG hv hp0
   have hl:=hp.len
   refine⟨vs,by rw[ay hpD];exact hv,?_,⟨_,rfl⟩,?_,vs ++ [.ref p],aw,?_⟩
   ·rw[hl,LI,KY];rw[jn];omega
   ·exact (s1.put (s1.free hp0)).put hD
   ·rw[take_snoc (CO hi)]
    have g1:fC H' (upd H' p (.tup [.int ((0 + (i:Int)) / n),.int ((0 + (i:Int)) % n)])):=fC.new hp0
    have g2:∀o,fC (upd H' p (.tup [.int ((0 + (i:Int)) / n),.int ((0 + (i:Int)) % n)])) (upd (upd H' p (.tup [.int ((0 + (i:Int)) / n),.int ((0 + (i:Int)) % n)])) D o):=λo=>fC.list (by rw[ay hpD];exact hv)
    refine aS.snoc ?_ (hp.grow (g1.trans (g2 _)))
    refine (dA.grow ?_ (g2 _))
    refine .inl (.inl ?_)
    rw[aw,Mz];rfl
  ·rintro σ' H' ⟨_,s1,vs,hv,hp⟩
   refine⟨⟨_,hv⟩,k H' D vs s1 hD hv ?_⟩
   rw[<-jn n,take_all] at hp
   exact hp
end
end RO
end
namespace RO
open PySem L2
structure TabAt (n:Nat)(M:OM.Tb)(L:Addr)(r:Nat->Addr)(H:Hp):Prop where
 top:H L=some (.lst ((List.range n).map λi=>V.ref (r i)))
 row:∀i,i < n->H (r i)=some (.lst ((List.range n).map λj=>V.bl (M i j)))
 inj:∀i j,i < n->j < n->r i=r j->i=j
 ne:∀i,i < n->r i≠L
def xf {n x:Nat}(h:x < n):rT n (x:Int)=some x:=by
 unfold rT;rw[Kn (by omega),Kn (by omega)];simp
def Bz {α:Type}{xs:List α}{x:Nat}(h:x < xs.length):ij xs (x:Int)=xs[x]?:=by
 unfold ij;rw[xf h];rfl
def eY {f:Nat->V}{n x:Nat}(h:x < n):ij ((List.range n).map f) (x:Int)=some (f x):=by
 rw[Bz (by simpa using h),Kv,LO h];rfl
def pf {f:Nat->V}{n x:Nat}(h:x < n):rT ((List.range n).map f).length (x:Int)=some x:=by
 rw[Kx,MN];exact xf h
def yG {f:Nat->V}{n y:Nat}{v:V}:((List.range n).map f).set y v=(List.range n).map λj=>if j=y then v else f j:=by
 apply M8
 intro i
 by_cases hi:i < n
 ·by_cases e:y=i
  ·subst e;simp[List.getElem?_set,hi]
  ·have e':¬i=y:=λz=>e z.symm
   simp[List.getElem?_set,hi,e,e']
 ·rw[L4 (by simp;omega),L4 (by simp;omega)]
section
variable {n:Nat}{M:OM.Tb}{L:Addr}{r:Nat->Addr}{H H':Hp}
def TabAt.set (T:TabAt n M L r H){x y:Nat}(hx:x < n):TabAt n (M.set x y) L r (upd H (r x) (.lst (((List.range n).map λj=>V.bl (M x j)).set y (.bl true)))):=by
 refine⟨by rw[ay (T.ne x hx).symm];exact T.top,λi hi=>?_,T.inj,T.ne⟩
 by_cases e:i=x
 ·subst e
  rw[aw,yG]
  refine congrArg _ (congrArg _ (Lw λj _=>?_))
  unfold OM.Tb.set
  by_cases c:j=y
  ·simp[c]
  ·simp[c]
 ·rw[ay (λz=>e (T.inj i x hi hx z)),T.row i hi]
  refine congrArg _ (congrArg _ (Lw λj _=>?_))
  unfold OM.Tb.set;simp[e]
def TabAt.same (T:TabAt n M L r H)(s:ak H H'):TabAt n M L r H':=⟨s _ _ T.top,λi hi=>s _ _ (T.row i hi),T.inj,T.ne⟩
end
def rC {n:Nat}{ps:List (Int×Int)}(w:OM.Wn n ps){p:Int×Int}(h:p∈ps):∃u v:Nat,p=((u:Int),(v:Int))/\u < n/\v < n:=by
 obtain⟨x,y⟩:=p
 have q:=w _ h
 simp only at q
 exact⟨x.toNat,y.toNat,by rw[Int.toNat_of_nonneg q.1.1,Int.toNat_of_nonneg q.2.1],by omega,by omega⟩
def gG {M0 M:OM.Tb}{m:Nat}{D D':Nat->Nat->Prop}(P:OM.Phase M0 M m D)(h:∀a b,D a b↔D' a b):OM.Phase M0 M m D':=λa b=>by rw[P a b,h a b]
def jJ {l:List (Int×Int)}{u v a b:Nat}:(((a:Int),(b:Int))∈l\/(a=u/\b=v))↔((a:Int),(b:Int))∈l ++ [((u:Int),(v:Int))]:=by
 rw[KU,KS,Prod.mk.injEq]
 constructor
 ·rintro (h | ⟨h1,h2⟩)
  ·exact .inl h
  ·exact .inr ⟨by omega,by omega⟩
 ·rintro (h | ⟨h1,h2⟩)
  ·exact .inl h
  ·exact .inr ⟨by omega,by omega⟩
def Df {M:OM.Tb}{u v a b:Nat}:M.set u v a b=true↔M a b=true\/(a=u/\b=v):=by
 unfold OM.Tb.set
 by_cases c:a=u/\b=v
 ·simp[c]
 ·rw[Ku c];exact⟨.inl,λh=>h.resolve_right c⟩
def HY (n:Nat)(x:V):(List.replicate n [x]).flatten=(List.range n).map λ_=>x:=by
 rw[List.flatten_replicate_singleton,List.map_const',MN]
section
variable {P:Program}{w:World}{K:Frag}{mg:Str->Option Value}{base:Heap}
def AM (K:Frag):Sp:=λvs H Q _=>∃(n:Nat) (a:Addr) (xs:List V) (ps:List (Int×Int)),vs= [.int n,.ref a]/\1<=n/\n<=8/\(e8 K H a xs\/dA K H a xs)/\aS K H xs ps/\OM.Wn n ps/\
 ∀H' t ws,ak H H'->H t=none->H' t=some (.tup ws)->aS K H' ws (OM.bX n (OM.Tr (OM.Mem ps)))->Q (.ref t) H'
def eO:aL ["many","pairs","corners","leads","a","b","middle"] ["many","pairs"] (av kP):=⟨rfl,rfl,rfl,by decide +kernel,rfl,by decide +kernel,by decide +kernel⟩
def G6:(["start","many"]:List Str).Nodup:=by decide +kernel
def FU:(["a","b","leads"]:List Str).Nodup:=by decide +kernel
set_option maxHeartbeats 1000000 in
theorem yH {f g:Addr}{fd gd:FuncData}(F:Fn K mg "closed" kP ["many","pairs"] f fd)(G:Fn K mg "every_pair" iP ["many"] g gd)(GE:eQ P w K mg base E8 1 g gd ["many"] (xE K))(B:Bt mg):eQ P w K mg base E8 2 f fd ["many","pairs"] (AM K):=by
 refine F.F.ok eO (λvs H Q E h=>?_) (λcdv A outer s H vs Q E hr h=>?_)
 ·obtain⟨n,a,xs,ps,rfl,_⟩:=h;rfl
 ·obtain⟨n,a,xs,ps,rfl,h1,h8,hq,hp,wn,k⟩:=h
  refine⟨_,fY (oj (i:=2) eO.nd rfl (Or.inl rfl) (my GE hr rfl G.mg G.F.kp G.b .nil Gu (aK (pv 0) bq)))
   (fY (oj (i:=3) eO.nd rfl (Or.inr rfl) (qC (NB:=["start","many"]) (own:=1) (ixs:=[0]) rfl (lL (by kernel_rfl)) (jN rfl B.range (aK (pv 0) bq))
    (λC ex s3 H3 pn=>cz (i:=0) G6 rfl (Or.inl rfl) (hf:=Or.inr rfl)) (λC ex s3 H3 pn=>qB) (λC ex s3 H3 pn=>pP Au (A8 (aK wW bq)) (pv 1))))
   (fY (qm PassesOwn.never rfl (Ez (pv 1)) (nP rfl (cW (cz (i:=4) eO.nd rfl (Or.inl rfl)) (cW (cz (i:=5) eO.nd rfl (Or.inl rfl)) kY)))
    (gA (nh wW (rP (jY fI (pv 3) (pv 4) (λ_ _=>rfl)) (pv 5) set_list))))
   (fY (qm PassesOwn.never rfl (jN rfl B.range (aK (pv 0) bq)) (cz (i:=6) eO.nd rfl (Or.inl rfl))
    (gA (qm PassesOwn.never rfl (xu (pv 2)) (nP rfl (cW (cz (i:=4) eO.nd rfl (Or.inl rfl)) (cW (cz (i:=5) eO.nd rfl (Or.inl rfl)) kY)))
     (gA (Ed (PW.pt (zU (v3 (jY fI (jY fI (pv 3) (pv 4) (λ_ _=>rfl)) (pv 6) (λ_ _=>rfl))) (wA (v3 (jY fI (jY fI (pv 3) (pv 6) (λ_ _=>rfl)) (pv 5) (λ_ _=>rfl))))))
      (gA (nh wW (rP (jY fI (pv 3) (pv 4) (λ_ _=>rfl)) (pv 5) set_list))) wF)))))
   (gA (lE (fO gL rfl B.tuple (by decide +kernel) (aK (qC (NB:=["a","b","leads"]) (own:=2) (ixs:=[3]) rfl (lL (by kernel_rfl)) (xu (pv 2))
    (λC ex s3 H3 pn=>ER K 0 1 FU rfl rfl rfl rfl rfl rfl)
    (λC ex s3 H3 pn=>xc (v3 (jY (J1 K) (jY (J1 K) (pv 2) (pv 0) (λ_ _=>rfl)) (pv 1) (λ_ _=>rfl)))) (λC ex s3 H3 pn=>u4 (aK (pv 0) (aK (pv 1) bq)))) bq))))))),?_⟩
  have hn:=JW h8
  have hn0:(0:Int)<=(n:Int):=by omega
  refine⟨_,rfl,n,rfl,h1,h8,λH1 c ws s1 hc0 hc hw=>?_⟩
  have hwl:ws.length=n * n:=by rw[hw.len,jn]
  have gw:OM.Wn n (OM.gc n):=λp hp=>OM.fT.mp hp
  refine vv ?_
  refine⟨_,rfl,n,rfl,by omega,by omega,λD hD=>?_⟩
  rw[K2]
  refine tw (λi σ' H'=>(∃v,σ'= [v,some (.int n)])/\ak H1 H'/\∃r:Nat->Addr,H' D=some (.lst ((List.range i).map λk=>V.ref (r k)))/\
   (∀k,k < i->H' (r k)=some (.lst ((List.range n).map λ_=>V.bl false))/\H1 (r k)=none/\r k≠D)/\∀j k,j < i->k < i->r j=r k->j=k)
   ?_ ?_ ?_
  ·exact⟨⟨none,rfl⟩,(ak.refl H1).put hD,λ_=>0,aw,λk hk=>absurd hk (Nat.not_lt_zero _),λj k hj=>absurd hj (Nat.not_lt_zero _)⟩
  ·rintro i σ' H' hi ⟨⟨v,rfl⟩,s2,r,hr0,hr1,hr2⟩
   refine sV ⟨by show 1<=sizeLine;rw[KY];omega,λp hp0=>⟨_,rfl,p,n,[.bl false],rfl,rfl,aw,by omega,by omega,by show 1 * (n:Int).toNat<=sizeLine;rw[KY];omega,λq hq0=>?_⟩⟩
   have hqp:q≠p:=by intro e;subst e;rw[aw] at hq0;cases hq0
   have hq1:H' q=none:=by rw[ay hqp] at hq0;exact hq0
   have hDp:D≠p:=aG hr0 hp0
   have hDq:D≠q:=aG hr0 hq1
   rw[K2,HY]
   refine⟨_,by rw[ay hDq,ay hDp];exact hr0,by rw[Kx,MN,KY];omega,⟨_,rfl⟩,((s2.put (s2.free hp0)).put (s2.free hq1)).put hD,λk=>if k=i then q else r k,?_,λk hk=>?_,λj k hj hk e=>?_⟩
   ·have e:(List.range i).map (λk=>V.ref (r k))=(List.range i).map (λk=>V.ref (if k=i then q else r k)):=Lw λk hk=>by
     have:=KR.mp hk
     rw[Ku (by omega)]
    rw[aw,List.range_succ,Lo,e]
    simp
   ·dsimp only
    by_cases e:k=i
    ·rw[Kn e]
     exact⟨by rw[ay hDq.symm,aw],s2.free hq1,hDq.symm⟩
    ·rw[Ku e]
     obtain⟨a1,a2,a3⟩:=hr1 k (by omega)
     exact⟨by rw[ay a3,ay (aG a1 hq1),ay (aG a1 hp0)];exact a1,a2,a3⟩
   ·dsimp only at e
    by_cases ej:j=i
    ·by_cases ek:k=i
     ·omega
     ·rw[Kn ej,Ku ek] at e
      exact absurd e.symm (aG (hr1 k (by omega)).1 hq1)
    ·by_cases ek:k=i
     ·rw[Ku ej,Kn ek] at e
      exact absurd e (aG (hr1 j (by omega)).1 hq1)
     ·rw[Ku ej,Ku ek] at e
      exact hr2 j k (by omega) (by omega) e
  rintro σ2 H2 ⟨_,s2,r,hr0,hr1,hr2⟩
  refine⟨⟨_,hr0⟩,?_⟩
  have sep:∀i,i < n->H1 (r i)=none:=λi hi=>(hr1 i hi).2.1
  have T0:TabAt n (λ_ _=>false) D r H2:=⟨hr0,λi hi=>(hr1 i hi).1,hr2,λi hi=>(hr1 i hi).2.2⟩
  refine⟨_,rfl,a,xs,rfl,Cz (H1:=H1) (DF s1 hq) (λi σ' H'=>(∃x y,σ'= [some (.int n),some (.ref a),some (.ref c),some (.ref D),x,y,none])/\ak H1 H'/\∃M,TabAt n M D r H'/\∀u v:Nat,M u v=true↔((u:Int),(v:Int))∈ps.take i)
   ⟨⟨none,none,rfl⟩,s2,_,T0,λu v=>by simp⟩ (λi σ' H' q=>q.2.1) ?_ ?_⟩
  ·rintro i x σ' H' hx ⟨⟨_,_,rfl⟩,s3,M,T,hM⟩
   obtain⟨p,hpi,b,rfl,hb⟩:=(hp.same (s1.trans s3)).at hx
   obtain⟨u,v,rfl,hu,hv⟩:=rC wn (KD hpi)
   refine zA hb ?_
   refine⟨_,rfl,_,rfl,D,_,u,_,rfl,rfl,.inl (.inl T.top),eY hu,_,rfl,r u,_,v,v,rfl,rfl,T.row u hu,pf hv,⟨_,_,rfl⟩,s3.put (sep u hu),_,T.set hu,λx y=>?_⟩
   rw[take_snoc hpi,<-jJ,Df,hM]
  rintro σ3 H3 ⟨⟨x3,y3,rfl⟩,s3,M3,T3,hM3⟩
  rw[hp.len,take_all] at hM3
  refine⟨_,rfl,n,rfl,by omega,by omega,?_⟩
  rw[K2]
  refine yZ (λm σ' H'=>(∃x y z,σ'= [some (.int n),some (.ref a),some (.ref c),some (.ref D),x,y,z])/\ak H1 H'/\∃M,TabAt n M D r H'/\OM.Tab n ps M/\OM.Dd M m)
   ⟨⟨_,_,_,rfl⟩,s3,M3,T3,⟨λa b h=>by have:=wn _ ((hM3 a b).mp h);simp only at this;omega,λa b h=>(hM3 a b).mpr h,λa b h=>.one ((hM3 a b).mp h)⟩,λk a b hk=>absurd hk (Nat.not_lt_zero _)⟩ ?_ ?_
  ·rintro m σ' H' hm ⟨⟨_,_,_,rfl⟩,s4,M,T,TT,Th⟩
   rw[Mz]
   refine⟨_,rfl,c,rfl,⟨ws,.inl (.inl (s4 _ _ hc))⟩,tT (xs:=ws) (λi σ' H'=>(∃x y,σ'= [some (.int n),some (.ref a),some (.ref c),some (.ref D),x,y,some (.int m)])/\ak H1 H'/\∃M',TabAt n M' D r H'/\OM.Phase M M' m λu v=>((u:Int),(v:Int))∈(OM.gc n).take i)
    ⟨⟨_,_,rfl⟩,s4,M,T,gG (OM.Phase.start M m) λa b=>by simp⟩ (λi σ' H' _ q=>.inl (.inl (q.2.1 _ _ hc))) ?_ ?_⟩
   ·rintro i x σ' H' hx ⟨⟨_,_,rfl⟩,s5,M',T',Ph⟩
    obtain⟨p,hpi,b,rfl,hb⟩:=(hw.same s5).at hx
    obtain⟨u,v,rfl,hu,hv⟩:=rC gw (KD hpi)
    refine zA hb ?_
    have st:=Ph.step u v
    refine⟨_,rfl,_,rfl,D,_,u,_,rfl,rfl,.inl (.inl T'.top),eY hu,_,rfl,r u,_,m,_,rfl,rfl,.inl (.inl (T'.row u hu)),eY hm,_,rfl,?_⟩
    by_cases c1:M' u m=true
    ·refine Jf c1 ?_
     refine⟨_,rfl,_,rfl,D,_,m,_,rfl,rfl,.inl (.inl T'.top),eY hm,_,rfl,r m,_,v,_,rfl,rfl,.inl (.inl (T'.row m hm)),eY hv,_,rfl,?_⟩
     by_cases c2:M' m v=true
     ·refine Jf c2 ?_
      rw[Kn ⟨c1,c2⟩] at st
      refine⟨_,rfl,_,rfl,D,_,u,_,rfl,rfl,.inl (.inl T'.top),eY hu,_,rfl,r u,_,v,v,rfl,rfl,T'.row u hu,pf hv,⟨_,_,rfl⟩,s5.put (sep u hu),_,T'.set hu,gG st λa b=>?_⟩
      rw[take_snoc hpi];exact jJ
     ·refine IS c2 ?_
      rw[Ku λz=>c2 z.2] at st
      refine⟨⟨_,_,rfl⟩,s5,_,T',gG st λa b=>?_⟩
      rw[take_snoc hpi];exact jJ
    ·refine IS c1 ?_
     rw[Ku λz=>c1 z.1] at st
     refine t9 ⟨⟨_,_,rfl⟩,s5,_,T',gG st λa b=>?_⟩
     rw[take_snoc hpi];exact jJ
   ·rintro σ' H' ⟨⟨_,_,rfl⟩,s5,M',T',Ph⟩
    rw[hw.len,take_all] at Ph
    have dn:=Ph.done (n:=n) (λa b ha hb=>OM.fT.mpr ⟨⟨by simp,by simp;omega⟩,by simp,by simp;omega⟩) TT.inn Th
    exact⟨⟨_,_,_,rfl⟩,s5,M',T',TT.phase Ph,dn.1⟩
  rintro σ4 H4 ⟨⟨x4,y4,z4,rfl⟩,s4,M,T,TT,Th⟩
  refine vv ⟨_,rfl,c,rfl,⟨ws,.inl (.inl (s4 _ _ hc))⟩,λD' hD'=>Cc (xs:=ws) (λi σ' H'=>(∃x y,σ'= [x,y,some (.ref D)])/\ak H4 H'/\∃vs,H' D'=some (.lst vs)/\aS K H' vs (((OM.gc n).take i).filter λp=>M p.1.toNat p.2.toNat))
   ⟨⟨_,_,rfl⟩,(ak.refl H4).put hD',[],aw,.nil⟩ (λi σ' H' _ q=>.inl (.inl (q.2.1 _ _ (s4 _ _ hc)))) ?_ ?_⟩
  ·rintro i x σ' H' hx ⟨⟨_,_,rfl⟩,s5,vs,hv,hpv⟩
   obtain⟨p,hpi,b,rfl,hb⟩:=(hw.same (s4.trans s5)).at hx
   obtain⟨u,v,rfl,hu,hv'⟩:=rC gw (KD hpi)
   refine zA hb ?_
   have T':=T.same s5
   refine⟨_,rfl,_,rfl,D,_,u,_,rfl,rfl,.inl (.inl T'.top),eY hu,_,rfl,r u,_,v,_,rfl,rfl,.inl (.inl (T'.row u hu)),eY hv',_,rfl,?_⟩
   by_cases c1:M u v=true
   ·refine Jf c1 ?_
    refine⟨_,rfl,_,rfl,by show 2<=sizeLine;rw[KY];omega,λp hp0=>?_⟩
    have hpD:D'≠p:=aG hv hp0
    refine⟨vs,by rw[ay hpD];exact hv,?_,⟨_,_,rfl⟩,(s5.put (s5.free hp0)).put hD',_,aw,?_⟩
    ·rw[hpv.len]
     refine Nat.lt_of_le_of_lt (Mo ..) ?_
     rw[LI,jn,KY];omega
    ·rw[take_snoc hpi,List.filter_append,List.filter_cons_of_pos (by simpa using c1),List.filter_nil]
     have g1:fC H' (upd H' p (.tup [.int u,.int v])):=fC.new hp0
     have g2:∀o,fC (upd H' p (.tup [.int u,.int v])) (upd (upd H' p (.tup [.int u,.int v])) D' o):=λo=>fC.list (by rw[ay hpD];exact hv)
     refine aS.snoc ?_ (hpv.grow (g1.trans (g2 _)))
     exact dA.grow (.inl (.inl aw)) (g2 _)
   ·refine IS c1 ?_
    refine⟨⟨_,_,rfl⟩,s5,vs,hv,?_⟩
    rw[take_snoc hpi,List.filter_append,List.filter_cons_of_neg (by simpa using c1),List.filter_nil,LF]
    exact hpv
  ·rintro σ' H' ⟨_,s5,vs,hv,hpv⟩
   rw[hw.len,take_all] at hpv
   refine⟨⟨_,hv⟩,D',vs,rfl,.inl ⟨.inl (.inl hv),λt ht=>?_⟩⟩
   have sA:ak H H':=(s1.trans s4).trans s5
   refine k _ t vs (sA.put (sA.free ht)) (sA.free ht) aw ?_
   have e:((OM.gc n).filter λp=>M p.1.toNat p.2.toNat)=OM.bX n (OM.Tr (OM.Mem ps)):=by
    unfold OM.bX
    refine List.filter_congr λp hp=>?_
    obtain⟨u,v,rfl,hu,hv⟩:=rC gw hp
    have:=TT.all wn Th u v
    simp only[K2]
    rw[Ln,this]
    simp
   rw[e] at hpv
   exact hpv.grow (fC.new ht)
end
end RO
namespace RO
open PySem L2 RM
section
variable {P:Program}{w:World}{K:Frag}{mg:Str->Option Value}{base:Heap}{ca:Str->Addr}
def Kf {k:Nat}{f:Addr}{fd:FuncData}{ps:List Str}{sp:Sp}(F:eQ P w K mg base E8 k f fd ps sp):eQ P w K mg base (mf P w) k f fd ps sp:=
 ⟨F.len,λA outer s H args us vs Q E hr he hb hv hs=>Mv (F.run A outer s H args us vs Q E hr he hb hv hs) λr s' h=>by
  cases r with
  |ok x=>cases x <;> exact h
  |error e=>exact h.elim⟩
def uX {G H:Hp}(s:ak G H){ws:List V}{ps:List Pr}(h:aS K H ws ps):aS K (kQ G H) ws ps:=Paired.mapP h λv p ⟨a,e,q⟩=>⟨a,e,mR s q⟩
def nk {ds:List D}(h:cK ds≠.bad):∃(n:Nat) (d:D) (ps:List Pr),ds= [.int n,d]/\ja d=some (ps.map aR)/\1<=n/\n<=8/\OM.Wn n ps/\cK ds=.ok (.tuple ((OM.bX n (OM.Tr (OM.Mem ps))).map aR)) false:=by
 unfold cK at h
 split at h
 ·rename_i n d
  cases q:ja d with
  |none=>rw[q] at h;exact absurd rfl h
  |some es=>
   rw[q] at h
   dsimp only at h
   cases q2:fg es with
   |none=>rw[q2] at h;exact absurd rfl h
   |some ps=>
    rw[q2] at h
    dsimp only at h
    by_cases c:1<=n/\n<=8/\OM.Wn n.toNat ps
    ·have e:((n.toNat:Nat):Int)=n:=by omega
     refine⟨n.toNat,d,ps,by rw[e],by rw[q,jM q2],by omega,by omega,c.2.2,?_⟩
     unfold cK
     dsimp only
     rw[q]
     dsimp only
     rw[q2]
     dsimp only
     rw[Kn c]
    ·rw[Ku c] at h;exact absurd rfl h
 ·exact absurd rfl h
def vb {f g:Addr}{fd gd:FuncData}(F:jC K mg "closed" kP ["many","pairs"] f fd)(E:jC K mg "every_pair" iP ["many"] g gd)(B:jV mg):cA P w K mg base ca "closed" ["many","pairs"] 3 cK:=by
 refine⟨⟨f,fd,F.mg,F.F.kp,F.b,((Kf (yH F E (Bs E B) B)).mono (by decide)).imp ?_⟩,λds h=>?_⟩
 ·rintro vs H Q X ⟨G,ds,s,hl,r,h⟩
  have hb:cK ds≠.bad:=λz=>by rw[z] at h;exact h
  obtain⟨n,d,ps,rfl,hd,h1,h8,wn,e⟩:=nk hb
  rw[e] at h
  cases r with
  |cons r1 r=>
   cases r with
   |cons r2 r=>
    cases r
    cases r1
    obtain⟨a,xs,rfl,hq,hr⟩:=(j9.seq (B:=none) (G:=G) (H:=G) (.inl r2) hd (ak.refl _))
    refine⟨n,a,xs,ps,rfl,h1,h8,hq.elim (λq=>.inl (s.seq q)) (λq=>.inr (q.grow s.grow)),(hr.pairs).grow s.grow,wn,λH' t ws hh ht ht' hp=>?_⟩
    have s2:=s.trans hh
    refine h (.ref t) (kQ G H') H' hh pY (sC s2) (λb m hb=>by rw[wa hh m];exact hb) ?_
    exact .tup (mR s2 (.inl (.inl ht'))) (aS.rps (uX s2 hp))
 ·obtain⟨n,d,ps,rfl,_⟩:=nk h
  rfl
end
end RO
namespace HD
open PySem PySem.W
noncomputable abbrev zm:=@PySem.W.Fast.tw10156331382660048174
noncomputable abbrev ET:=@PySem.W.Fast.tw11892475500146522536
noncomputable abbrev JB:=@PySem.W.Fast.tw6613529449190102663
noncomputable abbrev E3:=@PySem.W.Fast.tw14364793385576792824
noncomputable abbrev DS:=@PySem.W.Fast.tw17154629097778926822
noncomputable abbrev Bu:=@PySem.W.Fast.tw12822647523644345616
noncomputable def BI (p:Program):Thread:=
 ⟨do
  let code <-DS p.main
  let frame <-Bu code mainNs mainNs
  let _ <-run (.body (behindTheImports p) {scope:=p.main.scope,locals:=mainNs,globals:=mainNs,cells:=[],code,frame:=some frame})
  ret .none,
  .builtin "claim.caller" {},default,[]⟩
def zP (p:Program):topStub p=BI p:=by
 unfold topStub BI DS Bu
 rw[<-PySem.W.Fast.te17154629097778926822,<-PySem.W.Fast.te12822647523644345616]
noncomputable def mB (p:Program)(w:World)(n₀:Nat)(ann:Option Value):Nat->SharedT->Thread->Option SharedT
 | 0,_,_=>none
 |n + 1,s,t=>match through t with
  |true=>some s
  |false=>match JB n₀ ann t with
   |false=>none
   |true=>match zm (ET E3) p w s t with
    |some (s',t')=>mB p w n₀ ann n s' t'
    |none=>none
theorem pU {p:Program}{w:World}{n₀:Nat}{ann:Option Value}:∀{n:Nat} {s s':SharedT} {t:Thread},mB p w n₀ ann n s t=some s'->topRun treeTable p w n₀ ann n s.abs t=some s'.abs
 | 0,_,_,_,h=>by cases h
 |n + 1,s,s',t,h=>by
  unfold mB at h
  unfold topRun
  cases ht:through t with
  |true=>rw[ht] at h;cases h;rfl
  |false=>
   rw[ht] at h
   have hq:JB n₀ ann t=stepOk n₀ ann t:=by unfold JB;rw[<-PySem.W.Fast.te6613529449190102663]
   dsimp only at h
   rw[hq] at h
   cases hk:stepOk n₀ ann t with
   |false=>rw[hk] at h;cases h
   |true=>
    rw[hk] at h
    have hq:zm (ET E3) p w s t=stepT (denote treeTable) p w s t:=by unfold zm ET E3;rw[<-PySem.W.Fast.te10156331382660048174,<-PySem.W.Fast.te11892475500146522536,<-PySem.W.Fast.te14364793385576792824]
    dsimp only at h
    rw[hq] at h
    cases hs:stepT (denote treeTable) p w s t with
    |none=>rw[hs] at h;cases h
    |some r=>obtain⟨s₂,t₂⟩:=r;rw[hs] at h;rw[stepT_spec hs];exact pU h
def treeOf (l:List Obj):BT:=(l.foldl (λ(x:BT×Nat) o=>(x.1.ins x.2 o,x.2 + 1)) (.nil,0)).1
noncomputable def A1 (P:Params):BT:=treeOf (boot_heap P).objs.toList
abbrev uq:Nat:=11
abbrev By:Life:={}
def boot_abs (P:Params):absHeap (A1 P) uq By=boot_heap P:=by kernel_rfl
def y0 (w:World):((boot_heap w.params).isNs mainGlobals && (Array.mk ([]:List GenState)).size == 0,(boot_heap w.params).objs.size,(boot_heap w.params).nsMap mainGlobals "__annotations__")=(true,uq,some (.ref 6)):=by kernel_rfl
noncomputable def Ae (w:World)(os:OsState):SharedT:=⟨A1 w.params,uq,By,Array.mk [],boot_drawn,boot_toks,os⟩
noncomputable def D3 (p:Program)(w:World)(s:Shared):Bool:=staticsOk (importedModules p.main.body) (boot_heap w.params) s.heap && namesBound p s.heap && gensDone s && laidKept (boot_heap w.params) s.heap
def CY {p q:Program}{loose:List Str}{Xt:Shared->Bool}{α:Type}{Yf:Shared->α}{Ya:World->α}{N:Nat}{g0:Bool}
  (e:opening p=plainProg p.main.scope.names) (hN:Nat.ble 600 N=true) (f:∀s,fenceModules? p s=some s)
  (run:∀(w:World) (os:OsState),(mB p w uq (some (.ref 6)) N (Ae w os) (BI p)).map (λs=>(D3 p w s.abs,openSeen q loose (importedModules p.main.body) Xt g0 s.abs,Yf s.abs))=some (true,openGood q loose,Ya w)):LeftO p q loose Xt Yf Ya N g0:=λw=>by
 obtain⟨⟨h,gs,d,k,os⟩,e,e'⟩:=Option.map_eq_some_iff.mp (boot_open e hN f w)
 obtain⟨rfl,rfl,rfl,rfl⟩:h=boot_heap w.params/\gs=Array.mk []/\d=boot_drawn/\k=boot_toks:=by simpa using e'
 obtain⟨z1,z2,z3⟩:_/\_/\_:=by simpa only [Prod.mk.injEq] using y0 w
 obtain⟨s',r,ls⟩:=Option.map_eq_some_iff.mp (run w os)
 obtain⟨l1,l2,l3⟩:_/\_/\_:=by simpa only [Prod.mk.injEq] using ls
 have r:=pU r
 have ha:(Ae w os).abs=⟨boot_heap w.params,Array.mk [],boot_drawn,boot_toks,os⟩:=by
  show Shared.mk (absHeap (A1 w.params) uq By) _ _ _ _=_
  rw[boot_abs]
  rfl
 rw[ha,<-zP] at r
 have t:topFrom treeTable p w N ⟨boot_heap w.params,Array.mk [],boot_drawn,boot_toks,os⟩=some s'.abs:=by
  unfold topFrom
  dsimp only
  rw[z1,z2,z3,r]
  show (match D3 p w s'.abs with |true=>_ |false=>_)=_
  rw[l1]
 unfold openEnds
 rw[e]
 show (topFrom treeTable p w N _).map _=_
 rw[t]
 exact congrArg some (Prod.ext l2 l3)
end HD
section
namespace RO
open PySem L2 RM
def xw (K:Frag):Sp:=λvs H Q _=>∃(a:Addr) (ns:List Int),vs= [.ref a]/\e8 K H a (ns.map V.int)/\∀H',ak H H'->Q (.bl true) H'
def Fj {K:Frag}{ca:Str->Addr}(vs:List V)(H:Hp)(Q:VK)(E:XK)(h:xw K vs H Q E):BQ K ca 1 Fg vs H Q E:=by
 obtain⟨a,ns,rfl,hS,q⟩:=h
 refine⟨H,[bN ns],ak.refl _,rfl,.cons (.scr hS) .nil,?_⟩
 rw[HX]
 intro v G' H' s1 s2 s3 s4 fv
 have fv:Rp K G' v (.bool true):=fv
 cases fv
 exact q H' s1
def vC:bc "is_whole" RQ.il ["thing"]:=λ_ _ _ _ _ _=>xk λ_=>rfl
def uG:bc "is_below" RQ.iO ["thing","bound"]:=λ_ _ _ _ _ _=>ln2 λ_ _=>rfl
def yD:bc "is_many" RQ.jP ["thing"]:=λ_ _ _ _ _ _=>xk λ_=>rfl
def yK:bc "is_pair" RQ.jO ["thing","many"]:=λ_ _ _ _ _ _=>ln2 λ_ _=>rfl
def ya:bc "is_line" RQ.jG ["thing","many"]:=λ_ _ _ _ _ _=>ln2 λ_ _=>rfl
def qV:bc "every_pair" RQ.dv ["many"]:=λ_ _ _ _ _ _=>xk λ_=>rfl
def zM:bc "closed" kP ["many","pairs"]:=λ_ _ _ _ _ _=>ln2 λ_ _=>rfl
def u9:bc "has_ring" RQ.ip ["pairs"]:=λ_ _ _ _ _ _=>xk λ_=>rfl
def vX:bc "is_order" RQ.iY ["thing"]:=λ_ _ _ _ _ _=>xk λ_=>rfl
def rN:bc "need_order" RQ.fH ["thing"]:=λ_ _ _ _ _ _=>xk λ_=>rfl
def As:bc "places" RQ.kX ["row"]:=λ_ _ _ _ _ _=>xk λ_=>rfl
def oF:bc "keeps_order" RQ.dY ["thing","order"]:=λ_ _ _ _ _ _=>ln2 λ_ _=>rfl
def qL:bc "with_thing" RQ.fE ["placed","thing"]:=λ_ _ _ _ _ _=>ln2 λ_ _=>rfl
def oI:bc "free_things" RQ.dS ["masks","placed"]:=λ_ _ _ _ _ _=>ln2 λ_ _=>rfl
def xW:bc "ways_on" RQ.jQ ["masks"]:=λ_ _ _ _ _ _=>xk λ_=>rfl
def oJ:bc "masks_ahead" RQ.dQ ["order"]:=λ_ _ _ _ _ _=>xk λ_=>rfl
def uy:bc "rows_many" RQ.gu ["order"]:=λ_ _ _ _ _ _=>xk λ_=>rfl
def AW:bc "choose" RQ.kE ["masks","ways","placed","left"]:=λ_ _ _ _ _ _=>Kg λ_ _ _ _=>rfl
def yg:bc "nth_row" RQ.jK ["order","number"]:=λ_ _ _ _ _ _=>ln2 λ_ _=>rfl
def yN:bc "rank_of" RQ.jL ["order","row"]:=λ_ _ _ _ _ _=>ln2 λ_ _=>rfl
def sR:bc "_law_cell" RQ.gq ["script","k"]:=λ_ _ _ _ _ _=>ln2 λ_ _=>rfl
def uE:bc "_law_mix" RQ.dJ ["cell","k"]:=λ_ _ _ _ _ _=>ln2 λ_ _=>rfl
def vf:bc "_law_box" RQ.iy ["script","k"]:=λ_ _ _ _ _ _=>ln2 λ_ _=>rfl
def tS:bc "_law_take" RQ.gB ["box","many"]:=λ_ _ _ _ _ _=>ln2 λ_ _=>rfl
def qp:bc "_law_whole" RQ.fG ["thing"]:=λ_ _ _ _ _ _=>xk λ_=>rfl
def l7:bc "_law_mixed_up" RQ.cZ ["box","some"]:=λ_ _ _ _ _ _=>ln2 λ_ _=>rfl
def o7:bc "_law_closed" RQ.dW ["pairs"]:=λ_ _ _ _ _ _=>xk λ_=>rfl
def rH:bc "_law_order" RQ.fF ["box","most"]:=λ_ _ _ _ _ _=>ln2 λ_ _=>rfl
def uo:bc "_law_rows" RQ.gF ["order"]:=λ_ _ _ _ _ _=>xk λ_=>rfl
def all_mk {l:PySem.W.OpenLaw}{w:World}{K:Frag}{h:Heap}{mg:Str->Option Value}{fa f30 x0 x1 x2:Addr}(X:K.In h)(G:h.Ns mainGlobals mg)(hfa:mg "law"=some (.ref fa))
  {od30 an30:Option Addr} {sl30:Array (Option Value)} {oc30 kV30 dc30 pm30 cd30 ct30:Value} {tMOST_THINGS:Tok}
  (F1:Fo K mg "is_whole" RQ.il ["thing"])
  (F2:Fo K mg "is_below" RQ.iO ["thing","bound"])
  (F3:Fo K mg "is_many" RQ.jP ["thing"])
  (F4:Fo K mg "is_pair" RQ.jO ["thing","many"])
  (F5:Fo K mg "is_line" RQ.jG ["thing","many"])
  (F6:Fo K mg "every_pair" RQ.dv ["many"])
  (F7:Fo K mg "closed" kP ["many","pairs"])
  (F8:Fo K mg "has_ring" RQ.ip ["pairs"])
  (F9:Fo K mg "is_order" RQ.iY ["thing"])
  (F10:Fo K mg "need_order" RQ.fH ["thing"])
  (F11:Fo K mg "places" RQ.kX ["row"])
  (F12:Fo K mg "keeps_order" RQ.dY ["thing","order"])
  (F13:Fo K mg "with_thing" RQ.fE ["placed","thing"])
  (F14:Fo K mg "free_things" RQ.dS ["masks","placed"])
  (F15:Fo K mg "ways_on" RQ.jQ ["masks"])
  (F16:Fo K mg "masks_ahead" RQ.dQ ["order"])
  (F17:Fo K mg "rows_many" RQ.gu ["order"])
  (F18:Fo K mg "choose" RQ.kE ["masks","ways","placed","left"])
  (F19:Fo K mg "nth_row" RQ.jK ["order","number"])
  (F20:Fo K mg "rank_of" RQ.jL ["order","row"])
  (F21:Fo K mg "_law_cell" RQ.gq ["script","k"])
  (F22:Fo K mg "_law_mix" RQ.dJ ["cell","k"])
  (F23:Fo K mg "_law_box" RQ.iy ["script","k"])
  (F24:Fo K mg "_law_take" RQ.gB ["box","many"])
  (F25:Fo K mg "_law_whole" RQ.fG ["thing"])
  (F26:Fo K mg "_law_mixed_up" RQ.cZ ["box","some"])
  (F27:Fo K mg "_law_closed" RQ.dW ["pairs"])
  (F28:Fo K mg "_law_order" RQ.fF ["box","most"])
  (F29:Fo K mg "_law_rows" RQ.gF ["order"])
  (a30:PySem.W.nsIn K mainGlobals "law"=some (some (.ref f30))) (l30:K.lookup f30=some ⟨oc30,od30,.func (PySem.W.fnOf "law" "law" (gy RQ.j5) (cx RQ.j5) (av RQ.j5) .none kV30 dc30 pm30 an30 cd30 ct30),sl30⟩) (c30:PySem.W.codeIn K cd30 "law"=true) (k30:PySem.W.keepIn K (.ref f30)=true)
  (zB:JQ K=true)
  (yMOST_THINGS:PySem.W.nsIn K mainGlobals "MOST_THINGS"=some (some (.int 8 tMOST_THINGS)))
  (m0:PySem.W.nsIn K mainGlobals "NoNumber"=some (some (.ref x0)))
  (e0:PySem.W.excIn K x0 [.type "ValueError",.type "Exception",.type "BaseException",.type "object"] "ValueError.__new__"=true)
  (m1:PySem.W.nsIn K mainGlobals "NoOrder"=some (some (.ref x1)))
  (e1:PySem.W.excIn K x1 [.type "ValueError",.type "Exception",.type "BaseException",.type "object"] "ValueError.__new__"=true)
  (m2:PySem.W.nsIn K mainGlobals "NoRow"=some (some (.ref x2)))
  (e2:PySem.W.excIn K x2 [.type "ValueError",.type "Exception",.type "BaseException",.type "object"] "ValueError.__new__"=true)
  :∃fd:FuncData,(∀(s:Shared) (v:Value),BindsTo s fd ⟨[v],[]⟩ [("script",v)])/\∀base:Heap,K.In base->base.Ns mainGlobals mg->eQ l.prog w K mg base (mf l.prog w) 7 fa fd ["script"] (xw K):=by
 have e:=hfa.symm.trans (MG X G a30)
 cases e
 have B:jV mg:=HN X G zB
 have gK:=MG X G yMOST_THINGS
 obtain⟨f1,d1,bJ⟩:=F1.ex
 obtain⟨f2,d2,aX⟩:=F2.ex
 obtain⟨f3,d3,fQ⟩:=F3.ex
 obtain⟨f4,d4,fL⟩:=F4.ex
 obtain⟨f5,d5,fK⟩:=F5.ex
 obtain⟨f6,d6,kZ⟩:=F6.ex
 obtain⟨f7,d7,h9⟩:=F7.ex
 obtain⟨f8,d8,dM⟩:=F8.ex
 obtain⟨f9,d9,dG⟩:=F9.ex
 obtain⟨f10,d10,aQ⟩:=F10.ex
 obtain⟨f11,d11,hW⟩:=F11.ex
 obtain⟨f12,d12,cu⟩:=F12.ex
 obtain⟨f13,d13,ao⟩:=F13.ex
 obtain⟨f14,d14,aN⟩:=F14.ex
 obtain⟨f15,d15,bp⟩:=F15.ex
 obtain⟨f16,d16,aM⟩:=F16.ex
 obtain⟨f17,d17,df⟩:=F17.ex
 obtain⟨f18,d18,g9⟩:=F18.ex
 obtain⟨f19,d19,fP⟩:=F19.ex
 obtain⟨f20,d20,fN⟩:=F20.ex
 obtain⟨f21,d21,dh⟩:=F21.ex
 obtain⟨f22,d22,dE⟩:=F22.ex
 obtain⟨f23,d23,dH⟩:=F23.ex
 obtain⟨f24,d24,aP⟩:=F24.ex
 obtain⟨f25,d25,cc⟩:=F25.ex
 obtain⟨f26,d26,bO⟩:=F26.ex
 obtain⟨f27,d27,a9⟩:=F27.ex
 obtain⟨f28,d28,cO⟩:=F28.ex
 obtain⟨f29,d29,c9⟩:=F29.ex
 have U30:=uQ (st:=RQ.j5) l30 c30 k30
 have Ie:jC K mg "law" RQ.j5 ["script"] fa _:=⟨MG X G a30,U30,U30.binds (ps:=["script"]) λ_ _ _ _ _ _=>xk λ_=>rfl⟩
 obtain⟨ca,hca⟩:∃ca:Str->Addr,ca "NoNumber"=x0/\ca "NoOrder"=x1/\ca "NoRow"=x2:=⟨λs=>if s="NoNumber" then x0 else if s="NoOrder" then x1 else if s="NoRow" then x2 else 0,by first |rfl |decide |simp,by first |rfl |decide |simp,by first |rfl |decide |simp⟩
 have fR:Exc K mg ca "NoNumber":=⟨by rw[hca.1];exact MG X G m0,by rw[hca.1];exact e0⟩
 have hV:Exc K mg ca "NoOrder":=⟨by rw[hca.2.1];exact MG X G m1,by rw[hca.2.1];exact e1⟩
 have kW:Exc K mg ca "NoRow":=⟨by rw[hca.2.2];exact MG X G m2,by rw[hca.2.2];exact e2⟩
 refine⟨PySem.W.fnOf "law" "law" (gy RQ.j5) (cx RQ.j5) (av RQ.j5) .none kV30 dc30 pm30 an30 cd30 ct30,λs v=>.of_eq rfl,λbase _ _=>?_⟩
 have dF:=(RQ.qW (P:=l.prog) (w:=w) (base:=base) (ca:=ca) bJ B).imp xa
 have b5:=(RQ.rM (P:=l.prog) (w:=w) (base:=base) (ca:=ca) aX B dF).imp CV
 have lA:=(RQ.ug (P:=l.prog) (w:=w) (base:=base) (ca:=ca) fQ B dF gK).imp Gm
 have lu:=(RQ.tE (P:=l.prog) (w:=w) (base:=base) (ca:=ca) fL B b5).imp Et
 have lq:=RQ.r6 (P:=l.prog) (w:=w) (base:=base) (ca:=ca) fK B b5
 have Dx:=RQ.nR (P:=l.prog) (w:=w) (base:=base) (ca:=ca) kZ B
 have nv:=vb (P:=l.prog) (w:=w) (base:=base) (ca:=ca) h9 kZ B
 have kq:=(RQ.rj (P:=l.prog) (w:=w) (base:=base) (ca:=ca) dM B).imp Fp
 have kj:=(RQ.rq (P:=l.prog) (w:=w) (base:=base) (ca:=ca) dG B lA lu nv kq).imp vk
 have bH:=(RQ.nq (P:=l.prog) (w:=w) (base:=base) (ca:=ca) aQ B kj hV).imp B9
 have oA:=RQ.vF (P:=l.prog) (w:=w) (base:=base) (ca:=ca) hW B
 have gR:=RQ.l8 (P:=l.prog) (w:=w) (base:=base) (ca:=ca) cu B lq oA
 have aI:=RQ.ox (P:=l.prog) (w:=w) (base:=base) (ca:=ca) ao B
 have bA:=RQ.mi (P:=l.prog) (w:=w) (base:=base) (ca:=ca) aN B aI
 have cH:=RQ.tx (P:=l.prog) (w:=w) (base:=base) (ca:=ca) bp B bA aI
 have bw:=RQ.mh (P:=l.prog) (w:=w) (base:=base) (ca:=ca) aM B aI
 have jg:=RQ.oZ (P:=l.prog) (w:=w) (base:=base) (ca:=ca) df B bH cH bw
 have mX:=RQ.vY (P:=l.prog) (w:=w) (base:=base) (ca:=ca) g9 B bA aI
 have lx:=RQ.tJ (P:=l.prog) (w:=w) (base:=base) (ca:=ca) fP B bH bw cH b5 mX aI fR
 have lH:=RQ.tM (P:=l.prog) (w:=w) (base:=base) (ca:=ca) fN B bH gR bw cH bA aI kW
 have jj:=RQ.oD (P:=l.prog) (w:=w) (base:=base) (ca:=ca) dh B
 have kn:=RQ.ql (P:=l.prog) (w:=w) (base:=base) (ca:=ca) dE B
 have ki:=RQ.qA (P:=l.prog) (w:=w) (base:=base) (ca:=ca) dH B jj kn
 have bC:=RQ.oR (P:=l.prog) (w:=w) (base:=base) aP B
 have fA:=RQ.nJ (P:=l.prog) (w:=w) (base:=base) (ca:=ca) cc B
 have fh:=RQ.k9 (P:=l.prog) (w:=w) (base:=base) bO B bC
 have cv:=RQ.mq (P:=l.prog) (w:=w) (base:=base) (ca:=ca) a9 B
 have iE:=RQ.oi (P:=l.prog) (w:=w) (base:=base) (ca:=ca) cO B cv bC fh
 have ji:=RQ.oH (P:=l.prog) (w:=w) (base:=base) (ca:=ca) c9 B
 have GS:=RQ.Dr (P:=l.prog) (w:=w) (base:=base) (ca:=ca) Ie B ki cv ji jg fA lx lH iE bC
 exact eQ.imp (sp:=BQ K ca 1 Fg) GS Fj
def walk {l:PySem.W.OpenLaw}{q:Program}{loose:List Str}{XP:(Str->Option Value)->Heap->Prop}{YP:World->Heap->Prop}{d:DefRec}{K:Params->Frag}(hn:l.most=some 63)(hdf:d.params.defaults= [])(hi:PyProof.Rows.importsNone q=true)
  (hY:∀(w:World) (h:Heap),YP w h->(K w.params).In h)
  (F:∀(w:World) (mg:Str->Option Value) (fa:Addr) (h:Heap),(K w.params).In h->h.Ns mainGlobals mg->mg d.name=some (.ref fa)->
   ∃fd:FuncData,(∀(s:Shared) (u:Value),BindsTo s fd ⟨[u],[]⟩ [("script",u)])/\∀base:Heap,(K w.params).In base->base.Ns mainGlobals mg->eQ l.prog w (K w.params) mg base (mf l.prog w) 7 fa fd ["script"] (xw (K w.params))) :
  PySem.W.WalkO q loose XP YP l.row.toRowW d [] (λf vs=>PySem.call f vs):=
 L2.Ci (n:=63) (k:=7) (x:="script") (CX:=λw=>mf l.prog w) (sp:=λw=>xw (K w.params)) hn (by decide) hdf hi ⟨rfl,by decide,by decide,rfl⟩ hY F (λ_ _ a ns hl _ hS=>⟨a,ns,rfl,hS,λ_ _=>rfl⟩) λ_ _ _ _ _ z=>by
  obtain⟨_,_,_,_,_,_,_,_,_,z⟩:=z
  exact z
end RO
namespace HD
noncomputable def vw:PySem.Program:=PySem.W.view PySem.Challenge.pw_rowsorder_k09_rows_counted_and_numbered [1,2,3,4,5,6,7,9,10,11,12,14,15,16,17,19,20,21,22,23,24,25,26,27,28,30,31,32,33,34,35,36,37,38,39]
def G8:PySem.Challenge.rw_rowsorder_k09_rows_counted_and_numbered.wellSaid=true:=by kernel_rfl
end HD
local macro_rules | `(tactic|o_head $H)=>`(tactic| (
 refine PySem.W.holds_open (q:=HD.vw) (loose:=[]) (Xt:=λs=>PySem.W.xlAt HD.vw [] s && PySem.W.recOk (PySem.W.RowW.records _) s) (XP:=PySem.W.XL HD.vw []) (Yf:=PySem.W.Hook.obs $H) (Ya:=PySem.W.Hook.val $H) (YP:=PySem.W.Hook.says $H) (N:=3674) ?hl (PySem.W.Hook.of $H) (PySem.W.Hook.keeps $H) (λs e=>PySem.W.xl_of s (Bool.and_eq_true_iff.mp e).1) PySem.W.XL.keeps (by rfl) (by rfl) (by rfl) (λs e=>PySem.W.recFacts_of (Bool.and_eq_true_iff.mp e).2) (by rfl) (by first |assumption |decide +kernel) (by decide +kernel) ⟨rfl,rfl,rfl,rfl,rfl,by decide +kernel⟩ ?hw ?hc
 case hl=>exact HD.CY (by kernel_rfl) (by kernel_rfl) (λs=>by kernel_rfl) (λw os=>by kernel_rfl)))
open PySem PySem.W PyProof.Rows L2
set_option maxRecDepth 100000 in
set_option maxHeartbeats 0 in
theorem PySem.Challenge.cw_rowsorder_k09_rows_counted_and_numbered_holds : PySem.Challenge.rw_rowsorder_k09_rows_counted_and_numbered.Holds := by
 w_on;(refine holds_law HD.G8 λG8=>?_);k_head;(case hw=>w_witness2)
 k_fill
 refine RO.walk (l:=PySem.Challenge.rw_rowsorder_k09_rows_counted_and_numbered) rfl rfl ?hi (λw h Y=>PySem.W.kIn_of Y) ?F
 case hi=>kernel_rfl
 case F=>
  intro w mg fa h KX G hmg
  refine' RO.all_mk KX G hmg ?F1 ?F2 ?F3 ?F4 ?F5 ?F6 ?F7 ?F8 ?F9 ?F10 ?F11 ?F12 ?F13 ?F14 ?F15 ?F16 ?F17 ?F18 ?F19 ?F20 ?F21 ?F22 ?F23 ?F24 ?F25 ?F26 ?F27 ?F28 ?F29 ?a30 ?l30 ?c30 ?k30 ?zB ?yMOST_THINGS ?m0 ?e0 ?m1 ?e1 ?m2 ?e2
  case F1=>refine' bS KX G RO.vC ?a ?l ?c ?k;(case a=>k_is);(case l=>k_is);(case c=>k_is);(case k=>k_is)
  case F2=>refine' bS KX G RO.uG ?a ?l ?c ?k;(case a=>k_is);(case l=>k_is);(case c=>k_is);(case k=>k_is)
  case F3=>refine' bS KX G RO.yD ?a ?l ?c ?k;(case a=>k_is);(case l=>k_is);(case c=>k_is);(case k=>k_is)
  case F4=>refine' bS KX G RO.yK ?a ?l ?c ?k;(case a=>k_is);(case l=>k_is);(case c=>k_is);(case k=>k_is)
  case F5=>refine' bS KX G RO.ya ?a ?l ?c ?k;(case a=>k_is);(case l=>k_is);(case c=>k_is);(case k=>k_is)
  case F6=>refine' bS KX G RO.qV ?a ?l ?c ?k;(case a=>k_is);(case l=>k_is);(case c=>k_is);(case k=>k_is)
  case F7=>refine' bS KX G RO.zM ?a ?l ?c ?k;(case a=>k_is);(case l=>k_is);(case c=>k_is);(case k=>k_is)
  case F8=>refine' bS KX G RO.u9 ?a ?l ?c ?k;(case a=>k_is);(case l=>k_is);(case c=>k_is);(case k=>k_is)
  case F9=>refine' bS KX G RO.vX ?a ?l ?c ?k;(case a=>k_is);(case l=>k_is);(case c=>k_is);(case k=>k_is)
  case F10=>refine' bS KX G RO.rN ?a ?l ?c ?k;(case a=>k_is);(case l=>k_is);(case c=>k_is);(case k=>k_is)
  case F11=>refine' bS KX G RO.As ?a ?l ?c ?k;(case a=>k_is);(case l=>k_is);(case c=>k_is);(case k=>k_is)
  case F12=>refine' bS KX G RO.oF ?a ?l ?c ?k;(case a=>k_is);(case l=>k_is);(case c=>k_is);(case k=>k_is)
  case F13=>refine' bS KX G RO.qL ?a ?l ?c ?k;(case a=>k_is);(case l=>k_is);(case c=>k_is);(case k=>k_is)
  case F14=>refine' bS KX G RO.oI ?a ?l ?c ?k;(case a=>k_is);(case l=>k_is);(case c=>k_is);(case k=>k_is)
  case F15=>refine' bS KX G RO.xW ?a ?l ?c ?k;(case a=>k_is);(case l=>k_is);(case c=>k_is);(case k=>k_is)
  case F16=>refine' bS KX G RO.oJ ?a ?l ?c ?k;(case a=>k_is);(case l=>k_is);(case c=>k_is);(case k=>k_is)
  case F17=>refine' bS KX G RO.uy ?a ?l ?c ?k;(case a=>k_is);(case l=>k_is);(case c=>k_is);(case k=>k_is)
  case F18=>refine' bS KX G RO.AW ?a ?l ?c ?k;(case a=>k_is);(case l=>k_is);(case c=>k_is);(case k=>k_is)
  case F19=>refine' bS KX G RO.yg ?a ?l ?c ?k;(case a=>k_is);(case l=>k_is);(case c=>k_is);(case k=>k_is)
  case F20=>refine' bS KX G RO.yN ?a ?l ?c ?k;(case a=>k_is);(case l=>k_is);(case c=>k_is);(case k=>k_is)
  case F21=>refine' bS KX G RO.sR ?a ?l ?c ?k;(case a=>k_is);(case l=>k_is);(case c=>k_is);(case k=>k_is)
  case F22=>refine' bS KX G RO.uE ?a ?l ?c ?k;(case a=>k_is);(case l=>k_is);(case c=>k_is);(case k=>k_is)
  case F23=>refine' bS KX G RO.vf ?a ?l ?c ?k;(case a=>k_is);(case l=>k_is);(case c=>k_is);(case k=>k_is)
  case F24=>refine' bS KX G RO.tS ?a ?l ?c ?k;(case a=>k_is);(case l=>k_is);(case c=>k_is);(case k=>k_is)
  case F25=>refine' bS KX G RO.qp ?a ?l ?c ?k;(case a=>k_is);(case l=>k_is);(case c=>k_is);(case k=>k_is)
  case F26=>refine' bS KX G RO.l7 ?a ?l ?c ?k;(case a=>k_is);(case l=>k_is);(case c=>k_is);(case k=>k_is)
  case F27=>refine' bS KX G RO.o7 ?a ?l ?c ?k;(case a=>k_is);(case l=>k_is);(case c=>k_is);(case k=>k_is)
  case F28=>refine' bS KX G RO.rH ?a ?l ?c ?k;(case a=>k_is);(case l=>k_is);(case c=>k_is);(case k=>k_is)
  case F29=>refine' bS KX G RO.uo ?a ?l ?c ?k;(case a=>k_is);(case l=>k_is);(case c=>k_is);(case k=>k_is)
  case a30=>k_is
  case l30=>k_is
  case c30=>k_is
  case k30=>k_is
  case zB=>kernel_rfl
  case yMOST_THINGS=>k_is
  case m0=>k_is
  case e0=>kernel_rfl
  case m1=>k_is
  case e1=>kernel_rfl
  case m2=>k_is
  case e2=>kernel_rfl
end
