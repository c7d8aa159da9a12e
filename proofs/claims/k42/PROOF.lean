import PyProof.Rows.All
import Wide.All
import OpenK.AllK
import Wide.FinOn
import Lean
import PyProof.EqAt
import PyProof.EqKinds
import PyProof.TupleCall
import PySem.SetOps
import PyProof.SetKind
import PyProof.TupleKey
import PyProof.DictKinds
import PyProof.Rows.SetFrom
import PyProof.WalksMore
import KE.KSortTup
import PyProof.CollectWalk
import PyProof.ExcArgsOwn
import PyProof.Rows.CountFlat
import PyProof.Rows.SeqMore2
import PyProof.Rows.FStr
import PyProof.Rows.StrWeight2
import PyProof.Rows.StrNews
import PyProof.StrLawsTight
import PyProof.ExcBaseAll.ValueError
import PyProof.ZipIter
import PyProof.CallFns
import PyProof.Draws
import PyProof.EnumMake
import PyProof.SetRoads
import PyProof.Rows.SortWalk
import PyProof.SeqI3
import PyProof.Rows.SortShell
import PyProof.Rows.Range3
import KE.KStateDown
import PyProof.Rows.SumAny
import PyProof.ListRange
import PySem.Challenge.RW_rowsorder_k42_case_papers_looked_at
set_option Elab.async false
set_option linter.all false
set_option maxRecDepth 100000
set_option maxHeartbeats 1000000
def Kh:=@List.getElem?_eq_getElem
def Ki:=@PySem.wpAny_bind
def Kj:=@Nat.le_refl
def Kk:=@PySem.Heap.get?_push_of_some
def Kl:=@if_pos
def Km:=@Bool.and_eq_true
def Kn:=@decide_eq_true
def Ko:=@List.length_map
def Kq:=@List.getD_eq_getElem?_getD
def Kr:=@List.mem_cons_of_mem
def Ks:=@List.mem_cons
def Ku:=@List.mem_cons_self
def Kv:=@PySem.wpAny_pure
def Kw:=@if_neg
def Kx:=@Bool.false_ne_true
def Ky:=@PySem.Heap.lt_size
def Kz:=@List.size_toArray
def KA:=@List.mem_of_getElem?
def KC:=@decide_eq_false
def KD:=@List.getElem?_map
def KG:=@List.getElem?_set_ne
def KH:=@List.getElem?_set_self
def KI:=@List.mem_append
def KJ:=@List.getElem?_eq_some_iff
def KL:=@PySem.Heap.get?_push_size
def KN:=@List.length_append
def KO:=@PySem.strLen_append
def KP:=@List.mem_filter
def KQ:=@decide_eq_true_eq
def KR:=@PySem.boot_len
def KS:=@Nat.lt_of_lt_of_le
def KU:=@List.length_take
def KW:=@List.length_cons
def KY:=@PyProof.Rows.slot_tuple_getitem
def KZ:=@List.mem_map
def K0:=@List.not_mem_nil
def K1:=@PySem.sizeLine_eq
def K2:=@List.mem_range
def K3:=@Nat.ne_of_lt
def K4:=@List.getElem?_append_left
def K5:=@Nat.lt_irrefl
def K6:=@Nat.zero_le
def K7:=@List.mem_singleton
def K8:=@List.mem_append_right
def K9:=@PySem.W.kia_one
def Ld:=@List.getElem?_append_right
def Lf:=@List.all_eq_true
def Lg:=@Nat.le_trans
def Lj:=@Int.toNat_natCast
def Lk:=@Bool.eq_iff_iff
def Lm:=@List.nodup_cons
def Ln:=@PySem.wpAny_truthy_bool
def Lo:=@PySem.wpAny_newObj_type
def Lp:=@List.length_set
def Lq:=@PySem.Heap.get?_update_other
def Lr:=@List.getElem_mem
def Ls:=@List.length_replicate
def Lu:=@List.map_append
def Lv:=@Bool.false_eq_true
def Lw:=@List.length_drop
def Lx:=@List.nodup_iff_pairwise_ne
def Lz:=@if_true
def LA:=@List.eq_of_mem_replicate
def LB:=@Int.zero_add
def LC:=@Nat.zero_add
def LD:=@List.map_cons
def LF:=@List.getElem?_replicate
def LG:=@if_false
def LH:=@List.length_range
def LI:=@List.replicate_succ
def LJ:=@PySem.wpAny_field
def LK:=@PySem.SeqAt.canLay_of_shaped
def LL:=@or_false
def LM:=@List.length_filter_le
def LN:=@Nat.lt_or_ge
def LO:=@List.set_eq_of_length_le
def LP:=@List.pairwise_map
def LQ:=@decide_eq_false_iff_not
def LR:=@PySem.mem_of_lookup
def LS:=@List.map_congr_left
def LU:=@PySem.wpAny_mono
def LV:=@List.take_of_length_le
def LW:=@List.mem_filterMap
def LX:=@Array.getD_eq_getD_getElem?
def LY:=@PySem.wpAny_passesOwn
def LZ:=@List.getElem?_eq_none
def L0:=@PySem.wpAny_holding
def L1:=@Array.getElem?_eq_some_iff
def L3:=@PySem.Value.isInt_shape
def L4:=@List.flatten_cons
def L5:=@List.mem_iff_getElem
def L6:=@List.mem_of_mem_take
def L7:=@Nat.mul_le_mul
def L8:=@List.filterMap_cons
def L9:=@PySem.wpAny_callSpecial?_slot
def Ma:=@List.any_cons
def Mb:=@PySem.W.mg_of
def Mc:=@PySem.wpAny_pyIter_tuple
def Me:=@Bool.decide_and
def Mf:=@Int.emod_nonneg
def Mg:=@Int.emod_lt_of_pos
def Mh:=@List.append_assoc
def Mi:=@Bool.not_eq_true'
def Mj:=@of_decide_eq_true
def Mk:=@PySem.Heap.get?_update_self
def Ml:=@PyProof.Rows.callWith_type1
def Mm:=@List.mem_append_left
def Mn:=@PySem.wpAny_call_entry
def Mo:=@List.lookup_cons
def Mp:=@List.mem_of_mem_drop
def Mq:=@Bool.and_self
def Mr:=@Array.length_toList
def Ms:=@List.length_reverse
def Mt:=@List.append_nil
def Mu:=@List.pairwise_iff_getElem
def Mv:=@Bool.or_eq_true
def Mw:=@PySem.F.args_tuple_add_2
def My:=@List.Pairwise.imp_of_mem
def Mz:=@PySem.Obj.data_mapFields
def MA:=@PySem.AutoSeq1.wpAny_loadPart'
def MB:=@PySem.wpAny_setField
def MC:=@PySem.wpAny_pyIter_list
def MD:=@List.reverse_cons
def ME:=@List.filter_congr
def MF:=@List.idxOf_append
open List (all_cons all_map drop_length map_map set_set)
open PySem.W (Frag)
open PySem.PyData (int)
section
set_option Elab.async false
namespace L2
open PySem PySem.Spec PyProof.Rows
abbrev Key:=Sum Int Str
def nZ:Key->Value->Bool
 | .inl k,v=>Value.isInt k v
 | .inr x,v=>Value.isStrOf x v
def Jm (w:World):Key->Int
 | .inl k=>hashInt k
 | .inr x=>hashStr w x
theorem b7:∀{k:Key} {v:Value},nZ k v=true->(∃i t,k=Sum.inl i/\v=Value.int i t)\/(∃x t,k=Sum.inr x/\v=Value.str x t)
 | .inl i,v,h=>by
  obtain⟨t,e⟩:=L3 (k:=i) (v:=v) h
  exact .inl ⟨i,t,rfl,e⟩
 | .inr x,v,h=>by
  obtain⟨t,e⟩:=Value.isStrOf_shape (x:=x) (v:=v) h
  exact .inr ⟨x,t,rfl,e⟩
def yW (i:Int)(t:Tok):nZ (.inl i) (.int i t)=true:=by simp[nZ,Value.isInt]
def yv (x:Str)(t:Tok):nZ (.inr x) (.str x t)=true:=by simp[nZ,Value.isStrOf]
def Eu (a b:Int):decide ((Sum.inl a:Key)=Sum.inl b)=(a == b):=by
 by_cases e:a=b
 ·subst e;simp
 ·have h:¬(Sum.inl a:Key)=Sum.inl b:=λq=>e (Sum.inl.inj q)
  rw[KC h]
  exact (beq_eq_false_iff_ne.mpr e).symm
def Ei (a b:Str):decide ((Sum.inr a:Key)=Sum.inr b)=decide (a=b):=by
 by_cases e:a=b
 ·subst e;simp
 ·have h:¬(Sum.inr a:Key)=Sum.inr b:=λq=>e (Sum.inr.inj q)
  rw[KC h,KC e]
def FN (a:Int)(b:Str):decide ((Sum.inl a:Key)=Sum.inr b)=false:=KC (λq=>nomatch q)
def Fu (a:Str)(b:Int):decide ((Sum.inr a:Key)=Sum.inl b)=false:=KC (λq=>nomatch q)
def ey (prog:Program)(w:World):PySem.KeyKind prog w Key where
 is:=nZ
 hash:=Jm w
 inj:=λv a b ha hb=>by
  rcases b7 ha with⟨i,t,rfl,rfl⟩ | ⟨x,t,rfl,rfl⟩
  ·rcases b7 hb with⟨j,u,rfl,e⟩ | ⟨y,u,rfl,e⟩
   ·injection e with e1 _;rw[e1]
   ·exact nomatch e
  ·rcases b7 hb with⟨j,u,rfl,e⟩ | ⟨y,u,rfl,e⟩
   ·exact nomatch e
   ·injection e with e1 _;rw[e1]
 byValue:=λk v h=>by
  rcases b7 h with⟨i,t,rfl,rfl⟩ | ⟨x,t,rfl,rfl⟩ <;> rfl
 pyHash:=λhv h=>by
  rcases b7 hv with⟨i,t,rfl,rfl⟩ | ⟨x,t,rfl,rfl⟩
  ·exact wpAny_pyHash_int h
  ·exact wpAny_pyHash_str h
 eqBool:=λhu hv h=>by
  rcases b7 hu with⟨i,t,rfl,rfl⟩ | ⟨x,t,rfl,rfl⟩
  ·rcases b7 hv with⟨j,u,rfl,rfl⟩ | ⟨y,u,rfl,rfl⟩
   ·rw[Eu] at h;exact wpAny_eqBool_int h
   ·rw[FN] at h;exact SeqAt.EqAt.int_str i t y u _ _ _ _ h
  ·rcases b7 hv with⟨j,u,rfl,rfl⟩ | ⟨y,u,rfl,rfl⟩
   ·rw[Fu] at h;exact SeqAt.EqAt.str_int x t j u _ _ _ _ h
   ·rw[Ei] at h;exact wpAny_eqBool_str h
 «strs»:=λk x t v h=>by
  rcases b7 h with⟨i,u,rfl,e⟩ | ⟨y,u,rfl,e⟩
  ·exact nomatch e
  ·injection e with e1 _
   subst e1
   cases v <;> rfl
def uw (prog:Program)(w:World)(i:Int)(t:Tok):(ey prog w).is (.inl i) (.int i t)=true:=yW i t
def sY (prog:Program)(w:World)(x:Str)(t:Tok):(ey prog w).is (.inr x) (.str x t)=true:=yv x t
inductive V where
 |non |bl (b:Bool) |int (i:Int) |str (x:Str) |byt (b:Array UInt8) |flt (b:UInt64) |ref (a:Addr) |ty (n:String)
 deriving DecidableEq
def RelV:V->Value->Prop
 | .non,u=>u=Value.none
 | .bl b,u=>u=Value.bool b
 | .int i,u=>∃t,u=Value.int i t
 | .str x,u=>∃t,u=Value.str x t
 | .byt b,u=>∃t,u=Value.bytes b t
 | .flt b,u=>∃t,u=Value.float b t
 | .ref a,u=>u=Value.ref a
 | .ty n,u=>u=Value.type n
abbrev Vals:List V->List Value->Prop:=Paired RelV
def Vals.length {xs:List V}{us:List Value}(r:Vals xs us):xs.length=us.length:=Paired.length r
theorem Vals.get:∀{xs:List V} {us:List Value} {i:Nat} {x:V},Vals xs us->xs[i]? =some x->∃u,us[i]? =some u/\RelV x u
 |_,_,_,_,.nil,e=>by simp at e
 |_,_,0,_,.cons r _,e=>by simp at e;subst e;exact⟨_,rfl,r⟩
 |_,_,i + 1,x,.cons _ t,e=>by
  obtain⟨u,h1,h2⟩:=Vals.get (i:=i) (x:=x) t (by simpa using e)
  exact⟨u,by simpa using h1,h2⟩
theorem Vals.set {x:V}{u:Value}(r:RelV x u):∀{xs:List V} {us:List Value} (i:Nat),Vals xs us->Vals (xs.set i x) (us.set i u)
 |_,_,_,.nil=>.nil
 |_,_,0,.cons _ t=>.cons r t
 |_,_,i + 1,.cons q t=>.cons q (Vals.set r i t)
theorem Vals.append:∀{xs ys:List V} {us ws:List Value},Vals xs us->Vals ys ws->Vals (xs ++ ys) (us ++ ws)
 |_,_,_,_,.nil,s=>s
 |_,_,_,_,.cons r t,s=>.cons r (Vals.append t s)
theorem Vals.take:∀{xs:List V} {us:List Value} (n:Nat),Vals xs us->Vals (xs.take n) (us.take n)
 |_,_,0,_=>.nil
 |_,_,_ + 1,.nil=>.nil
 |_,_,n + 1,.cons r t=>.cons r (Vals.take n t)
theorem Vals.drop:∀{xs:List V} {us:List Value} (n:Nat),Vals xs us->Vals (xs.drop n) (us.drop n)
 |_,_,0,r=>r
 |_,_,_ + 1,.nil=>.nil
 |_,_,n + 1,.cons _ t=>Vals.drop n t
def zw:Option V->Option Value->Prop
 |some v,some u=>RelV v u
 |none,none=>True
 |_,_=>False
def KV {κ:Type}:List (κ×V)->List (κ×Value)->Prop:=Paired λ(p:κ×V) (q:κ×Value)=>p.1=q.1/\RelV p.2 q.2
def kV:Key->V
 | .inl i=>.int i
 | .inr x=>.str x
inductive HO where
 |lst (xs:List V)
 |tup (xs:List V)
 |dK (kvs:List (Key×V)) |dT (kvs:List (List Key×V))
 |set (S:Int->Bool) (n:Nat)
 |ins (C dx:Addr) (fs:List (Str×V))
 |own (x:Addr)
 |xd (fs:List (Str×V))
 |met (f x:Addr)
 |jP (lo hi:Int)
 |ba (o:Obj) (u:HO)
 |tbl (ps:Array Value)
 |ext (φ:Heap->Prop)
abbrev Hp:=Addr->Option HO
def upd (H:Hp)(a:Addr)(o:HO):Hp:=λb=>if b=a then some o else H b
def aB {H:Hp}{a:Addr}{o:HO}:upd H a o a=some o:=by unfold upd;rw[Kl rfl]
def aC {H:Hp}{a b:Addr}{o:HO}(h:b≠a):upd H a o b=H b:=by unfold upd;rw[Kw h]
def CU {H:Hp}{a:Addr}{o u:HO}:upd (upd H a o) a u=upd H a u:=by
 funext b;unfold upd;split <;> rfl
def D8 {H:Hp}{a b:Addr}{o u:HO}(h:H a=some o)(h':H b=some u)(d:o≠u):a≠b:=by
 intro e;subst e;rw[h] at h';exact d (Option.some.inj h')
def aJ {H:Hp}{a b:Addr}{o:HO}(h:H a=some o)(h':H b=none):a≠b:=by
 intro e;subst e;rw[h] at h';cases h'
section
variable (P:Program)(w:World)
def oU (h:Heap)(a:Addr)(items:Array Value):Prop:=∃o,h.get? a=some o/\o.cls=.type "tuple"/\∃n,o.data=.seq items n/\o.dict=none
def oU.isTup {h:Heap}{a:Addr}{items:Array Value}(x:oU h a items):IsTup h a items:=let ⟨o,e,c,n,d,_⟩:=x;⟨o,e,c,n,d⟩
def oU.new (h:Heap)(items:Array Value):oU (h.push {cls:=.type "tuple",data:=.seq items}) h.objs.size items:=⟨_,KL _ rfl,rfl,_,rfl,rfl⟩
def cB (H:Hp)(h:Heap)(a:Addr):HO->Prop
 | .lst xs=>xs.length<=sizeLine/\∃(its:List Value) (n:Nat),Vals xs its/\h.get? a=some {cls:=.type "list",data:=.seq its.toArray n}
 | .tup xs=>xs.length<=sizeLine/\∃its:List Value,Vals xs its/\oU h a its.toArray
 | .dK kvs=>kvs.length<=sizeLine/\(a == sysModules)=false/\∃vs,KV kvs vs/\h.DictOf (ey P w) a vs
 | .dT kvs=>kvs.length<=sizeLine/\(a == sysModules)=false/\∃xs:List (List Key×Addr×Value),
   Paired (λ(p:List Key×V) (q:List Key×Addr×Value)=>p.1=q.1/\(H q.2.1=some (.tup (p.1.map kV))\/∃o,H q.2.1=some (.ba o (.tup (p.1.map kV))))/\RelV p.2 q.2.2) kvs xs/\
   ∃o es ep,h.get? a=some o/\o.ExactDict/\o.data=.dict es ep/\es.toList=xs.map (entryOfKey (tupleKind (ey P w)))/\(xs.map (·.1)).Nodup
 | .set S n=>h.SetOf (intKind P w) a S n
 | .ins C dx fs=>H dx=some (.own a)/\fs.length<=1000/\dx≠a/\h.get? a=some (PySem.W.instObj C dx)/\
   ∃mA,h.Ns1 dx mA/\(∀f,zw (fs.lookup f) (mA f))/\PySem.Within mA (fs.map (·.1))
 | .own _=>∃o,h.get? a=some o
 | .xd fs=>∃mA,h.Ns1 a mA/\∀f,zw (fs.lookup f) (mA f)
 | .jP lo hi=>∃t u v,h.get? a=some {cls:=.type "range",data:=.fields #[.int lo t,.int hi u,.int 1 v]}
 | .ba o u=>h.get? a=some o/\cB H h a u
 | .tbl ps=>h.get? a=some {cls:=.none,data:=.fields ps}
 | .met f x=>h.get? a=some (PySem.W.methodObj (.ref f) (.ref x))
 | .ext φ=>φ h/\(∃o,h.get? a=some o)/\∀h1 h2:Heap,φ h1->(∀o,h1.get? a=some o->h2.get? a=some o)->φ h2
def ky (H:Hp)(h:Heap):Prop:=∀a o,H a=some o->cB P w H h a o
end
section
variable {P:Program}{w:World}{H H':Hp}{h h':Heap}{a:Addr}{o:HO}
theorem cB.lt (x:cB P w H h a o):a < h.objs.size:=by
 cases o with
 |lst xs=>obtain⟨_,_,_,_,e⟩:=x;exact Ky e
 |tup xs=>obtain⟨_,_,_,p⟩:=x;exact p.isTup.lt
 |dK kvs=>obtain⟨_,_,_,_,o,_,_,e,_⟩:=x;exact Ky e
 |dT kvs=>obtain⟨_,_,_,_,o,_,_,e,_⟩:=x;exact Ky e
 |set S n=>obtain⟨o,_,_,_,e,_⟩:=x;exact Ky e
 |ins C dx fs=>obtain⟨_,_,_,e,_⟩:=x;exact Ky e
 |own y=>obtain⟨_,e⟩:=x;exact Ky e
 |xd fs=>obtain⟨_,⟨_,_,_,e,_⟩,_⟩:=x;exact Ky e
 |jP lo hi=>obtain⟨_,_,_,e⟩:=x;exact Ky e
 |ba ob u=>obtain⟨e,_⟩:=x;exact Ky e
 |tbl ps=>exact Ky (show h.get? a=some _ from x)
 |met f y=>exact Ky (show h.get? a=some _ from x)
 |ext φ=>obtain⟨_,⟨_,e⟩,_⟩:=x;exact Ky e
theorem Paired.mapP {α β:Type}{F G:α->β->Prop}:∀{l₁:List α} {l₂:List β},Paired F l₁ l₂->(∀a b,F a b->G a b)->Paired G l₁ l₂
 |_,_,.nil,_=>.nil
 |_,_,.cons r t,f=>.cons (f _ _ r) (Paired.mapP t f)
theorem cB.stay (x:cB P w H h a o)(k:∀b u,(b=a\/H b=some (.own a))->h.get? b=some u->h'.get? b=some u)
  (ho:∀b,H b=some (.own a)->H' b=some (.own a)) (ht:∀b xs,(H b=some (.tup xs)\/∃o,H b=some (.ba o (.tup xs)))->(H' b=some (.tup xs)\/∃o,H' b=some (.ba o (.tup xs)))):cB P w H' h' a o:=by
 induction o with
 |lst xs=>obtain⟨z,its,n,r,e⟩:=x;exact⟨z,its,n,r,k _ _ (.inl rfl) e⟩
 |tup xs=>obtain⟨z,its,r,ob,e,c⟩:=x;exact⟨z,its,r,ob,k _ _ (.inl rfl) e,c⟩
 |dK kvs=>obtain⟨z,y,vs,r,ob,es,ep,e,c⟩:=x;exact⟨z,y,vs,r,ob,es,ep,k _ _ (.inl rfl) e,c⟩
 |dT kvs=>
  obtain⟨z,y,xs,r,ob,es,ep,e,c⟩:=x
  exact⟨z,y,xs,Paired.mapP r λp q z=>⟨z.1,ht _ _ z.2.1,z.2.2⟩,ob,es,ep,k _ _ (.inl rfl) e,c⟩
 |set S n=>obtain⟨ob,es,ep,t,e,c⟩:=x;exact⟨ob,es,ep,t,k _ _ (.inl rfl) e,c⟩
 |ins C dx fs=>
  obtain⟨d,z,ne,e,mA,⟨od,es,ep,e2,c⟩,r⟩:=x
  exact⟨ho _ d,z,ne,k _ _ (.inl rfl) e,mA,⟨od,es,ep,k _ _ (.inr d) e2,c⟩,r⟩
 |own y=>obtain⟨ob,e⟩:=x;exact⟨ob,k _ _ (.inl rfl) e⟩
 |xd fs=>obtain⟨mA,⟨od,es,ep,e,c⟩,r⟩:=x;exact⟨mA,⟨od,es,ep,k _ _ (.inl rfl) e,c⟩,r⟩
 |jP lo hi=>obtain⟨t,u,v,e⟩:=x;exact⟨t,u,v,k _ _ (.inl rfl) e⟩
 |ba ob u ih=>obtain⟨e,q⟩:=x;exact⟨k _ _ (.inl rfl) e,ih q⟩
 |tbl ps=>
  have e:h.get? a=some {cls:=.none,data:=.fields ps}:=x
  show h'.get? a=some {cls:=.none,data:=.fields ps}
  exact k a _ (.inl rfl) e
 |met f y=>
  have e:h.get? a=some (PySem.W.methodObj (.ref f) (.ref y)):=x
  show h'.get? a=some (PySem.W.methodObj (.ref f) (.ref y))
  exact k a _ (.inl rfl) e
 |ext φ=>obtain⟨p,⟨o,e⟩,st⟩:=x;exact⟨st _ _ p λo q=>k _ _ (.inl rfl) q,⟨o,k _ _ (.inl rfl) e⟩,st⟩
def ky.lt (x:ky P w H h)(e:H a=some o):a < h.objs.size:=(x a o e).lt
theorem ky.fresh (x:ky P w H h)(e:h.objs.size<=a):H a=none:=by
 cases q:H a with
 |none=>rfl
 |some u=>exact absurd (KS (x.lt q) e) (K5 _)
def ky.kept (x:ky P w H h)(k:∀b u,h.get? b=some u->h'.get? b=some u):ky P w H h':=λa o e=>
 (x a o e).stay (λb u _ q=>k b u q) (λ_ q=>q) λ_ _ q=>q
def ky.laid (x:ky P w H h)(k:∀b u,h.get? b=some u->h'.get? b=some u)(hp:h.objs.size<=a)(new:cB P w (upd H a o) h' a o):ky P w (upd H a o) h':=λb u e=>by
 have hn:=x.fresh hp
 by_cases hb:b=a
 ·subst hb;rw[aB] at e;cases e;exact new
 ·rw[aC hb] at e
  exact (x b u e).stay (λc v _ q=>k c v q) (λc q=>by rw[aC (aJ q hn)];exact q) λc xs q=>q.imp (λq=>by rw[aC (aJ q hn)];exact q) λ⟨o,q⟩=>⟨o,by rw[aC (aJ q hn)];exact q⟩
end
def Rd (H:Hp)(a:Addr)(u:HO):Prop:=H a=some u\/∃o,H a=some (.ba o u)
def Rd.ok {P:Program}{w:World}{H:Hp}{h:Heap}{a:Addr}{u:HO}(r:Rd H a u)(x:ky P w H h):cB P w H h a u:=by
 rcases r with r | ⟨o,r⟩
 ·exact x a u r
 ·obtain⟨_,q⟩:=x a _ r
  exact q
def Hv:Option HO->Prop
 |some (.lst _)=>True
 |some (.dK _)=>True
 |some (.dT _)=>True
 |some (.set _ _)=>True
 |some (.ins _ _ _)=>True
 |some (.ext _)=>True
 |_=>False
section
variable {P:Program}{w:World}{H:Hp}{h h':Heap}{x e:Addr}{o':HO}
def ky.write (ok:ky P w H h)(mu:Hv (H x))(he:e=x\/H e=some (.own x))(k:∀b u,b≠e->h.get? b=some u->h'.get? b=some u)(heo:∃u,h'.get? e=some u)
  (new:cB P w (upd H x o') h' x o'):ky P w (upd H x o') h':=λb u q=>by
 have nown:∀c y,H c=some (.own y)->c≠x:=λc y r z=>by subst z;rw[r] at mu;exact mu
 have ntup:∀c xs,H c=some (.tup xs)->c≠x:=λc xs r z=>by subst z;rw[r] at mu;exact mu
 by_cases hb:b=x
 ·subst hb;rw[aB] at q;cases q;exact new
 ·rw[aC hb] at q
  by_cases hbe:b=e
  ·have q':H b=some (.own x):=by
    rcases he with z |z
    ·exact absurd (hbe.trans z) hb
    ·rw[hbe];exact z
   rw[q] at q';cases q'
   obtain⟨v,hv⟩:=heo
   exact⟨v,by rw[hbe];exact hv⟩
  ·refine (ok b u q).stay (λc v hc r=>k c v ?_ r) (λc r=>by rw[aC (nown c b r)];exact r) λc xs r=>r.imp (λr=>by rw[aC (ntup c xs r)];exact r) λ⟨o,r⟩=>⟨o,by rw[aC (λz=>by subst z;rw[r] at mu;exact mu)];exact r⟩
   rcases hc with rfl |hc
   ·exact hbe
   ·rintro rfl
    rcases he with z |z
    ·exact nown c b hc z
    ·rw[hc] at z;cases z;exact hb rfl
end
structure Un (fs ex:List Addr)(H H':Hp)(h h':Heap):Prop where
 keep:∀b o,h.get? b=some o->H b=none->b∉fs->b∉ex->h'.get? b=some o
 slot:∀b o,h.get? b=some o->H b=none->b∈fs->b∉ex->∃sl,h'.get? b=some {o with slots:=sl}
 free:∀b o,h.get? b=some o->H b=none->b∉ex->H' b=none
 there:∀b o,h.get? b=some o->b∉ex->∃o',h'.get? b=some o'
 tups:∀b xs,H b=some (.tup xs)->H' b=some (.tup xs)
 frzs:∀b o u,H b=some (.ba o u)->H' b=some (.ba o u)
 tbls:∀b ps,H b=some (.tbl ps)->∃more,H' b=some (.tbl (ps ++ more))
section
variable {fs fs' ex ex':List Addr}{H H1 H2:Hp}{h h1 h2 h':Heap}{a x e:Addr}{o:HO}
def Un.any (u:Un fs ex H H1 h h1){b:Addr}{ob:Obj}(q:h.get? b=some ob)(n:H b=none)(hx:b∉ex):∃sl,h1.get? b=some {ob with slots:=sl}:=by
 by_cases hb:b∈fs
 ·exact u.slot b ob q n hb hx
 ·exact⟨ob.slots,u.keep b ob q n hb hx⟩
def Un.kept (k:∀b u,h.get? b=some u->h'.get? b=some u):Un fs ex H H h h':=
 ⟨λb ob q _ _ _=>k b ob q,λb ob q _ _ _=>⟨ob.slots,k b ob q⟩,λ_ _ _ n _=>n,λb ob q _=>⟨ob,k b ob q⟩,λ_ _ q=>q,λ_ _ _ q=>q,λ_ ps q=>⟨#[],by rw[q];simp⟩⟩
def Un.refl:Un fs ex H H h h:=Un.kept λ_ _ q=>q
def Un.laid (k:∀b u,h.get? b=some u->h'.get? b=some u)(hp:h.objs.size<=a)(hn:H a=none):Un fs ex H (upd H a o) h h' where
 keep:=λb u q _ _ _=>k b u q
 slot:=λb u q _ _ _=>⟨u.slots,k b u q⟩
 free:=λb u q n _=>by rw[aC (K3 (KS (Ky q) hp))];exact n
 there:=λb u q _=>⟨u,k b u q⟩
 tups:=λb xs q=>by rw[aC (aJ q hn)];exact q
 frzs:=λb u xs q=>by rw[aC (aJ q hn)];exact q
 tbls:=λb ps q=>⟨#[],by rw[aC (aJ q hn),q];simp⟩
def Un.write (mu:Hv (H x))(he:e=x\/H e=some (.own x))(k:∀b u,b≠e->h.get? b=some u->h'.get? b=some u)(heo:∃u,h'.get? e=some u):Un fs ex H (upd H x o) h h':=by
 have hx:∀b,H b=none->b≠x:=λb n z=>by subst z;rw[n] at mu;exact mu
 have hb:∀b,H b=none->b≠e:=λb n z=>by
  subst z
  rcases he with r |r
  ·exact hx b n r
  ·rw[n] at r;cases r
 have hm:∀b u,H b=some u->¬Hv (some u)->b≠x:=λb u q nm z=>by subst z;rw[q] at mu;exact nm mu
 refine⟨λb u q n _ _=>k b u (hb b n) q,λb u q n _ _=>⟨u.slots,k b u (hb b n) q⟩,λb u q n _=>by rw[aC (hx b n)];exact n,λb u q _=>?_,
  λb xs q=>by rw[aC (hm b _ q λz=>z)];exact q,λb u xs q=>by rw[aC (hm b _ q λz=>z)];exact q,λb ps q=>⟨#[],by rw[aC (hm b _ q λz=>z),q];simp⟩⟩
 by_cases hbe:b=e
 ·subst hbe;exact heo
 ·exact⟨u,k b u hbe q⟩
end
def Ic (h:Heap)(H:Hp):List Addr:=(List.range h.objs.size).filter λa=>(H a).isSome
def sP (h:Heap)(H:Hp):Heap:=PySem.W.hideAll h (Ic h H)
def yK (h:Heap)(H:Hp):(sP h H).objs.size=h.objs.size:=PySem.W.hideAll_size _ _
def AX {h:Heap}{H:Hp}{b:Addr}{o:Obj}(e:h.get? b=some o)(n:H b=none):(sP h H).get? b=some o:=
 PySem.W.hideAll_get _ e λhm=>by
  have q:(H b).isSome=true:=(KP.mp hm).2
  rw[n] at q;simp at q
theorem CW {h:Heap}{H:Hp}{b:Addr}{o:Obj}(e:(sP h H).get? b=some o):h.get? b=some o/\H b=none:=by
 have e':h.get? b=some o:=PySem.W.of_hideAll (Ic h H) e
 refine⟨e',?_⟩
 cases q:H b with
 |none=>rfl
 |some x=>
  have hm:b∈Ic h H:=KP.mpr ⟨K2.mpr (Ky e'),by simp[q]⟩
  have z:(sP h H).get? b=none:=PySem.W.hideAll_none (Ic h H) hm
  rw[z] at e;cases e
def Di (g h:Heap)(L:Addr):List (Addr×Obj):=(List.range h.objs.size).filterMap λa=>if a=L\/(g.get? a).isSome=true then none else (h.get? a).map λo=>(a,o)
def rest (g h:Heap)(L d:Addr):List (Addr×Obj):=(Di g h L).filter λp=>decide (p.1≠d)
structure Mod (K:Frag)(mg:Str->Option Value)(base:Heap):Prop where
 kin:K.In base
 glob:base.Ns mainGlobals mg
 blt:∃mb,base.Ns builtinsNs mb/\∀x:Str,x≠"__name__"->mb x=bootBuiltins x
 nolimit:base.NoLimit
 sys:∃mm,base.Ns sysModules mm
structure Cx where
 prog:Program
 w:World
 K:Frag
 mg:Str->Option Value
 base:Heap
 A:Around
 N:List Str
 s₀:Shared
 H₀:Hp
 env:Env
 outer:List Env
 stack:List Env
 ex:List Addr
 fn:Str->Bool
 calm:Bool
 pn:List (Addr×Obj)
 xe:Value->Shared->Prop
def i8 (l:List Env):List Addr:=l.filterMap (·.frame)
abbrev Cx.fs (X:Cx):List Addr:=i8 X.outer
def xO (sc:Scope)(x:Str):Prop:=sc.names.lookup x=some .local\/sc.names.lookup x=some .cell\/sc.names.lookup x=some .free
def Loc (sc:Scope)(x:Str):Prop:=sc.names.lookup x=some .local\/sc.names.lookup x=some .cell
def Look (env:Env)(h:Heap)(m:Str->Option Value)(x:Str)(u:Value):Prop:=
 (env.kindOf x=some .local/\m x=some u)\/((env.kindOf x=some .cell\/env.kindOf x=some .free)/\∃c,env.cells.lookup x=some c/\h.IsCell c (some u))
structure Cx.Ok (X:Cx):Prop where
 mod:Mod X.K X.mg X.base
 kind:X.env.scope.kind=.function
 glob:X.env.globals=mainGlobals
 blt:X.env.builtins=builtinsNs
 above:X.s₀.heap.objs.size<=X.env.locals
 inj:∀x y c,X.env.cells.lookup x=some c->X.env.cells.lookup y=some c->x=y
 has:∀x,(X.env.kindOf x=some .cell\/X.env.kindOf x=some .free)->∃c,X.env.cells.lookup x=some c
 cab:∀x c,X.fn x=true->X.env.cells.lookup x=some c->X.s₀.heap.objs.size<=c
 hd:X.calm=true->X.A.handled=none
 frames:X.A.frames=some X.stack
 stk:X.stack=X.outer\/(X.stack=X.env :: X.outer/\X.env.frame=some X.env.locals)
 exf:∀b∈X.ex,b≠X.env.locals/\∀x c,X.env.cells.lookup x=some c->c≠b
 bs:∀b o,X.base.get? b=some o->X.s₀.heap.get? b=some o/\X.H₀ b=none
 bsz:X.base.objs.size<=X.s₀.heap.objs.size
 noex:∀b o,X.base.get? b=some o->b∉X.ex
 exfs:∀b∈X.ex,b∉X.fs
 funs:X.s₀.heap.FunFrames X.base X.outer
 frf:∀b∈X.fs,X.H₀ b=none
structure Inv (X:Cx)(pins:List (Addr×Obj))(σ:List (Option V))(H:Hp)(s:Shared):Prop where
 ok:X.Ok
 os:s.os=X.s₀.os
 bare:AllBare s.gens
 base:Un X.fs X.ex X.H₀ H X.s₀.heap s.heap
 loc:∃m,s.heap.Ns X.env.locals m/\∀(i:Nat) (x:Str) (v:V),X.N[i]? =some x->σ[i]? =some (some v)->xO X.env.scope x->∃u,RelV v u/\Look X.env s.heap m x u
 cell:∀x c,X.env.cells.lookup x=some c->∃v,s.heap.IsCell c v
 free:H X.env.locals=none
 freeC:∀x c,X.env.cells.lookup x=some c->H c=none
 pin:∀p∈X.pn ++ pins,s.heap.get? p.1=some p.2/\H p.1=none/\p.1≠X.env.locals/\p.1∉X.fs/\∀v,p.2.data≠.cell v
 hok:ky X.prog X.w H s.heap
 len:σ.length=X.N.length
section
variable {X:Cx}{pins:List (Addr×Obj)}{σ:List (Option V)}{H H':Hp}{s:Shared}{h':Heap}
def Cx.Ok.nofr (ok:X.Ok){b:Addr}{o:Obj}(e:X.base.get? b=some o):b∉X.fs:=λhb=>by
 have:=(ok.funs.mem hb).1
 rw[e] at this;cases this
def Inv.bs (I:Inv X pins σ H s):∀b o,X.base.get? b=some o->s.heap.get? b=some o/\H b=none:=λb o e=>
 ⟨I.base.keep b o (I.ok.bs b o e).1 (I.ok.bs b o e).2 (I.ok.nofr e) (I.ok.noex b o e),I.base.free b o (I.ok.bs b o e).1 (I.ok.bs b o e).2 (I.ok.noex b o e)⟩
def Inv.bk (I:Inv X pins σ H s):∀b o,X.base.get? b=some o->s.heap.get? b=some o:=λb o e=>(I.bs b o e).1
def Inv.mod (I:Inv X pins σ H s):Mod X.K X.mg X.base:=I.ok.mod
def Inv.kIn (I:Inv X pins σ H s):X.K.In s.heap:=I.ok.mod.kin.keeps I.bk
def Inv.lt (I:Inv X pins σ H s):X.env.locals < s.heap.objs.size:=let ⟨_,hn,_⟩:=I.loc;hn.lt
def Inv.sz (I:Inv X pins σ H s):X.s₀.heap.objs.size<=s.heap.objs.size:=Lg I.ok.above (Nat.le_of_lt I.lt)
def Inv.nofs (I:Inv X pins σ H s){a:Addr}(h:s.heap.objs.size<=a):a∉X.fs:=λhb=>by
 obtain⟨_,o,ho,_⟩:=I.ok.funs.mem hb
 exact absurd (KS (Ky ho) (Lg I.sz h)) (K5 _)
def Inv.cne (I:Inv X pins σ H s):∀x c,X.env.cells.lookup x=some c->c≠X.env.locals:=λx c e z=>by
 obtain⟨v,o,ho,hd⟩:=I.cell x c e
 obtain⟨m,⟨o',es,ep,ho',hd',_⟩,_⟩:=I.loc
 rw[z,ho'] at ho;cases ho;rw[hd'] at hd;cases hd
def Inv.funs (I:Inv X pins σ H s):s.heap.FunFrames X.base X.outer:=by
 have all:∀(l:List Env),(∀b∈i8 l,b∈X.fs)->X.s₀.heap.FunFrames X.base l->s.heap.FunFrames X.base l:=by
  intro l
  induction l with
  |nil=>intro _ _;trivial
  |cons env r ih=>
   intro hs hl
   obtain⟨hk,⟨L,o,hf,hn,ho,hd⟩,hr⟩:=hl
   have hL:L∈X.fs:=hs L (by unfold i8;rw[L8,hf];exact Ku)
   obtain⟨sl,e⟩:=I.base.slot L o ho (I.ok.frf L hL) hL λz=>I.ok.exfs L z hL
   exact⟨hk,⟨L,_,hf,hn,e,hd⟩,ih (λb hb=>hs b (by unfold i8;rw[L8,hf];exact Kr _ hb)) hr⟩
 exact all X.outer (λ_ hb=>hb) I.ok.funs
def Inv.stack (I:Inv X pins σ H s):s.heap.FunFrames X.base X.stack:=by
 rcases I.ok.stk with e | ⟨e,hf⟩
 ·rw[e];exact I.funs
 ·rw[e]
  obtain⟨m,hn,_⟩:=I.loc
  refine .cons (by rw[I.ok.kind];decide) hf hn ?_ I.funs
  exact Heap.get?_none_of_le (Lg I.ok.bsz I.ok.above)
def Inv.stkSub (I:Inv X pins σ H s):∀b∈i8 X.stack,b∈X.env.locals :: X.fs:=λb hb=>by
 rcases I.ok.stk with e | ⟨e,hf⟩
 ·rw[e] at hb;exact Kr _ hb
 ·rw[e] at hb
  unfold i8 at hb
  rw[L8,hf] at hb
  exact hb
def Inv.stkFree (I:Inv X pins σ H s):∀b∈i8 X.stack,H b=none:=λb hb=>by
 rcases Ks.mp (I.stkSub b hb) with e |hb
 ·rw[e];exact I.free
 ·obtain⟨_,o,ho,_⟩:=I.ok.funs.mem hb
  exact I.base.free b o ho (I.ok.frf b hb) λz=>I.ok.exfs b z hb
def Inv.step {g':Array GenState}{t':Nat}{d':Drawn}{ch:List Addr}(I:Inv X pins σ H s)
  (hch:∀b∈ch,(b∈X.ex\/X.s₀.heap.objs.size<=b)/\b≠X.env.locals/\(∀x c,X.env.cells.lookup x=some c->c≠b)/\∀p∈X.pn ++ pins,p.1≠b)
  (keep:∀b o,b≠X.env.locals->b∉X.fs->b∉ch->s.heap.get? b=some o->H b=none->h'.get? b=some o)
  (slot:∀b o,b≠X.env.locals->b∈X.fs->b∉ch->s.heap.get? b=some o->H b=none->∃sl,h'.get? b=some {o with slots:=sl}) (free:∀b o,b∉ch->s.heap.get? b=some o->H b=none->H' b=none)
  (there:∀b o,b∉ch->s.heap.get? b=some o->∃o',h'.get? b=some o')
  (tups:∀b xs,H b=some (.tup xs)->H' b=some (.tup xs)) (frzs:∀b o u,H b=some (.ba o u)->H' b=some (.ba o u)) (tbls:∀b ps,H b=some (.tbl ps)->∃more,H' b=some (.tbl (ps ++ more)))
  (ns:∀m,s.heap.Ns X.env.locals m->h'.Ns X.env.locals m) (hok:ky X.prog X.w H' h') (hg:AllBare g') :
  Inv X pins σ H' {s with heap:=h',gens:=g',drawn:=d',toks:=t'}:=by
 have neL:∀b o,X.s₀.heap.get? b=some o->b≠X.env.locals:=λb o e=>K3 (KS (Ky e) I.ok.above)
 have neC:∀b o,X.s₀.heap.get? b=some o->b∉X.ex->b∉ch:=λb o e hx hb=>by
  rcases (hch b hb).1 with z |z
  ·exact hx z
  ·exact absurd (KS (Ky e) z) (K5 _)
 have cellK:∀x c,X.env.cells.lookup x=some c->∀v,s.heap.IsCell c v->h'.IsCell c v:=λx c e v ⟨o,ho,hd⟩=>by
  have nch:c∉ch:=λz=>(hch c z).2.2.1 x c e rfl
  by_cases hc:c∈X.fs
  ·obtain⟨sl,q⟩:=slot c o (I.cne x c e) hc nch ho (I.freeC x c e)
   exact⟨_,q,hd⟩
  ·exact⟨o,keep c o (I.cne x c e) hc nch ho (I.freeC x c e),hd⟩
 refine⟨I.ok,I.os,hg,⟨λb o e n hb hx=>?_,λb o e n hb hx=>?_,λb o e n hx=>?_,λb o e hx=>?_,λb xs e=>tups b xs (I.base.tups b xs e),λb o xs e=>frzs b o xs (I.base.frzs b o xs e),λb ps e=>?_⟩,?_,λx c e=>?_,?_,λx c e=>?_,λp hp=>?_,hok,I.len⟩
 ·exact keep b o (neL b o e) hb (neC b o e hx) (I.base.keep b o e n hb hx) (I.base.free b o e n hx)
 ·obtain⟨sl,e1⟩:=I.base.slot b o e n hb hx
  obtain⟨sl',e2⟩:=slot b _ (neL b o e) hb (neC b o e hx) e1 (I.base.free b o e n hx)
  exact⟨sl',e2⟩
 ·obtain⟨o',e1⟩:=I.base.there b o e hx
  exact free b o' (neC b o e hx) e1 (I.base.free b o e n hx)
 ·obtain⟨o',e1⟩:=I.base.there b o e hx
  exact there b o' (neC b o e hx) e1
 ·obtain⟨m1,e1⟩:=I.base.tbls b ps e
  obtain⟨m2,e2⟩:=tbls b _ e1
  exact⟨m1 ++ m2,by rw[e2,Array.append_assoc]⟩
 ·obtain⟨m,hn,hl⟩:=I.loc
  refine⟨m,ns m hn,λi x v e1 e2 e3=>?_⟩
  obtain⟨u,r,l⟩:=hl i x v e1 e2 e3
  refine⟨u,r,?_⟩
  rcases l with l | ⟨k,c,e,z⟩
  ·exact .inl l
  ·exact .inr ⟨k,c,e,cellK x c e _ z⟩
 ·obtain⟨v,z⟩:=I.cell x c e
  exact⟨v,cellK x c e v z⟩
 ·obtain⟨m,⟨o,_,_,ho,_⟩,_⟩:=I.loc
  exact free _ o (λz=>(hch _ z).2.1 rfl) ho I.free
 ·obtain⟨v,o,ho,hd⟩:=I.cell x c e
  exact free c o (λz=>(hch c z).2.2.1 x c e rfl) ho (I.freeC x c e)
 ·obtain⟨e,n,ne,nf,d⟩:=I.pin p hp
  have nch:p.1∉ch:=λz=>(hch p.1 z).2.2.2 p hp rfl
  exact⟨keep p.1 p.2 ne nf nch e n,free p.1 p.2 nch e n,ne,nf,d⟩
def Inv.un {t':Nat}(I:Inv X pins σ H s)(u:Un X.fs [] H H' s.heap h')(hok:ky X.prog X.w H' h'):Inv X pins σ H' {s with heap:=h',toks:=t'}:=by
 obtain⟨m,⟨o,es,ep,ho,r⟩,_⟩:=id I.loc
 obtain⟨sl,hL⟩:=u.any ho I.free (by simp)
 exact I.step (g':=s.gens) (d':=s.drawn) (ch:=[]) (λ_ z=>nomatch z) (λb o _ hb _ e n=>u.keep b o e n hb (by simp)) (λb o _ hb _ e n=>u.slot b o e n hb (by simp)) (λb o _ e n=>u.free b o e n (by simp)) (λb o _ e=>u.there b o e (by simp)) u.tups u.frzs u.tbls (λm' hm=>by
  obtain⟨o',es',ep',ho',r'⟩:=hm
  rw[ho] at ho';cases ho'
  exact⟨_,es',ep',hL,r'⟩) hok I.bare
def Inv.call {g':Array GenState}{t':Nat}{d':Drawn}{ch:List Addr}(I:Inv X pins σ H s)(u:Un (i8 X.stack) ch H H' s.heap h')(hok:ky X.prog X.w H' h')(hg:AllBare g')
  (hch:∀b∈ch,(b∈X.ex\/X.s₀.heap.objs.size<=b)/\b≠X.env.locals/\(∀x c,X.env.cells.lookup x=some c->c≠b)/\∀p∈X.pn ++ pins,p.1≠b) :
  Inv X pins σ H' {s with heap:=h',gens:=g',drawn:=d',toks:=t'}:=by
 obtain⟨m,⟨o,es,ep,ho,r⟩,_⟩:=id I.loc
 obtain⟨sl,hL⟩:=u.any ho I.free λz=>(hch _ z).2.1 rfl
 exact I.step (ch:=ch) hch (λb o hL hb hc e n=>u.keep b o e n (λz=>(Ks.mp (I.stkSub b z)).elim hL hb) hc) (λb o _ _ hc e n=>u.any e n hc) (λb o hc e n=>u.free b o e n hc) (λb o hc e=>u.there b o e hc) u.tups u.frzs u.tbls (λm' hm=>by
  obtain⟨o',es',ep',ho',r'⟩:=hm
  rw[ho] at ho';cases ho'
  exact⟨_,es',ep',hL,r'⟩) hok hg
def Inv.turned {t':Nat}{it:Addr}(I:Inv X pins σ H s)(k:∀b o,b≠it->s.heap.get? b=some o->h'.get? b=some o)(hn:H it=none)(hL:it≠X.env.locals)
  (h1:it∈X.ex\/X.s₀.heap.objs.size<=it) (h2:∀x c,X.env.cells.lookup x=some c->c≠it) (h3:∀p∈X.pn ++ pins,p.1≠it):Inv X pins σ H {s with heap:=h',toks:=t'}:=by
 have nit:∀b u,H b=some u->b≠it:=λb u e z=>by rw[z,hn] at e;cases e
 refine I.step (g':=s.gens) (d':=s.drawn) (ch:=[it]) (λb hb=>?_) (λb o _ _ hc e _=>k b o (λz=>hc (by simp[z])) e) (λb o _ _ hc e _=>⟨o.slots,k b o (λz=>hc (by simp[z])) e⟩) (λ_ _ _ _ n=>n)
  (λb o hc e=>⟨o,k b o (λz=>hc (by simp[z])) e⟩) (λ_ _ e=>e) (λ_ _ _ e=>e) (λb ps e=>⟨#[],by rw[e];simp⟩) (λm hm=>?_) (λb u e=>?_) I.bare
 ·have e:b=it:=by simpa using hb
  subst e
  exact⟨h1,hL,h2,h3⟩
 ·obtain⟨o,es,ep,ho,r⟩:=hm
  exact⟨o,es,ep,k _ o (Ne.symm hL) ho,r⟩
 ·refine (I.hok b u e).stay (λc v hc q=>k c v ?_ q) (λ_ q=>q) λ_ _ q=>q
  rcases hc with z |z
  ·rw[z];exact nit b u e
  ·exact nit c _ z
def Inv.tok (I:Inv X pins σ H s)(t:Nat):Inv X pins σ H {s with toks:=t}:=I.un (h':=s.heap) (t':=t) Un.refl I.hok
def Inv.kept {t':Nat}(I:Inv X pins σ H s)(k:∀b u,s.heap.get? b=some u->h'.get? b=some u):Inv X pins σ H {s with heap:=h',toks:=t'}:=I.un (Un.kept k) (I.hok.kept k)
def Inv.laid {a:Addr}{o:HO}{t':Nat}(I:Inv X pins σ H s)(k:∀b u,s.heap.get? b=some u->h'.get? b=some u)(hp:s.heap.objs.size<=a)(new:cB X.prog X.w (upd H a o) h' a o) :
  Inv X pins σ (upd H a o) {s with heap:=h',toks:=t'}:=I.un (Un.laid k hp (I.hok.fresh hp)) (I.hok.laid k hp new)
def Inv.write {x e:Addr}{o:HO}{t':Nat}(I:Inv X pins σ H s)(mu:Hv (H x))(he:e=x\/H e=some (.own x))(k:∀b u,b≠e->s.heap.get? b=some u->h'.get? b=some u)(heo:∃u,h'.get? e=some u)
  (new:cB X.prog X.w (upd H x o) h' x o):Inv X pins σ (upd H x o) {s with heap:=h',toks:=t'}:=I.un (Un.write mu he k heo) (I.hok.write mu he k heo new)
def Inv.pins_of {pins':List (Addr×Obj)}(I:Inv X pins σ H s)(h:∀p∈pins',s.heap.get? p.1=some p.2/\H p.1=none/\p.1≠X.env.locals/\p.1∉X.fs/\∀v,p.2.data≠.cell v):Inv X pins' σ H s:=
 ⟨I.ok,I.os,I.bare,I.base,I.loc,I.cell,I.free,I.freeC,λp hp=>(KI.mp hp).elim (λz=>I.pin p (Mm _ z)) (h p),I.hok,I.len⟩
def tP {N:List Str}(hN:N.Nodup){i j:Nat}{x:Str}(a:N[i]? =some x)(b:N[j]? =some x):i=j:=by
 obtain⟨h1,e1⟩:=KJ.mp a
 obtain⟨h2,e2⟩:=KJ.mp b
 exact (List.getElem_inj hN).mp (e1.trans e2.symm)
def qI {M:Model}{A:Around}{E:Value->Shared->Prop}{i:Nat}{x:Str}{v:V}{u:Value}{Q:Unit->Shared->Prop}(I:Inv X pins σ H s)(hN:X.N.Nodup)(hi:X.N[i]? =some x)(hx:Loc X.env.scope x)(r:RelV v u)
  (h:∀s',Inv X pins (σ.set i (some v)) H s'->(∃a,Heap.SameBut a s.heap s'.heap/\(a=X.env.locals\/X.env.cells.lookup x=some a))->Q () s') (hf:X.fn x=true\/X.env.scope.names.lookup x=some .local:=by first |exact .inl rfl |exact .inr rfl |assumption):wpAny M A (storeName X.env x u) Q E s:=by
 obtain⟨m,hn,hl⟩:=id I.loc
 have hcls:(X.env.scope.kind == .class || (X.env.scope.kind == .module && X.env.locals != X.env.globals))=false:=by rw[I.ok.kind];rfl
 have hiσ:i < σ.length:=by rw[I.len];exact (KJ.mp hi).1
 have cne:=I.cne
 have tracked:∀{a:Addr} {h':Heap},(∃o,s.heap.get? a=some o/\H a=none)->Heap.SameBut a s.heap h'->ky X.prog X.w H h':=λ{a h'} ha hs b ob e=>by
  obtain⟨_,_,hfree⟩:=ha
  refine (I.hok b ob e).stay (λc w' hc q=>(hs.2 c ?_).trans q) (λ_ q=>q) λ_ _ q=>q
  rintro rfl
  rcases hc with rfl |hc
  ·rw[hfree] at e;cases e
  ·rw[hfree] at hc;cases hc
 rcases hx with hk |hk
 ·refine wpAny_storeName_local hk hn (λh' hn' hs=>?_) hcls
  obtain⟨oL,_,_,hoL,_⟩:=id hn
  refine h _ ⟨I.ok,I.os,I.bare,⟨λb o e n hb hx=>?_,λb o e n hb hx=>?_,I.base.free,λb o e hx=>?_,I.base.tups,I.base.frzs,I.base.tbls⟩,⟨_,hn',λj y v' e1 e2 e3=>?_⟩,λy c e=>?_,I.free,I.freeC,λp hp=>?_,tracked ⟨oL,hoL,I.free⟩ hs,by simpa using I.len⟩ ⟨_,hs,.inl rfl⟩
  ·exact (hs.2 b (K3 (KS (Ky e) I.ok.above))).trans (I.base.keep b o e n hb hx)
  ·obtain⟨sl,e1⟩:=I.base.slot b o e n hb hx
   exact⟨sl,(hs.2 b (K3 (KS (Ky e) I.ok.above))).trans e1⟩
  ·obtain⟨o',e1⟩:=I.base.there b o e hx
   exact⟨o',(hs.2 b (K3 (KS (Ky e) I.ok.above))).trans e1⟩
  ·by_cases hj:j=i
   ·subst hj
    rw[hi] at e1;cases e1
    rw[KH hiσ] at e2
    cases e2
    exact⟨u,r,.inl ⟨hk,by simp⟩⟩
   ·rw[KG (Ne.symm hj)] at e2
    obtain⟨u',r',q⟩:=hl j y v' e1 e2 e3
    refine⟨u',r',?_⟩
    rcases q with⟨k,e⟩ | ⟨k,c,e,z⟩
    ·refine .inl ⟨k,?_⟩
     have:y≠x:=λe=>hj (tP hN e1 (e▸hi))
     simp[this,e]
    ·exact .inr ⟨k,c,e,z.sameBut hs (cne y c e)⟩
  ·obtain⟨w',z⟩:=I.cell y c e
   exact⟨w',z.sameBut hs (cne y c e)⟩
  ·obtain⟨e,n,ne,nf,d⟩:=I.pin p hp
   exact⟨(hs.2 p.1 ne).trans e,n,ne,nf,d⟩
 ·have hfn:X.fn x=true:=by
   rcases hf with z |z
   ·exact z
   ·rw[z] at hk;cases hk
  obtain⟨c,hc⟩:=I.ok.has x (.inl hk)
  obtain⟨w',z⟩:=I.cell x c hc
  refine wpAny_storeName_cell I.ok.kind hk hc z (λh' hc' hs=>?_)
  obtain⟨oc,hoc,hocd⟩:=id z
  refine h {s with heap:=h'} ⟨I.ok,I.os,I.bare,⟨λb o e n hb hx=>?_,λb o e n hb hx=>?_,I.base.free,λb o e hx=>?_,I.base.tups,I.base.frzs,I.base.tbls⟩,⟨m,hn.sameBut hs (Ne.symm (cne x c hc)),λj y v' e1 e2 e3=>?_⟩,λy c' e=>?_,I.free,I.freeC,λp hp=>?_,tracked ⟨oc,hoc,I.freeC x c hc⟩ hs,by simpa using I.len⟩ ⟨c,hs,.inr hc⟩
  ·exact (hs.2 b (K3 (KS (Ky e) (I.ok.cab x c hfn hc)))).trans (I.base.keep b o e n hb hx)
  ·obtain⟨sl,e1⟩:=I.base.slot b o e n hb hx
   exact⟨sl,(hs.2 b (K3 (KS (Ky e) (I.ok.cab x c hfn hc)))).trans e1⟩
  ·obtain⟨o',e1⟩:=I.base.there b o e hx
   exact⟨o',(hs.2 b (K3 (KS (Ky e) (I.ok.cab x c hfn hc)))).trans e1⟩
  ·by_cases hj:j=i
   ·subst hj
    rw[hi] at e1;cases e1
    rw[KH hiσ] at e2
    cases e2
    exact⟨u,r,.inr ⟨.inl hk,c,hc,hc'⟩⟩
   ·rw[KG (Ne.symm hj)] at e2
    obtain⟨u',r',q⟩:=hl j y v' e1 e2 e3
    refine⟨u',r',?_⟩
    rcases q with q | ⟨k,c',e,z'⟩
    ·exact .inl q
    ·refine .inr ⟨k,c',e,z'.sameBut hs ?_⟩
     rintro rfl
     exact hj (tP hN e1 (I.ok.inj _ _ _ e hc▸hi))
  ·by_cases hcc:c'=c
   ·subst hcc;exact⟨_,hc'⟩
   ·obtain⟨w2,z2⟩:=I.cell y c' e
    exact⟨w2,z2.sameBut hs hcc⟩
  ·obtain⟨e,n,ne,nf,d⟩:=I.pin p hp
   refine⟨(hs.2 p.1 ?_).trans e,n,ne,nf,d⟩
   intro q
   rw[q,hoc] at e
   have q':oc=p.2:=Option.some.inj e
   exact d w' (by rw[<-q'];exact hocd)
def uD {M:Model}{A:Around}{E:Value->Shared->Prop}{i:Nat}{x:Str}{v:V}{u:Value}{Q:Unit->Shared->Prop}(I:Inv X pins σ H s)(hN:X.N.Nodup)(hi:X.N[i]? =some x)(hx:Loc X.env.scope x)(r:RelV v u)
  (h:∀s',Inv X pins (σ.set i (some v)) H s'->Q () s') (hf:X.fn x=true\/X.env.scope.names.lookup x=some .local:=by first |exact .inl rfl |exact .inr rfl |assumption):wpAny M A (storeName X.env x u) Q E s:=
 qI I hN hi hx r (λs' I' _=>h s' I') hf
def Inv.call' {s':Shared}{ch:List Addr}(I:Inv X pins σ H s)(ho:s'.os=s.os)(u:Un (i8 X.stack) ch H H' s.heap s'.heap)(hok:ky X.prog X.w H' s'.heap)(hg:AllBare s'.gens)
  (hch:∀b∈ch,(b∈X.ex\/X.s₀.heap.objs.size<=b)/\b≠X.env.locals/\(∀x c,X.env.cells.lookup x=some c->c≠b)/\∀p∈X.pn ++ pins,p.1≠b):Inv X pins σ H' s':=by
 obtain⟨h',g',d',t',o'⟩:=s'
 have e:o'=s.os:=ho
 subst e
 exact I.call (g':=g') (t':=t') (d':=d') u hok hg hch
end
abbrev XK:=Value->Option Addr->Hp->Prop
abbrev St:=List (Option V)
abbrev VK:=V->Hp->Prop
abbrev TE:=St->Hp->VK->Prop
abbrev TT:=St->Hp->(Bool->Hp->Prop)->Prop
abbrev TA:=St->Hp->(List V->Hp->Prop)->Prop
structure Ends where
 nx:St->Hp->Prop
 rt:VK
 bk:St->Hp->Prop:=λ_ _=>False
 ct:St->Hp->Prop:=λ_ _=>False
abbrev TS:=Ends->St->Hp->Prop
def EP (X:Cx)(pins:List (Addr×Obj))(σ:St)(Q:VK)(u:Value)(s':Shared):Prop:=∃v H',Inv X pins σ H' s'/\RelV v u/\Q v H'
def TP (X:Cx)(pins:List (Addr×Obj))(σ:St)(Q:Bool->Hp->Prop)(b:Bool)(s':Shared):Prop:=∃H',Inv X pins σ H' s'/\Q b H'
def AP (X:Cx)(pins:List (Addr×Obj))(σ:St)(Q:List V->Hp->Prop)(us:List Value)(s':Shared):Prop:=∃vs H',Inv X pins σ H' s'/\Vals vs us/\Q vs H'
def SP (X:Cx)(pins:List (Addr×Obj))(D:Ends)(f:Flow)(s':Shared):Prop:=
 match f with
 | .next=>∃σ' H',Inv X pins σ' H' s'/\D.nx σ' H'
 | .brk=>∃σ' H',Inv X pins σ' H' s'/\D.bk σ' H'
 | .cont=>∃σ' H',Inv X pins σ' H' s'/\D.ct σ' H'
 | .ret u=>∃v σ' H',Inv X pins σ' H' s'/\RelV v u/\D.rt v H'
def PE (X:Cx)(e:Expr)(t:TE):Prop:=
 ∀(pins:List (Addr×Obj)) (s:Shared) (σ:St) (H:Hp) (Q:VK),Inv X pins σ H s->t σ H Q->wpAny (model X.prog X.w) X.A (eval e X.env) (EP X pins σ Q) X.xe s
def PT (X:Cx)(e:Expr)(t:TT):Prop:=
 ∀(pins:List (Addr×Obj)) (s:Shared) (σ:St) (H:Hp) (Q:Bool->Hp->Prop),Inv X pins σ H s->t σ H Q->wpAny (model X.prog X.w) X.A (isTrue e X.env (eval e X.env)) (TP X pins σ Q) X.xe s
def PW (X:Cx)(e:Expr)(t:TT):Prop:=
 ∀(whole:Sem Value) (pins:List (Addr×Obj)) (s:Shared) (σ:St) (H:Hp) (Q:Bool->Hp->Prop),Inv X pins σ H s->t σ H Q->wpAny (model X.prog X.w) X.A (isTrue e X.env whole) (TP X pins σ Q) X.xe s
def PW.pt {X:Cx}{e:Expr}{t:TT}(h:PW X e t):PT X e t:=h _
def PA (X:Cx)(es:List Expr)(t:TA):Prop:=
 ∀(pos:Pos) (pins:List (Addr×Obj)) (s:Shared) (σ:St) (H:Hp) (Q:List V->Hp->Prop),Inv X pins σ H s->t σ H Q->wpAny (model X.prog X.w) X.A (spliced (backTo pos (starEach es X.env))) (AP X pins σ Q) X.xe s
def PS (X:Cx)(st:Stmt)(t:TS):Prop:=
 ∀(pins:List (Addr×Obj)) (s:Shared) (σ:St) (H:Hp) (D:Ends),Inv X pins σ H s->t D σ H->wpAny (model X.prog X.w) X.A (exec st X.env) (SP X pins D) X.xe s
def ql (X:Cx)(st:List Stmt)(t:TS):Prop:=
 ∀(pins:List (Addr×Obj)) (s:Shared) (σ:St) (H:Hp) (D:Ends),Inv X pins σ H s->t D σ H->wpAny (model X.prog X.w) X.A (execs st X.env) (SP X pins D) X.xe s
def cq {α:Type}{t:Sem α}{Q Q':α->Shared->Prop}{M:Model}{A:Around}{E:Value->Shared->Prop}{s:Shared}(h:wpAny M A t Q E s)(hQ:∀a s,Q a s->Q' a s):wpAny M A t Q' E s:=LU h hQ λ_ _ x=>x
section
variable {X:Cx}
def bin {a b:Expr}{ta tb:TE}(ha:PE X a ta)(hb:PE X b tb){pins:List (Addr×Obj)}{s:Shared}{σ:St}{H:Hp}{R:V->V->Hp->Prop}(I:Inv X pins σ H s)(h:ta σ H λx H1=>tb σ H1 λy H2=>R x y H2)
  {α:Type} {Q:α->Shared->Prop} {f:Value->Value->Sem α}
  (hf:∀v u s2 x y H2,Inv X pins σ H2 s2->RelV x v->RelV y u->R x y H2->wpAny (model X.prog X.w) X.A (f v u) Q X.xe s2) :
  wpAny (model X.prog X.w) X.A (eval a X.env) (λv s₁=>wpAny (model X.prog X.w) X.A (eval b X.env) (λu s₂=>wpAny (model X.prog X.w) X.A (f v u) Q X.xe s₂) X.xe s₁) X.xe s:=by
 refine cq (ha pins s σ H _ I h) λv s1 ⟨x,H1,I1,r1,q1⟩=>?_
 refine cq (hb pins s1 σ H1 _ I1 q1) λu s2 ⟨y,H2,I2,r2,q2⟩=>?_
 exact hf v u s2 x y H2 I2 r1 r2 q2
def BX (i:Nat):TE:=λσ H Q=>∃v,σ[i]? =some (some v)/\Q v H
def tC (v:V):TE:=λ_ H Q=>Q v H
def kh {i:Nat}{x:Str}{pos:Pos}(hN:X.N[i]? =some x)(hv:xO X.env.scope x)(hd:(x == ("__debug__":Str))=false:=by decide)(hcd:(x == ("__classdict__":Str))=false:=by decide):PE X (.Name x pos) (BX i):=by
 intro pins s σ H Q I h
 obtain⟨v,e,h⟩:=h
 obtain⟨m,hn,hl⟩:=I.loc
 obtain⟨u,r,l⟩:=hl i x v hN e hv
 have fin:EP X pins σ Q u s:=⟨v,H,I,r,h⟩
 rcases l with⟨hk,hm⟩ | ⟨hk,c,hc,hcell⟩
 ·exact wpAny_Name (wpAny_loadName_local I.ok.kind hk hn hm fin) hd
 ·rcases hk with hk |hk
  ·exact wpAny_Name (wpAny_loadName_cell I.ok.kind hk hc hcell fin) hd
  ·exact wpAny_Name (wpAny_loadName_free I.ok.kind hk hc hcell fin hcd) hd
def mG {i j pos}:PE X (.Constant (.int i) j pos) (tC (.int i)):=λ_ _ _ H _ I h=>wpAny_Constant_int ⟨.int i,H,I.tok _,⟨_,rfl⟩,h⟩
def xQ {b j pos}:PE X (.Constant (.bool b) j pos) (tC (.bl b)):=λ_ _ _ H _ I h=>Constant_bool ⟨.bl b,H,I,rfl,h⟩
def FQ {j pos}:PE X (.Constant .none j pos) (tC .non):=λ_ _ _ H _ I h=>Constant_none ⟨.non,H,I,rfl,h⟩
def Bl {x j pos}:PE X (.Constant (.str x) j pos) (tC (.str x)):=λ_ _ _ H _ I h=>Calls.Constant_str ⟨.str x,H,I.tok _,⟨_,rfl⟩,h⟩
def Gl (X:Cx)(x:Str):Prop:=X.env.kindOf x=some .globalImplicit
def sx {E:Value->Shared->Prop}{pins:List (Addr×Obj)}{s:Shared}{σ:St}{H:Hp}{x:Str}{u:Value}{pos:Pos}{Q:Value->Shared->Prop}(I:Inv X pins σ H s)(hg:Gl X x)(hm:X.mg x=some u)(h:Q u s)
  (hd:(x == ("__debug__":Str))=false:=by decide):wpAny (model X.prog X.w) X.A (eval (.Name x pos) X.env) Q E s:=
 Calls.Name_function_global I.ok.kind hg (Calls.loadGlobal_global (by rw[I.ok.glob];exact I.mod.glob.keeps I.bk) hm h) hd
def oO {E:Value->Shared->Prop}{pins:List (Addr×Obj)}{s:Shared}{σ:St}{H:Hp}{x:Str}{u:Value}{pos:Pos}{Q:Value->Shared->Prop}(I:Inv X pins σ H s)(hg:Gl X x)(hm:X.mg x=none)(hv:bootBuiltins x=some u)(h:Q u s)
  (hn:x≠"__name__":=by decide) (hd:(x == ("__debug__":Str))=false:=by decide):wpAny (model X.prog X.w) X.A (eval (.Name x pos) X.env) Q E s:=by
 obtain⟨mb,h1,h2⟩:=I.mod.blt
 exact Calls.Name_function_global I.ok.kind hg (Calls.loadGlobal_builtin (by rw[I.ok.glob];exact I.mod.glob.keeps I.bk) hm (by rw[I.ok.blt];exact h1.keeps I.bk) ((h2 x hn).trans hv) h) hd
def B5 {x:Str}{v:V}{u:Value}{pos:Pos}(hg:Gl X x)(hm:X.mg x=some u)(r:RelV v u)(hd:(x == ("__debug__":Str))=false:=by decide):PE X (.Name x pos) (tC v):=
 λ_ _ _ H _ I h=>sx I hg hm ⟨v,H,I,r,h⟩ hd
def CF {x:Str}{v:V}{u:Value}{pos:Pos}(hg:Gl X x)(hm:X.mg x=none)(hv:bootBuiltins x=some u)(r:RelV v u)(hn:x≠"__name__":=by decide)(hd:(x == ("__debug__":Str))=false:=by decide):PE X (.Name x pos) (tC v):=
 λ_ _ _ H _ I h=>oO I hg hm hv ⟨v,H,I,r,h⟩ hn hd
variable {a b:Expr}{ta tb:TE}{pos:Pos}
def PC (X:Cx)(op:CmpOp)(a b:Expr)(t:TE):Prop:=
 ∀(pins:List (Addr×Obj)) (s:Shared) (σ:St) (H:Hp) (Q:VK),Inv X pins σ H s->t σ H Q->
  wpAny (model X.prog X.w) X.A (eval a X.env) (λv s₁=>wpAny (model X.prog X.w) X.A (eval b X.env) (λu s₂=>wpAny (model X.prog X.w) X.A (compareOp op v u) (EP X pins σ Q) X.xe s₂) X.xe s₁) X.xe s
def Bq (b:Expr){op:CmpOp}(h:op≠.In)(h2:op≠.NotIn):behindInMarks op b=false:=by
 have e1:(op == CmpOp.In)=false:=by cases op <;> first |rfl |exact absurd rfl h
 have e2:(op == CmpOp.NotIn)=false:=by cases op <;> first |rfl |exact absurd rfl h2
 cases b <;> simp[behindInMarks,e1,e2]
def HF (ta:TE):TE:=λσ H Q=>ta σ H λx H1=>Q (.bl (!decide (x=.non))) H1
theorem RelV.none_iff {x:V}{v:Value}(r:RelV x v):(v == Value.none)=decide (x=.non):=by
 cases x with
 |non=>cases r;rfl
 |bl _=>cases r;rfl
 |int _=>obtain⟨t,rfl⟩:=r;rfl
 |str _=>obtain⟨t,rfl⟩:=r;rfl
 |byt _=>obtain⟨t,rfl⟩:=r;rfl
 |flt _=>obtain⟨t,rfl⟩:=r;rfl
 |ref _=>cases r;rfl
 |ty _=>cases r;rfl
def CN {j pos'}(ha:PE X a ta):PC X .IsNot a (.Constant .none j pos') (HF ta):=by
 intro pins s σ H Q I h
 refine cq (ha pins s σ H _ I h) λv s1 ⟨x,H1,I1,r1,q1⟩=>?_
 exact Constant_none (isnot_none_gen ⟨.bl _,H1,I1,by rw[r1.none_iff];rfl,q1⟩)
def tB (t:TE):TT:=λσ H Q=>t σ H λx H1=>∃c,x=.bl c/\Q c H1
def Eo {op:CmpOp}{t:TE}(h:PC X op a b t)(h1:behindInMarks op b=false:=by first |exact Bq _ (by decide) (by decide) |rfl):PT X (.Compare a [op] [b] pos) (tB t):=by
 intro pins s σ H Q I hw
 refine wpAny_isTrue_Compare1 (cq (h pins s σ H _ I hw) λv s1 h1=>cq h1 λu s2 h2=>cq h2 λc s3 ⟨x,H1,I1,r1,q1⟩=>?_) h1
 obtain⟨d,rfl,q⟩:=q1
 cases r1
 exact Ln ⟨H1,I1,q⟩
def vL {e:Expr}{t:TE}(h:PE X e t)(he:∀whole,isTrue e X.env whole=(do let v <-whole;standAt e.pos;holding [v] (truthy v)):=by intro _;rfl):PT X e (tB t):=by
 intro pins s σ H Q I hw
 refine isTrue_plain (cq (h pins s σ H _ I hw) λv s1 ⟨x,H1,I1,r1,q1⟩=>?_) (he _)
 obtain⟨d,rfl,q⟩:=q1
 cases r1
 exact Ln ⟨H1,I1,q⟩
variable {tA tB':TT}{rest:List Expr}
def Jx (t u:TT):TT:=λσ H Q=>t σ H λc H1=>if c=true then u σ H1 Q else Q false H1
def Ka (t u:TT):TT:=λσ H Q=>t σ H λc H1=>if c=true then Q true H1 else u σ H1 Q
def II (t:TT):TT:=λσ H Q=>t σ H λc H1=>Q (!c) H1
theorem xo (ha:PT X a tA):PW X (.BoolOp .And [a] pos) tA:=by
 intro wh pins s σ H Q I h
 refine isTrue_and (cq (ha pins s σ H Q I h) λc s1 e=>?_)
 cases c with
 |true=>exact isTrue_and_nil e
 |false=>exact e
theorem EY (ha:PT X a tA):PW X (.BoolOp .Or [a] pos) tA:=by
 intro wh pins s σ H Q I h
 refine isTrue_or (cq (ha pins s σ H Q I h) λc s1 e=>?_)
 cases c with
 |false=>exact isTrue_or_nil e
 |true=>exact e
theorem zh (ha:PT X a tA)(hb:PW X (.BoolOp .And (b :: rest) pos) tB'):PW X (.BoolOp .And (a :: b :: rest) pos) (Jx tA tB'):=by
 intro wh pins s σ H Q I h
 refine isTrue_and (cq (ha pins s σ H _ I h) λc s1 ⟨H1,I1,q1⟩=>?_)
 cases c with
 |true=>exact hb wh pins s1 σ H1 Q I1 q1
 |false=>exact⟨H1,I1,q1⟩
theorem Gx (ha:PT X a tA)(hb:PW X (.BoolOp .Or (b :: rest) pos) tB'):PW X (.BoolOp .Or (a :: b :: rest) pos) (Ka tA tB'):=by
 intro wh pins s σ H Q I h
 refine isTrue_or (cq (ha pins s σ H _ I h) λc s1 ⟨H1,I1,q1⟩=>?_)
 cases c with
 |true=>exact⟨H1,I1,q1⟩
 |false=>exact hb wh pins s1 σ H1 Q I1 q1
def FJ (ha:PT X a tA):PT X (.UnaryOp .Not a pos) (II tA):=by
 intro pins s σ H Q I h
 exact isTrue_not (ha pins s σ H (λc H1=>Q (!c) H1) I h)
def Ha (ta tb:TE):TE:=λσ H Q=>ta σ H λx H1=>∃c,x=.bl c/\if c=true then tb σ H1 Q else Q (.bl false) H1
def JH (ta tb:TE):TE:=λσ H Q=>ta σ H λx H1=>∃c,x=.bl c/\if c=true then Q (.bl true) H1 else tb σ H1 Q
def G8 (ta:TE):TE:=λσ H Q=>ta σ H λx H1=>∃c,x=.bl c/\Q (.bl (!c)) H1
def FI {op}{t:TE}(h:PE X a t):PE X (.BoolOp op [a] pos) t:=λpins s σ H Q I hw=>BoolOp_one (h pins s σ H Q I hw)
theorem Eb (ha:PE X a ta)(hb:PE X (.BoolOp .And (b :: rest) pos) tb):PE X (.BoolOp .And (a :: b :: rest) pos) (Ha ta tb):=by
 intro pins s σ H Q I h
 refine BoolOp_and (cq (ha pins s σ H _ I h) λv s1 ⟨x,H1,I1,r1,q1⟩=>?_)
 obtain⟨c,rfl,q1⟩:=q1
 cases r1
 refine Ln ?_
 cases c with
 |true=>exact hb pins s1 σ H1 Q I1 q1
 |false=>exact⟨.bl false,H1,I1,rfl,q1⟩
theorem HB (ha:PE X a ta)(hb:PE X (.BoolOp .Or (b :: rest) pos) tb):PE X (.BoolOp .Or (a :: b :: rest) pos) (JH ta tb):=by
 intro pins s σ H Q I h
 refine BoolOp_or (cq (ha pins s σ H _ I h) λv s1 ⟨x,H1,I1,r1,q1⟩=>?_)
 obtain⟨c,rfl,q1⟩:=q1
 cases r1
 refine Ln ?_
 cases c with
 |false=>exact hb pins s1 σ H1 Q I1 q1
 |true=>exact⟨.bl true,H1,I1,rfl,q1⟩
def FL (ha:PE X a ta):PE X (.UnaryOp .Not a pos) (G8 ta):=by
 intro pins s σ H Q I h
 refine UnaryOp_ (cq (ha pins s σ H _ I h) λv s1 ⟨x,H1,I1,r1,q1⟩=>?_)
 obtain⟨c,rfl,q1⟩:=q1
 cases r1
 exact not_of (Ln ⟨.bl (!c),H1,I1,rfl,q1⟩)
end
def iw (K:Frag)(H:Hp)(a:Addr)(xs:List V):Prop:=
 Rd H a (.lst xs)\/
  ∃(o:Obj) (its:Array Value) (n:Nat),K.lookup a=some o/\o.cls=.type "list"/\o.dict=none/\o.data=.seq its n/\its.size<=sizeLine/\Vals xs its.toList
def fy (K:Frag)(H:Hp)(a:Addr)(xs:List V):Prop:=
 Rd H a (.tup xs)\/
  ∃(o:Obj) (its:Array Value) (n:Nat),K.lookup a=some o/\o.cls=.type "tuple"/\o.data=.seq its n/\its.size<=sizeLine/\Vals xs its.toList/\o.dict=none
def IB:Value->Option V
 | .none=>some .non
 | .bool b=>some (.bl b)
 | .int i _=>some (.int i)
 | .str x _=>some (.str x)
 | .bytes b _=>some (.byt b)
 | .float b _=>some (.flt b)
 | .ref a=>some (.ref a)
 | .type n=>some (.ty n)
 |_=>none
theorem RelV.abs {x:V}{u:Value}(r:RelV x u):IB u=some x:=by
 cases x with
 |non=>cases r;rfl
 |bl _=>cases r;rfl
 |int _=>obtain⟨t,rfl⟩:=r;rfl
 |str _=>obtain⟨t,rfl⟩:=r;rfl
 |byt _=>obtain⟨t,rfl⟩:=r;rfl
 |flt _=>obtain⟨t,rfl⟩:=r;rfl
 |ref _=>cases r;rfl
 |ty _=>cases r;rfl
def RelV.inj {x y:V}{u:Value}(r:RelV x u)(q:RelV y u):x=y:=Option.some.inj (r.abs.symm.trans q.abs)
theorem Vals.inj:∀{xs ys:List V} {us:List Value},Vals xs us->Vals ys us->xs=ys
 |_,_,_,.nil,.nil=>rfl
 |_,_,_,.cons r t,.cons r' t'=>by rw[r.inj r',Vals.inj t t']
section
variable {X:Cx}{pins:List (Addr×Obj)}{σ:St}{H:Hp}{s:Shared}{a:Addr}{xs ys:List V}
def Inv.list (I:Inv X pins σ H s)(h:iw X.K H a xs):∃its:List Value,Vals xs its/\PlainL s.heap a its.toArray/\xs.length<=sizeLine:=by
 rcases h with h | ⟨o,its,n,hk,hc,hd,hs,hz,r⟩
 ·obtain⟨z,its,n,r,e⟩:=h.ok I.hok
  exact⟨its,r,⟨_,n,e,rfl,rfl,rfl⟩,z⟩
 ·refine⟨its.toList,r,⟨o,n,I.kIn a o hk,hc,hd,by simpa using hs⟩,?_⟩
  have e:=r.length
  simp only[Mr] at e
  omega
def Inv.tuple (I:Inv X pins σ H s)(h:fy X.K H a xs):∃its:List Value,Vals xs its/\IsTup s.heap a its.toArray/\xs.length<=sizeLine:=by
 rcases h with h | ⟨o,its,n,hk,hc,hs,hz,r,_⟩
 ·obtain⟨z,its,r,p⟩:=h.ok I.hok
  exact⟨its,r,p.isTup,z⟩
 ·refine⟨its.toList,r,⟨o,I.kIn a o hk,hc,n,by simpa using hs⟩,?_⟩
  have e:=r.length
  simp only[Mr] at e
  omega
def Inv.list_inj (I:Inv X pins σ H s)(h:iw X.K H a xs)(h':iw X.K H a ys):xs=ys:=by
 obtain⟨its,r,⟨o,n,e,_,_,d⟩,_⟩:=I.list h
 obtain⟨its',r',⟨o',n',e',_,_,d'⟩,_⟩:=I.list h'
 rw[e] at e';cases e'
 rw[d] at d'
 injection d' with d1 _
 have:its=its':=by simpa using congrArg Array.toList d1
 subst this
 exact r.inj r'
def Inv.tuple_inj (I:Inv X pins σ H s)(h:fy X.K H a xs)(h':fy X.K H a ys):xs=ys:=by
 obtain⟨its,r,⟨o,e,_,n,d⟩,_⟩:=I.tuple h
 obtain⟨its',r',⟨o',e',_,n',d'⟩,_⟩:=I.tuple h'
 rw[e] at e';cases e'
 rw[d] at d'
 injection d' with d1 _
 have:its=its':=by simpa using congrArg Array.toList d1
 subst this
 exact r.inj r'
end
abbrev Cx.wish (X:Cx)(E:Value->Shared->Prop):Cx:={X with xe:=E}
abbrev Cx.nox (X:Cx):Cx:=X.wish λ_ _=>False
def Cx.Ok.wish {X:Cx}(ok:X.Ok)(E:Value->Shared->Prop):(X.wish E).Ok:=
 ⟨ok.mod,ok.kind,ok.glob,ok.blt,ok.above,ok.inj,ok.has,ok.cab,ok.hd,ok.frames,ok.stk,ok.exf,ok.bs,ok.bsz,ok.noex,ok.exfs,ok.funs,ok.frf⟩
def Cx.Ok.unwish {X:Cx}{E:Value->Shared->Prop}(ok:(X.wish E).Ok):X.Ok:=
 ⟨ok.mod,ok.kind,ok.glob,ok.blt,ok.above,ok.inj,ok.has,ok.cab,ok.hd,ok.frames,ok.stk,ok.exf,ok.bs,ok.bsz,ok.noex,ok.exfs,ok.funs,ok.frf⟩
section
variable {X:Cx}{pins:List (Addr×Obj)}{σ:St}{H:Hp}{s:Shared}{E:Value->Shared->Prop}
def Inv.wish (I:Inv X pins σ H s)(E:Value->Shared->Prop):Inv (X.wish E) pins σ H s:=⟨I.ok.wish E,I.os,I.bare,I.base,I.loc,I.cell,I.free,I.freeC,I.pin,I.hok,I.len⟩
def Inv.unwish (I:Inv (X.wish E) pins σ H s):Inv X pins σ H s:=⟨I.ok.unwish,I.os,I.bare,I.base,I.loc,I.cell,I.free,I.freeC,I.pin,I.hok,I.len⟩
theorem SP.unwish {D:Ends}{f:Flow}{s':Shared}(h:SP (X.wish E) pins D f s'):SP X pins D f s':=by
 cases f with
 |next=>obtain⟨σ',H',I,q⟩:=h;exact⟨σ',H',I.unwish,q⟩
 |brk=>obtain⟨σ',H',I,q⟩:=h;exact⟨σ',H',I.unwish,q⟩
 |cont=>obtain⟨σ',H',I,q⟩:=h;exact⟨σ',H',I.unwish,q⟩
 |ret u=>obtain⟨v,σ',H',I,r,q⟩:=h;exact⟨v,σ',H',I.unwish,r,q⟩
def ql.nox {st:List Stmt}{t:TS}(h:ql X.nox st t):ql X st t:=λpins s σ H D I hw=>
 LU (h pins s σ H D (I.wish _) hw) (λ_ _ q=>q.unwish) λ_ _ z=>False.elim z
end
section
variable {X:Cx}{st:Stmt}{rest:List Stmt}{t u:TS}{e:Expr}{te:TE}{pos:Pos}
def GY:TS:=λD σ H=>D.nx σ H
def IQ (t u:TS):TS:=λD σ H=>t {D with nx:=u D} σ H
def xP:ql X [] GY:=λ_ _ σ H _ I h=>wpAny_execs_nil ⟨σ,H,I,h⟩
theorem iz (h1:PS X st t)(h2:ql X rest u):ql X (st :: rest) (IQ t u):=by
 intro pins s σ H D I h
 refine wpAny_execs_cons (cq (h1 pins s σ H {D with nx:=u D} I h) λf s1 q=>?_)
 cases f with
 |next=>
  obtain⟨σ',H',I',q⟩:=q
  exact h2 pins s1 σ' H' D I' q
 |ret v=>exact q
 |brk=>exact q
 |cont=>exact q
theorem iM (h1:PS X st t):ql X [st] t:=by
 intro pins s σ H D I h
 refine wpAny_execs_cons (cq (h1 pins s σ H D I h) λf s1 q=>?_)
 cases f with
 |next=>exact wpAny_execs_nil q
 |ret v=>exact q
 |brk=>exact q
 |cont=>exact q
def Inv.quiet {pins:List (Addr×Obj)}{σ:St}{H:Hp}{s:Shared}(I:Inv X pins σ H s):interactive X.env=false:=by simp[interactive,I.ok.kind]
def HI (te:TE):TS:=λD σ H=>te σ H λ_ H1=>D.nx σ H1
def rG (he:PE X e te)(hs:swapsWith e none pos.line X.env=pure false:=by rfl):PS X (.Expr e pos) (HI te):=by
 intro pins s σ H D I h
 exact wpAny_Expr_any (cq (he pins s σ H _ I h) λv s1 ⟨x,H1,I1,r1,q1⟩=>⟨σ,H1,I1,q1⟩) I.quiet hs
def Jf (te:TE):TS:=λD σ H=>te σ H D.rt
def mj (he:PE X e te):PS X (.Return (some e) pos) (Jf te):=by
 intro pins s σ H D I h
 exact wpAny_Return_some (cq (he pins s σ H _ I h) λv s1 ⟨x,H1,I1,r1,q1⟩=>⟨x,σ,H1,I1,r1,q1⟩)
def IL (c:TT)(t u:TS):TS:=λD σ H=>c σ H λb H1=>if b=true then t D σ H1 else u D σ H1
theorem D6 {c:Expr}{a b:List Stmt}{tc:TT}(hc:PT X c tc)(ha:ql X a t)(hb:ql X b u):PS X (.If c a b pos) (IL tc t u):=by
 intro pins s σ H D I h
 refine wpAny_If (cq (hc pins s σ H _ I h) λd s1 ⟨H1,I1,q1⟩=>?_)
 cases d with
 |true=>exact ha pins s1 σ H1 D I1 q1
 |false=>exact hb pins s1 σ H1 D I1 q1
end
abbrev TG:=V->St->Hp->(St->Hp->Prop)->Prop
abbrev E7:=List V->St->Hp->(St->Hp->Prop)->Prop
def PG (X:Cx)(target:Expr)(t:TG):Prop:=
 ∀(pins:List (Addr×Obj)) (s:Shared) (σ:St) (H:Hp) (v:V) (u:Value) (Q:St->Hp->Prop),Inv X pins σ H s->RelV v u->t v σ H Q->
  wpAny (model X.prog X.w) X.A (assign target X.env u) (λ_ s'=>∃σ' H',Inv X pins σ' H' s'/\Q σ' H') X.xe s
def Ie (X:Cx)(ts:List Expr)(t:E7):Prop:=
 ∀(pins:List (Addr×Obj)) (s:Shared) (σ:St) (H:Hp) (vs:List V) (us:List Value) (Q:St->Hp->Prop),Inv X pins σ H s->Vals vs us->t vs σ H Q->
  wpAny (model X.prog X.w) X.A (assignInOrder ((assignEach ts X.env).map (·.2)) us) (λ_ s'=>∃σ' H',Inv X pins σ' H' s'/\Q σ' H') X.xe s
abbrev Fd:=V->V->V->Hp->(Hp->Prop)->Prop
def FZ (X:Cx)(t:Fd):Prop:=
 ∀(pins:List (Addr×Obj)) (s:Shared) (σ:St) (H:Hp) (o i v:V) (ov iv u:Value) (Q:Hp->Prop),Inv X pins σ H s->RelV o ov->RelV i iv->RelV v u->t o i v H Q->
  wpAny (model X.prog X.w) X.A (setItem ov iv u) (λ_ s'=>∃H',Inv X pins σ H' s'/\Q H') X.xe s
section
variable {X:Cx}{pos:Pos}
def kQ (i:Nat):TG:=λv σ H Q=>Q (σ.set i (some v)) H
def cZ {i:Nat}{x:Str}(hN:X.N.Nodup)(hi:X.N[i]? =some x)(hx:Loc X.env.scope x)(hf:X.fn x=true\/X.env.scope.names.lookup x=some .local:=by first |exact .inl rfl |exact .inr rfl |assumption):PG X (.Name x pos) (kQ i):=by
 intro pins s σ H v u Q I r h
 exact wpAny_assign_Name (uD I hN hi hx r (λs' I'=>⟨_,H,I',h⟩) hf)
def B4:E7:=λvs σ H Q=>vs= []/\Q σ H
def oD (t:TG)(u:E7):E7:=λvs σ H Q=>∃v r,vs=v :: r/\t v σ H λσ' H'=>u r σ' H' Q
def ku:Ie X [] B4:=by
 intro pins s σ H vs us Q I r h
 obtain⟨e,h⟩:=h
 subst e
 cases r
 exact assignInOrder_nil ⟨σ,H,I,h⟩
theorem cH {e:Expr}{es:List Expr}{t:TG}{u:E7}(h1:PG X e t)(h2:Ie X es u)
  (hs:(assignEach (e :: es) X.env).map (·.2)=assign e X.env :: (assignEach es X.env).map (·.2):=by rfl):Ie X (e :: es) (oD t u):=by
 intro pins s σ H vs us Q I r h
 obtain⟨v,vr,e1,h⟩:=h
 subst e1
 cases r with
 |cons r rr=>
  rw[hs]
  refine assignInOrder_cons (cq (h1 pins s σ H _ _ _ I r h) λ_ s1 ⟨σ1,H1,I1,q1⟩=>?_)
  exact h2 pins s1 σ1 H1 _ _ Q I1 rr q1
def Cd (K:Frag)(n:Nat)(t:E7):TG:=λv σ H Q=>∃a xs,v=.ref a/\fy K H a xs/\xs.length=n/\t xs σ H Q
def mF {es:List Expr}{k:Nat}{t:E7}{n:Nat}(hc:X.calm=true)(h:Ie X es t)
  (hn:(assignEach es X.env).length=n:=by rfl) (hst:(assignEach es X.env).findIdx? (·.1)=none:=by rfl):PG X (.Tuple es k pos) (Cd X.K n t):=by
 intro pins s σ H v u Q I r hw
 obtain⟨a,xs,e1,hq,hl,hw⟩:=hw
 subst e1
 cases r
 obtain⟨its,rv,ht,hz⟩:=I.tuple hq
 refine assign_Tuple_tuple (I.ok.hd hc) ht (by simp[hn,<-hl,rv.length]) hst λh' hx=>?_
 have I1:Inv X pins σ H {s with heap:=h'}:=I.kept (t':=s.toks) λb o e=>hx b o (K3 (Ky e)) e
 exact h pins _ σ H xs _ Q I1 (by simpa using rv) hw
def IF (to ti:TE)(t:Fd):TG:=λv σ H Q=>to σ H λo H1=>ti σ H1 λi H2=>t o i v H2 λH3=>Q σ H3
def vh {o i:Expr}{to ti:TE}{t:Fd}(ho:PE X o to)(hi:PE X i ti)(hs:FZ X t)
  (ha:∀v,assign (.Subscript o i pos) X.env v=(do
   let ov <-holding [v] (eval o X.env)
   let iv <-holding [v,ov] (eval i X.env)
   standAt pos
   holding [v,ov,iv] (setItem ov iv v)
   release [v,ov,iv] []):=by intro _;rfl):PG X (.Subscript o i pos) (IF to ti t):=by
 intro pins s σ H v u Q I r h
 rw[ha]
 refine Ki (L0 (cq (ho pins s σ H _ I h) λov s1 ⟨x,H1,I1,r1,q1⟩=>?_))
 refine Ki (L0 (cq (hi pins s1 σ H1 _ I1 q1) λiv s2 ⟨y,H2,I2,r2,q2⟩=>?_))
 refine Ki (wpAny_standAt (Ki (L0 (cq (hs pins s2 σ H2 x y v ov iv u _ I2 r1 r2 r q2) λ_ s3 ⟨H3,I3,q3⟩=>?_))))
 exact wpAny_release ⟨σ,H3,I3,q3⟩
def GN (te:TE)(g:TG):TS:=λD σ H=>te σ H λx H1=>g x σ H1 D.nx
def o5 {tg e:Expr}{te:TE}{g:TG}(he:PE X e te)(hg:PG X tg g)(hs:swapsWithSole [tg] e pos.line X.env=pure false:=by rfl)(hw:swappedStores [tg] e X.env=pure none:=by rfl)
  (h1:(assignEach [tg] X.env).map (·.2)= [assign tg X.env]:=by rfl):PS X (.Assign [tg] e pos) (GN te g):=by
 intro pins s σ H D I h
 refine wpAny_Assign_stores (cq (he pins s σ H _ I h) λv s1 ⟨x,H1,I1,r1,q1⟩=>?_) hs hw
 rw[h1]
 exact cq (hg pins s1 σ H1 x v _ I1 r1 q1) λ_ s2 q=>q
def oG {i:Nat}{x:Str}{e:Expr}{te:TE}{pos':Pos}(hN:X.N.Nodup)(hi:X.N[i]? =some x)(hx:Loc X.env.scope x)(he:PE X e te)(hs:swapsWith e (some (.Name x pos')) pos.line X.env=pure false:=by rfl)(hf:X.fn x=true\/X.env.scope.names.lookup x=some .local:=by first |exact .inl rfl |exact .inr rfl |assumption) :
  PS X (.Assign [.Name x pos'] e pos) (GN te (kQ i)):=by
 intro pins s σ H D I h
 refine wpAny_Assign_Name (cq (he pins s σ H _ I h) λv s1 ⟨y,H1,I1,r1,q1⟩=>?_) hs
 exact uD I1 hN hi hx r1 (λs2 I2=>⟨_,H1,I2,q1⟩) hf
end
section
variable {X:Cx}{pos:Pos}
def FG (c:TT)(tb:TS):TS:=λD σ H=>∃W:Nat->St->Hp->Prop,(∃m,W m σ H)/\∀m σ H,W m σ H->
 c σ H λb H1=>if b=true then ∃N:St->Hp->Prop,(∀σ' H',N σ' H'->∃m',m' < m/\W m' σ' H')/\tb {D with nx:=N,ct:=N,bk:=D.nx} σ H1 else D.nx σ H1
theorem AF {c:Expr}{body:List Stmt}{tc:TT}{tb:TS}(hp:PassesOwn (model X.prog X.w) X.A X.env X.xe)(hc:PT X c tc)(hb:ql X body tb):PS X (.While c body [] pos) (FG tc tb):=by
 intro pins s σ H D I h
 obtain⟨W,⟨m0,w0⟩,turn⟩:=h
 refine wpAny_While (codeAny_whileLoop (λn s'=>∃σ' H',Inv X pins σ' H' s'/\W n σ' H') ?_ m0 ⟨σ,H,I,w0⟩)
 rintro n s1 ⟨σ1,H1,I1,w1⟩
 refine LY hp (cq (hc pins s1 σ1 H1 _ I1 (turn n σ1 H1 w1)) λb s2 ⟨H2,I2,q2⟩=>?_)
 cases b with
 |true=>
  obtain⟨N,hN,q2⟩:=q2
  rw[Kl rfl]
  refine LY hp (cq (hb pins s2 σ1 H2 _ I2 q2) λf s3 q3=>?_)
  cases f with
  |next=>
   obtain⟨σ3,H3,I3,n3⟩:=q3
   obtain⟨m',hm,w3⟩:=hN σ3 H3 n3
   exact⟨m',hm,σ3,H3,I3,w3⟩
  |cont=>
   obtain⟨σ3,H3,I3,n3⟩:=q3
   obtain⟨m',hm,w3⟩:=hN σ3 H3 n3
   exact⟨m',hm,σ3,H3,I3,w3⟩
  |brk=>exact q3
  |ret v=>exact q3
 |false=>
  rw[Kw Kx]
  exact wpAny_execs_nil ⟨σ1,H2,I2,q2⟩
end
structure It where
 go:Nat->Hp->Prop
 yld:Nat->Hp->V->Hp->Prop
 stop:Nat->Hp->Prop
def nr (X:Cx)(pins:List (Addr×Obj))(H:Hp)(b:Addr):Prop:=
 H b=none/\b≠X.env.locals/\b∉X.fs/\(b∈X.ex\/X.s₀.heap.objs.size<=b)/\(∀x c,X.env.cells.lookup x=some c->c≠b)/\∀p∈X.pn ++ pins,p.1≠b
def Inv.fpOk {X:Cx}{pins:List (Addr×Obj)}{σ:St}{H H':Hp}{s:Shared}{b:Addr}(I:Inv X pins σ H s)(hb:s.heap.objs.size<=b)(hn:H' b=none):nr X pins H' b:=by
 refine⟨hn,Nat.ne_of_gt (KS I.lt hb),I.nofs hb,.inr (Lg I.sz hb),λx c e z=>?_,λp hp z=>?_⟩
 ·obtain⟨v,q⟩:=I.cell x c e
  exact absurd (KS q.lt (by rw[z];exact hb)) (K5 _)
 ·exact absurd (KS (Ky (I.pin p hp).1) (by rw[z];exact hb)) (K5 _)
structure Turn (P:Program)(w:World)(K:Frag)(tg:Expr)(J:It)(fp:List Addr)(it:Addr)(tn:Nat->Heap->Prop):Prop where
 mem:it∈fp
 obj:∀i h,tn i h->∀b∈fp,∃o,h.get? b=some o/\∀v,o.data≠.cell v
 keep:∀i h h',tn i h->(∀b∈fp,∀o,h.get? b=some o->h'.get? b=some o)->tn i h'
 item:∀(X:Cx),X.prog=P->X.w=w->X.K=K->X.calm=true->∀(i:Nat) (pins:List (Addr×Obj)) (s:Shared) (σ:St) (H:Hp) (E:Value->Shared->Prop),Inv X pins σ H s->(∀b∈fp,nr X pins H b)->tn i s.heap->J.go i H->
  wpAny (model P w) X.A (pyNext (.ref it)) (λr s1=>∃u,r=some u/\
   wpAny (model P w) X.A (letOwnedTupleGo tg (.ref it) u) (λ_ s2=>∃x H',Inv X pins σ H' s2/\RelV x u/\J.yld i H x H'/\tn (i + 1) s2.heap/\∀b∈fp,H' b=none) E s1) E s
 done:∀(X:Cx),X.prog=P->X.w=w->X.K=K->X.calm=true->∀(i:Nat) (pins:List (Addr×Obj)) (s:Shared) (σ:St) (H:Hp) (E:Value->Shared->Prop),Inv X pins σ H s->(∀b∈fp,nr X pins H b)->tn i s.heap->J.stop i H->
  wpAny (model P w) X.A (pyNext (.ref it)) (λr s1=>r=none/\Inv X pins σ H s1) E s
 self:∀(A:Around) (i:Nat) (s:Shared) (Q:Value->Shared->Prop) (E:Value->Shared->Prop),tn i s.heap->Q (.ref it) s->wpAny (model P w) A (pyIter (.ref it)) Q E s
abbrev TI:=St->Hp->(It->Hp->Prop)->Prop
def JM (X:Cx)(pins:List (Addr×Obj))(σ:St)(tg:Expr)(R:It->Hp->Prop)(itv:Value)(s2:Shared):Prop:=
 ∃(it:Addr) (fp:List Addr) (tn:Nat->Heap->Prop) (J:It) (H':Hp),itv=.ref it/\Inv X pins σ H' s2/\Turn X.prog X.w X.K tg J fp it tn/\tn 0 s2.heap/\(∀b∈fp,nr X pins H' b)/\R J H'
def PI (X:Cx)(tg iter:Expr)(wi:TI):Prop:=
 ∀(pins:List (Addr×Obj)) (s:Shared) (σ:St) (H:Hp) (R:It->Hp->Prop),Inv X pins σ H s->wi σ H R->
  wpAny (model X.prog X.w) X.A (eval iter X.env) (λv s1=>wpAny (model X.prog X.w) X.A (pyIter v) (JM X pins σ tg R) X.xe s1) X.xe s
def Ak {M:Model}{A:Around}{E:Value->Shared->Prop}{s:Shared}{tg:Expr}{it:Addr}{u:Value}{o:Obj}{n:String}{vs:Array Value}{Q:Unit->Shared->Prop}(ho:s.heap.get? it=some o)(hc:o.cls=.type n)(hd:o.data=.fields vs)
  (hn: ["enumerate","zip","dict_itemiterator","dict_reverseitemiterator","odict_iterator","itertools.zip_longest","itertools.pairwise"].contains n=false) (hQ:Q () s):wpAny M A (letOwnedTupleGo tg (.ref it) u) Q E s:=by
 unfold letOwnedTupleGo
 cases tg <;> first
  |exact Kv hQ
  | (cases u <;> first
    |exact Kv hQ
    | (refine Ki (wpAny_load ho ?_)
       rw[hc,hd]
       show wpAny M A (if (["enumerate","zip","dict_itemiterator","dict_reverseitemiterator","odict_iterator","itertools.zip_longest","itertools.pairwise"].contains n && vs[0]? == some (rawInt _))=true then _ else _) Q E s
       rw[Kw (by intro h;rw[hn,Bool.false_and] at h;cases h)]
       exact Kv hQ))
def yJ (K:Frag)(a:Addr):It:=
 ⟨λi H=>∃xs x,iw K H a xs/\xs[i]? =some x,λi H x H'=>H'=H/\∀xs,iw K H a xs->xs[i]? =some x,λi H=>∃xs,iw K H a xs/\xs.length<=i⟩
def DD (K:Frag)(a:Addr):It:=
 ⟨λi H=>∃xs x,fy K H a xs/\xs[i]? =some x,λi H x H'=>H'=H/\∀xs,fy K H a xs->xs[i]? =some x,λi H=>∃xs,fy K H a xs/\xs.length<=i⟩
def z0 (lo:Int)(n:Nat):It:=⟨λi _=>i < n,λi H x H'=>H'=H/\x=.int (lo + i),λi _=>n<=i⟩
def mJ {P:Program}{w:World}{K:Frag}{tg:Expr}(a it:Addr):Turn P w K tg (yJ K a) [it] it (λi h=>h.IsListIter it a i) where
 mem:=by simp
 obj:=λi h st b hb=>by
  have e:b=it:=by simpa using hb
  subst e
  obtain⟨o,e,c,d⟩:=st
  exact⟨o,e,λv z=>by rw[d] at z;cases z⟩
 keep:=λi h h' st k=>st.at λo e=>k it (by simp) o e
 item:=by
  intro X hP hw hK hc i pins s σ H E I hf st hg
  subst hP hw hK
  obtain⟨xs,x,hq,hx⟩:=hg
  obtain⟨its,rv,p,hz⟩:=I.list hq
  obtain⟨u,hu,ru⟩:=rv.get hx
  obtain⟨f0,f1,f2,f3,f4,f5⟩:=hf it (by simp)
  refine wpAny_pyNext_list_item st p.isList (x:=u) (by simpa using hu) λh' st' sb=>?_
  have I1:Inv X pins σ H {s with heap:=h'}:=I.turned (t':=s.toks) (λb o hb e=>(sb.2 b hb).trans e) f0 f1 f3 f4 f5
  obtain⟨o,e,c,d⟩:=id st'
  exact⟨u,rfl,Ak (s:={s with heap:=h'}) e c d (by decide) ⟨x,H,I1,ru,⟨rfl,λys hy=>by rw[I.list_inj hy hq];exact hx⟩,st',λb hb=>(hf b hb).1⟩⟩
 done:=by
  intro X hP hw hK hc i pins s σ H E I hf st hg
  subst hP hw hK
  obtain⟨xs,hq,hx⟩:=hg
  obtain⟨its,rv,p,hz⟩:=I.list hq
  obtain⟨f0,f1,f2,f3,f4,f5⟩:=hf it (by simp)
  have hl:=rv.length
  exact wpAny_pyNext_list_end (I.ok.hd hc) st p.isList (by simp;omega) λh' eb=>⟨rfl,I.turned (t':=s.toks) (λb o hb e=>eb b o hb e) f0 f1 f3 f4 f5⟩
 self:=λ_ _ _ _ _ st h=>wpAny_pyIter_listiter st h
def oA {P:Program}{w:World}{K:Frag}{tg:Expr}(a it:Addr):Turn P w K tg (DD K a) [it] it (λi h=>h.IsTupleIter it a i) where
 mem:=by simp
 obj:=λi h st b hb=>by
  have e:b=it:=by simpa using hb
  subst e
  obtain⟨o,e,c,d⟩:=st
  exact⟨o,e,λv z=>by rw[d] at z;cases z⟩
 keep:=λi h h' st k=>st.at λo e=>k it (by simp) o e
 item:=by
  intro X hP hw hK hc i pins s σ H E I hf st hg
  subst hP hw hK
  obtain⟨xs,x,hq,hx⟩:=hg
  obtain⟨its,rv,p,hz⟩:=I.tuple hq
  obtain⟨u,hu,ru⟩:=rv.get hx
  obtain⟨f0,f1,f2,f3,f4,f5⟩:=hf it (by simp)
  refine wpAny_pyNext_tuple_item st (show s.heap.IsTuple a its.toArray from p) (x:=u) (by simpa using hu) λh' st' sb=>?_
  have I1:Inv X pins σ H {s with heap:=h'}:=I.turned (t':=s.toks) (λb o hb e=>(sb.2 b hb).trans e) f0 f1 f3 f4 f5
  obtain⟨o,e,c,d⟩:=id st'
  exact⟨u,rfl,Ak (s:={s with heap:=h'}) e c d (by decide) ⟨x,H,I1,ru,⟨rfl,λys hy=>by rw[I.tuple_inj hy hq];exact hx⟩,st',λb hb=>(hf b hb).1⟩⟩
 done:=by
  intro X hP hw hK hc i pins s σ H E I hf st hg
  subst hP hw hK
  obtain⟨xs,hq,hx⟩:=hg
  obtain⟨its,rv,p,hz⟩:=I.tuple hq
  obtain⟨f0,f1,f2,f3,f4,f5⟩:=hf it (by simp)
  have hl:=rv.length
  exact wpAny_pyNext_tuple_end (I.ok.hd hc) st (show s.heap.IsTuple a its.toArray from p) (by simp;omega) λh' eb=>⟨rfl,I.turned (t':=s.toks) (λb o hb e=>eb b o hb e) f0 f1 f3 f4 f5⟩
 self:=λ_ _ _ _ _ st h=>wpAny_pyIter_tupleiter st h
def vT {P:Program}{w:World}{K:Frag}{tg:Expr}(it:Addr)(lo:Int)(n:Nat):Turn P w K tg (z0 lo n) [it] it (λi h=>IsRangeIter h it (lo + (i:Nat) * 1) ((n:Int) - (i:Nat)) 1) where
 mem:=by simp
 obj:=λi h st b hb=>by
  have e:b=it:=by simpa using hb
  subst e
  exact⟨_,st,λv z=>by
   have z':Data.fields _=Data.cell v:=z
   cases z'⟩
 keep:=λi h h' st k=>k it (by simp) _ st
 item:=by
  intro X hP hw hK hc i pins s σ H E I hf st hg
  subst hP hw hK
  obtain⟨f0,f1,f2,f3,f4,f5⟩:=hf it (by simp)
  have W:=Walks.range (prog:=X.prog) (w:=X.w) (I.ok.hd hc) it lo 1 n
  refine W.item i s _ _ hg st λv h' tk hv st' kk=>?_
  obtain⟨t,rfl⟩:=hv
  have I1:Inv X pins σ H {s with heap:=h',toks:=tk}:=I.turned (λb o hb e=>kk b o (by simpa using hb) e) f0 f1 f3 f4 f5
  refine⟨_,rfl,Ak (s:={s with heap:=h',toks:=tk}) (n:="range_iterator") st' rfl rfl (by decide) ⟨.int (lo + i),H,I1,⟨t,?_⟩,⟨rfl,rfl⟩,st',λb hb=>(hf b hb).1⟩⟩
  rw[Int.mul_one]
 done:=by
  intro X hP hw hK hc i pins s σ H E I hf st hg
  subst hP hw hK
  obtain⟨f0,f1,f2,f3,f4,f5⟩:=hf it (by simp)
  exact wpAny_pyNext_range_end (I.ok.hd hc) st (by have:n<=i:=hg;omega) λh' eb=>⟨rfl,I.turned (t':=s.toks) (λb o hb e=>eb b o hb e) f0 f1 f3 f4 f5⟩
 self:=λ_ _ _ _ _ st h=>wpAny_pyIter_rangeiter st h
section
variable {X:Cx}{tg:Expr}
def GA (K:Frag)(tl:TE):TI:=λσ H R=>tl σ H λx H1=>∃a,x=.ref a/\(∃xs,iw K H1 a xs)/\R (yJ K a) H1
def wK {l:Expr}{tl:TE}(hl:PE X l tl):PI X tg l (GA X.K tl):=by
 intro pins s σ H R I h
 refine cq (hl pins s σ H _ I h) λv s1 ⟨x,H1,I1,r1,q1⟩=>?_
 obtain⟨a,e,⟨xs,hq⟩,q⟩:=q1
 subst e
 cases r1
 obtain⟨its,rv,p,hz⟩:=I1.list hq
 refine MC p.isList ?_
 refine⟨s1.heap.objs.size,[s1.heap.objs.size],_,_,H1,rfl,I1.kept (t':=s1.toks) λb o e=>Kk _ e,mJ a _,⟨_,KL _ rfl,rfl,rfl⟩,λb hb=>?_,q⟩
 have e:b=s1.heap.objs.size:=by simpa using hb
 subst e
 exact I1.fpOk (Kj _) (I1.hok.fresh (Kj _))
def zf {pins:List (Addr×Obj)}{σ:St}{H:Hp}{s:Shared}{R:It->Hp->Prop}{E:Value->Shared->Prop}{lo hi:Int}{t u v:Tok}{tk:Nat}(I:Inv X pins σ H s)(h1: -(2 ^ 62)<=lo)(h2:lo < 2 ^ 62)(h3: -(2 ^ 62)<=hi)(h4:hi < 2 ^ 62)
  (q:R (z0 lo (hi - lo).toNat) H):wpAny (model X.prog X.w) X.A (pyIter (.ref s.heap.objs.size)) (JM X pins σ tg R) E {s with heap:=s.heap.push {cls:=.type "range",data:=.fields #[.int lo t,.int hi u,.int 1 v]},toks:=tk}:=by
 refine wpAny_pyIter_range (IsRange.new ..) (small_one h1 h2 h3 h4) ?_
 have I1:Inv X pins σ H {s with heap:=s.heap.push {cls:=.type "range",data:=.fields #[.int lo t,.int hi u,.int 1 v]},toks:=tk}:=I.kept λb o e=>Kk _ e
 refine⟨(s.heap.push {cls:=.type "range",data:=.fields #[.int lo t,.int hi u,.int 1 v]}).objs.size,[(s.heap.push {cls:=.type "range",data:=.fields #[.int lo t,.int hi u,.int 1 v]}).objs.size],_,_,H,rfl,
  I1.kept (t':=tk) λb o e=>Kk _ e,vT _ lo (hi - lo).toNat,?_,λb hb=>?_,q⟩
 ·have e1:lo + ((0:Nat):Int) * 1=lo:=by simp
  have e2:(((hi - lo).toNat:Nat):Int) - ((0:Nat):Int)=Builtin.Range.rangeSize lo hi 1:=by rw[rangeSize_one];split <;> omega
  show IsRangeIter _ _ (lo + ((0:Nat):Int) * 1) ((((hi - lo).toNat:Nat):Int) - ((0:Nat):Int)) 1
  rw[e1,e2]
  exact KL _ rfl
 ·have e:b=(s.heap.push {cls:=.type "range",data:=.fields #[.int lo t,.int hi u,.int 1 v]}).objs.size:=by simpa using hb
  subst e
  exact I1.fpOk (Kj _) (I1.hok.fresh (Kj _))
def HL (ta:TA):TI:=λσ H R=>ta σ H λvs H1=>∃j:Int,vs= [.int j]/\ -(2 ^ 62)<=j/\j < 2 ^ 62/\R (z0 0 j.toNat) H1
theorem kF {a:Expr}{ta:TA}{p pos:Pos}(hg:Gl X "range")(hm:X.mg "range"=none)(ha:PA X [a] ta)(hs:starEach [a] X.env= [(false,eval a X.env)]:=by rfl):PI X tg (.Call (.Name "range" p) [a] [] pos) (HL ta):=by
 intro pins s σ H R I h
 refine Call_ (oO I hg hm boot_range (Ml (cq (ha pos pins s σ H _ I h) λus s1 ⟨vs,H1,I1,r1,q1⟩=>?_) hs rfl))
 obtain⟨j,e,q1,q2,q⟩:=q1
 subst e
 cases r1 with
 |cons r rr=>
  cases rr
  obtain⟨t,rfl⟩:=r
  exact call_range_1 (zf I1 (by omega) (by omega) q1 q2 (by simpa using q))
def IU (wi:TI)(g:TG)(tb:TS):TS:=λD σ H=>wi σ H λJ H1=>∃W:Nat->Nat->St->Hp->Prop,(∃m,W 0 m σ H1)/\∀i m σ H,W i m σ H->
 (J.stop i H/\D.nx σ H)\/(J.go i H/\∃N:St->Hp->Prop,(∀σ' H',N σ' H'->∃m',m' < m/\W (i + 1) m' σ' H')/\∀x H',J.yld i H x H'->g x σ H' λσ2 H2=>tb {D with nx:=N,ct:=N,bk:=D.nx} σ2 H2)
def oP (fp:List Addr)(h:Heap):List (Addr×Obj):=fp.filterMap λb=>(h.get? b).map λo=>(b,o)
def jK {fp:List Addr}{h:Heap}{b:Addr}{o:Obj}(hb:b∈fp)(e:h.get? b=some o):(b,o)∈oP fp h:=LW.mpr ⟨b,hb,by rw[e];rfl⟩
theorem yL {fp:List Addr}{h:Heap}{p:Addr×Obj}(hp:p∈oP fp h):p.1∈fp/\h.get? p.1=some p.2:=by
 obtain⟨b,hb,e⟩:=LW.mp hp
 cases q:h.get? b with
 |none=>rw[q] at e;cases e
 |some o=>
  rw[q] at e
  have e':(b,o)=p:=Option.some.inj e
  subst e'
  exact⟨hb,q⟩
def Inv.pinned {pins:List (Addr×Obj)}{σ:St}{H:Hp}{s:Shared}{fp:List Addr}(I:Inv X pins σ H s)(hf:∀b∈fp,nr X pins H b)(ho:∀b∈fp,∃o,s.heap.get? b=some o/\∀v,o.data≠.cell v):Inv X (pins ++ oP fp s.heap) σ H s:=
 I.pins_of λp hp=>(KI.mp hp).elim (λz=>I.pin p (K8 _ z)) λz=>by
  obtain⟨hb,e⟩:=yL z
  obtain⟨f0,f1,f2,_⟩:=hf p.1 hb
  obtain⟨o,e',d⟩:=ho p.1 hb
  rw[e] at e';cases e'
  exact⟨e,f0,f1,f2,d⟩
def Inv.unpinned {pins pl:List (Addr×Obj)}{σ:St}{H:Hp}{s:Shared}(I:Inv X (pins ++ pl) σ H s):Inv X pins σ H s:=I.pins_of λp hp=>I.pin p (K8 _ (Mm _ hp))
def rL {iter:Expr}{body:List Stmt}{wi:TI}{g:TG}{tb:TS}{pos:Pos}(hp:PassesOwn (model X.prog X.w) X.A X.env X.xe)(hc:X.calm=true)(hi:PI X tg iter wi)(hg:PG X tg g)(hb:ql X body tb)
  (hs:∀x,foldedSetIterable iter X.env x=pure x:=by intro _;rfl):PS X (.For tg iter body [] pos) (IU wi g tb):=by
 intro pins s σ H D I h
 refine wpAny_For (cq (hi pins s σ H _ I h) λv s1 h1=>cq h1 λitv s2 h2=>?_) hs
 obtain⟨it,fp,tn,J,H2,e,I2,T,st2,f2,W,⟨m0,w0⟩,turn⟩:=h2
 subst e
 have stat:∀{H':Hp},(∀b∈fp,H' b=none)->∀b∈fp,nr X pins H' b:=λhn b hb=>⟨hn b hb,(f2 b hb).2⟩
 refine codeAny_forLoop_any (λn s'=>∃i σ' H',Inv X pins σ' H' s'/\tn i s'.heap/\(∀b∈fp,H' b=none)/\W i n σ' H') ?_ m0 ⟨0,σ,H2,I2,st2,λb hb=>(f2 b hb).1,w0⟩
 rintro n s3 ⟨i,σ3,H3,I3,st3,fr3,w3⟩
 rcases turn i n σ3 H3 w3 with⟨stop,qn⟩ | ⟨go,N,hN,step⟩
 ·refine LY hp (cq (T.done X rfl rfl rfl hc i pins s3 σ3 H3 X.xe I3 (stat fr3) st3 stop) λr s4 ⟨hr,I4⟩=>?_)
  subst hr
  exact wpAny_execs_nil ⟨σ3,H3,I4,qn⟩
 ·refine LY hp (cq (T.item X rfl rfl rfl hc i pins s3 σ3 H3 X.xe I3 (stat fr3) st3 go) λr s4 ⟨u,hr,h4⟩=>?_)
  subst hr
  refine LY hp (cq h4 λ_ s5 ⟨x,H5,I5,r5,y5,st5,fr5⟩=>?_)
  have I5':=I5.pinned (stat fr5) (T.obj _ _ st5)
  refine LY hp (cq (hg _ s5 σ3 H5 x u _ I5' r5 (step x H5 y5)) λ_ s6 ⟨σ6,H6,I6,q6⟩=>?_)
  refine LY hp (cq (hb _ s6 σ6 H6 _ I6 q6) λf s7 q7=>?_)
  have again:∀{σ7:St} {H7:Hp},Inv X (pins ++ oP fp s5.heap) σ7 H7 s7->N σ7 H7->∃m,m < n/\∃i σ' H',Inv X pins σ' H' s7/\tn i s7.heap/\(∀b∈fp,H' b=none)/\W i m σ' H':=λ{σ7 H7} I7 n7=>by
   obtain⟨m',hm,w7⟩:=hN σ7 H7 n7
   refine⟨m',hm,i + 1,σ7,H7,I7.unpinned,T.keep _ _ _ st5 λb hb o e=>(I7.pin (b,o) (K8 _ (K8 _ (jK hb e)))).1,λb hb=>?_,w7⟩
   obtain⟨o,e,d⟩:=T.obj _ _ st5 b hb
   exact (I7.pin (b,o) (K8 _ (K8 _ (jK hb e)))).2.1
  cases f with
  |next=>obtain⟨σ7,H7,I7,n7⟩:=q7;exact again I7 n7
  |cont=>obtain⟨σ7,H7,I7,n7⟩:=q7;exact again I7 n7
  |brk=>obtain⟨σ7,H7,I7,q7⟩:=q7;exact⟨σ7,H7,I7.unpinned,q7⟩
  |ret v=>obtain⟨x7,σ7,H7,I7,r7,q7⟩:=q7;exact⟨x7,σ7,H7,I7.unpinned,r7,q7⟩
end
def uk {K:Frag}{a:Addr}{xs:List V}{g:TG}{tb:TS}{D:Ends}{σ:St}{H:Hp}(Pv:Nat->St->Hp->Prop)(h0:Pv 0 σ H)(hl:∀i σ H,i<=xs.length->Pv i σ H->iw K H a xs)
  (hs:∀i x σ H,xs[i]? =some x->Pv i σ H->g x σ H λσ2 H2=>tb {D with nx:=Pv (i + 1),ct:=Pv (i + 1),bk:=D.nx} σ2 H2) (hd:∀σ H,Pv xs.length σ H->D.nx σ H) :
  ∃W:Nat->Nat->St->Hp->Prop,(∃m,W 0 m σ H)/\∀i m σ H,W i m σ H->
   ((yJ K a).stop i H/\D.nx σ H)\/((yJ K a).go i H/\∃N:St->Hp->Prop,(∀σ' H',N σ' H'->∃m',m' < m/\W (i + 1) m' σ' H')/\∀x H',(yJ K a).yld i H x H'->g x σ H' λσ2 H2=>tb {D with nx:=N,ct:=N,bk:=D.nx} σ2 H2):=by
 refine⟨λi m σ H=>m=xs.length - i/\i<=xs.length/\Pv i σ H,⟨xs.length,by simp,K6 _,h0⟩,?_⟩
 rintro i m σ H ⟨rfl,hi,p⟩
 have q:=hl i σ H hi p
 by_cases hlt:i < xs.length
 ·refine .inr ⟨⟨xs,xs[i],q,by simp[hlt]⟩,Pv (i + 1),λσ' H' p'=>⟨xs.length - (i + 1),by omega,rfl,hlt,p'⟩,λx H' y=>?_⟩
  obtain⟨e,y⟩:=y
  subst e
  exact hs i x σ _ (y xs q) p
 ·have e:i=xs.length:=by omega
  subst e
  exact .inl ⟨⟨xs,q,Kj _⟩,hd σ H p⟩
def CS {K:Frag}{a:Addr}{xs:List V}{g:TG}{tb:TS}{D:Ends}{σ:St}{H:Hp}(Pv:Nat->St->Hp->Prop)(h0:Pv 0 σ H)(hl:∀i σ H,i<=xs.length->Pv i σ H->fy K H a xs)
  (hs:∀i x σ H,xs[i]? =some x->Pv i σ H->g x σ H λσ2 H2=>tb {D with nx:=Pv (i + 1),ct:=Pv (i + 1),bk:=D.nx} σ2 H2) (hd:∀σ H,Pv xs.length σ H->D.nx σ H) :
  ∃W:Nat->Nat->St->Hp->Prop,(∃m,W 0 m σ H)/\∀i m σ H,W i m σ H->
   ((DD K a).stop i H/\D.nx σ H)\/((DD K a).go i H/\∃N:St->Hp->Prop,(∀σ' H',N σ' H'->∃m',m' < m/\W (i + 1) m' σ' H')/\∀x H',(DD K a).yld i H x H'->g x σ H' λσ2 H2=>tb {D with nx:=N,ct:=N,bk:=D.nx} σ2 H2):=by
 refine⟨λi m σ H=>m=xs.length - i/\i<=xs.length/\Pv i σ H,⟨xs.length,by simp,K6 _,h0⟩,?_⟩
 rintro i m σ H ⟨rfl,hi,p⟩
 have q:=hl i σ H hi p
 by_cases hlt:i < xs.length
 ·refine .inr ⟨⟨xs,xs[i],q,by simp[hlt]⟩,Pv (i + 1),λσ' H' p'=>⟨xs.length - (i + 1),by omega,rfl,hlt,p'⟩,λx H' y=>?_⟩
  obtain⟨e,y⟩:=y
  subst e
  exact hs i x σ _ (y xs q) p
 ·have e:i=xs.length:=by omega
  subst e
  exact .inl ⟨⟨xs,q,Kj _⟩,hd σ H p⟩
def x6 {lo:Int}{n:Nat}{g:TG}{tb:TS}{D:Ends}{σ:St}{H:Hp}(Pv:Nat->St->Hp->Prop)(h0:Pv 0 σ H)
  (hs:∀i σ H,i < n->Pv i σ H->g (.int (lo + i)) σ H λσ2 H2=>tb {D with nx:=Pv (i + 1),ct:=Pv (i + 1),bk:=D.nx} σ2 H2) (hd:∀σ H,Pv n σ H->D.nx σ H) :
  ∃W:Nat->Nat->St->Hp->Prop,(∃m,W 0 m σ H)/\∀i m σ H,W i m σ H->
   ((z0 lo n).stop i H/\D.nx σ H)\/((z0 lo n).go i H/\∃N:St->Hp->Prop,(∀σ' H',N σ' H'->∃m',m' < m/\W (i + 1) m' σ' H')/\∀x H',(z0 lo n).yld i H x H'->g x σ H' λσ2 H2=>tb {D with nx:=N,ct:=N,bk:=D.nx} σ2 H2):=by
 refine⟨λi m σ H=>m=n - i/\i<=n/\Pv i σ H,⟨n,by simp,K6 _,h0⟩,?_⟩
 rintro i m σ H ⟨rfl,hi,p⟩
 by_cases hlt:i < n
 ·refine .inr ⟨hlt,Pv (i + 1),λσ' H' p'=>⟨n - (i + 1),by omega,rfl,hlt,p'⟩,λx H' y=>?_⟩
  obtain⟨e,y⟩:=y
  subst e y
  exact hs i σ _ hlt p
 ·have e:i=n:=by omega
  subst e
  exact .inl ⟨Kj _,hd σ H p⟩
abbrev R2:=V->V->Hp->VK->Prop
def jT (X:Cx)(f:Value->Value->Sem Value)(r:R2):Prop:=
 ∀(pins:List (Addr×Obj)) (s:Shared) (σ:St) (H:Hp) (x y:V) (v u:Value) (Q:VK),Inv X pins σ H s->RelV x v->RelV y u->r x y H Q->
  wpAny (model X.prog X.w) X.A (f v u) (EP X pins σ Q) X.xe s
def Im (X:Cx)(f:Value->Sem Value)(r:V->Hp->VK->Prop):Prop:=
 ∀(pins:List (Addr×Obj)) (s:Shared) (σ:St) (H:Hp) (x:V) (v:Value) (Q:VK),Inv X pins σ H s->RelV x v->r x H Q->
  wpAny (model X.prog X.w) X.A (f v) (EP X pins σ Q) X.xe s
def fD (X:Cx)(f:Value)(r:List V->Hp->VK->Prop):Prop:=
 ∀(pins:List (Addr×Obj)) (s:Shared) (σ:St) (H:Hp) (xs:List V) (us:List Value) (Q:VK),Inv X pins σ H s->Vals xs us->r xs H Q->
  wpAny (model X.prog X.w) X.A (call f us) (EP X pins σ Q) X.xe s
def Jn (X:Cx)(r:V->Hp->(Bool->Hp->Prop)->Prop):Prop:=
 ∀(pins:List (Addr×Obj)) (s:Shared) (σ:St) (H:Hp) (x:V) (v:Value) (Q:Bool->Hp->Prop),Inv X pins σ H s->RelV x v->r x H Q->
  wpAny (model X.prog X.w) X.A (truthy v) (TP X pins σ Q) X.xe s
def Ih (r:R2)(ta tb:TE):TE:=λσ H Q=>ta σ H λx H1=>tb σ H1 λy H2=>r x y H2 Q
def J4 (r:V->Hp->VK->Prop)(ta:TE):TE:=λσ H Q=>ta σ H λx H1=>r x H1 Q
def rI (C:Int->Int->Prop)(g:Int->Int->V):R2:=λx y H Q=>∃i j,x=.int i/\y=.int j/\C i j/\Q (g i j) H
def yY (g:Int->Int->V):R2:=λx y H Q=>∃i j,x=.int i/\y=.int j/\Q (g i j) H
def rU (g:Int->V):V->Hp->VK->Prop:=λx H Q=>∃i,x=.int i/\Q (g i) H
section
variable {X:Cx}{a b c:Expr}{ta tb tc:TE}{pos:Pos}
def FH (ha:PE X a ta)(hb:PE X b tb){pins:List (Addr×Obj)}{s:Shared}{σ:St}{H:Hp}{R:V->V->Hp->Prop}(I:Inv X pins σ H s)
  (h:ta σ H λx H1=>tb σ H1 λy H2=>R x y H2) {Q:Value->Shared->Prop} {f:Value->Value->Sem Value}
  (hf:∀v u s2 x y H2,Inv X pins σ H2 s2->RelV x v->RelV y u->R x y H2->wpAny (model X.prog X.w) X.A (f v u) Q X.xe s2) :
  wpAny (model X.prog X.w) X.A (eval a X.env) (λv s₁=>wpAny (model X.prog X.w) X.A (eval b X.env) (λu s₂=>wpAny (model X.prog X.w) X.A (f v u) Q X.xe s₂) X.xe s₁) X.xe s:=by
 refine cq (ha pins s σ H _ I h) λv s1 ⟨x,H1,I1,r1,q1⟩=>?_
 refine cq (hb pins s1 σ H1 _ I1 q1) λu s2 ⟨y,H2,I2,r2,q2⟩=>?_
 exact hf v u s2 x y H2 I2 r1 r2 q2
def qv {op:Operator}{r:R2}(ho:jT X (binaryOp op) r)(ha:PE X a ta)(hb:PE X b tb):PE X (.BinOp a op b pos) (Ih r ta tb):=by
 intro pins s σ H Q I h
 exact wpAny_BinOp (FH ha hb I h λv u s2 x y H2 I2 rx ry q=>ho pins s2 σ H2 x y v u Q I2 rx ry q)
def zT {op:UnaryOp}{r:V->Hp->VK->Prop}(ho:Im X (unaryOp op) r)(ha:PE X a ta):PE X (.UnaryOp op a pos) (J4 r ta):=by
 intro pins s σ H Q I h
 exact UnaryOp_ (cq (ha pins s σ H _ I h) λv s1 ⟨x,H1,I1,r1,q1⟩=>ho pins s1 σ H1 x v Q I1 r1 q1)
def Iq {f:Value->Value->Sem Value}{C:Int->Int->Prop}{g:Int->Int->Int}
  (rule:∀(i j:Int) (t u:Tok) (s:Shared) (Q:Value->Shared->Prop) (E:Value->Shared->Prop),C i j->Q (.int (g i j) s.toks) {s with toks:=s.toks + 1}->wpAny (model X.prog X.w) X.A (f (.int i t) (.int j u)) Q E s) :
  jT X f (rI C λi j=>.int (g i j)):=by
 intro pins s σ H x y v u Q I rx ry h
 obtain⟨i,j,rfl,rfl,hc,q⟩:=h
 obtain⟨t,rfl⟩:=rx
 obtain⟨t',rfl⟩:=ry
 exact rule i j t t' s _ _ hc ⟨.int (g i j),H,I.tok _,⟨_,rfl⟩,q⟩
def GX {f:Value->Value->Sem Value}{g:Int->Int->Int}
  (rule:∀(i j:Int) (t u:Tok) (s:Shared) (Q:Value->Shared->Prop) (E:Value->Shared->Prop),Q (.int (g i j) s.toks) {s with toks:=s.toks + 1}->wpAny (model X.prog X.w) X.A (f (.int i t) (.int j u)) Q E s) :
  jT X f (yY λi j=>.int (g i j)):=by
 intro pins s σ H x y v u Q I rx ry h
 obtain⟨i,j,rfl,rfl,q⟩:=h
 obtain⟨t,rfl⟩:=rx
 obtain⟨t',rfl⟩:=ry
 exact rule i j t t' s _ _ ⟨.int (g i j),H,I.tok _,⟨_,rfl⟩,q⟩
def Ep {f:Value->Value->Sem Value}{g:Int->Int->Bool}
  (rule:∀(i j:Int) (t u:Tok) (s:Shared) (Q:Value->Shared->Prop) (E:Value->Shared->Prop),Q (.bool (g i j)) s->wpAny (model X.prog X.w) X.A (f (.int i t) (.int j u)) Q E s) :
  jT X f (yY λi j=>.bl (g i j)):=by
 intro pins s σ H x y v u Q I rx ry h
 obtain⟨i,j,rfl,rfl,q⟩:=h
 obtain⟨t,rfl⟩:=rx
 obtain⟨t',rfl⟩:=ry
 exact rule i j t t' s _ _ ⟨.bl (g i j),H,I,rfl,q⟩
def Ct (i j:Int):Prop:=0 < j/\j < 1073741824
def Em (i j:Int):Prop:=0<=j/\j<=1000000/\i.natAbs < 2 ^ 64
def AW (i j:Int):Prop:=(-(2 ^ 64) < i/\i < 2 ^ 64)\/(-(2 ^ 64) < j/\j < 2 ^ 64)
def AW.ok {i j:Int}(h:AW i j):IntMulOk i j:=by
 rcases h with⟨h1,h2⟩ | ⟨h1,h2⟩
 ·exact .of_left (intBits_le_64 h1 h2)
 ·exact .of_right (intBits_le_64 h1 h2)
def gc:jT X (binaryOp .Add) (yY λi j=>.int (i + j)):=GX λ_ _ _ _ _ _ _ q=>add_int q
def sM:jT X (binaryOp .Sub) (yY λi j=>.int (i - j)):=GX λ_ _ _ _ _ _ _ q=>sub_int q
def kf:jT X (binaryOp .Mult) (rI AW λi j=>.int (i * j)):=Iq λ_ _ _ _ _ _ _ hc q=>mul_int q hc.ok
def rq:jT X (binaryOp .FloorDiv) (rI Ct λi j=>.int (i / j)):=Iq λi j _ _ _ _ _ hc q=>by
 have h1:(0:Int) < j:=hc.1
 have h2:j < 1073741824:=hc.2
 exact floordiv_int (by omega) (by rw[Int.fdiv_eq_ediv_of_nonneg i (by omega)];exact q) (.inl (PyProof.noPylong_small (by omega)))
def la:jT X (binaryOp .Mod) (rI (λ_ j=>0 < j) λi j=>.int (i % j)):=Iq λi j _ _ _ _ _ hc q=>by
 have h1:(0:Int) < j:=hc
 exact mod_int' (by omega) (by rw[Int.fmod_eq_emod_of_nonneg i (by omega)];exact q)
def E1:jT X (binaryOp .Pow) (rI Em λi j=>.int (i ^ j.toNat)):=Iq λ_ _ _ _ _ _ _ hc q=>pow_int_small hc.1 hc.2.1 hc.2.2 q
def Kc {f:Value->Sem Value}{g:Int->Int}
  (rule:∀(i:Int) (t:Tok) (s:Shared) (Q:Value->Shared->Prop) (E:Value->Shared->Prop),Q (.int (g i) s.toks) {s with toks:=s.toks + 1}->wpAny (model X.prog X.w) X.A (f (.int i t)) Q E s) :
  Im X f (rU λi=>.int (g i)):=by
 intro pins s σ H x v Q I rx h
 obtain⟨i,rfl,q⟩:=h
 obtain⟨t,rfl⟩:=rx
 exact rule i t s _ _ ⟨.int (g i),H,I.tok _,⟨_,rfl⟩,q⟩
def mB:Im X (unaryOp .USub) (rU λi=>.int (-i)):=Kc λ_ _ _ _ _ q=>neg_int q
end
def HC:V->V->Bool
 | .non,.non=>true | .non,.int _=>true | .int _,.non=>true | .non,.bl _=>true | .bl _,.non=>true | .non,.str _=>true | .str _,.non=>true
 | .int _,.int _=>true | .bl _,.bl _=>true | .str _,.str _=>true | .byt _,.byt _=>true
 | .int _,.str _=>true | .str _,.int _=>true | .bl _,.str _=>true | .str _,.bl _=>true
 |_,_=>false
def JK:R2:=λx y H Q=>HC x y=true/\Q (.bl (decide (x=y))) H
def JJ:R2:=λx y H Q=>HC x y=true/\Q (.bl (!decide (x=y))) H
def w8 {i j:Int}:decide (V.int i=V.int j)=(i == j):=by
 rw[Lk]
 simp
def zp {i j:Bool}:decide (V.bl i=V.bl j)=(i == j):=by
 rw[Lk]
 simp
def xC {i j:Str}:decide (V.str i=V.str j)=(i == j):=by
 rw[Lk]
 simp
def wM {i j:Array UInt8}:decide (V.byt i=V.byt j)=(i.toList == j.toList):=by
 rw[Lk]
 cases i
 cases j
 simp
section
variable {X:Cx}{a b c:Expr}{ta tb tc:TE}{pos:Pos}
def bD {pins:List (Addr×Obj)}{σ:St}{H:Hp}{s:Shared}{Q:VK}{k k':Bool}(I:Inv X pins σ H s)(q:Q (.bl k) H)(e:k=k'):EP X pins σ Q (.bool k') s:=by
 subst e
 exact⟨.bl k,H,I,rfl,q⟩
theorem GD:jT X (compareOp .Eq) JK:=by
 intro pins s σ H x y v u Q I rx ry h
 obtain⟨hs,q⟩:=h
 cases x with
 |non=>
  cases rx
  cases y with
  |non=>cases ry;exact PySem.EqNone.eq_none_none (bD I q (by simp))
  |bl j=>cases ry;exact PySem.EqNone.eq_none_bool (bD I q (by simp))
  |int j=>obtain⟨t',rfl⟩:=ry;exact PySem.EqNone.eq_none_int (bD I q (by simp))
  |str j=>obtain⟨t',rfl⟩:=ry;exact PySem.EqNone.eq_none_str (bD I q (by simp))
  |_=>exact absurd (show false=true from hs) Kx
 |bl i=>
  cases rx
  cases y with
  |non=>cases ry;exact PySem.EqNone.eq_bool_none (bD I q (by simp))
  |bl j=>cases ry;exact eq_bool (bD I q zp)
  |str j=>obtain⟨t',rfl⟩:=ry;exact PySem.EqMixed.eq_bool_str (bD I q (by simp))
  |_=>exact absurd (show false=true from hs) Kx
 |int i=>
  obtain⟨t,rfl⟩:=rx
  cases y with
  |non=>cases ry;exact PySem.EqNone.eq_int_none (bD I q (by simp))
  |int j=>obtain⟨t',rfl⟩:=ry;exact eq_int (bD I q w8)
  |str j=>obtain⟨t',rfl⟩:=ry;exact PySem.EqMixed.eq_int_str (bD I q (by simp))
  |_=>exact absurd (show false=true from hs) Kx
 |str i=>
  obtain⟨t,rfl⟩:=rx
  cases y with
  |non=>cases ry;exact PySem.EqNone.eq_str_none (bD I q (by simp))
  |bl j=>cases ry;exact PySem.EqMixed.eq_str_bool (bD I q (by simp))
  |int j=>obtain⟨t',rfl⟩:=ry;exact PySem.EqMixed.eq_str_int (bD I q (by simp))
  |str j=>obtain⟨t',rfl⟩:=ry;exact eq_str (bD I q xC)
  |_=>exact absurd (show false=true from hs) Kx
 |byt i=>
  obtain⟨t,rfl⟩:=rx
  cases y with
  |byt j=>obtain⟨t',rfl⟩:=ry;exact PySem.W.eq_bytes (bD I q wM)
  |_=>exact absurd (show false=true from hs) Kx
 |_=>cases y <;> exact absurd (show false=true from hs) Kx
theorem D4:jT X (compareOp .NotEq) JJ:=by
 intro pins s σ H x y v u Q I rx ry h
 obtain⟨hs,q⟩:=h
 cases x with
 |non=>
  cases rx
  cases y with
  |non=>cases ry;exact PySem.EqNone.ne_none_none (bD I q (by simp))
  |bl j=>cases ry;exact PySem.EqNone.ne_none_bool (bD I q (by simp))
  |int j=>obtain⟨t',rfl⟩:=ry;exact PySem.EqNone.ne_none_int (bD I q (by simp))
  |str j=>obtain⟨t',rfl⟩:=ry;exact PySem.EqNone.ne_none_str (bD I q (by simp))
  |_=>exact absurd (show false=true from hs) Kx
 |bl i=>
  cases rx
  cases y with
  |non=>cases ry;exact PySem.EqNone.ne_bool_none (bD I q (by simp))
  |bl j=>cases ry;exact ne_bool (bD I q (congrArg not zp))
  |str j=>obtain⟨t',rfl⟩:=ry;exact PySem.EqMixed.ne_bool_str (bD I q (by simp))
  |_=>exact absurd (show false=true from hs) Kx
 |int i=>
  obtain⟨t,rfl⟩:=rx
  cases y with
  |non=>cases ry;exact PySem.EqNone.ne_int_none (bD I q (by simp))
  |int j=>obtain⟨t',rfl⟩:=ry;exact ne_int (bD I q (congrArg not w8))
  |str j=>obtain⟨t',rfl⟩:=ry;exact PySem.EqMixed.ne_int_str (bD I q (by simp))
  |_=>exact absurd (show false=true from hs) Kx
 |str i=>
  obtain⟨t,rfl⟩:=rx
  cases y with
  |non=>cases ry;exact PySem.EqNone.ne_str_none (bD I q (by simp))
  |bl j=>cases ry;exact PySem.EqMixed.ne_str_bool (bD I q (by simp))
  |int j=>obtain⟨t',rfl⟩:=ry;exact PySem.EqMixed.ne_str_int (bD I q (by simp))
  |str j=>obtain⟨t',rfl⟩:=ry;exact ne_str (bD I q (congrArg not xC))
  |_=>exact absurd (show false=true from hs) Kx
 |byt i=>
  obtain⟨t,rfl⟩:=rx
  cases y with
  |byt j=>obtain⟨t',rfl⟩:=ry;exact PySem.W.ne_bytes (bD I q (congrArg not wM))
  |_=>exact absurd (show false=true from hs) Kx
 |_=>cases y <;> exact absurd (show false=true from hs) Kx
def ui:jT X (compareOp .Lt) (yY λi j=>.bl (decide (i < j))):=Ep λ_ _ _ _ _ _ _ q=>lt_int q
def oE:jT X (compareOp .LtE) (yY λi j=>.bl (decide (i<=j))):=Ep λ_ _ _ _ _ _ _ q=>le_int q
def DQ:jT X (compareOp .Gt) (yY λi j=>.bl (decide (j < i))):=Ep λ_ _ _ _ _ _ _ q=>gt_int q
def aZ (b:Expr){op:CmpOp}(h:op≠.In:=by decide)(h2:op≠.NotIn:=by decide):behindInMarks op b=false:=by
 have e1:(op == CmpOp.In)=false:=by cases op <;> first |rfl |exact absurd rfl h
 have e2:(op == CmpOp.NotIn)=false:=by cases op <;> first |rfl |exact absurd rfl h2
 cases b <;> simp[behindInMarks,e1,e2]
def CH {op:CmpOp}{r:R2}(ho:jT X (compareOp op) r)(ha:PE X a ta)(hb:PE X b tb)(hm:behindInMarks op b=false):PE X (.Compare a [op] [b] pos) (Ih r ta tb):=by
 intro pins s σ H Q I h
 exact wpAny_Compare1 (FH ha hb I h λv u s2 x y H2 I2 rx ry q=>ho pins s2 σ H2 x y v u Q I2 rx ry q) hm
def D0 (t:TE):TT:=λσ H Q=>t σ H λx H'=>∃k,x=.bl k/\Q k H'
def B8 {op:CmpOp}{r:R2}(ho:jT X (compareOp op) r)(ha:PE X a ta)(hb:PE X b tb)(hm:behindInMarks op b=false):PT X (.Compare a [op] [b] pos) (D0 (Ih r ta tb)):=by
 intro pins s σ H Q I h
 refine wpAny_isTrue_Compare1 (cq (ha pins s σ H _ I h) λv s1 ⟨x,H1,I1,r1,q1⟩=>cq (hb pins s1 σ H1 _ I1 q1) λu s2 ⟨y,H2,I2,r2,q2⟩=>
  cq (ho pins s2 σ H2 x y v u _ I2 r1 r2 q2) λc s3 ⟨z,H3,I3,r3,k,e,q3⟩=>?_) hm
 subst e
 cases r3
 exact Ln ⟨H3,I3,q3⟩
def Bo (r r':R2)(ta tb tc:TE):TE:=λσ H Q=>ta σ H λx H1=>tb σ H1 λy H2=>r x y H2 λz H3=>∃k,z=.bl k/\
 (if k=true then tc σ H3 λw' H4=>r' y w' H4 Q else Q (.bl false) H3)
theorem Bz {op op':CmpOp}{r r':R2}(ho:jT X (compareOp op) r)(ho':jT X (compareOp op') r')(ha:PE X a ta)(hb:PE X b tb)(hc:PE X c tc)
  (hm:lastMarks [op,op'] [b,c]=false:=by with_unfolding_all rfl):PE X (.Compare a [op,op'] [b,c] pos) (Bo r r' ta tb tc):=by
 intro pins s σ H Q I h
 refine Compare_chain (cq (ha pins s σ H _ I h) λv s1 ⟨x,H1,I1,r1,q1⟩=>chain_link (cq (hb pins s1 σ H1 _ I1 q1) λu s2 ⟨y,H2,I2,r2,q2⟩=>
  cq (ho pins s2 σ H2 x y v u _ I2 r1 r2 q2) λd s3 ⟨z,H3,I3,r3,k,e,q3⟩=>?_)) hm
 subst e
 cases r3
 refine Ln ?_
 cases k with
 |false=>exact ite_ff ⟨.bl false,H3,I3,rfl,q3⟩
 |true=>exact ite_tt (chain_last (cq (hc pins s3 σ H3 _ I3 q3) λw' s4 ⟨z',H4,I4,r4,q4⟩=>ho' pins s4 σ H4 y z' u w' Q I4 r2 r4 q4))
theorem Bx {op op':CmpOp}{r r':R2}(ho:jT X (compareOp op) r)(ho':jT X (compareOp op') r')(ha:PE X a ta)(hb:PE X b tb)(hc:PE X c tc)
  (hm:lastMarks [op,op'] [b,c]=false:=by with_unfolding_all rfl):PT X (.Compare a [op,op'] [b,c] pos) (D0 (Bo r r' ta tb tc)):=by
 intro pins s σ H Q I h
 refine isTrue_chain (cq (ha pins s σ H _ I h) λv s1 ⟨x,H1,I1,r1,q1⟩=>test_link (cq (hb pins s1 σ H1 _ I1 q1) λu s2 ⟨y,H2,I2,r2,q2⟩=>
  cq (ho pins s2 σ H2 x y v u _ I2 r1 r2 q2) λd s3 ⟨z,H3,I3,r3,k,e,q3⟩=>?_)) hm
 subst e
 cases r3
 refine Ln ?_
 cases k with
 |false=>
  obtain⟨k',e',q'⟩:=q3
  cases e'
  exact ite_ff ⟨H3,I3,q'⟩
 |true=>
  refine ite_tt (test_last (cq (hc pins s3 σ H3 _ I3 q3) λw' s4 ⟨z',H4,I4,r4,q4⟩=>cq (ho' pins s4 σ H4 y z' u w' _ I4 r2 r4 q4) λd' s5 ⟨z2,H5,I5,r5,k2,e2,q5⟩=>?_))
  subst e2
  cases r5
  exact Ln ⟨H5,I5,q5⟩
def GU (K:Frag)(x:V)(H:Hp)(k:Bool):Prop:=
 match x with
 | .non=>k=false
 | .bl b=>k=b
 | .int i=>k=(i != 0)
 | .str y=>y.length<=sizeLine/\k=((y.length:Int) != 0)
 | .byt y=>y.size<=sizeLine/\k=((y.size:Int) != 0)
 | .ref p=>(∃xs,iw K H p xs/\k= !xs.isEmpty)\/(∃xs,fy K H p xs/\k= !xs.isEmpty)\/∃kvs,H p=some (.dK kvs)/\k= !kvs.isEmpty
 |_=>False
def vi {κ:Type}{kvs:List (κ×V)}{vs:List (κ×Value)}(r:KV kvs vs):(!vs.isEmpty)= !kvs.isEmpty:=by
 cases r <;> rfl
def oi {xs:List V}{its:List Value}(r:Vals xs its):(!its.toArray.isEmpty)= !xs.isEmpty:=by
 cases r <;> simp
def ml:(sizeLine:Nat) < 2 ^ 63:=by rw[K1];decide
theorem Fp:Jn X (λx H Q=>∃k,GU X.K x H k/\Q k H):=by
 intro pins s σ H x v Q I rx h
 obtain⟨k,e,q⟩:=h
 have hl:=ml
 have hs:sizeLine=16777216:=K1
 cases x with
 |non=>
  cases rx
  have e':k=false:=e
  subst e'
  exact truthy_none ⟨H,I,q⟩
 |bl b=>
  cases rx
  have e':k=b:=e
  subst e'
  exact Ln ⟨H,I,q⟩
 |int i=>
  obtain⟨t,rfl⟩:=rx
  have e':k=(i != 0):=e
  subst e'
  exact PySem.P.truthy_int ⟨H,I,q⟩
 |str y=>
  obtain⟨t,rfl⟩:=rx
  obtain⟨hy,e'⟩:y.length<=sizeLine/\k=((y.length:Int) != 0):=e
  subst e'
  exact PySem.P.truthy_str (by omega) ⟨H,I.tok _,q⟩
 |byt y=>
  obtain⟨t,rfl⟩:=rx
  obtain⟨hy,e'⟩:y.size<=sizeLine/\k=((y.size:Int) != 0):=e
  subst e'
  exact PySem.W.truthy_bytes (by omega) ⟨H,I.tok _,q⟩
 |ref p=>
  cases rx
  have e':(∃xs,iw X.K H p xs/\k= !xs.isEmpty)\/(∃xs,fy X.K H p xs/\k= !xs.isEmpty)\/∃kvs,H p=some (.dK kvs)/\k= !kvs.isEmpty:=e
  rcases e' with⟨xs,hx,e'⟩ | ⟨xs,hx,e'⟩ | ⟨kvs,hx,e'⟩
  ·subst e'
   obtain⟨its,r,pl,hz⟩:=I.list hx
   have hlen:=r.length
   exact wpAny_truthy_list pl.isList (by simp only[Kz];omega) ⟨H,I.tok _,by rw[oi r];exact q⟩
  ·subst e'
   obtain⟨its,r,pl,hz⟩:=I.tuple hx
   have hlen:=r.length
   exact truthy_tuple pl (by simp only[Kz];omega) ⟨H,I.tok _,by rw[oi r];exact q⟩
  ·subst e'
   obtain⟨hz,hS,vs,r,m⟩:kvs.length<=sizeLine/\(p == sysModules)=false/\∃vs,KV kvs vs/\s.heap.DictOf (ey X.prog X.w) p vs:=I.hok p _ hx
   have hlen:kvs.length=vs.length:=Paired.length r
   exact wpAny_truthy_dict hS m (by omega) ⟨H,I.tok _,by rw[vi r];exact q⟩
 |_=>exact (show False from e).elim
def Ay (ha:PE X a ta)(he:∀whole,isTrue a X.env whole=(do let v <-whole;standAt a.pos;holding [v] (truthy v))) :
  PT X a (λσ H Q=>ta σ H λx H'=>∃k,GU X.K x H' k/\Q k H'):=by
 intro pins s σ H Q I h
 exact isTrue_plain (cq (ha pins s σ H _ I h) λv s1 ⟨x,H1,I1,r1,q1⟩=>Fp pins s1 σ H1 x v Q I1 r1 q1) (he _)
theorem vals1 {x:V}{us:List Value}(r:Vals [x] us):∃u,us= [u]/\RelV x u:=by
 cases r with
 |cons r1 r2=>cases r2;exact⟨_,rfl,r1⟩
theorem vals2 {x y:V}{us:List Value}(r:Vals [x,y] us):∃u w',us= [u,w']/\RelV x u/\RelV y w':=by
 cases r with
 |cons r1 r2=>
  cases r2 with
  |cons r3 r4=>cases r4;exact⟨_,_,rfl,r1,r3⟩
def yS (hc:X.calm=true):fD X (.builtin "max") (λxs H Q=>∃i j,xs= [.int i,.int j]/\Q (.int (if j > i then j else i)) H):=by
 intro pins s σ H xs us Q I r h
 obtain⟨i,j,rfl,q⟩:=h
 obtain⟨u,w',rfl,⟨t,rfl⟩,⟨t',rfl⟩⟩:=vals2 r
 refine max_two_ints (I.ok.hd hc) λh' tk k=>⟨_,H,I.kept k,?_,q⟩
 by_cases hj:j > i
 ·rw[Kl hj,Kl hj];exact⟨_,rfl⟩
 ·rw[Kw hj,Kw hj];exact⟨_,rfl⟩
def yD (hc:X.calm=true):fD X (.builtin "min") (λxs H Q=>∃i j,xs= [.int i,.int j]/\Q (.int (if j < i then j else i)) H):=by
 intro pins s σ H xs us Q I r h
 obtain⟨i,j,rfl,q⟩:=h
 obtain⟨u,w',rfl,⟨t,rfl⟩,⟨t',rfl⟩⟩:=vals2 r
 refine min_two_ints (I.ok.hd hc) λh' tk k=>⟨_,H,I.kept k,?_,q⟩
 by_cases hj:j < i
 ·rw[Kl hj,Kl hj];exact⟨_,rfl⟩
 ·rw[Kw hj,Kw hj];exact⟨_,rfl⟩
def Hj (K:Frag)(x:V)(H:Hp)(n:Nat):Prop:=
 match x with
 | .str y=>y.length<=sizeLine/\n=y.length
 | .byt y=>y.size<=sizeLine/\n=y.size
 | .ref p=>(∃xs,iw K H p xs/\n=xs.length)\/∃xs,fy K H p xs/\n=xs.length
 |_=>False
theorem bo:fD X (.builtin "len") (λxs H Q=>∃x n,xs= [x]/\Hj X.K x H n/\Q (.int n) H):=by
 intro pins s σ H xs us Q I r h
 obtain⟨x,n,rfl,e,q⟩:=h
 obtain⟨u,rfl,rx⟩:=vals1 r
 have hl:=ml
 have hs:sizeLine=16777216:=K1
 cases x with
 |str y=>
  obtain⟨t,rfl⟩:=rx
  obtain⟨hy,e'⟩:y.length<=sizeLine/\n=y.length:=e
  subst e'
  exact len_str (by omega) ⟨.int _,H,I.tok _,⟨_,rfl⟩,q⟩
 |byt y=>
  obtain⟨t,rfl⟩:=rx
  obtain⟨hy,e'⟩:y.size<=sizeLine/\n=y.size:=e
  subst e'
  exact PySem.W.len_bytes (by omega) ⟨.int _,H,I.tok _,⟨_,rfl⟩,q⟩
 |ref p=>
  cases rx
  have e':(∃xs,iw X.K H p xs/\n=xs.length)\/∃xs,fy X.K H p xs/\n=xs.length:=e
  rcases e' with⟨xs,hx,e'⟩ | ⟨xs,hx,e'⟩
  ·subst e'
   obtain⟨its,r',pl,hz⟩:=I.list hx
   have hlen:=r'.length
   exact Calls.call_len_list pl.isList (by simp only[Kz];omega) ⟨.int xs.length,H,I.tok _,⟨_,by simp only[Kz];rw[hlen]⟩,q⟩
  ·subst e'
   obtain⟨its,r',pl,hz⟩:=I.tuple hx
   have hlen:=r'.length
   exact len_tuple pl (by simp only[Kz];omega) ⟨.int xs.length,H,I.tok _,⟨_,by simp only[Kz];rw[hlen]⟩,q⟩
 |_=>exact (show False from e).elim
def uq:fD X (.builtin "divmod") (λxs H Q=>∃i j,xs= [.int i,.int j]/\Ct i j/\∀p,H p=none->Q (.ref p) (upd H p (.tup [.int (i / j),.int (i % j)]))):=by
 intro pins s σ H xs us Q I r h
 obtain⟨i,j,rfl,⟨h1,h2⟩,q⟩:=h
 obtain⟨u,w',rfl,⟨t,rfl⟩,⟨t',rfl⟩⟩:=vals2 r
 refine divmod_int (by omega) ?_ (.inl (PyProof.noPylong_small (by omega)))
 rw[Int.fdiv_eq_ediv_of_nonneg i (by omega),Int.fmod_eq_emod_of_nonneg i (by omega)]
 have hn:H s.heap.objs.size=none:=I.hok.fresh (Kj _)
 refine⟨.ref s.heap.objs.size,_,?_,rfl,q _ hn⟩
 refine I.laid (λb o e=>Kk _ e) (Kj _) ⟨by simp only[KW,List.length_nil];rw[K1];decide,[.int (i / j) s.toks,.int (i % j) (s.toks + 1)],.cons ⟨_,rfl⟩ (.cons ⟨_,rfl⟩ .nil),?_⟩
 exact⟨_,KL s.heap rfl,rfl,0,rfl,rfl⟩
end
structure FF (h:Heap)(x dx C:Addr)(mA:Str->Option Value):Prop where
 obj:h.get? x=some (PySem.W.instObj C dx)
 ns:h.Ns1 dx mA
 ne:dx≠x
def yF {h:Heap}{dx:Addr}{mA:Str->Option Value}(n:h.Ns1 dx mA):∃od,h.get? dx=some od/\∀name,PySem.W.lookIn name od=some (mA name):=by
 obtain⟨o,es,ep,ho,hd,hk,_,hm⟩:=n
 refine⟨o,ho,λname=>?_⟩
 have e:=hm name
 unfold nsFind findBy at e
 rw[<-Array.find?_toList] at e
 unfold PySem.W.lookIn
 rw[hd]
 dsimp only
 split
 ·rename_i y q
  rw[q] at e
  exact congrArg some e
 ·rename_i q
  rw[q] at e
  have a:es.toList.any (·.refKey)=false:=by
   rw[List.any_eq_false]
   intro y hy
   obtain⟨z,t,hkey⟩:=hk y (Array.mem_toList_iff.mp hy)
   simp[DictEntry.refKey,hkey]
  have a':¬es.toList.any (·.refKey)=true:=by rw[a];exact Kx
  rw[Kw a']
  exact congrArg some e
def FF.look {h:Heap}{x dx C:Addr}{mA:Str->Option Value}(I:FF h x dx C mA):∃od,PySem.W.InstAt h x (PySem.W.instObj C dx) C (some od)/\∀name,PySem.W.lookIn name od=some (mA name):=
 let ⟨od,ho,hl⟩:=yF I.ns
 ⟨od,⟨I.obj,rfl,rfl,ho⟩,hl⟩
section
variable {P:Program}{w:World}{H H':Hp}{h h':Heap}{a C dx:Addr}{fs fs':List (Str×V)}
def Cv (hok:ky P w H h)(e:H a=some (.ins C dx fs)):∃mA,FF h a dx C mA/\(∀f,zw (fs.lookup f) (mA f))/\PySem.Within mA (fs.map (·.1))/\fs.length<=1000/\H dx=some (.own a):=by
 obtain⟨d,z,ne,ob,mA,n,r,q⟩:=(show cB P w H h a (.ins C dx fs) from hok a _ e)
 exact⟨mA,⟨ob,n,ne⟩,r,q,z,d⟩
end
structure IC (K:Frag)(C:Addr):Prop where
 pg:PySem.W.plainGet K C Str.empty=true
 hd:PySem.W.hasDictIn K C=true
 po:PySem.W.plainOver K C=true
 sa:PySem.W.findIn K (.ref C) "__setattr__"=some (some (.builtin "object.__setattr__"))
def IC.get {K:Frag}{C:Addr}(c:IC K C)(f:Str):PySem.W.plainGet K C f=true:=c.pg
section
variable {X:Cx}{pins:List (Addr×Obj)}{σ:St}{H:Hp}{s:Shared}{A:Around}{E:Value->Shared->Prop}{Q:Value->Shared->Prop}{c:Value}{b:Bool}
inductive nh (K:Frag)(H:Hp):V->Value->Prop where
 |non:nh K H .non (.type "NoneType")
 |bl (x:Bool):nh K H (.bl x) (.type "bool")
 |int (i:Int):nh K H (.int i) (.type "int")
 |str (x:Str):nh K H (.str x) (.type "str")
 |flt (x:UInt64):nh K H (.flt x) (.type "float")
 |lst {a:Addr} {xs:List V} (e:H a=some (.lst xs)):nh K H (.ref a) (.type "list")
 |ba {a:Addr} {o:Obj} {xs:List V} (e:H a=some (.ba o (.lst xs))):nh K H (.ref a) (.type "list")
 |tup {a:Addr} {xs:List V} (e:H a=some (.tup xs)):nh K H (.ref a) (.type "tuple")
 |dK {a:Addr} {kvs:List (Key×V)} (e:H a=some (.dK kvs)):nh K H (.ref a) (.type "dict")
 |dT {a:Addr} {kvs:List (List Key×V)} (e:H a=some (.dT kvs)):nh K H (.ref a) (.type "dict")
 |ins {a C dx:Addr} {fs:List (Str×V)} (e:H a=some (.ins C dx fs)) (cl:IC K C) (ha:PySem.W.findIn K (.ref C) "__class__"=some (some (.builtin "object.__class__")))
   (hn:PySem.W.specialIn K (.builtin "object.__class__") "__get__"=some (some (.builtin "getset_descriptor.__get__"))) (htk:PySem.W.takesIn K (.builtin "object.__class__")=some true)
   (hm:PySem.W.mroIn K C (.type "object")=some true):nh K H (.ref a) (.ref C)
theorem ja {x:V}{u t:Value}(I:Inv X pins σ H s)(rx:RelV x u)(ty:nh X.K H x t)(e:PySem.W.kitOne X.K t c=some b)(h:∀tk,Q (.bool b) {s with toks:=tk}) :
  wpAny (model X.prog X.w) A (call (.builtin "isinstance") [u,c]) Q E s:=by
 cases ty with
 |non=>cases (show u=Value.none from rx);exact K9 PySem.W.kitx_none I.kIn True.intro e (λz=>nomatch z) h
 |bl y=>cases (show u=Value.bool y from rx);exact K9 PySem.W.kitx_bool I.kIn True.intro e (λz=>nomatch z) h
 |int i=>obtain⟨t,q⟩:=(show ∃t,u=Value.int i t from rx);cases q;exact K9 PySem.W.kitx_int I.kIn True.intro e (λz=>nomatch z) h
 |str y=>obtain⟨t,q⟩:=(show ∃t,u=Value.str y t from rx);cases q;exact K9 PySem.W.kitx_str I.kIn True.intro e (λz=>nomatch z) h
 |flt y=>obtain⟨t,q⟩:=(show ∃t,u=Value.float y t from rx);cases q;exact K9 PySem.W.kitx_float I.kIn True.intro e (λz=>nomatch z) h
 | @lst a xs ea=>
  cases (show u=Value.ref a from rx)
  obtain⟨_,_,n,_,h1⟩:=(show cB X.prog X.w H s.heap a (.lst xs) from I.hok a _ ea)
  exact K9 PySem.W.kitx_list I.kIn ⟨_,h1,rfl⟩ e (λz=>nomatch z) h
 | @ba a ob xs ea=>
  cases (show u=Value.ref a from rx)
  obtain⟨_,_,_,n,_,h1⟩:=(show cB X.prog X.w H s.heap a (.ba ob (.lst xs)) from I.hok a _ ea)
  exact K9 PySem.W.kitx_list I.kIn ⟨_,h1,rfl⟩ e (λz=>nomatch z) h
 | @tup a xs ea=>
  cases (show u=Value.ref a from rx)
  obtain⟨_,_,_,p⟩:=(show cB X.prog X.w H s.heap a (.tup xs) from I.hok a _ ea)
  obtain⟨o,h1,h2,_⟩:=p
  exact K9 PySem.W.kitx_tuple I.kIn ⟨o,h1,h2⟩ e (λz=>nomatch z) h
 | @dK a kvs ea=>
  cases (show u=Value.ref a from rx)
  obtain⟨_,_,vs,_,p⟩:=(show cB X.prog X.w H s.heap a (.dK kvs) from I.hok a _ ea)
  obtain⟨o,es,ep,h1,h2,_⟩:=p
  exact K9 PySem.W.kitx_dict I.kIn ⟨o,h1,h2.1⟩ e (λz=>nomatch z) h
 | @dT a kvs ea=>
  cases (show u=Value.ref a from rx)
  obtain⟨_,_,xs,_,o,es,ep,h1,h2,_⟩:=(show cB X.prog X.w H s.heap a (.dT kvs) from I.hok a _ ea)
  exact K9 PySem.W.kitx_dict I.kIn ⟨o,h1,h2.1⟩ e (λz=>nomatch z) h
 | @ins a C dx fs ea cl ha hn htk hm=>
  cases (show u=Value.ref a from rx)
  obtain⟨mA,O,_⟩:=Cv I.hok ea
  obtain⟨od,J,_⟩:=O.look
  exact K9 (PySem.W.kitx_own (cl.get _) cl.hd ha hn htk hm) I.kIn J e (λz=>nomatch z) h
end
structure fY (k:Nat)(A:Around):Prop where
 hd:A.handled=none
 dp:A.depth + 3 * k + 5 < recursionLimit
 un:A.units + 16 * k + 200 < cLine
 gd:A.guards=some []
def fY.mono {j k:Nat}{A:Around}(r:fY k A)(h:j<=k):fY j A:=⟨r.hd,by have:=r.dp;omega,by have:=r.un;omega,r.gd⟩
def fY.deeper {k:Nat}{A:Around}(r:fY (k + 1) A)(env:Env):fY k (A.deeper env):=
 ⟨r.hd,by have:=r.dp;show A.depth + 1 + 3 * k + 5 < _;omega,by have:=r.un;show A.units + 3 + 16 * k + 200 < _;omega,r.gd⟩
def fY.depth {k:Nat}{A:Around}(r:fY k A):A.depth < recursionLimit:=by have:=r.dp;omega
def fY.units {k:Nat}{A:Around}(r:fY k A):A.units + 64 < cLine:=by have:=r.un;omega
def ID:TA:=λ_ H Q=>Q [] H
def Hr (ta:TE)(tr:TA):TA:=λσ H Q=>ta σ H λx H1=>tr σ H1 λxs H2=>Q (x :: xs) H2
section
variable {X:Cx}{e:Expr}{es:List Expr}{te:TE}{t:TA}{pos:Pos}
def cv:PA X [] ID:=λ_ _ _ _ H Q I h=>Calls.spliced_nil ⟨[],H,I,.nil,h⟩
def bc (ha:PE X e te)(hr:PA X es t)(hs:starEach (e :: es) X.env=(false,eval e X.env) :: starEach es X.env:=by rfl):PA X (e :: es) (Hr te t):=by
 intro pos pins s σ H Q I h
 rw[hs]
 show wpAny _ _ (spliced ((false,eval e X.env) :: backTo pos (starEach es X.env))) _ _ s
 refine Calls.spliced_cons (cq (ha pins s σ H _ I h) λu s1 ⟨x,H1,I1,r1,q1⟩=>?_)
 exact cq (hr pos pins s1 σ H1 _ I1 q1) λus s2 ⟨xs,H2,I2,r2,q2⟩=>⟨x :: xs,H2,I2,.cons r1 r2,q2⟩
def IG (t:TA):TE:=λσ H Q=>t σ H λxs H1=>xs.length<=sizeLine/\∀p,H1 p=none->Q (.ref p) (upd H1 p (.tup xs))
def IS (t:TA):TE:=λσ H Q=>t σ H λxs H1=>xs.length<=sizeLine/\∀p,H1 p=none->Q (.ref p) (upd H1 p (.lst xs))
def vI {x1}(h:PA X es t):PE X (.Tuple es x1 pos) (IG t):=by
 intro pins s σ H Q I hq
 refine wpAny_Tuple_spliced (cq (h pos pins s σ H _ I hq) λus s1 ⟨xs,H1,I1,r,z,q⟩=>⟨by rw[<-r.length];exact z,?_⟩)
 have hf:H1 s1.heap.objs.size=none:=I1.hok.fresh (Kj _)
 refine⟨.ref s1.heap.objs.size,upd H1 s1.heap.objs.size (.tup xs),I1.laid (t':=s1.toks) (λb u e=>Kk _ e) (Kj _) ?_,rfl,q _ hf⟩
 exact⟨z,us,r,oU.new _ _⟩
def zD (h:PA X es t):PE X (.List es pos) (IS t):=by
 intro pins s σ H Q I hq
 refine wpAny_List_spliced (cq (h pos pins s σ H _ I hq) λus s1 ⟨xs,H1,I1,r,z,q⟩=>⟨by rw[<-r.length];exact z,?_⟩)
 have hf:H1 s1.heap.objs.size=none:=I1.hok.fresh (Kj _)
 refine⟨.ref s1.heap.objs.size,upd H1 s1.heap.objs.size (.lst xs),I1.laid (t':=s1.toks) (λb u e=>Kk _ e) (Kj _) ?_,rfl,q _ hf⟩
 exact⟨z,us,0,r,KL _ rfl⟩
end
abbrev Sp:=List V->Hp->VK->XK->Prop
abbrev yb:=List Env->Hp->Shared->XK->Value->Shared->Prop
structure Dt (P:Program)(w:World)(K:Frag)(mg:Str->Option Value)(base:Heap)(A:Around)(outer:List Env)(s:Shared)(H:Hp):Prop where
 frames:A.frames=some outer
 mod:Mod K mg base
 bs:∀b o,base.get? b=some o->s.heap.get? b=some o/\H b=none
 bsz:base.objs.size<=s.heap.objs.size
 funs:s.heap.FunFrames base outer
 frf:∀b∈i8 outer,H b=none
 hok:ky P w H s.heap
 bare:AllBare s.gens
def CE (outer:List Env)(P:Program)(w:World)(H:Hp)(s:Shared)(Q:VK)(u:Value)(s':Shared):Prop:=
 ∃v H',s'.os=s.os/\AllBare s'.gens/\Un (i8 outer) [] H H' s.heap s'.heap/\ky P w H' s'.heap/\RelV v u/\Q v H'
def CR (CX:yb)(outer:List Env)(P:Program)(w:World)(H:Hp)(s:Shared)(Q:VK)(E:XK)(r:Result)(s':Shared):Prop:=
 match r with
 | .ok (.ret u)=>CE outer P w H s Q u s'
 | .ok _=>False
 | .error e=>CX outer H s E e s'
structure fL (P:Program)(w:World)(K:Frag)(mg:Str->Option Value)(base:Heap)(CX:yb)(k:Nat)(f:Addr)(fd:FuncData)(ps:List Str)(sp:Sp):Prop where
 len:∀vs H Q E,sp vs H Q E->vs.length=ps.length
 run:∀(A:Around) (outer:List Env) (s:Shared) (H:Hp) (args:Args) (us:List Value) (vs:List V) (Q:VK) (E:XK),fY k A->Dt P w K mg base A outer s H->BindsTo s fd args (ps.zip us)->Vals vs us->sp vs H Q E->
  codeAny (model P w) A (.call (.ref f) args) (CR CX outer P w H s Q E) s
def fL.mono {P:Program}{w:World}{K:Frag}{mg:Str->Option Value}{base:Heap}{CX:yb}{j k:Nat}{f:Addr}{fd:FuncData}{ps:List Str}{sp:Sp}(F:fL P w K mg base CX j f fd ps sp)(h:j<=k) :
  fL P w K mg base CX k f fd ps sp:=⟨F.len,λA outer s H args us vs Q E hr=>F.run A outer s H args us vs Q E (hr.mono h)⟩
def fL.imp {P:Program}{w:World}{K:Frag}{mg:Str->Option Value}{base:Heap}{CX:yb}{k:Nat}{f:Addr}{fd:FuncData}{ps:List Str}{sp sp':Sp}(F:fL P w K mg base CX k f fd ps sp)
  (h:∀vs H Q E,sp' vs H Q E->sp vs H Q E):fL P w K mg base CX k f fd ps sp':=
 ⟨λvs H Q E q=>F.len vs H Q E (h _ _ _ _ q),λA outer s H args us vs Q E hr he hb hv hs=>F.run A outer s H args us vs Q E hr he hb hv (h _ _ _ _ hs)⟩
section
variable {X:Cx}{pins:List (Addr×Obj)}{σ:St}{H:Hp}{s s':Shared}
def Inv.env0 (I:Inv X pins σ H s):Dt X.prog X.w X.K X.mg X.base X.A X.stack s H:=
 ⟨I.ok.frames,I.ok.mod,I.bs,Lg I.ok.bsz I.sz,I.stack,I.stkFree,I.hok,I.bare⟩
def Inv.after {Q:VK}{u:Value}(I:Inv X pins σ H s)(h:CE X.stack X.prog X.w H s Q u s'):EP X pins σ Q u s':=by
 obtain⟨v,H',os,bare,un,hok,r,q⟩:=h
 obtain⟨hh,g,d,t,os'⟩:=s'
 obtain rfl:os'=s.os:=os
 exact⟨v,H',I.call (h':=hh) (g':=g) (d':=d) (t':=t) (ch:=[]) un hok bare (λb z=>absurd z (by simp)),r,q⟩
end
def HQ (sp:Sp)(dvs:List V)(E:XK)(t:TA):TE:=λσ H Q=>t σ H λvs H1=>sp (vs ++ dvs) H1 Q E
def Binds (K:Frag)(fd:FuncData)(ps:List Str)(ds:List Value):Prop:=
 ∀(s:Shared) (us:List Value),K.In s.heap->(us ++ ds).length=ps.length->BindsTo s fd ⟨us,[]⟩ (ps.zip (us ++ ds))
def Binds.all {K:Frag}{fd:FuncData}{ps:List Str}(h:∀us:List Value,us.length=ps.length->bindArgs fd ⟨us,[]⟩=pure (ps.zip us)):Binds K fd ps []:=λs us _ hl=>by
 rw[Mt] at hl ⊢
 exact .of_eq (h us hl)
def Passes (CX:yb)(X:Cx)(E:XK):Prop:=∀(pins:List (Addr×Obj)) (σ:St) (H:Hp) (s:Shared) (e:Value) (s':Shared),Inv X pins σ H s->CX X.stack H s E e s'->X.xe e s'
section
variable {X:Cx}{CX:yb}{k:Nat}{f C:Addr}{fd:FuncData}{ps:List Str}{sp:Sp}{dvs:List V}{ds:List Value}{E:XK}{x m:Str}{p pos apos:Pos}{e o:Expr}{es:List Expr}{ta:TE}{t:TA}
theorem ET {pins:List (Addr×Obj)}{σ:St}{H:Hp}{s:Shared}{Q:VK}{us:List Value}{vs:List V}(F:fL X.prog X.w X.K X.mg X.base CX k f fd ps sp)(hr:fY k X.A)(hb:Binds X.K fd ps ds)(hd:Vals dvs ds)(hx:Passes CX X E)
  (I:Inv X pins σ H s) (r:Vals vs us) (h:sp (vs ++ dvs) H Q E):wpAny (model X.prog X.w) X.A (call (.ref f) us) (EP X pins σ Q) X.xe s:=by
 have r2:Vals (vs ++ dvs) (us ++ ds):=r.append hd
 have hl:(us ++ ds).length=ps.length:=by rw[<-r2.length];exact F.len _ _ _ _ h
 refine wpAny_call (codeAny_mono (F.run X.A X.stack s H ⟨us,[]⟩ (us ++ ds) (vs ++ dvs) Q E hr I.env0 (hb s us I.kIn hl) r2 h) λr s' hq=>?_)
 cases r with
 |error e=>exact hx pins σ H s e s' I hq
 |ok fl=>
  cases fl with
  |ret u=>exact I.after hq
  |next=>exact False.elim hq
  |brk=>exact False.elim hq
  |cont=>exact False.elim hq
def nG (F:fL X.prog X.w X.K X.mg X.base CX k f fd ps sp)(hr:fY k X.A)(hg:Gl X x)(hm:X.mg x=some (.ref f))(hk:PySem.W.keepIn X.K (.ref f)=true)(hb:Binds X.K fd ps ds)(hd:Vals dvs ds)(hx:Passes CX X E)
  (ha:PA X (e :: es) t) (hdb:(x == ("__debug__":Str))=false:=by decide) (he:starEach (e :: es) X.env=(false,eval e X.env) :: starEach es X.env:=by rfl) (hpl:(backTo pos (starEach es X.env)).any (·.1)=false:=by rfl) :
  PE X (.Call (.Name x p) (e :: es) [] pos) (HQ sp dvs E t):=by
 intro pins s σ H Q I h
 refine wpAny_Call_Name_kw (sx I hg hm ?_ hdb)
 refine PySem.W.callWith_K (h₀:=X.base) I.ok.mod.kin hk (cq (ha pos pins s σ H _ I h) λus s1 ⟨vs,H1,I1,r,q⟩=>⟨I1.kIn,?_⟩) he hpl
 exact ET F hr hb hd hx I1 r q
end
structure aL (N P:List Str)(sc:Scope):Prop where
 kind:sc.kind=.function
 co:sc.isCoroutine=false
 gen:sc.isGenerator=false
 nd:N.Nodup
 pre:N.take P.length=P
 par:∀x∈P,sc.names.lookup x=some .local\/sc.names.lookup x=some .cell
 nofree:∀y∈sc.names,y.2≠.free
theorem qw {kindOf:Str->Option NameKind}{x:Str}:∀{binds:List (Str×Value)} {m:Str->Option Value},(∀v,(x,v)∉binds)->bindL kindOf binds m x=m x
 | [],_,_=>rfl
 | (n,v) :: r,m,h=>by
  unfold bindL
  rw[qw λw hw=>h w (Kr _ hw)]
  split
  ·have:x≠n:=by rintro rfl;exact h v Ku
   simp[this]
  ·rfl
theorem qD {kindOf:Str->Option NameKind}{x:Str}:∀{binds:List (Str×Value)} {m:Str->Option Value},(∀v,(x,v)∉binds)->bindC kindOf binds m x=m x
 | [],_,_=>rfl
 | (n,v) :: r,m,h=>by
  unfold bindC
  rw[qD λw hw=>h w (Kr _ hw)]
  split
  ·rfl
  ·have:x≠n:=by rintro rfl;exact h v Ku
   simp[this]
theorem qd {kindOf:Str->Option NameKind}{x:Str}{v:Value}:∀{P:List Str} {vs:List Value} {i:Nat} {m:Str->Option Value},P.Nodup->P[i]? =some x->vs[i]? =some v->kindOf x=some .local->
  bindL kindOf (P.zip vs) m x=some v
 | [],_,_,_,_,h,_,_=>by simp at h
 |_ :: _,[],_,_,_,_,h,_=>by simp at h
 |p :: P,w :: vs,0,m,nd,h1,h2,hk=>by
  simp at h1 h2;subst h1;subst h2
  show bindL kindOf ((p,w) :: P.zip vs) m p=_
  unfold bindL
  rw[qw λv hv=>(Lm.mp nd).1 (List.of_mem_zip hv).1,Kl hk]
  simp
 |p :: P,w :: vs,i + 1,m,nd,h1,h2,hk=>by
  show bindL kindOf ((p,w) :: P.zip vs) m x=_
  unfold bindL
  exact qd (i:=i) (Lm.mp nd).2 (by simpa using h1) (by simpa using h2) hk
theorem qe {kindOf:Str->Option NameKind}{x:Str}{v:Value}:∀{P:List Str} {vs:List Value} {i:Nat} {m:Str->Option Value},P.Nodup->P[i]? =some x->vs[i]? =some v->kindOf x≠some .local->
  bindC kindOf (P.zip vs) m x=some v
 | [],_,_,_,_,h,_,_=>by simp at h
 |_ :: _,[],_,_,_,_,h,_=>by simp at h
 |p :: P,w :: vs,0,m,nd,h1,h2,hk=>by
  simp at h1 h2;subst h1;subst h2
  show bindC kindOf ((p,w) :: P.zip vs) m p=_
  unfold bindC
  rw[qD λv hv=>(Lm.mp nd).1 (List.of_mem_zip hv).1,Kw hk]
  simp
 |p :: P,w :: vs,i + 1,m,nd,h1,h2,hk=>by
  show bindC kindOf ((p,w) :: P.zip vs) m x=_
  unfold bindC
  exact qe (i:=i) (Lm.mp nd).2 (by simpa using h1) (by simpa using h2) hk
def start (N:List Str)(vs:List V):St:=vs.map some ++ List.replicate (N.length - vs.length) none
def kM (CX:yb)(P:Program)(w:World)(K:Frag)(mg:Str->Option Value)(base:Heap)(N:List Str)(qual:Str)(scope:Scope)(f:Addr)(cd:Value)(A:Around)(outer:List Env)(s:Shared)(H:Hp)(E:XK):Cx where
 prog:=P
 w:=w
 K:=K
 mg:=mg
 base:=base
 A:=A.deeper (envOfC qual scope s.heap.objs.size f cd)
 N:=N
 s₀:=s
 H₀:=H
 env:=envOfC qual scope s.heap.objs.size f cd
 outer:=outer
 stack:=envOfC qual scope s.heap.objs.size f cd :: outer
 ex:=[]
 calm:=true
 fn:=λ_=>true
 pn:=[]
 xe:=λe s'=>wpAny (model P w) (A.deeper (envOfC qual scope s.heap.objs.size f cd)) (leaving (envOfC qual scope s.heap.objs.size f cd) e) (λ_ s''=>CX outer H s E e s'') (λe' s''=>CX outer H s E e' s'') s'
def uN {sc:Scope}{n:Nat}{x:Str}(h:sc.names.lookup x=some .cell):∃c,(cellsFrom n sc.names []).lookup x=some c:=by
 have q:=PySem.W.cellsFrom_some sc.names n [] (.inl h)
 exact Option.isSome_iff_exists.mp q
def yk {CX:yb}{P:Program}{w:World}{K:Frag}{mg:Str->Option Value}{base:Heap}{N ps:List Str}{qual:Str}{scope:Scope}{f:Addr}{cd:Value}{A:Around}{outer:List Env}{s s1:Shared}{H:Hp}{E:XK}{us:List Value}{vs:List V}
  (S:aL N ps scope) (hd:A.handled=none) (e0:Dt P w K mg base A outer s H) (hl:vs.length=ps.length) (r:Vals vs us)
  (x:InCallC s s.heap.objs.size (bindL (envOfC qual scope s.heap.objs.size f cd).kindOf (ps.zip us) λ_=>none) (cellsFrom (s.heap.objs.size + 1) scope.names []) (bindC (envOfC qual scope s.heap.objs.size f cd).kindOf (ps.zip us) λ_=>none) s1) :
  Inv (kM CX P w K mg base N qual scope f cd A outer s H E) [] (start N vs) H s1:=by
 have hpl:ps.length<=N.length:=by have:=congrArg List.length S.pre;rw[KU] at this;omega
 obtain⟨h1,tk,rfl,hk⟩:=x.done
 have noA:∀b:Addr,b∉(kM CX P w K mg base N qual scope f cd A outer s H E).ex:=λb z=>absurd (show b∈([]:List Addr) from z) (by simp)
 refine⟨⟨e0.mod,S.kind,rfl,rfl,Kj _,λy z c h1 h2=>?_,λy hy=>?_,λy c _ h=>?_,λ_=>hd,Around.frames_deeper e0.frames,.inr ⟨rfl,rfl⟩,λb z=>absurd z (noA b),e0.bs,e0.bsz,λb _ _=>noA b,λb z=>absurd z (noA b),e0.funs,e0.frf⟩,
  rfl,e0.bare,Un.kept hk,⟨_,x.toInCall.ns,λi y v h1 h2 h3=>?_⟩,λy c h=>⟨_,x.cell y c h⟩,e0.hok.fresh (Kj _),λy c h=>?_,λp hp=>absurd (show p∈([]:List (Addr×Obj)) from hp) (by simp),e0.hok.kept hk,?_⟩
 ·exact name_of_addr x.apart (LR h1) (LR h2)
 ·have hy:scope.names.lookup y=some .cell\/scope.names.lookup y=some .free:=hy
  rcases hy with hy |hy
  ·exact uN hy
  ·exact absurd rfl (S.nofree _ (LR hy))
 ·exact Nat.le_of_lt (x.above y c (LR h))
 ·have hi:i < vs.length:=by
   unfold start at h2
   by_cases hi:i < vs.length
   ·exact hi
   ·rw[Ld (by simpa using hi)] at h2
    rw[LF] at h2
    split at h2 <;> cases h2
  have ha:vs[i]? =some v:=by
   unfold start at h2
   rw[K4 (by simpa using hi),KD] at h2
   cases e:vs[i]? with
   |none=>rw[e] at h2;cases h2
   |some a=>rw[e] at h2;cases h2;rfl
  obtain⟨u,hu,rv⟩:=r.get ha
  have hp:ps[i]? =some y:=by
   rw[<-S.pre,List.getElem?_take_of_lt (by omega)];exact h1
  have ndP:ps.Nodup:=by rw[<-S.pre];exact S.nd.sublist (List.take_sublist _ _)
  refine⟨u,rv,?_⟩
  rcases S.par y (KA hp) with k |k
  ·exact .inl ⟨k,qd ndP hp hu k⟩
  ·obtain⟨c,e⟩:=uN (n:=s.heap.objs.size + 1) k
   refine .inr ⟨.inl k,c,e,?_⟩
   have q:=x.cell y c e
   rw[qe ndP hp hu (by show scope.names.lookup y≠_;rw[k];decide)] at q
   exact q
 ·exact e0.hok.fresh (Nat.le_of_lt (x.above y c (LR h)))
 ·unfold start
  show _=N.length
  rw[KN,Ko,Ls]
  omega
theorem DE {CX:yb}{P:Program}{w:World}{K:Frag}{mg:Str->Option Value}{base:Heap}{k:Nat}{f:Addr}{name qual:Str}{params:Arguments}{body:List Stmt}{scope:Scope}{dV kV doc pm cdv ct oc:Value}{an od:Option Addr}
  {osl:Array (Option Value)} {N ps:List Str} {sp:Sp} (lk:K.lookup f=some ⟨oc,od,.func (PySem.W.fnOf name qual params body scope dV kV doc pm an cdv ct),osl⟩) (hcd:PySem.W.codeIn K cdv qual=true) (S:aL N ps scope)
  (len:∀vs H Q E,sp vs H Q E->vs.length=ps.length)
  (hbody:∀(A:Around) (outer:List Env) (s:Shared) (H:Hp) (vs:List V) (Q:VK) (E:XK),fY k (A.deeper (envOfC qual scope s.heap.objs.size f cdv))->sp vs H Q E->
   ∃t,ql (kM CX P w K mg base N qual scope f cdv A outer s H E) body t/\t {nx:=λ_ H'=>Q .non H',rt:=Q} (start N vs) H) :
  fL P w K mg base CX (k + 1) f (PySem.W.fnOf name qual params body scope dV kV doc pm an cdv ct) ps sp:=by
 refine⟨len,λA outer s H args us vs Q E hr e0 hb r hsp=>?_⟩
 have hl:=len _ _ _ _ hsp
 have KX:K.In s.heap:=e0.mod.kin.keeps λb o e=>(e0.bs b o e).1
 have lim:s.heap.NoLimit:=e0.mod.nolimit.keeps λb o e=>(e0.bs b o e).1
 have hkind:∀y∈ps.zip us,scope.names.lookup y.1=some .local\/(scope.names.lookup y.1=some .cell/\((cellsFrom (s.heap.objs.size + 1) scope.names []).lookup y.1).isSome=true):=λ⟨n,v⟩ hy=>by
  rcases S.par n (List.of_mem_zip hy).1 with q |q
  ·exact .inl q
  ·exact .inr ⟨q,PySem.W.cellsFrom_some _ _ _ (.inl q)⟩
 refine codeAny_call_function hr.depth (KX _ _ lk) rfl S.co S.gen rfl (PySem.W.codeRec_of KX hcd) (hb _ _ _ _ ?_)
 refine wpAny_newFunctionEnv_cells S.kind hkind λenv he s1 x=>?_
 subst he
 refine⟨lim.keeps x.toInCall.keep,codeAny_func ?_⟩
 obtain⟨t,ht,hq⟩:=hbody A outer s H vs Q E (hr.deeper _) hsp
 have I:Inv (kM CX P w K mg base N qual scope f cdv A outer s H E) [] (start N vs) H s1:=yk S hr.hd e0 hl r x
 refine LU (ht [] s1 (start N vs) H _ I hq) (λfl s' hs=>?_) λe s' hs=>hs
 have fin:∀{σ':St} {H':Hp} {v:V} {u:Value},Inv (kM CX P w K mg base N qual scope f cdv A outer s H E) [] σ' H' s'->RelV v u->Q v H'->CE outer P w H s Q u s':=
  λ{σ' H' v u} J rv q=>⟨v,H',J.os,J.bare,J.base,J.hok,rv,q⟩
 cases fl with
 |ret u=>
  obtain⟨v,σ',H',J,rv,q⟩:=hs
  exact fin J rv q
 |next=>
  obtain⟨σ',H',J,q⟩:=hs
  exact fin (v:=V.non) (u:=Value.none) J rfl q
 |brk=>
  obtain⟨_,_,_,q⟩:=hs
  exact False.elim q
 |cont=>
  obtain⟨_,_,_,q⟩:=hs
  exact False.elim q
section
variable {X:Cx}{x:Str}{p pos:Pos}{e:Expr}{es:List Expr}{t:TA}{id T:String}{r:List V->Hp->VK->Prop}
def JT (r:List V->Hp->VK->Prop)(t:TA):TE:=λσ H Q=>t σ H λvs H1=>r vs H1 Q
def lS (hc:fD X (.builtin id) r)(hg:Gl X x)(hm:X.mg x=none)(hv:bootBuiltins x=some (.builtin id))(ha:PA X (e :: es) t)(hn:x≠"__name__":=by decide)(hdb:(x == ("__debug__":Str))=false:=by decide)
  (he:starEach (e :: es) X.env=(false,eval e X.env) :: starEach es X.env:=by rfl) (hpl:(backTo pos (starEach es X.env)).any (·.1)=false:=by rfl):PE X (.Call (.Name x p) (e :: es) [] pos) (JT r t):=by
 intro pins s σ H Q I h
 refine wpAny_Call_Name_kw (oO I hg hm hv ?_ hn hdb)
 exact PyProof.Rows.callWith_builtin1 (cq (ha pos pins s σ H _ I h) λus s1 ⟨vs,H1,I1,r1,q1⟩=>hc pins s1 σ H1 vs us Q I1 r1 q1) he hpl
def kG (hc:fD X (.type T) r)(hg:Gl X x)(hm:X.mg x=none)(hv:bootBuiltins x=some (.type T))(ha:PA X (e :: es) t)(hn:x≠"__name__":=by decide)(hdb:(x == ("__debug__":Str))=false:=by decide)
  (he:starEach (e :: es) X.env=(false,eval e X.env) :: starEach es X.env:=by rfl) (hpl:(backTo pos (starEach es X.env)).any (·.1)=false:=by rfl):PE X (.Call (.Name x p) (e :: es) [] pos) (JT r t):=by
 intro pins s σ H Q I h
 refine wpAny_Call_Name_kw (oO I hg hm hv ?_ hn hdb)
 exact Ml (cq (ha pos pins s σ H _ I h) λus s1 ⟨vs,H1,I1,r1,q1⟩=>hc pins s1 σ H1 vs us Q I1 r1 q1) he hpl
end
end L2
namespace HT
open PySem PyProof.Rows
section
open PySem.SeqAt
open PySem.AutoSeq1 (wpAny_loadPart')
open PySem.MeetsSeq PySem.MeetsSeq2 PySem.MeetsSeq3
end
section
variable {prog:Program}{w:World}{A:Around}{E:Value->Shared->Prop}{s:Shared}
def BP {t b:Addr}{vs ws:List Value}{Q:Value->Shared->Prop}(ht:IsTup s.heap t vs.toArray)(hb:IsTup s.heap b ws.toArray)(hv:vs≠ [])
  (h1:ws= []->Q (.ref t) s) (h2:ws≠ []->Q (.ref s.heap.objs.size) {s with heap:=s.heap.push {cls:=.type "tuple",data:=.seq (vs ++ ws).toArray}})
  (hsz:vs.length + ws.length<=sizeLine):wpAny (model prog w) A (binaryOp .Add (.ref t) (.ref b)) Q E s:=by
 obtain⟨⟨cls,dd,data,sl⟩,ho,hc,n,hd⟩:=id ht
 obtain⟨⟨cls2,dd2,data2,sl2⟩,ho2,hc2,n2,hd2⟩:=id hb
 simp only at hc hd hc2 hd2
 subst hc hd hc2 hd2
 have e:vs.toArray ++ ws.toArray=(vs ++ ws).toArray:=by simp
 by_cases hw:ws= []
 ·exact concat_meets ⟨_,ho,rfl⟩ ⟨_,ho2,rfl⟩ noFill_tuple_add seq_tuple_add PySem.F.slot_tuple_add PySem.F.entry_tuple_add (Mw _ _)
   (tuple_addW1 t b vs.toArray ws.toArray n n2 dd dd2 sl sl2 (by simpa using hv) (by simp[hw])) ⟨ho,ho2,h1 hw⟩
 ·refine concat_meets ⟨_,ho,rfl⟩ ⟨_,ho2,rfl⟩ noFill_tuple_add seq_tuple_add PySem.F.slot_tuple_add PySem.F.entry_tuple_add (Mw _ _)
   (tuple_addW2 t b vs.toArray ws.toArray n n2 dd dd2 sl sl2 (by simpa using hv) (by simpa using hw) (by rw[Kz,Kz];exact hsz)) ⟨ho,ho2,?_⟩
  rw[e]
  exact h2 hw
def dM (n d:Nat):Option Int->Nat
 |none=>d
 |some v=>if v < 0 then (v + (n:Int)).toNat else min v.toNat n
def ka (n d:Nat):dM n d none=d:=rfl
def l8 (n d k:Nat):dM n d (some (k:Int))=min k n:=by
 show (if (k:Int) < 0 then ((k:Int) + (n:Int)).toNat else min (k:Int).toNat n)=min k n
 rw[Kw (by omega),Lj]
theorem Ec (n d:Nat)(hd:d<=n)(o:Option Int):dM n d o<=n:=by
 cases o with
 |none=>exact hd
 |some v=>
  show (if v < 0 then (v + (n:Int)).toNat else min v.toNat n)<=n
  by_cases hv:v < 0
  ·rw[Kl hv];omega
  ·rw[Kw hv];exact Nat.min_le_right _ _
def xr (v:Int)(n d:Nat):(if v < 0 then max (v + (n:Int)) 0 else min v (n:Int))=((dM n d (some v):Nat):Int):=by
 show (if v < 0 then max (v + (n:Int)) 0 else min v (n:Int))=(((if v < 0 then (v + (n:Int)).toNat else min v.toNat n):Nat):Int)
 by_cases hv:v < 0
 ·simp only[Kl hv];omega
 ·simp only[Kw hv];omega
def vq (lo hi:Option Int)(n:Nat):Builtin.Slice.sliceAdjust lo hi 1 (n:Int)=(((dM n 0 lo:Nat):Int),((dM n n hi:Nat):Int)):=by
 have h1:¬((1:Int) < 0):=by omega
 unfold Builtin.Slice.sliceAdjust
 simp only[h1,LG]
 refine Prod.ext ?_ ?_
 ·cases lo with
  |none=>rfl
  |some v=>exact xr v n 0
 ·cases hi with
  |none=>rfl
  |some v=>exact xr v n n
def vb (i j:Nat):Builtin.Slice.slicePlaces (i:Int) (j:Int) 1=j - i:=by
 unfold Builtin.Slice.slicePlaces
 have h1:(1:Int) > 0:=by omega
 simp only[h1,Lz,Int.ediv_one]
 split <;> omega
theorem k6 {v:Value}{o:Option Int}{Q:Option Int->Shared->Prop}(p:IsPart v o)(h:Q o s):wpAny (model prog w) A (Builtin.Slice.slicePartIndex v) Q E s:=by
 cases p with
 |none=>exact slicePart_none h
 |int i t=>exact slicePart_int h
def je {sl:Addr}{vl vu:Value}{lo hi:Option Int}{n:Nat}{Q:Int×Int×Nat->Shared->Prop}(hs:s.heap.IsSliceOf sl vl vu .none)(pl:IsPart vl lo)(pu:IsPart vu hi)
  (h:Q (((dM n 0 lo:Nat):Int),1,dM n n hi - dM n 0 lo) s):wpAny (model prog w) A (Builtin.Slice.sliceApplied (.ref sl) (pure (n:Int))) Q E s:=by
 obtain⟨os,hos,hcs,hds⟩:=id hs
 unfold Builtin.Slice.sliceApplied Builtin.Slice.sliceFields
 refine Ki (Ki (LJ hos hds (x:=vl) rfl (Ki (LJ hos hds (x:=vu) rfl (Ki (LJ hos hds (x:=.none) rfl (Kv ?_)))))))
 refine Ki (slicePart_none ?_)
 show wpAny _ _ (if ((1:Int) == 0)=true then _ else _) _ _ s
 rw[Kw (by decide)]
 refine Ki (k6 pl (Ki (k6 pu (Ki (Kv ?_)))))
 show wpAny _ _ (match Builtin.Slice.sliceAdjust lo hi 1 (n:Int) with | (lo,hi)=>pure (lo,(1:Int),Builtin.Slice.slicePlaces lo hi 1)) _ _ s
 rw[vq lo hi n]
 show wpAny _ _ (pure (((dM n 0 lo:Nat):Int),(1:Int),Builtin.Slice.slicePlaces ((dM n 0 lo:Nat):Int) ((dM n n hi:Nat):Int) 1)) _ _ s
 rw[vb]
 exact Kv h
def zI (xs:Array Value)(i k:Nat):((List.range k).filterMap λ(m:Nat)=>xs[((i:Int) + (m:Int) * 1).toNat]?).toArray=((xs.toList.drop i).take k).toArray:=by
 have e:(λ(m:Nat)=>xs[((i:Int) + (m:Int) * 1).toNat]?)=λm=>xs[i + m]?:=by
  funext m
  have:((i:Int) + (m:Int) * 1).toNat=i + m:=by omega
  rw[this]
 rw[e]
 have:=pick_run xs i k
 rw[List.filterMap_map] at this
 have e2:((λx=>xs[x]?) ∘ λx=>i + x)=λm=>xs[i + m]?:=rfl
 rw[e2] at this
 rw[this]
def lG {t sl:Addr}{items:Array Value}{vl vu:Value}{lo hi:Option Int}{Q:Value->Shared->Prop}(ht:IsTup s.heap t items)(hs:s.heap.IsSliceOf sl vl vu .none)(pl:IsPart vl lo)(pu:IsPart vu hi)
  (hw:¬(dM items.size 0 lo=0/\dM items.size items.size hi=items.size))
  (h:Q (.ref s.heap.objs.size) {s with heap:=s.heap.push {cls:=.type "tuple",data:=.seq ((items.toList.drop (dM items.size 0 lo)).take (dM items.size items.size hi - dM items.size 0 lo)).toArray}})
  (hsz:items.size<=sizeLine):wpAny (model prog w) A (getItem (.ref t) (.ref sl)) Q E s:=by
 have htake:sizeOk (.seq ((items.toList.drop (dM items.size 0 lo)).take (dM items.size items.size hi - dM items.size 0 lo)).toArray):=by
  show ((items.toList.drop (dM items.size 0 lo)).take (dM items.size items.size hi - dM items.size 0 lo)).toArray.size<=sizeLine
  rw[Kz,KU,Lw,Mr]
  omega
 have hj:dM items.size items.size hi<=items.size:=Ec _ _ (Kj _) hi
 obtain⟨os,hos,hcs,hds⟩:=id hs
 have hTs:s.TypeIs (.ref sl) "slice":=⟨os,hos,hcs⟩
 unfold getItem
 try with_reducible refine L0 ?_
 first |refine Ki (Kv ?_) |skip
 refine Ki (wpAny_sequenceKey ht.typeIs (by decide) ?_)
 refine Ki (L9 (name:=Str.ofString "__getitem__") ht.typeIs KY
  (Mn KY ht.typeIs entry_tuple_getitem ?_ (args_tuple_getitem _ _)))
 show wpAny _ _ (Builtin.Tuple.tupleItemsOf (.ref t) >>= _) _ _ s
 refine Ki (tupleItemsOf_ ht ?_)
 refine Ki (wpAny_typeOf hTs ?_)
 rw[Kl (by decide)]
 refine Ki (je hs pl pu ?_)
 have hno:¬((((dM items.size 0 lo:Nat):Int) == 0 && (1:Int) == 1 && (dM items.size items.size hi - dM items.size 0 lo) == items.size)=true):=by
  intro q
  rw[Km,Km] at q
  have q1:((dM items.size 0 lo:Nat):Int)=0:=eq_of_beq q.1.1
  have q2:dM items.size items.size hi - dM items.size 0 lo=items.size:=eq_of_beq q.2
  exact hw ⟨by omega,by omega⟩
 show wpAny _ _ (if (((dM items.size 0 lo:Nat):Int) == 0 && (1:Int) == 1 && (dM items.size items.size hi - dM items.size 0 lo) == items.size)=true then _ else _) _ _ s
 rw[Kw hno,zI]
 first
  |exact Ki (m:=Builtin.Tuple.tupleExact _) (Lo (Kv ⟨_,rfl,Kv h⟩) htake)
  |exact Ki (m:=Builtin.Tuple.tupleExact _) (Lo (Ki (Kv (Kv ⟨_,rfl,Kv h⟩))) htake)
  |exact Ki (Ki (m:=Builtin.Tuple.tupleExact _) (Lo (Kv (Kv ⟨_,rfl,Kv h⟩)) htake))
  |exact Ki (Ki (m:=Builtin.Tuple.tupleExact _) (Lo (Kv ⟨_,rfl,Kv h⟩) htake))
end
end HT
namespace L2
open PySem PySem.Spec PyProof.Rows
abbrev TO:=St->Hp->(Option Int->Hp->Prop)->Prop
def PO (X:Cx)(e:Option Expr)(t:TO):Prop:=
 ∀(pins:List (Addr×Obj)) (s:Shared) (σ:St) (H:Hp) (Q:Option Int->Hp->Prop),Inv X pins σ H s->t σ H Q->
  wpAny (model X.prog X.w) X.A (evalPart e X.env) (λu s'=>∃o H',Inv X pins σ H' s'/\IsPart u o/\Q o H') X.xe s
def CQ:TO:=λ_ H Q=>Q none H
def HW (t:TE):TO:=λσ H Q=>t σ H λx H1=>∃i,x=.int i/\Q (some i) H1
section
variable {X:Cx}{e:Expr}{te:TE}{lo hi:Option Expr}{tl th:TO}{pos p2:Pos}
def Cr:PO X none CQ:=by
 intro pins s σ H Q I h
 rw[evalPart_none]
 exact Kv ⟨none,H,I,.none,h⟩
def q8 (h:PE X e te):PO X (some e) (HW te):=by
 intro pins s σ H Q I hw
 rw[evalPart_some]
 refine cq (h pins s σ H _ I hw) λu s1 ⟨x,H1,I1,r1,q1⟩=>?_
 obtain⟨i,rfl,q⟩:=q1
 obtain⟨t,rfl⟩:=r1
 exact⟨some i,H1,I1,.int i t,q⟩
def Ia (X:Cx)(r:V->Option Int->Option Int->Hp->VK->Prop):Prop:=
 ∀(pins:List (Addr×Obj)) (s:Shared) (σ:St) (H:Hp) (x:V) (v vl vu:Value) (lo hi:Option Int) (sl:Addr) (Q:VK),Inv X pins σ H s->RelV x v->s.heap.IsSliceOf sl vl vu .none->IsPart vl lo->IsPart vu hi->r x lo hi H Q->
  ∃T id,typeLookup (.type T) "__getitem__"=pure (some (.builtin id))/\s.TypeIs v T/\wpAny (model X.prog X.w) X.A (getItem v (.ref sl)) (EP X pins σ Q) X.xe s
def Ke (r:V->Option Int->Option Int->Hp->VK->Prop)(te:TE)(tl th:TO):TE:=λσ H Q=>te σ H λx H1=>tl σ H1 λl H2=>th σ H2 λu H3=>r x l u H3 Q
def tI {r:V->Option Int->Option Int->Hp->VK->Prop}(hr:Ia X r)(he:PE X e te)(hl:PO X lo tl)(hu:PO X hi th):PE X (.Subscript e (.Slice lo hi none p2) pos) (Ke r te tl th):=by
 intro pins s σ H Q I h
 refine Subscript_ (cq (he pins s σ H _ I h) λv s1 ⟨x,H1,I1,r1,q1⟩=>?_)
 refine wpAny_Slice (cq (hl pins s1 σ H1 _ I1 q1) λvl s2 ⟨l,H2,I2,pl,q2⟩=>cq (hu pins s2 σ H2 _ I2 q2) λvu s3 ⟨u,H3,I3,pu,q3⟩=>?_)
 rw[evalPart_none]
 refine Kv ?_
 have I4:Inv X pins σ H3 {s3 with heap:=s3.heap.push {cls:=.type "slice",data:=.fields #[vl,vu,.none]}}:=I3.kept (t':=s3.toks) λb ob q=>Kk _ q
 obtain⟨T,id,hT,ht,hg⟩:=hr pins {s3 with heap:=s3.heap.push {cls:=.type "slice",data:=.fields #[vl,vu,.none]}} σ H3 x v vl vu l u s3.heap.objs.size Q I4 r1 (Heap.IsSliceOf.new ..) pl pu q3
 show wpAny (model X.prog X.w) X.A (subscriptTail e (.Slice lo hi none p2) v (.ref s3.heap.objs.size)) (EP X pins σ Q) X.xe {s3 with heap:=s3.heap.push {cls:=.type "slice",data:=.fields #[vl,vu,.none]}}
 exact tail_any (ops:=[.ref s3.heap.objs.size,v]) ht hT hg (by with_unfolding_all rfl)
def oK (xs:List V)(lo hi:Option Int):List V:=(xs.drop (HT.dM xs.length 0 lo)).take (HT.dM xs.length xs.length hi - HT.dM xs.length 0 lo)
def mY (xs:List V)(lo hi:Option Int):(oK xs lo hi).length<=xs.length:=by
 unfold oK
 rw[KU,Lw]
 omega
def JC (K:Frag):V->Option Int->Option Int->Hp->VK->Prop:=λx lo hi H Q=>∃a xs,x=.ref a/\fy K H a xs/\
 ¬(HT.dM xs.length 0 lo=0/\HT.dM xs.length xs.length hi=xs.length)/\∀p,H p=none->Q (.ref p) (upd H p (.tup (oK xs lo hi)))
def EV:Ia X (JC X.K):=by
 intro pins s σ H x v vl vu lo hi sl Q I rx hs pl pu h
 obtain⟨a,xs,rfl,hx,hw,q⟩:=h
 cases rx
 obtain⟨its,r,ht,hz⟩:=I.tuple hx
 have hlen:its.toArray.size=xs.length:=by rw[Kz];exact r.length.symm
 refine⟨"tuple",_,KY.lookup,ht.typeIs,?_⟩
 refine HT.lG ht hs pl pu (by rw[hlen];exact hw) ?_ (by rw[hlen];exact hz)
 rw[hlen]
 refine⟨.ref s.heap.objs.size,_,I.laid (t':=s.toks) (o:=.tup (oK xs lo hi)) (λb ob q=>Kk _ q) (Kj _) ?_,rfl,q _ (I.hok.fresh (Kj _))⟩
 exact⟨Lg (mY xs lo hi) hz,_,(r.drop (HT.dM xs.length 0 lo)).take (HT.dM xs.length xs.length hi - HT.dM xs.length 0 lo),oU.new _ _⟩
def Hw (K:Frag):R2:=λx y H Q=>∃a b xs ys,x=.ref a/\y=.ref b/\fy K H a xs/\fy K H b ys/\xs≠ []/\xs.length + ys.length<=sizeLine/\
 (ys= []->Q (.ref a) H)/\(ys≠ []->∀p,H p=none->Q (.ref p) (upd H p (.tup (xs ++ ys))))
theorem Vals.nil_iff {xs:List V}{us:List Value}(r:Vals xs us):us= []↔xs= []:=by
 cases r with
 |nil=>simp
 |cons _ _=>simp
def C5:jT X (binaryOp .Add) (Hw X.K):=by
 intro pins s σ H x y v u Q I rx ry h
 obtain⟨a,b,xs,ys,rfl,rfl,ha,hb,hx,hz,q1,q2⟩:=h
 cases rx
 cases ry
 obtain⟨its,r1,p1,_⟩:=I.tuple ha
 obtain⟨its2,r2,p2,_⟩:=I.tuple hb
 refine HT.BP p1 p2 (λz=>hx (r1.nil_iff.mp z)) (λz=>⟨.ref a,H,I,rfl,q1 (r2.nil_iff.mp z)⟩) (λz=>?_) (by rw[<-r1.length,<-r2.length];exact hz)
 refine⟨.ref s.heap.objs.size,_,I.laid (t':=s.toks) (o:=.tup (xs ++ ys)) (λb ob q=>Kk _ q) (Kj _) ?_,rfl,q2 (λw=>z (r2.nil_iff.mpr w)) _ (I.hok.fresh (Kj _))⟩
 exact⟨by rw[KN];exact hz,_,r1.append r2,oU.new _ _⟩
end
def sU (n:Nat)(i:Int):Option Nat:=if 0<=i then (if i < n then some i.toNat else none) else if -(n:Int)<=i then some (i + n).toNat else none
def i9 {α:Type}(xs:List α)(i:Int):Option α:=(sU xs.length i).bind λj=>xs[j]?
def xN {n:Nat}{i:Int}{j:Nat}(h:sU n i=some j):seqIndex? i n=some j/\j < n/\ -(n:Int)<=i/\i < n:=by
 unfold sU at h
 by_cases h0:0<=i
 ·rw[Kl h0] at h
  by_cases h1:i < n
  ·rw[Kl h1] at h
   have e:i.toNat=j:=Option.some.inj h
   exact⟨by rw[seqIndex_of h0 h1,e],by omega,by omega,h1⟩
  ·rw[Kw h1] at h;cases h
 ·rw[Kw h0] at h
  by_cases h1: -(n:Int)<=i
  ·rw[Kl h1] at h
   have e:(i + n).toNat=j:=Option.some.inj h
   exact⟨by rw[seqIndex_neg (by omega) h1,e],by omega,h1,by omega⟩
  ·rw[Kw h1] at h;cases h
theorem rN {α:Type}{xs:List α}{i:Int}{v:α}(h:i9 xs i=some v):∃j,seqIndex? i xs.length=some j/\xs[j]? =some v/\j < xs.length/\ -(xs.length:Int)<=i/\i < xs.length:=by
 unfold i9 at h
 cases e:sU xs.length i with
 |none=>rw[e] at h;cases h
 |some j=>
  rw[e] at h
  obtain⟨h1,h2,h3,h4⟩:=xN e
  exact⟨j,h1,h,h2,h3,h4⟩
def fE {α:Type}{xs:List α}{j:Nat}{v:α}(h:xs[j]? =some v):i9 xs (j:Int)=some v:=by
 have hj:j < xs.length:=(KJ.mp h).1
 have e:sU xs.length (j:Int)=some j:=by
  unfold sU
  rw[Kl (by omega),Kl (by omega)];simp
 unfold i9;rw[e];exact h
def zG {α:Type}(xs:List α)(v:α):i9 (xs ++ [v]) (-1)=some v:=by
 have hl:(xs ++ [v]).length=xs.length + 1:=by simp
 have e:sU (xs ++ [v]).length (-1)=some xs.length:=by
  unfold sU
  rw[hl,Kw (by decide),Kl (by omega)]
  congr 1
  omega
 unfold i9
 rw[e]
 show (xs ++ [v])[xs.length]? =some v
 simp
def xp (b:Expr):Prop:=∀o i,subscripted b false o i=operate [o,i] (getItem o i)
def AO (X:Cx)(r:R2):Prop:=
 ∀(value slice:Expr) (pins:List (Addr×Obj)) (s:Shared) (σ:St) (H:Hp) (x y:V) (v u:Value) (Q:VK),Inv X pins σ H s->RelV x v->RelV y u->r x y H Q->
  subscripted slice false v u=operate [v,u] (getItem v u)->wpAny (model X.prog X.w) X.A (subscriptTail value slice v u) (EP X pins σ Q) X.xe s
def J8 (X:Cx)(id:String)(r:V->List V->Hp->VK->Prop):Prop:=
 ∀(pins:List (Addr×Obj)) (s:Shared) (σ:St) (H:Hp) (x:V) (xs:List V) (v:Value) (us:List Value) (Q:VK),Inv X pins σ H s->RelV x v->Vals xs us->r x xs H Q->
  wpAny (model X.prog X.w) X.A (call (.builtin id) (v :: us)) (EP X pins σ Q) X.xe s
section
variable {X:Cx}{a b:Expr}{ta tb:TE}{pos:Pos}
def AO.or {r r':R2}(h:AO X r)(h':AO X r'):AO X (λx y H Q=>r x y H Q\/r' x y H Q):=by
 intro value slice pins s σ H x y v u Q I rx ry q hs
 rcases q with q |q
 ·exact h value slice pins s σ H x y v u Q I rx ry q hs
 ·exact h' value slice pins s σ H x y v u Q I rx ry q hs
def kN {r:R2}(hr:AO X r)(ha:PE X a ta)(hb:PE X b tb)(hs:xp b):PE X (.Subscript a b pos) (Ih r ta tb):=by
 intro pins s σ H Q I h
 exact Subscript_ (FH ha hb I h λv u s2 x y H2 I2 rx ry q=>hr a b pins s2 σ H2 x y v u Q I2 rx ry q (hs _ _))
def EG (K:Frag):R2:=λx y H Q=>∃p xs i v,x=.ref p/\y=.int i/\iw K H p xs/\i9 xs i=some v/\Q v H
def Hl (K:Frag):R2:=λx y H Q=>∃p xs i v,x=.ref p/\y=.int i/\fy K H p xs/\i9 xs i=some v/\Q v H
def GL:R2:=λx y H Q=>∃z i c,x=.str z/\y=.int i/\z.length<=sizeLine/\i9 z.cps.toList i=some c/\Q (.str ⟨#[c]⟩) H
def hV:AO X (EG X.K):=by
 intro value slice pins s σ H x y v u Q I rx ry h hs
 obtain⟨p,xs,i,z,rfl,rfl,hq,he,q⟩:=h
 cases rx
 obtain⟨t,rfl⟩:=ry
 obtain⟨its,r,pl,hz⟩:=I.list hq
 obtain⟨j,h1,h2,h3,h4,h5⟩:=rN he
 obtain⟨w,ew,rw'⟩:=r.get h2
 have hl:=r.length
 have hn:=ml
 have fin:EP X pins σ Q w s:=⟨z,H,I,rw',q⟩
 by_cases h0:0<=i
 ·have hj:i.toNat=j:=by
   rw[seqIndex_of h0 h5] at h1
   exact Option.some.inj h1
  exact item_listR pl.isList h0 (by omega) (by rw[hj];simpa using ew) fin hs
 ·have hj:(i + (its.toArray.size:Int)).toNat=j:=by
   rw[seqIndex_neg (by omega) h4] at h1
   rw[Kz,<-hl]
   exact Option.some.inj h1
  exact subscriptTail_builtinR (x:=w) pl.isList.typeIs slot_list_getitem.lookup
   (wpAny_getItem_list_neg (Q:=λr s'=>r=w/\EP X pins σ Q r s') pl.isList (by omega) (by rw[Kz] <;> omega) (by omega) (by rw[hj];simpa using ew) ⟨rfl,fin⟩) hs
def EI:AO X (Hl X.K):=by
 intro value slice pins s σ H x y v u Q I rx ry h hs
 obtain⟨p,xs,i,z,rfl,rfl,hq,he,q⟩:=h
 cases rx
 obtain⟨t,rfl⟩:=ry
 obtain⟨its,r,pl,hz⟩:=I.tuple hq
 obtain⟨j,h1,h2,h3,h4,h5⟩:=rN he
 obtain⟨w,ew,rw'⟩:=r.get h2
 have hl:=r.length
 have hn:=ml
 have fin:EP X pins σ Q w s:=⟨z,H,I,rw',q⟩
 exact subscriptTail_builtinR (x:=w) pl.typeIs slot_tuple_getitem.lookup
  (getItem_tuple (j:=j) (Q:=λr s'=>r=w/\EP X pins σ Q r s') pl (by omega) (by omega) (by rw[Kz,<-hl];exact h1) (by simpa using ew) ⟨rfl,fin⟩) hs
def Fc:AO X GL:=by
 intro value slice pins s σ H x y v u Q I rx ry h hs
 obtain⟨z,i,c,rfl,rfl,hz,he,q⟩:=h
 obtain⟨t,rfl⟩:=rx
 obtain⟨t',rfl⟩:=ry
 obtain⟨j,h1,h2,h3,h4,h5⟩:=rN he
 have hl:z.cps.toList.length=z.length:=by simp[Str.length]
 rw[hl] at h1 h4 h5
 have hn:=ml
 exact tail_any (typeIs_str s z t) slot_str_getitem.lookup (getItem_str (c:=c) (by
  have e1:decide (i < -(2 ^ 63:Int))=false:=KC (by omega)
  have e2:decide (i>=2 ^ 63)=false:=KC (by omega)
  rw[e1,e2,Bool.or_false]) (by rw[h1];simpa using h2) ⟨.str ⟨#[c]⟩,H,I.tok _,⟨_,rfl⟩,q⟩) hs
def JP (K:Frag):R2:=λx y H Q=>EG K x y H Q\/Hl K x y H Q\/GL x y H Q
def aA:AO X (JP X.K):=hV.or (EI.or Fc)
def wa (its:List Value)(n j:Nat)(u:Value):Obj.mapSeq (·.setIfInBounds j u) {cls:=.type "list",data:=.seq its.toArray n}={cls:=.type "list",data:=.seq (its.set j u).toArray n}:=by
 simp[Obj.mapSeq]
def Inv.lst {pins:List (Addr×Obj)}{σ:St}{H:Hp}{s:Shared}{p:Addr}{xs:List V}(I:Inv X pins σ H s)(h:H p=some (.lst xs)) :
  ∃(its:List Value) (n:Nat),Vals xs its/\s.heap.get? p=some {cls:=.type "list",data:=.seq its.toArray n}/\xs.length<=sizeLine:=by
 obtain⟨z,its,n,r,e⟩:=I.hok p _ h
 exact⟨its,n,r,e,z⟩
def Inv.lstUpd {pins:List (Addr×Obj)}{σ:St}{H:Hp}{s:Shared}{p:Addr}{xs ys:List V}{its its':List Value}{n n':Nat}{f:Obj->Obj}(I:Inv X pins σ H s)(h:H p=some (.lst xs))
  (ho:s.heap.get? p=some {cls:=.type "list",data:=.seq its.toArray n}) (hf:f {cls:=.type "list",data:=.seq its.toArray n}={cls:=.type "list",data:=.seq its'.toArray n'}) (r:Vals ys its') (hz:ys.length<=sizeLine) (t:Nat) :
  Inv X pins σ (upd H p (.lst ys)) {s with heap:=s.heap.update p f,toks:=t}:=by
 have e:(s.heap.update p f).get? p=some {cls:=.type "list",data:=.seq its'.toArray n'}:=by
  rw[Mk f ho (by rw[hf] <;> rfl),hf]
 refine I.write (x:=p) (e:=p) (by rw[h];trivial) (.inl rfl) (λb u hb q=>(Lq _ _ (Ne.symm hb)).trans q) ⟨_,e⟩ ?_
 exact⟨hz,its',n',r,e⟩
def HV:V->V->V->Hp->(Hp->Prop)->Prop:=λo i v H Q=>∃p xs k j,o=.ref p/\i=.int k/\H p=some (.lst xs)/\sU xs.length k=some j/\Q (upd H p (.lst (xs.set j v)))
def set_list:FZ X HV:=by
 intro pins s σ H o i v ov iv u Q I ro ri rv h
 obtain⟨p,xs,k,j,rfl,rfl,hp,hj,q⟩:=h
 cases ro
 obtain⟨t,rfl⟩:=ri
 obtain⟨its,n,r,ho,hz⟩:=I.lst hp
 obtain⟨h1,h2,h3,h4⟩:=xN hj
 have hl:=r.length
 have hn:=ml
 have I':Inv X pins σ (upd H p (.lst (xs.set j v))) {s with heap:=s.heap.update p (Obj.mapSeq (·.setIfInBounds j u))}:=
  I.lstUpd hp ho (wa its n j u) (r.set rv j) (by rw[Lp];exact hz) s.toks
 by_cases h0:0<=k
 ·have hk:k.toNat=j:=by
   rw[seqIndex_of h0 h4] at h1
   exact Option.some.inj h1
  exact PySem.W.ki_setAt ho h0 (by omega) (by rw[Kz,<-hl];exact h4) (by rw[hk];exact⟨_,I',q⟩)
 ·have hk:(k + (its.toArray.size:Int)).toNat=j:=by
   rw[seqIndex_neg (by omega) h3] at h1
   rw[Kz,<-hl]
   exact Option.some.inj h1
  exact PySem.W.ki_setBack ho (by omega) (by rw[Kz,<-hl];exact h3) (by omega) (by rw[hk];exact⟨_,I',q⟩)
def rZ (lo hi:Option Int)(n:Nat):(sliceBounds lo hi none n).1=((HT.dM n 0 lo:Nat):Int)/\(sliceBounds lo hi none n).2.1=((HT.dM n n hi:Nat):Int)/\(sliceBounds lo hi none n).2.2=1:=by
 refine⟨?_,?_,rfl⟩
 ·cases lo with
  |none=>simp[sliceBounds,HT.dM]
  |some i=>
   simp only[sliceBounds,HT.dM,Option.getD_none,show (1:Int) > 0 by decide,Lz]
   by_cases h:i < 0
   ·simp only[h,Lz] <;> omega
   ·simp only[h,LG] <;> omega
 ·cases hi with
  |none=>simp[sliceBounds,HT.dM]
  |some i=>
   simp only[sliceBounds,HT.dM,Option.getD_none,show (1:Int) > 0 by decide,Lz]
   by_cases h:i < 0
   ·simp only[h,Lz] <;> omega
   ·simp only[h,LG] <;> omega
def pU (its:List Value)(lo hi:Option Int):slicePick its.toArray lo hi none=((its.drop (HT.dM its.length 0 lo)).take (HT.dM its.length its.length hi - HT.dM its.length 0 lo)).toArray:=by
 obtain⟨h1,h2,h3⟩:=rZ lo hi its.toArray.size
 unfold slicePick
 rw[h1,h2,h3]
 simp only[sliceRange_one,pick_run,Kz] <;> rfl
def Jy (K:Frag):V->Option Int->Option Int->Hp->VK->Prop:=λx lo hi H Q=>∃a xs,x=.ref a/\iw K H a xs/\∀p,H p=none->Q (.ref p) (upd H p (.lst (oK xs lo hi)))
def C2:Ia X (Jy X.K):=by
 intro pins s σ H x v vl vu lo hi sl Q I rx hs pl pu h
 obtain⟨a,xs,rfl,hx,q⟩:=h
 cases rx
 obtain⟨its,r,ht,hz⟩:=I.list hx
 have hlen:=r.length
 refine⟨"list",_,slot_list_getitem.lookup,ht.isList.typeIs,?_⟩
 refine wpAny_getItem_list_slice ht.isList hs pl pu .none (by simp) ?_ (by rw[Kz] <;> omega)
 rw[pU,<-hlen]
 refine⟨.ref s.heap.objs.size,_,I.laid (t':=s.toks) (o:=.lst (oK xs lo hi)) (λb ob q=>Kk _ q) (Kj _) ?_,rfl,q _ (I.hok.fresh (Kj _))⟩
 exact⟨Lg (mY xs lo hi) hz,_,0,(r.drop (HT.dM xs.length 0 lo)).take (HT.dM xs.length xs.length hi - HT.dM xs.length 0 lo),KL _ rfl⟩
def jL:fD X (.type "list") (λxs H Q=>∃p ys,xs= [.ref p]/\(iw X.K H p ys\/fy X.K H p ys)/\∀l,H l=none->Q (.ref l) (upd H l (.lst ys))):=by
 intro pins s σ H xs us Q I r h
 obtain⟨p,ys,rfl,hq,q⟩:=h
 obtain⟨u,rfl,rx⟩:=vals1 r
 cases rx
 have fin:∀(its:List Value),Vals ys its->ys.length<=sizeLine->∀(h':Heap) (c':Nat),(∀b o',s.heap.get? b=some o'->h'.get? b=some o')->
   h'.get? s.heap.objs.size=some {cls:=.type "list",dict:=none,data:=.seq its.toArray c',slots:=#[]}->EP X pins σ Q (.ref s.heap.objs.size) {s with heap:=h'}:=λits r' hz h' c' kp e=>
  ⟨.ref s.heap.objs.size,_,I.laid (t':=s.toks) kp (Kj _) (show cB X.prog X.w _ h' _ (.lst ys) from⟨hz,its,c',r',e⟩),rfl,q _ (I.hok.fresh (Kj _))⟩
 rcases hq with hq |hq
 ·obtain⟨its,r',pl,hz⟩:=I.list hq
  have hlen:=r'.length
  obtain⟨o,ho,hc,n,hd⟩:=pl.isList
  exact call_list_seq p (.inl rfl) ho hc hd (λh' c' kp e=>fin its r' hz h' c' kp e) (by simp only[Kz] <;> omega)
 ·obtain⟨its,r',pl,hz⟩:=I.tuple hq
  have hlen:=r'.length
  obtain⟨o,ho,hc,n,hd⟩:=pl
  exact call_list_seq p (.inr rfl) ho hc hd (λh' c' kp e=>fin its r' hz h' c' kp e) (by simp only[Kz] <;> omega)
def cV:fD X (.type "tuple") (λxs H Q=>∃p ys,xs= [.ref p]/\((iw X.K H p ys/\∀l,H l=none->Q (.ref l) (upd H l (.tup ys)))\/(fy X.K H p ys/\Q (.ref p) H))):=by
 intro pins s σ H xs us Q I r h
 obtain⟨p,ys,rfl,h⟩:=h
 obtain⟨u,rfl,rx⟩:=vals1 r
 cases rx
 rcases h with⟨hq,q⟩ | ⟨hq,q⟩
 ·obtain⟨its,r',pl,hz⟩:=I.list hq
  have hlen:=r'.length
  refine call_tuple_list pl.isList (λh' kp=>?_) (by simp only[Kz] <;> omega)
  have I1:Inv X pins σ H {s with heap:=h'}:=I.kept (t':=s.toks) kp
  have I2:Inv X pins σ (upd H h'.objs.size (.tup ys)) {s with heap:=h'.push {cls:=.type "tuple",data:=.seq its.toArray}}:=
   I1.laid (t':=s.toks) (λb o e=>Kk _ e) (Kj _) (show cB X.prog X.w _ _ _ (.tup ys) from⟨hz,its,r',oU.new _ _⟩)
  exact⟨.ref h'.objs.size,_,I2,rfl,q _ (I1.hok.fresh (Kj _))⟩
 ·obtain⟨its,r',pl,hz⟩:=I.tuple hq
  exact call_tuple_same pl ⟨.ref p,H,I,rfl,q⟩
def JX (K:Frag)(T:String)(x:V)(H:Hp):Prop:=match x with
 | .str _=>T="str"
 | .int _=>T="int"
 | .ref p=>(T="list"/\∃xs,iw K H p xs)\/(T="tuple"/\∃o,K.lookup p=some o/\o.cls=.type "tuple"/\o.dict=none)\/
   (T="dict"/\((∃kvs,H p=some (.dK kvs))\/∃kvs,H p=some (.dT kvs)))\/(T="set"/\∃S n,H p=some (.set S n))
 |_=>False
theorem FW {pins:List (Addr×Obj)}{σ:St}{H:Hp}{s:Shared}{T:String}{x:V}{v:Value}(I:Inv X pins σ H s)(r:RelV x v)(ty:JX X.K T x H) :
  s.TypeIs v T/\∀a,v=.ref a->∃ob,s.heap.get? a=some ob/\ob.dict=none:=by
 cases x with
 |str z=>
  obtain⟨t,rfl⟩:=r
  cases (show T="str" from ty)
  exact⟨typeIs_str s z t,λ_ e=>nomatch e⟩
 |int i=>
  obtain⟨t,rfl⟩:=r
  cases (show T="int" from ty)
  exact⟨typeIs_int s i t,λ_ e=>nomatch e⟩
 |ref p=>
  cases r
  rcases ty with⟨rfl,xs,hq⟩ | ⟨rfl,o,hk,hc,hd⟩ | ⟨rfl,hk⟩ | ⟨rfl,S,n,hk⟩
  ·obtain⟨its,_,pl,_⟩:=I.list hq
   refine⟨pl.isList.typeIs,λa e=>?_⟩
   cases e
   obtain⟨o,n,e,c,hd,_⟩:=pl
   exact⟨o,e,hd⟩
  ·refine⟨⟨o,I.kIn p o hk,hc⟩,λa e=>?_⟩
   cases e
   exact⟨o,I.kIn _ o hk,hd⟩
  ·have z:∃o,s.heap.get? p=some o/\o.ExactDict:=by
    rcases hk with⟨kvs,hk⟩ | ⟨kvs,hk⟩
    ·obtain⟨_,_,_,_,o,_,_,e,ex,_⟩:=I.hok p _ hk
     exact⟨o,e,ex⟩
    ·obtain⟨_,_,_,_,o,_,_,e,ex,_⟩:=I.hok p _ hk
     exact⟨o,e,ex⟩
   obtain⟨o,e,ex⟩:=z
   refine⟨⟨o,e,ex.1⟩,λa e2=>?_⟩
   cases e2
   exact⟨o,e,ex.2.1⟩
  ·obtain⟨o,_,_,_,e,ex,_⟩:=I.hok p _ hk
   refine⟨⟨o,e,ex.1⟩,λa e2=>?_⟩
   cases e2
   exact⟨o,e,ex.2.1⟩
 |_=>exact False.elim ty
def Kb (K:Frag)(T:String)(r:V->List V->Hp->VK->Prop)(to:TE)(t:TA):TE:=λσ H Q=>to σ H λx H1=>JX K T x H1/\t σ H1 λxs H2=>r x xs H2 Q
variable {o e:Expr}{es:List Expr}{to:TE}{t:TA}{name:Str}{apos cpos:Pos}{T id:String}{r:V->List V->Hp->VK->Prop}
def Bd (pa:PlainAttrs T)(slot:Slot T name id)(hty:typeOf (.builtin id)=pure (.type "method_descriptor"))(hm:J8 X id r)(ho:PE X o to)(ha:PA X (e :: es) t)
  (hbase:attributeBase o name X.env (eval o X.env)=eval o X.env:=by rfl)
  (hfew:((backTo cpos (starEach (e :: es) X.env)).all (λx=> !x.1) && (backToKw cpos (keywordEach [] X.env)).all (λx=>x.1.isSome)
   && decide ((e :: es).length + ([]:List Keyword).length + (if ([]:List Keyword).isEmpty then 0 else 1) < 30))=true:=by rfl)
  (hline:(apos.endLine == cpos.line)=true:=by rfl) (hs:starEach (e :: es) X.env=(false,eval e X.env) :: starEach es X.env:=by rfl) (hplain:(backTo cpos (starEach es X.env)).any (·.1)=false:=by rfl) :
  PE X (.Call (.Attribute o name apos) (e :: es) [] cpos) (Kb X.K T r to t):=by
 intro pins s σ H Q I h
 refine wpAny_Call_method_late hbase hfew hline rfl (cq (ho pins s σ H _ I h) λv s1 ⟨x,H1,I1,r1,ty,q1⟩=>?_)
 obtain⟨h1,h2⟩:=FW I1 r1 ty
 refine⟨T,id,pa,slot,hty,h1,h2,?_⟩
 have hA:=ha cpos pins s1 σ H1 _ I1 q1
 rw[hs] at hA ⊢
 refine Calls.callWith_builtin (by show (false || (backTo cpos (starEach es X.env)).any (·.1))=false;rw[hplain] <;> rfl) (Calls.evalArgs_plain ?_)
 exact cq hA λus s2 ⟨vs,H2,I2,r2,q2⟩=>hm pins s2 σ H2 x vs v us Q I2 r1 r2 q2
end
def Ip (X:Cx)(id:String)(r:V->List V->Hp->VK->Prop):Prop:=
 ∀(pins:List (Addr×Obj)) (s:Shared) (σ:St) (H:Hp) (x:V) (xs:List V) (v:Value) (us:List Value) (Q:VK),Inv X pins σ H s->RelV x v->Vals xs us->r x xs H Q->
  wpAny (model X.prog X.w) X.A (call (.builtin id) (v :: us)) (EP X pins σ Q) X.xe s
theorem Vals.one:∀{x:V} {us:List Value},Vals [x] us->∃u,us= [u]/\RelV x u
 |_,_,.cons r .nil=>⟨_,rfl,r⟩
theorem Vals.eraseIdx:∀{xs:List V} {us:List Value} (i:Nat),Vals xs us->Vals (xs.eraseIdx i) (us.eraseIdx i)
 |_,_,_,.nil=>.nil
 |_,_,0,.cons _ t=>t
 |_,_,i + 1,.cons r t=>.cons r (Vals.eraseIdx i t)
theorem Vals.reverse {xs:List V}{us:List Value}(h:Vals xs us):Vals xs.reverse us.reverse:=by
 induction h with
 |nil=>exact .nil
 |cons r t ih=>rw[MD,MD];exact Vals.append ih (.cons r .nil)
theorem Vals.rep {xs:List V}{us:List Value}(h:Vals xs us):∀k:Nat,Vals (List.replicate k xs).flatten (List.replicate k us).flatten
 | 0=>.nil
 |k + 1=>by
  rw[LI,LI,L4,L4]
  exact Vals.append h (Vals.rep h k)
theorem qq {α:Type}:∀(l:List α) (i:Nat),(l.eraseIdx i).length<=l.length
 | [],_=>Kj _
 |_ :: _,0=>Nat.le_succ _
 |_ :: r,i + 1=>Nat.succ_le_succ (qq r i)
theorem foldl_rep (its:List Value):∀(k:Nat) (acc:List Value),
  List.foldl (λx1 x2=>x1 ++ x2) acc.toArray (List.replicate k its.toArray)=(acc ++ (List.replicate k its).flatten).toArray
 | 0,acc=>by simp
 |k + 1,acc=>by
  have e:acc.toArray ++ its.toArray=(acc ++ its).toArray:=by simp
  have e2:(acc ++ its) ++ (List.replicate k its).flatten=acc ++ (List.replicate (k + 1) its).flatten:=by
   rw[LI,L4,Mh]
  rw[<-e2,<-foldl_rep its k (acc ++ its),<-e,LI,List.foldl_cons]
section
variable {X:Cx}{pins:List (Addr×Obj)}{σ:St}{H:Hp}{s:Shared}{l b:Addr}{xs ys zs:List V}
def Inv.lset {its its':List Value}{n:Nat}{f:Array Value->Array Value}{t':Nat}(I:Inv X pins σ H s)(hH:H l=some (.lst xs))
  (e:s.heap.get? l=some {cls:=.type "list",data:=.seq its.toArray n}) (hf:f its.toArray=its'.toArray) (hv:Vals ys its') (hz:ys.length<=sizeLine) :
  Inv X pins σ (upd H l (.lst ys)) {s with heap:=s.heap.update l (Obj.mapSeq f),toks:=t'}:=by
 have q:=PySem.IsL.update e f
 rw[hf] at q
 refine I.write (x:=l) (e:=l) (by rw[hH];exact trivial) (.inl rfl) (λb' u hb hu=>(Lq s.heap (Obj.mapSeq f) (Ne.symm hb)).trans hu) ⟨_,q⟩ ?_
 exact⟨hz,its',_,hv,q⟩
def Inv.lnew {its:List Value}{t':Nat}(I:Inv X pins σ H s)(hv:Vals ys its)(hz:ys.length<=sizeLine) :
  Inv X pins σ (upd H s.heap.objs.size (.lst ys)) {s with heap:=s.heap.push {cls:=.type "list",data:=.seq its.toArray},toks:=t'}:=
 I.laid (λ_ _ q=>Kk _ q) (Kj _) ⟨hz,its,0,hv,KL _ rfl⟩
def Inv.fresh (I:Inv X pins σ H s):H s.heap.objs.size=none:=I.hok.fresh (Kj _)
def Inv.lstM (I:Inv X pins σ H s)(hH:H l=some (.lst xs)):xs.length<=sizeLine/\∃(its:List Value) (n:Nat),Vals xs its/\xs.length=its.length/\s.heap.get? l=some {cls:=.type "list",data:=.seq its.toArray n}:=by
 obtain⟨z,its,n,r,e⟩:=I.hok l _ hH
 exact⟨z,its,n,r,r.length,e⟩
def zX {n:Nat}(h:n<=sizeLine):Builtin.List.listTooLong n=false:=by
 unfold Builtin.List.listTooLong
 exact KC (by omega)
end
section
variable {X:Cx}
def Dm:V->List V->Hp->VK->Prop:=λx vs H Q=>∃l xs y,x=.ref l/\vs= [y]/\H l=some (.lst xs)/\xs.length < sizeLine/\Q .non (upd H l (.lst (xs ++ [y])))
def mI:Ip X "list.append" Dm:=by
 intro pins s σ H x vs v us Q I rx rv h
 obtain⟨l,xs,y,rfl,rfl,hH,hz,q⟩:=h
 cases rx
 obtain⟨u,rfl,ru⟩:=rv.one
 obtain⟨z,its,n,r,hl,e⟩:=I.lstM hH
 refine call_meets F.slot_list_append ⟨_,e,rfl⟩ F.entry_list_append (F.args_list_append_2 _ _) (PySem.list_append l its.toArray n u (by rw[Kz];omega)) ⟨e,?_⟩
 refine⟨.non,_,I.lset (its':=its ++ [u]) hH e (by simp) (r.append (.cons ru .nil)) ?_,rfl,q⟩
 rw[KN,List.length_singleton]
 omega
def Fg:V->List V->Hp->VK->Prop:=λx vs H Q=>∃l xs i k y,x=.ref l/\vs= [.int i]/\H l=some (.lst xs)/\ -(2 ^ 63)<=i/\i < 2 ^ 63/\seqIndex? i xs.length=some k/\xs[k]? =some y/\Q y (upd H l (.lst (xs.eraseIdx k)))
def zF:Ip X "list.pop" Fg:=by
 intro pins s σ H x vs v us Q I rx rv h
 obtain⟨l,xs,i,k,y,rfl,rfl,hH,h1,h2,hk,hy,q⟩:=h
 cases rx
 obtain⟨u,rfl,ru⟩:=rv.one
 obtain⟨t,rfl⟩:=ru
 obtain⟨z,its,n,r,hl,e⟩:=I.lstM hH
 obtain⟨w,hw,rw'⟩:=r.get hy
 refine call_meets F.slot_list_pop ⟨_,e,rfl⟩ F.entry_list_pop (F.args_list_pop_2 _ _)
  (MeetsSeq.list_pop_at l its.toArray n i t k w (fitsIndex_both h1 h2) (by rw[Kz,<-hl];exact hk) (by rw[<-Array.getElem?_toList];exact hw) (by rw[Kz];omega)) ⟨e,?_⟩
 refine⟨y,_,I.lset (its':=its.eraseIdx k) hH e ?_ (r.eraseIdx k) ?_,rw',q⟩
 ·show its.toArray.eraseIdxIfInBounds k=(its.eraseIdx k).toArray
  rw[List.eraseIdxIfInBounds_toArray]
 ·have:=qq xs k
  omega
def IM:R2:=λx y H Q=>∃l k xs,x=.ref l/\y=.int k/\H l=some (.lst xs)/\ -(2 ^ 63)<=k/\k < 2 ^ 63/\xs.length * k.toNat<=sizeLine/\
 ∀p,H p=none->Q (.ref p) (upd H p (.lst (List.replicate k.toNat xs).flatten))
theorem len_rep {α:Type}(xs:List α)(k:Nat):(List.replicate k xs).flatten.length=k * xs.length:=by
 induction k with
 |zero=>simp
 |succ k ih=>rw[LI,L4,KN,ih,Nat.succ_mul,Nat.add_comm]
def zC:jT X (binaryOp .Mult) IM:=by
 intro pins s σ H x y v u Q I rx ry h
 obtain⟨l,k,xs,rfl,rfl,hH,h1,h2,hz,q⟩:=h
 cases rx
 obtain⟨t,rfl⟩:=ry
 obtain⟨z,its,n,r,hl,e⟩:=I.lstM hH
 have hlen:its.toArray.size * k.toNat<=sizeLine:=by rw[Kz,<-hl];exact hz
 have hcap:¬its.toArray.size * k.toNat > (2 ^ 63 - 1) / 8:=by
  have:(sizeLine:Nat)<=(2 ^ 63 - 1) / 8:=by decide
  omega
 have hfit:¬(!Builtin.List.listFitsIndex k)=true:=by
  rw[fitsIndex_both h1 h2]
  exact Kx
 have hlong:¬Builtin.List.listTooLong (its.toArray.size * k.toNat)=true:=by
  rw[zX hlen]
  exact Kx
 have hnew:List.foldl (λx1 x2=>x1 ++ x2) #[] (List.replicate (if its.toArray.isEmpty=true then 0 else k.toNat) its.toArray)=(List.replicate k.toNat its).flatten.toArray:=by
  have f0:∀m:Nat,List.foldl (λx1 x2=>x1 ++ x2) #[] (List.replicate m its.toArray)=(List.replicate m its).flatten.toArray:=λm=>by
   have:=foldl_rep its m []
   rw[List.nil_append] at this
   exact this
  rw[f0]
  cases its with
  |nil=>simp
  |cons a r'=>rw[Kw (by simp)]
 refine wpAny_binaryOp_repeat_ref (T:="list") (U:="int") (by decide) ⟨_,e,rfl⟩ (λs'=>typeIs_int s' k t) noFill_list_mul F.fills_int_mul F.slot_int_rmul repeat_list F.slot_int_index.lookup
  (call_meets F.slot_int_rmul (typeIs_int s k t) F.entry_int_rmul (F.args_int_rmul_2 _ _) (int___rmul___int_list k t l its.toArray n)
   ⟨e,rfl,⟨_,e,rfl⟩,call_meets F.slot_list_mul ⟨_,e,rfl⟩ F.entry_list_mul (F.args_list_mul_2 _ _) (AutoListH.list___mul___list_int_3 l its.toArray n k t hfit hcap hlong) ⟨e,?_⟩⟩)
 rw[hnew]
 exact⟨.ref _,_,I.lnew (t':=s.toks) (r.rep k.toNat) (by rw[len_rep,Nat.mul_comm];exact hz),rfl,q _ I.fresh⟩
end
end L2
namespace Att
open PySem PySem.W PySem.Calls PyProof.Rows
theorem nq {P:Params}{h:Heap}:∀(ns:List Int) (vs:List Value),WellAll P h vs (ns.map WData.int)->IntsAre vs ns:=by
 intro ns
 induction ns with
 |nil=>
  intro vs w
  rw[List.map_nil] at w
  cases w
  exact .nil
 |cons n ns ih=>
  intro vs w
  rw[LD] at w
  cases w with
  |cons a b=>
   cases a
   exact .cons _ _ (ih _ b)
theorem yt {l:OpenLaw}{n:Nat}(hn:l.most=some n){P:Params}{h:Heap}{args:List WData}{vals:List Value}
  (hpre:l.row.toRowW.claim.pre args=true) (hwl:WellAll P h vals args) :
  ∃a vs ns,vals= [Value.ref a]/\args= [WData.list (ns.map WData.int)]/\h.get? a=some {cls:=.type "list",data:=.seq vs.toArray}/\IntsAre vs ns/\ns.length<=n:=by
 have hsh:WShape.hasAll [] args [.list .int]=true:=(pre_splitW hpre).1
 have hc:l.pre.holds [] {args:=args}=true:=(pre_splitW hpre).2
 obtain⟨d,r,rfl,h1,h2⟩:=hasAllW_cons hsh
 obtain rfl:=hasAllW_nil h2
 obtain⟨xs,rfl,h3⟩:=hasW_list h1
 obtain⟨ns,rfl⟩:=items_int h3
 have hlen:ns.length<=n:=by
  unfold OpenLaw.pre at hc
  have h4:(WTm.not (.lt (.lit (.int (n:Int))) (.len (.arg 0)))).holds [] {args:=[.list (ns.map .int)]}=true:=by
   have h4:=(holds_andW hc).1
   rw[hn] at h4
   exact h4
  have h5:=condW_of h4 (w_not (w_lt w_lit (w_len_list (w_arg rfl))))
  rw[Ko] at h5
  refine Nat.le_of_not_lt λq=>?_
  have q':(n:Int) < ((ns.length:Nat):Int):=by omega
  first
   | (rw[Kn q'] at h5;exact absurd h5 (by decide))
   | (simp at h5;omega)
 cases hwl with
 |cons w1 w2=>
  cases w2
  cases w1 with
  |list ho hall=>exact⟨_,_,ns,rfl,rfl,ho,nq ns _ hall,hlen⟩
def yd (l:OpenLaw)(args:List WData):l.row.toRowW.claim.post args (.bool true) args=true:=
 postW_of (r:=l.row.toRowW) (X:=(true == true))
  (show WShape.has [] (.bool true) .bool=true by first |rfl |decide |simp[WShape.has,WShape.arms,WShape.armsAll])
  (show (WTm.eq .res (.lit (.bool true))).value [] {args:=args,res:=some (.bool true),after:=args}=some (.bool (true == true)) from w_eq_bool (w_res rfl) w_lit) rfl
def uG {l:OpenLaw}{n:Nat}{q:Program}{loose:List Str}{XP:(Str->Option Value)->Heap->Prop}{YP:World->Heap->Prop}{d:DefRec}
  (hn:l.most=some n) (hdf:d.params.defaults= [])
  (call:∀(w:World) (s₀ s₁:Shared) (mg mb:Str->Option Value) (fa:Addr) (o:Obj) (pm cd doc:Value) (a:Addr) (vs:List Value) (ns:List Int),
   Ground q loose [] XP w s₀ mg mb s₁.heap->YP w s₁.heap->
   s₁.heap.get? fa=some o->o.data=.func (docDef d.name d.params d.body d.scope pm cd doc)->s₁.heap.CodeRec cd d.name->mg d.name=some (.ref fa)->
   s₁.heap.get? a=some {cls:=.type "list",data:=.seq vs.toArray}->IntsAre vs ns->ns.length<=n->s₁.gens=#[]->
   codeAny (model l.prog w) callerA (.call (.ref fa) ⟨[.ref a],[]⟩) (λr s'=>r=.ok (.ret (.bool true))/\OldK s₁.heap s'.heap/\s'.os=s₁.os/\AllBare s'.gens) s₁) :
  WalkO q loose XP YP l.row.toRowW d [] (λf vs=>PySem.call f vs):=by
 intro w s₀ s₁ mg mb G Y fa o pm cd doc dV kV ho hd hcd hD hmg hg args vals as hpre hlay hrd hwl hlo
 obtain rfl:dV=.none:=Dflts.none hD hdf
 obtain rfl:kV=.none:=Dflts.noKw hD
 obtain⟨a,vs,ns,rfl,rfl,hobj,hints,hlen⟩:=yt hn hpre hwl
 refine enter_call (codeAny_mono (call w s₀ s₁ mg mb fa o pm cd doc a vs ns G Y ho (fd_plain hd) hcd hmg hobj hints hlen hg) λr s' hq=>?_)
 obtain⟨rfl,h2,h3,h4⟩:=hq
 exact⟨.inl ⟨.bool true,.bool true,[],rfl,λ_=>rfl,.bool true,yd l _,λ_=>⟨List.Pairwise.nil,λ_ hm=>(nomatch hm)⟩⟩,h2,h3,h4⟩
end Att
namespace L2
open PySem PySem.Spec PyProof.Rows
theorem qp:∀{vs:List Value} {ns:List Int},IntsAre vs ns->Vals (ns.map V.int) vs
 |_,_,.nil=>.nil
 |_,_,.cons n t h=>.cons ⟨t,rfl⟩ (qp h)
def FX (H:Hp):Prop:=∀b,H b=none\/∃o xs,H b=some (.ba o (.lst xs))
theorem AI {P:Program}{w:World}{K:Frag}{mg mb:Str->Option Value}{CX:yb}{k:Nat}{fa a:Addr}{fd:FuncData}{x:Str}{sp:Sp}{s₁:Shared}{vs:List Value}{ns:List Int}
  (KX:K.In s₁.heap) (hns:s₁.heap.Ns mainGlobals mg) (hb:s₁.heap.Ns builtinsNs mb) (hbb:∀x:Str,x≠"__name__"->mb x=bootBuiltins x) (hlim:s₁.heap.NoLimit) (hsys:∃mm,s₁.heap.Ns sysModules mm) (hg:s₁.gens=#[])
  (ha:s₁.heap.get? a=some {cls:=.type "list",data:=.seq vs.toArray}) (hi:IntsAre vs ns) (hl:ns.length<=sizeLine) (hr:fY k callerA)
  (F:∀base:Heap,K.In base->base.Ns mainGlobals mg->fL P w K mg base CX k fa fd [x] sp) (hbind:∀(s:Shared) (u:Value),BindsTo s fd ⟨[u],[]⟩ [(x,u)])
  (hsp:∀H:Hp,FX H->iw K H a (ns.map V.int)->sp [.ref a] H (λv _=>v=.bl true) λ_ _ _=>False)
  (hCX:∀H e s',CX [] H s₁ (λ_ _ _=>False) e s'->False) :
  codeAny (model P w) callerA (.call (.ref fa) ⟨[.ref a],[]⟩) (λr s'=>r=.ok (.ret (.bool true))/\OldK s₁.heap s'.heap/\s'.os=s₁.os/\AllBare s'.gens) s₁:=by
 have rv:=qp hi
 have lenV:=hi.length
 have core:∀H:Hp,FX H->iw K H a (ns.map V.int)->ky P w H s₁.heap->(∀b,H b≠none->b=a)->(H a≠none->K.lookup a=none)->
   codeAny (model P w) callerA (.call (.ref fa) ⟨[.ref a],[]⟩) (λr s'=>r=.ok (.ret (.bool true))/\OldK s₁.heap s'.heap/\s'.os=s₁.os/\AllBare s'.gens) s₁:=by
  intro H hO hS hok hA hK
  have base_of:∀{b:Addr} {o:Obj},s₁.heap.get? b=some o->H b=none->(sP s₁.heap H).get? b=some o:=λe n=>AX e n
  have noA:∀{b:Addr} {o:Obj} {es:Array DictEntry} {ep:Nat},s₁.heap.get? b=some o->o.data=.dict es ep->H b=none:=λ{b o es ep} e d=>by
   cases q:H b with
   |none=>rfl
   |some u=>
    have e':b=a:=hA b (by rw[q];simp)
    subst e'
    rw[ha] at e;cases e
    have d':Data.seq vs.toArray _=Data.dict es ep:=d
    cases d'
  have nsK:∀{b:Addr} {m:Str->Option Value},s₁.heap.Ns b m->(sP s₁.heap H).Ns b m:=λ{b m} ⟨o,es,ep,e,d,r⟩=>⟨o,es,ep,base_of e (noA e d),d,r⟩
  have hKb:K.In (sP s₁.heap H):=λb o e=>base_of (KX b o e) (by
   cases q:H b with
   |none=>rfl
   |some u=>
    have e':b=a:=hA b (by rw[q];simp)
    subst e'
    rw[hK (by rw[q];simp)] at e;cases e)
  have hM:Mod K mg (sP s₁.heap H):=⟨hKb,nsK hns,⟨mb,nsK hb,hbb⟩,let ⟨mc,h1,h2⟩:=hlim;⟨mc,nsK h1,h2⟩,let ⟨mm,h1⟩:=hsys;⟨mm,nsK h1⟩⟩
  have e0:Dt P w K mg (sP s₁.heap H) callerA [] s₁ H:=⟨rfl,hM,λb o e=>CW e,Nat.le_of_eq (yK _ _),trivial,λb hb=>absurd (show b∈([]:List Addr) from hb) (by simp),hok,.of_eq hg⟩
  refine codeAny_mono ((F _ hKb (nsK hns)).run callerA [] s₁ H ⟨[.ref a],[]⟩ [.ref a] [.ref a] _ _ hr e0 (hbind s₁ (.ref a)) (.cons rfl .nil) (hsp H hO hS)) λr s' h=>?_
  cases r with
  |error e=>exact (hCX H e s' h).elim
  |ok fl=>
   cases fl with
   |next=>exact False.elim h
   |brk=>exact False.elim h
   |cont=>exact False.elim h
   |ret u=>
    obtain⟨v,H',os,bare,un,hok',r',q⟩:=h
    have q':v=.bl true:=q
    subst q'
    obtain rfl:u=Value.bool true:=r'
    refine⟨rfl,OldK.of_keep λb o e=>?_,os,bare⟩
    cases q:H b with
    |none=>exact un.keep b o e q (by intro z;exact absurd (show b∈([]:List Addr) from z) (by simp)) (by simp)
    |some u=>
     rcases hO b with z | ⟨ob,xs,z⟩
     ·rw[q] at z;cases z
     ·have z2:=un.frzs b ob _ z
      obtain⟨e1,_⟩:=hok b _ z
      obtain⟨e2,_⟩:=hok' b _ z2
      rw[e] at e1;cases e1
      exact e2
 cases hk:K.lookup a with
 |some o=>
  have e:=KX a o hk
  rw[ha] at e
  cases e
  refine core (λ_=>none) (λ_=>.inl rfl) (.inr ⟨_,vs.toArray,_,hk,rfl,rfl,rfl,by rw[Kz,lenV];exact hl,by simpa using rv⟩) (λb u z=>by have z':(none:Option HO)=some u:=z;cases z') (λb z=>absurd rfl z) λz=>absurd rfl z
 |none=>
  refine core (λb=>if b=a then some (.ba {cls:=.type "list",data:=.seq vs.toArray} (.lst (ns.map V.int))) else none) (λb=>?_) (.inl (.inr ⟨{cls:=.type "list",data:=.seq vs.toArray},Kl rfl⟩)) (λb u z=>?_) (λb z=>?_) λ_=>hk
  ·by_cases hb:b=a
   ·exact .inr ⟨_,_,Kl hb⟩
   ·exact .inl (Kw hb)
  ·by_cases hb:b=a
   ·have z':=(Kl hb).symm.trans z
    cases z'
    subst hb
    exact⟨ha,by rw[Ko];exact hl,vs,_,rv,ha⟩
   ·have z':=(Kw hb).symm.trans z
    cases z'
  ·by_cases hb:b=a
   ·exact hb
   ·exact absurd (Kw hb) z
def C4 {l:PySem.W.OpenLaw}{n k:Nat}{q:Program}{loose:List Str}{XP:(Str->Option Value)->Heap->Prop}{YP:World->Heap->Prop}{d:DefRec}{K:Params->Frag}{CX:World->yb}{sp:World->Sp}{x:Str}
  (hn:l.most=some n) (hn2:n<=sizeLine) (hdf:d.params.defaults= []) (hi:PyProof.Rows.importsNone q=true) (hr:fY k callerA)
  (hY:∀(w:World) (h:Heap),YP w h->(K w.params).In h)
  (F:∀(w:World) (mg:Str->Option Value) (fa:Addr) (h:Heap),(K w.params).In h->h.Ns mainGlobals mg->mg d.name=some (.ref fa)->
   ∃fd:FuncData,(∀(s:Shared) (u:Value),BindsTo s fd ⟨[u],[]⟩ [(x,u)])/\
    ∀base:Heap,(K w.params).In base->base.Ns mainGlobals mg->fL l.prog w (K w.params) mg base (CX w) k fa fd [x] (sp w))
  (hsp:∀(w:World) (H:Hp) (a:Addr) (ns:List Int),ns.length<=n->FX H->iw (K w.params) H a (ns.map V.int)->sp w [.ref a] H (λv _=>v=.bl true) λ_ _ _=>False)
  (hCX:∀(w:World) (H:Hp) (s:Shared) (e:Value) (s':Shared),CX w [] H s (λ_ _ _=>False) e s'->False) :
  PySem.W.WalkO q loose XP YP l.row.toRowW d [] (λf vs=>PySem.call f vs):=by
 refine Att.uG hn hdf λw s₀ s₁ mg mb fa o pm cd doc a vs ns G Y ho hd hcd hmg hobj hints hlen hg=>?_
 have KX:=hY w _ Y
 obtain⟨fd,hb,hF⟩:=F w mg fa _ KX G.T.g hmg
 exact AI KX G.T.g G.T.b G.T.builtins G.T.nolimit (let ⟨mm,h1,_⟩:=(G.T.seer hi).mods;⟨mm,h1⟩) hg hobj hints (Lg hlen hn2) hr hF hb (λH hO hS=>hsp w H a ns hlen hO hS) λH e s'=>hCX w H s₁ e s'
def iP (s:Stmt):Arguments:=match s with
 | .FunctionDef _ a _ _ _ _ _ _ _ _=>a
 |_=>{posonlyargs:=[],args:=[],vararg:=none,kwonlyargs:=[],kw_defaults:=[],kwarg:=none,defaults:=[]}
def dY (s:Stmt):List Stmt:=match s with
 | .FunctionDef _ _ b _ _ _ _ _ _ _=>b
 |_=>[]
def av (s:Stmt):Scope:=match s with
 | .FunctionDef _ _ _ _ _ _ sc _ _ _=>sc
 |_=>{kind:=.function,names:=[],isGenerator:=false,isCoroutine:=false}
abbrev FP:yb:=λ_ _ _ _ _ _=>False
abbrev E0:XK:=λ_ _ _=>False
def HP {X:Cx}:Passes FP X E0:=λ_ _ _ _ _ _ _ h=>h.elim
structure BJ (K:Frag)(x qual:Str)(st:Stmt)(f:Addr)(fd:FuncData):Prop where
 ex:∃(oc:Value) (od:Option Addr) (kV doc pm:Value) (an:Option Addr) (cdv ct:Value) (osl:Array (Option Value)),
  fd=PySem.W.fnOf x qual (iP st) (dY st) (av st) .none kV doc pm an cdv ct/\K.lookup f=some ⟨oc,od,.func fd,osl⟩/\PySem.W.codeIn K cdv qual=true
 kp:PySem.W.keepIn K (.ref f)=true
section
variable {P:Program}{w:World}{K:Frag}{mg:Str->Option Value}{base:Heap}
def BJ.ok {x qual:Str}{st:Stmt}{f:Addr}{fd:FuncData}{N ps:List Str}{k:Nat}{sp:Sp}(F:BJ K x qual st f fd)(S:aL N ps (av st))(len:∀vs H Q E,sp vs H Q E->vs.length=ps.length)
  (hbody:∀(cdv:Value) (A:Around) (outer:List Env) (s:Shared) (H:Hp) (vs:List V) (Q:VK) (E:XK),fY k (A.deeper (envOfC qual (av st) s.heap.objs.size f cdv))->sp vs H Q E->
   ∃t,ql (kM FP P w K mg base N qual (av st) f cdv A outer s H E).nox (dY st) t/\t {nx:=λ_ H'=>Q .non H',rt:=Q} (start N vs) H):fL P w K mg base FP (k + 1) f fd ps sp:=by
 obtain⟨oc,od,kV,doc,pm,an,cdv,ct,osl,rfl,lk,hcd⟩:=F.ex
 refine DE lk hcd S len λA outer s H vs Q E hr hsp=>?_
 obtain⟨t,h,q⟩:=hbody cdv A outer s H vs Q E hr hsp
 exact⟨t,h.nox,q⟩
def BJ.binds {x qual:Str}{st:Stmt}{f:Addr}{fd:FuncData}{ps:List Str}(F:BJ K x qual st f fd)
  (h:∀(kV doc pm:Value) (an:Option Addr) (cdv ct:Value) (us:List Value),us.length=ps.length->bindArgs (PySem.W.fnOf x qual (iP st) (dY st) (av st) .none kV doc pm an cdv ct) ⟨us,[]⟩=pure (ps.zip us)):Binds K fd ps []:=by
 obtain⟨oc,od,kV,doc,pm,an,cdv,ct,osl,rfl,lk,hcd⟩:=F.ex
 exact .all (h kV doc pm an cdv ct)
def uZ {x qual:Str}{st:Stmt}{f:Addr}{oc:Value}{od an:Option Addr}{osl:Array (Option Value)}{kV doc pm cdv ct:Value}(l:K.lookup f=some ⟨oc,od,.func (PySem.W.fnOf x qual (iP st) (dY st) (av st) .none kV doc pm an cdv ct),osl⟩)
  (c:PySem.W.codeIn K cdv qual=true) (k:PySem.W.keepIn K (.ref f)=true):BJ K x qual st f (PySem.W.fnOf x qual (iP st) (dY st) (av st) .none kV doc pm an cdv ct):=⟨⟨oc,od,kV,doc,pm,an,cdv,ct,osl,rfl,l,c⟩,k⟩
end
section
variable {X:Cx}
def pv (i:Nat){x:Str}{pos:Pos}(hN:X.N[i]? =some x:=by rfl)(hv:xO X.env.scope x:=by first |exact Or.inl rfl |exact Or.inr (Or.inl rfl) |exact Or.inr (Or.inr rfl))(hd:(x == ("__debug__":Str))=false:=by decide)
  (hcd:(x == ("__classdict__":Str))=false:=by decide):PE X (.Name x pos) (BX i):=kh hN hv hd hcd
end
def pK {A B:Prop}(h:B):if false=true then A else B:=by
 rw[Kw Kx]
 exact h
def p7 {A B:Prop}(h:A):if true=true then A else B:=by
 rw[Kl rfl]
 exact h
def IX (o:Obj):Prop:=∃vs q t,o.data=.fields vs/\vs[1]? =some (.str q t)
def Kt (H:Hp)(b:Addr):HO->Prop
 | .tbl ps=>∃more:Array Value,H b=some (.tbl (ps ++ more))/\∀c,Value.ref c∈more.toList->∃o,H c=some (.ba o (.own 0))/\IX o
 |o=>H b=some o
theorem Kt.of {H:Hp}{b:Addr}{o:HO}(h:H b=some o):Kt H b o:=by
 cases o with
 |tbl ps=>exact⟨#[],by rw[h];simp,λc hc=>by simp at hc⟩
 |_=>exact h
def au (H H':Hp):Prop:=∀b o,H b=some o->Kt H' b o
def au.refl (H:Hp):au H H:=λ_ _ h=>Kt.of h
theorem Kt.some {H:Hp}{b:Addr}{o:HO}(h:Kt H b o):∃u,H b=Option.some u/\((∀ps,o≠.tbl ps)->u=o)/\((∃ps,o=.tbl ps)->∃ps,u=.tbl ps):=by
 cases o with
 |tbl ps=>obtain⟨m,e,_⟩:=h;exact⟨_,e,λz=>absurd rfl (z ps),λ_=>⟨_,rfl⟩⟩
 |_=>exact⟨_,h,λ_=>rfl,λ⟨ps,z⟩=>by cases z⟩
theorem Kt.step {H H':Hp}{b:Addr}{o:HO}(h:Kt H b o)(s:au H H'):Kt H' b o:=by
 cases o with
 |tbl ps=>
  obtain⟨m,e,k⟩:=h
  obtain⟨m2,e2,k2⟩:=s b _ e
  refine⟨m ++ m2,by rw[e2,Array.append_assoc],λc hc=>?_⟩
  rw[Array.toList_append,KI] at hc
  rcases hc with hc |hc
  ·obtain⟨o,eo,io⟩:=k c hc;exact⟨o,s c _ eo,io⟩
  ·exact k2 c hc
 |lst xs=>exact s b _ h
 |tup xs=>exact s b _ h
 |dK xs=>exact s b _ h
 |dT xs=>exact s b _ h
 |set S n=>exact s b _ h
 |ins C dx fs=>exact s b _ h
 |own x=>exact s b _ h
 |xd fs=>exact s b _ h
 |met f x=>exact s b _ h
 |jP lo hi=>exact s b _ h
 |ba o u=>exact s b _ h
 |ext φ=>exact s b _ h
def au.trans {H H1 H2:Hp}(a:au H H1)(b:au H1 H2):au H H2:=λc o h=>(a c o h).step b
theorem au.free {H H':Hp}(e:au H H'){l:Addr}(h:H' l=Option.none):H l=Option.none:=by
 cases q:H l with
 |none=>rfl
 |some o=>
  obtain⟨u,z,_⟩:=(e l o q).some
  rw[z] at h
  cases h
def au.seq {K:Frag}{H H':Hp}{a:Addr}{xs:List V}(e:au H H')(h:iw K H a xs):iw K H' a xs:=by
 rcases h with (h | ⟨o,h⟩) |h
 ·exact .inl (.inl (e _ _ h))
 ·exact .inl (.inr ⟨o,e _ _ h⟩)
 ·exact .inr h
end L2
end
namespace L2.ST
open PySem PySem.SetTable
abbrev Es (xs:Array Nat):Prop:=xs.toList.Pairwise (· < ·)
def JY (mask:Nat)(p:Probe):Probe:=
 if p.more > 0 then {p with j:=p.j + 1,more:=p.more - 1} else
 {p with j:=(leap mask p.i p.perturb).1,more:=runEnd mask (leap mask p.i p.perturb).1 - (leap mask p.i p.perturb).1,i:=(leap mask p.i p.perturb).1,perturb:=(leap mask p.i p.perturb).2}
def J0 (mask i perturb:Nat):Probe:={j:=i,more:=runEnd mask i - i,i,perturb,dummy:=none}
def st (mask:Nat)(h:Int):Probe:=J0 mask (bits h % (mask + 1)) (bits h)
def Fi (mask:Nat):Nat->Probe->Probe
 | 0,p=>p
 |n + 1,p=>Fi mask n (JY mask p)
def In (mask:Nat)(p:Probe):Prop:=p.j + p.more<=mask/\p.more<=9
def nx (mask i:Nat):Nat:=(i * 5 + 1) % (mask + 1)
def J6 (mask:Nat):Prop:=mask=7\/mask=31\/mask=127
def Reach (mask:Nat)(L:Nat->Prop)(h:Int)(j:Nat):Prop:=∃n,n < 10 * turns mask/\(Fi mask n (st mask h)).j=j/\∀m,m < n->L (Fi mask m (st mask h)).j
structure Tab (t:SetTable)(hs:List Int):Prop where
 mask:J6 t.mask
 dum:t.dummies=#[]
 rise:Es t.place
 le:∀j,j∈t.place->j<=t.mask
 size:t.place.size=hs.length
 load:t.place.size * 5 < t.mask * 3
 reach:∀(i j:Nat) (h:Int),t.place[i]? =some j->hs[i]? =some h->Reach t.mask (· ∈t.place) h j
 plain:t.plain=true
theorem mi {α:Type}[DecidableEq α]:∀{l m:List α},l.Nodup->(∀x,x∈l->x∈m)->l.length<=m.length
 | [],_,_,_=>K6 _
 |a :: l,m,hn,hs=>by
  have ha:=hs a (Ku ..)
  have hl:=Lm.mp hn
  have:=mi (l:=l) (m:=m.erase a) hl.2 λx hx=>by
   refine (List.mem_erase_of_ne ?_).mpr (hs x (Kr _ hx))
   rintro rfl;exact hl.1 hx
  rw[List.length_erase_of_mem ha] at this
  have:0 < m.length:=List.length_pos_of_mem ha
  simp only[KW];omega
abbrev own (o:Array (Option Nat))(j:Nat):Option Nat:=o.getD j none
structure Lay (mask:Nat)(o:Array (Option Nat))(hs:List Int):Prop where
 size:o.size=mask + 1
 all:∀k h,hs[k]? =some h->∃j,own o j=some k/\Reach mask (λx=>(own o x).isSome=true) h j
 one:∀j j' k,own o j=some k->own o j'=some k->j=j'
 le:∀j k,own o j=some k->j<=mask/\k < hs.length
abbrev Pr:=Int×Int
def hp (p:Pr):Int:=reduceHash (Builtin.Tuple.tupleHashOf [hashInt p.1,hashInt p.2])
def Sm (p:Pr):Prop:=(0<=p.1/\p.1 < 8)/\(0<=p.2/\p.2 < 8)
section
variable {prog:Program}{w:World}{A:Around}{E:Value->Shared->Prop}{s:Shared}
abbrev i4 (prog:Program)(w:World)(h:Heap)(p:Pr)(a:Addr):Prop:=IsTupleKey (intKind prog w) h [p.1,p.2] a
def i4.inj {h:Heap}{p q:Pr}{a:Addr}(x:i4 prog w h p a)(y:i4 prog w h q a):p=q:=by
 have:=IsTupleKey.inj x y
 simp at this
 exact Prod.ext this.1 this.2
structure FZ (f:Pr->Int)(prog:Program)(w:World)(led:Bool)(h:Heap)(S:Addr)(ps:List (Addr×Pr)):Prop where
 ex:∃o ep t,h.get? S=some o/\o.ExactSet/\o.data=.set (ps.map λq=>(f q.2,Value.ref q.1)).toArray ep t/\Tab t (ps.map λq=>f q.2)/\t.led=led
 at':∀q,q∈ps->i4 prog w h q.2 q.1/\Sm q.2
 nd:(ps.map (·.2)).Nodup
end
section
variable {prog:Program}{w:World}{A:Around}{E:Value->Shared->Prop}{s:Shared}{R:Result->Shared->Prop}{I:Addr}{fp wr:List Addr}{n:Nat}{P:Nat->Value->Prop}{St:Nat->Heap->Prop}
def fw (prog:Program)(w:World)(h:Heap)(vs:List Value)(ps:List Pr):Prop:=vs.length=ps.length/\∀(i:Nat) (v:Value) (p:Pr),vs[i]? =some v->ps[i]? =some p->∃a,v=.ref a/\i4 prog w h p a/\Sm p
structure Src (prog:Program)(w:World)(h:Heap)(l:Addr)(vs:List Value)(T:String)(itO:Obj)(St:Addr->Nat->Heap->Prop):Prop where
 ty:∃o,h.get? l=some o/\o.cls=.type T
 ns:isSubtype (.type T) (.type "set")=pure false
 nf:isSubtype (.type T) (.type "frozenset")=pure false
 nd:(Value.type T == Value.type "dict")=false
 it:∀(A:Around) (s1:Shared) (Q:Value->Shared->Prop) (E:Value->Shared->Prop),(∀b o,h.get? b=some o->s1.heap.get? b=some o)->Q (.ref s1.heap.objs.size) {s1 with heap:=s1.heap.push itO}->wpAny (model prog w) A (pyIter (.ref l)) Q E s1
 st:∀(h1:Heap),(∀b o,h.get? b=some o->h1.get? b=some o)->St h1.objs.size 0 (h1.push itO)
 wk:∀(A:Around) (I:Addr),A.handled=none->l≠I->Walks prog w A I [I,l] [I] vs.length (λi v=>vs[i]? =some v) (St I)
def sub_tuple_set:isSubtype (.type "tuple") (.type "set")=pure false:=by rw[isSubtype_type];kernel_rfl
def sub_tuple_frozenset:isSubtype (.type "tuple") (.type "frozenset")=pure false:=by rw[isSubtype_type];kernel_rfl
def Src.tuple {h:Heap}{l:Addr}{vs:List Value}(hl:h.IsTuple l vs.toArray):Src prog w h l vs "tuple" {cls:=.type "tuple_iterator",data:=.fields #[.ref l,.int 0 0]} (λI i h'=>h'.IsTupleIter I l i/\h'.IsTuple l vs.toArray):=by
 obtain⟨o,ho,hc,n,hd⟩:=id hl
 refine⟨⟨o,ho,hc⟩,sub_tuple_set,sub_tuple_frozenset,by decide,λA s1 Q E k hQ=>Mc ⟨o,k _ _ ho,hc,n,hd⟩ hQ,λh1 k=>⟨⟨_,KL _ rfl,rfl,rfl⟩,⟨o,Kk _ (k _ _ ho),hc,n,hd⟩⟩,λA I hh hne=>?_⟩
 have:=Walks.tuple (prog:=prog) (w:=w) hh I l hne vs.toArray
 simpa using this
end
end L2.ST
namespace L2.SO
open PySem PySem.W PyProof.Rows
def jS {α:Type}(lt:Nat->Nat->Bool):KasT α->α
 | .ret a=>a
 | .ask i j k=>jS lt (k (lt i j))
theorem fM {α β:Type}(lt:Nat->Nat->Bool)(f:α->KasT β):∀t:KasT α,jS lt (t.bind f)=jS lt (f (jS lt t))
 | .ret _=>rfl
 | .ask i j k=>fM lt f (k (lt i j))
def sV {α:Type}(n:Nat)(lt:Nat->Nat->Bool):KasT α->Prop
 | .ret _=>True
 | .ask i j k=>i < n/\j < n/\sV n lt (k (lt i j))
theorem iA {α β:Type}{n:Nat}{lt:Nat->Nat->Bool}{f:α->KasT β}:∀{t:KasT α},sV n lt t->sV n lt (f (jS lt t))->sV n lt (t.bind f)
 | .ret _,_,h=>h
 | .ask i j k,h,h'=>⟨h.1,h.2.1,iA h.2.2 h'⟩
section
variable {n:Nat}{key:Nat->Int}
abbrev mR (key:Nat->Int)(i j:Nat):Bool:=decide (key i < key j)
abbrev Kp (key:Nat->Int)(p:Array Nat)(k:Nat):Int:=key (p.getD k 0)
structure Pm (n:Nat)(p:Array Nat):Prop where
 sz:p.size=n
 nd:p.toList.Nodup
 lt:∀x,x∈p->x < n
def Pm.at {p:Array Nat}(P:Pm n p){k:Nat}(hk:k < n):p.getD k 0 < n:=by
 have h:k < p.size:=by rw[P.sz];exact hk
 simp only[Array.getD,h,dif_pos]
 exact P.lt _ (Array.getElem_mem h)
def Pm.ne {p:Array Nat}(P:Pm n p){i k:Nat}(hi:i < n)(hk:k < n)(hne:i≠k):p.getD i 0≠p.getD k 0:=by
 have h1:i < p.toList.length:=by simpa using (by rw[P.sz];exact hi:i < p.size)
 have h2:k < p.toList.length:=by simpa using (by rw[P.sz];exact hk:k < p.size)
 have h1':i < p.size:=by rw[P.sz];exact hi
 have h2':k < p.size:=by rw[P.sz];exact hk
 have a1:p.getD i 0=p.toList[i]:=by simp[Array.getD,h1']
 have a2:p.getD k 0=p.toList[k]:=by simp[Array.getD,h2']
 rw[a1,a2]
 have q:=Mu.mp P.nd
 rcases LN i k with c |c
 ·exact q i k h1 h2 c
 ·exact (q k i h2 h1 (by omega)).symm
def Pm.perm {p q:Array Nat}(P:Pm n p)(h:q.Perm p):Pm n q:=by
 have h':=Array.perm_iff_toList_perm.mp h
 exact⟨by rw[h.size_eq];exact P.sz,h'.nodup_iff.mpr P.nd,λx hx=>P.lt x (by simpa using h'.mem_iff.mp (by simpa using hx))⟩
def tm (n:Nat):Pm n (List.toArray (List.range n)):=⟨by simp,by simpa using List.nodup_range,λx hx=>by simpa using hx⟩
def Inj (n:Nat)(key:Nat->Int):Prop:=∀i j,i < n->j < n->key i=key j->i=j
def Pm.tri {p:Array Nat}(P:Pm n p)(hi:Inj n key){i k:Nat}(h1:i < n)(h2:k < n)(hne:i≠k):Kp key p i < Kp key p k\/Kp key p k < Kp key p i:=by
 have:Kp key p i≠Kp key p k:=λe=>P.ne h1 h2 hne (hi _ _ (P.at h1) (P.at h2) e)
 omega
def Up (key:Nat->Int)(p:Array Nat)(m:Nat):Prop:=∀i j,i < j->j < m->Kp key p i < Kp key p j
def Dn (key:Nat->Int)(p:Array Nat)(m:Nat):Prop:=∀i j,i < j->j < m->Kp key p j < Kp key p i
def Up.snoc {p:Array Nat}{m:Nat}(U:Up key p m)(h1:1<=m)(h:Kp key p (m - 1) < Kp key p m):Up key p (m + 1):=λi j hij hj=>by
 rcases LN j m with c |c
 ·exact U i j hij c
 ·have:j=m:=by omega
  subst this
  rcases LN i (j - 1) with d |d
  ·exact Int.lt_trans (U i (j - 1) d (by omega)) h
  ·have:i=j - 1:=by omega
   rw[this];exact h
def Dn.snoc {p:Array Nat}{m:Nat}(U:Dn key p m)(h1:1<=m)(h:Kp key p m < Kp key p (m - 1)):Dn key p (m + 1):=λi j hij hj=>by
 rcases LN j m with c |c
 ·exact U i j hij c
 ·have:j=m:=by omega
  subst this
  rcases LN i (j - 1) with d |d
  ·exact Int.lt_trans h (U i (j - 1) d (by omega))
  ·have:i=j - 1:=by omega
   rw[this];exact h
theorem oJ {p:Array Nat}(P:Pm n p)(hi:Inj n key):∀(f m:Nat),1<=m->m + f<=n->Up key p m->
  ∃r,(jS (mR key) (kas_asc p f m)=r/\sV n (mR key) (kas_asc p f m))/\m<=r/\r<=m + f/\Up key p r/\(r < m + f->Kp key p r < Kp key p (r - 1))
 | 0,m,_,_,U=>⟨m,⟨rfl,trivial⟩,Kj _,Kj _,U,λh=>absurd h (K5 _)⟩
 |f + 1,m,h1,hn,U=>by
  have b1:p.getD m 0 < n:=P.at (by omega)
  have b2:p.getD (m - 1) 0 < n:=P.at (by omega)
  unfold kas_asc jS sV
  by_cases c:Kp key p m < Kp key p (m - 1)
  ·rw[show mR key (p.getD m 0) (p.getD (m - 1) 0)=true from Kn c]
   simp only[Lz]
   exact⟨m,⟨rfl,b1,b2,trivial⟩,Kj _,by omega,U,λ_=>c⟩
  ·rw[show mR key (p.getD m 0) (p.getD (m - 1) 0)=false from KC c]
   simp only[Lv,LG]
   have up:Kp key p (m - 1) < Kp key p m:=(P.tri hi (by omega) (by omega) (by omega)).resolve_right c
   obtain⟨r,⟨e,o⟩,a,b,u,d⟩:=oJ P hi f (m + 1) (by omega) (by omega) (U.snoc h1 up)
   exact⟨r,⟨e,b1,b2,o⟩,by omega,by omega,u,λh=>d (by omega)⟩
theorem qE {p:Array Nat}(P:Pm n p)(hi:Inj n key):∀(f m:Nat),1<=m->m + f<=n->Dn key p m->
  ∃r,(jS (mR key) (kas_desc f p m 0)=(p,r,0)/\sV n (mR key) (kas_desc f p m 0))/\m<=r/\r<=m + f/\Dn key p r
 | 0,m,_,_,U=>⟨m,⟨rfl,trivial⟩,Kj _,Kj _,U⟩
 |f + 1,m,h1,hn,U=>by
  have b1:p.getD m 0 < n:=P.at (by omega)
  have b2:p.getD (m - 1) 0 < n:=P.at (by omega)
  unfold kas_desc jS sV
  by_cases c:Kp key p m < Kp key p (m - 1)
  ·rw[show mR key (p.getD m 0) (p.getD (m - 1) 0)=true from Kn c]
   simp only[Lz,K5,gt_iff_lt,LG]
   obtain⟨r,⟨e,o⟩,a,b,u⟩:=qE P hi f (m + 1) (by omega) (by omega) (U.snoc h1 c)
   exact⟨r,⟨e,b1,b2,o⟩,by omega,by omega,u⟩
  ·rw[show mR key (p.getD m 0) (p.getD (m - 1) 0)=false from KC c]
   simp only[Lv,LG]
   unfold jS sV
   have up:Kp key p (m - 1) < Kp key p m:=(P.tri hi (by omega) (by omega) (by omega)).resolve_right c
   rw[show mR key (p.getD (m - 1) 0) (p.getD m 0)=true from Kn up]
   simp only[Lz]
   exact⟨m,⟨rfl,b1,b2,b2,b1,trivial⟩,Kj _,by omega,U⟩
def Be {p:Array Nat}{j k:Nat}(hj:j<=p.size)(hk:k < j):(kas_rev p 0 j).getD k 0=p.getD (j - 1 - k) 0:=by
 unfold kas_rev
 rw[LX,getElem?_mirror_all hj k,Kl ⟨K6 _,hk⟩,LX]
 congr 2
 omega
def Ff {p:Array Nat}{m:Nat}(hm:m<=p.size)(D:Dn key p m):Up key (kas_rev p 0 m) m:=λi j hij hj=>by
 unfold Kp
 rw[Be hm (by omega),Be hm hj]
 exact D (m - 1 - j) (m - 1 - i) (by omega) (by omega)
def Pm.rev {p:Array Nat}(P:Pm n p)(j:Nat):Pm n (kas_rev p 0 j):=P.perm (mirror_perm ..)
def vt {p:Array Nat}(P:Pm n p)(hi:Inj n key)(h1:1<=n) :
  ∃m q,(jS (mR key) (kas_count n p)=(m,q)/\sV n (mR key) (kas_count n p))/\Pm n q/\1<=m/\m<=n/\Up key q m:=by
 obtain⟨r,⟨e,o⟩,a,b,u,d⟩:=oJ P hi (n - 1) 1 (Kj _) (by omega) (λi j hij hj=>by omega)
 have rest:∃m q,(jS (mR key) (if (r == n)=true then KasT.ret (r,p) else if r > 1 then .ask (p.getD 0 0) (p.getD (r - 1) 0) λc=>if c=true then .ret (r,p) else kas_descPart r n (kas_rev p 0 r) else kas_descPart r n p)=(m,q)/\
   sV n (mR key) (if (r == n)=true then KasT.ret (r,p) else if r > 1 then .ask (p.getD 0 0) (p.getD (r - 1) 0) λc=>if c=true then .ret (r,p) else kas_descPart r n (kas_rev p 0 r) else kas_descPart r n p))/\Pm n q/\1<=m/\m<=n/\Up key q m:=by
  by_cases c:(r == n)=true
  ·rw[Kl c]
   exact⟨r,p,⟨rfl,trivial⟩,P,a,by omega,u⟩
  ·rw[Kw c]
   have hrn:r≠n:=by simpa using c
   have dd:=d (by omega)
   by_cases c2:r > 1
   ·rw[Kl c2]
    unfold jS sV
    rw[show mR key (p.getD 0 0) (p.getD (r - 1) 0)=true from Kn (u 0 (r - 1) (by omega) (by omega))]
    simp only[Lz]
    exact⟨r,p,⟨rfl,P.at (by omega),P.at (by omega),trivial⟩,P,a,by omega,u⟩
   ·rw[Kw c2]
    have hr1:r=1:=by omega
    subst hr1
    unfold kas_descPart
    rw[fM]
    have D2:Dn key p 2:=λi j hij hj=>by
     have e1:i=0:=by omega
     have e2:j=1:=by omega
     rw[e1,e2];exact dd
    obtain⟨x,⟨e2,o2⟩,a2,b2,u2⟩:=qE P hi (n - 2) 2 (by omega) (by omega) D2
    obtain⟨y,⟨e3,o3⟩,a3,b3,u3,_⟩:=oJ (P.rev x) hi (n - x) x (by omega) (by omega) (Ff (by rw[P.sz];omega) u2)
    rw[show n - (1 + 1)=n - 2 from rfl,show (1 + 1:Nat)=2 from rfl]
    have t3:sV n (mR key) (kas_tail3 x n p):=by
     unfold kas_tail3
     exact iA o3 trivial
    refine⟨y,kas_rev p 0 x,⟨?_,iA o2 ?_⟩,P.rev x,by omega,by omega,u3⟩
    ·rw[e2]
     simp only[K5,gt_iff_lt,LG]
     unfold kas_tail3
     rw[fM,e3]
     rfl
    ·rw[e2]
     simp only[K5,gt_iff_lt,LG]
     exact t3
 obtain⟨m,q,⟨f1,f2⟩,f3⟩:=rest
 refine⟨m,q,⟨?_,?_⟩,f3⟩
 ·unfold kas_count
  rw[fM,e]
  exact f1
 ·unfold kas_count
  refine iA o ?_
  rw[e]
  exact f2
theorem place_spec {p:Array Nat}{k:Nat}(P:Pm n p)(hi:Inj n key)(hk:k < n)(U:Up key p k):∀(f l r:Nat),l<=r->r<=k->r - l<=f->(∀i,i < l->Kp key p i < Kp key p k)->(∀i,r<=i->i < k->Kp key p k < Kp key p i)->
  ∃x,(jS (mR key) (kas_place p k f l r)=x/\sV n (mR key) (kas_place p k f l r))/\x<=k/\(∀i,i < x->Kp key p i < Kp key p k)/\(∀i,x<=i->i < k->Kp key p k < Kp key p i)
 | 0,l,r,h1,h2,h3,a,b=>⟨l,⟨rfl,trivial⟩,by omega,a,λi hi=>b i (by omega)⟩
 |f + 1,l,r,h1,h2,h3,a,b=>by
  unfold kas_place
  by_cases c:l>=r
  ·rw[Kl c]
   exact⟨l,⟨rfl,trivial⟩,by omega,a,λi hi=>b i (by omega)⟩
  ·rw[Kw c]
   have b1:p.getD k 0 < n:=P.at hk
   have b2:p.getD ((l + r) / 2) 0 < n:=P.at (by omega)
   unfold jS sV
   by_cases d:Kp key p k < Kp key p ((l + r) / 2)
   ·rw[show mR key (p.getD k 0) (p.getD ((l + r) / 2) 0)=true from Kn d]
    simp only[Lz]
    have side:∀i,(l + r) / 2<=i->i < k->Kp key p k < Kp key p i:=λi h1 h2=>by
     rcases LN ((l + r) / 2) i with z |z
     ·exact Int.lt_trans d (U _ _ z h2)
     ·have:i=(l + r) / 2:=by omega
      rw[this];exact d
    obtain⟨x,⟨e1,e2⟩,e3⟩:=place_spec P hi hk U f l ((l + r) / 2) (by omega) (by omega) (by omega) a side
    exact⟨x,⟨e1,b1,b2,e2⟩,e3⟩
   ·rw[show mR key (p.getD k 0) (p.getD ((l + r) / 2) 0)=false from KC d]
    simp only[Lv,LG]
    have d':Kp key p ((l + r) / 2) < Kp key p k:=(P.tri hi (by omega) hk (by omega)).resolve_right d
    have side:∀i,i < (l + r) / 2 + 1->Kp key p i < Kp key p k:=λi h=>by
     rcases LN i ((l + r) / 2) with z |z
     ·exact Int.lt_trans (U _ _ z (by omega)) d'
     ·have:i=(l + r) / 2:=by omega
      rw[this];exact d'
    obtain⟨x,⟨e1,e2⟩,e3⟩:=place_spec P hi hk U f ((l + r) / 2 + 1) r (by omega) h2 (by omega) side b
    exact⟨x,⟨e1,b1,b2,e2⟩,e3⟩
def BC {p:Array Nat}{k l j:Nat}(hk:k < p.size)(hl:l<=k):(bubble p k (k - l)).getD j 0=if j=l then p.getD k 0 else if l < j/\j<=k then p.getD (j - 1) 0 else p.getD j 0:=by
 rw[LX,getElem?_bubble hk (k - l) (by omega) j,show k - (k - l)=l by omega]
 simp only[LX]
 split
 ·rfl
 ·split <;> rfl
theorem uL (hi:Inj n key):∀(f k:Nat) (p:Array Nat),Pm n p->1<=k->k + f=n->Up key p k->∃q,(jS (mR key) (kas_bin f p k)=q/\sV n (mR key) (kas_bin f p k))/\Pm n q/\Up key q n
 | 0,k,p,P,_,e,U=>⟨p,⟨rfl,trivial⟩,P,by rw[<-e];exact U⟩
 |f + 1,k,p,P,h1,e,U=>by
  have hk:k < n:=by omega
  obtain⟨l,⟨el,ol⟩,hl,a,b⟩:=place_spec P hi hk U k 0 k (K6 _) (Kj _) (by omega) (λi h=>by omega) (λi h h'=>by omega)
  have side:Up key (bubble p k (k - l)) (k + 1):=λi j hij hj=>by
   have hks:k < p.size:=by rw[P.sz];exact hk
   unfold Kp
   rw[BC hks hl,BC hks hl]
   by_cases i1:i=l
   ·rw[Kl i1,Kw (by omega)]
    by_cases j2:l < j/\j<=k
    ·rw[Kl j2];exact b _ (by omega) (by omega)
    ·omega
   ·rw[Kw i1]
    by_cases i2:l < i/\i<=k
    ·rw[Kl i2,Kw (by omega),Kl (by omega)]
     exact U _ _ (by omega) (by omega)
    ·rw[Kw i2]
     by_cases j1:j=l
     ·rw[Kl j1];exact a _ (by omega)
     ·rw[Kw j1]
      by_cases j2:l < j/\j<=k
      ·rw[Kl j2]
       rcases LN i (j - 1) with z |z
       ·exact U _ _ z (by omega)
       ·omega
      ·rw[Kw j2];exact U _ _ hij (by omega)
  obtain⟨q,⟨q1,q2⟩,q3⟩:=uL hi f (k + 1) (bubble p k (k - l)) (P.perm (bubble_perm ..)) (by omega) (by omega) side
  refine⟨q,⟨?_,?_⟩,q3⟩
  ·unfold kas_bin;rw[fM,el];exact q1
  ·unfold kas_bin;refine iA ol ?_;rw[el];exact q2
def yZ (hi:Inj n key)(h2:2<=n):∃q,(jS (mR key) (kas_sort n)=q/\sV n (mR key) (kas_sort n))/\Pm n q/\Up key q n:=by
 obtain⟨m,q,⟨e,o⟩,P,a,b,u⟩:=vt (tm n) hi (by omega)
 by_cases c:m < n
 ·obtain⟨q',⟨e1,o1⟩,r⟩:=uL hi (n - m) m q P a (by omega) u
  refine⟨q',⟨?_,?_⟩,r⟩
  ·unfold kas_sort;rw[fM,e];dsimp only;rw[Kl c,Nat.max_eq_left a];exact e1
  ·unfold kas_sort;refine iA o ?_;rw[e];dsimp only;rw[Kl c,Nat.max_eq_left a];exact o1
 ·refine⟨q,⟨?_,?_⟩,P,λi j hij hj=>u i j hij (by omega)⟩
  ·unfold kas_sort;rw[fM,e];dsimp only;rw[Kw c];rfl
  ·unfold kas_sort;refine iA o ?_;rw[e];dsimp only;rw[Kw c];trivial
theorem wp_run {α:Type}{n:Nat}{lt:Nat->Nat->Bool}{cmp:Nat->Nat->(Bool->Shared->Prop)->Shared->Prop}{Q:α->Shared->Prop}{s:Shared} :
  ∀(t:KasT α),(∀i j C,i < n->j < n->C (lt i j) s->cmp i j C s)->sV n lt t->Q (jS lt t) s->t.kasWp cmp Q s
 | .ret a,_,_,h=>h
 | .ask i j k,hc,ho,h=>hc i j _ ho.1 ho.2.1 (wp_run (k (lt i j)) hc ho.2.2 h)
end
end L2.SO
namespace L2.ST
open PySem PySem.SetTable PySem.W PyProof.Rows
def code (p:Pr):Int:=p.1 * 8 + p.2
def xt {p q:Pr}(h1:Sm p)(h2:Sm q):code p < code q↔p.1 < q.1\/(p.1=q.1/\p.2 < q.2):=by
 unfold code Sm at *;omega
def code_inj {p q:Pr}(h1:Sm p)(h2:Sm q)(e:code p=code q):p=q:=by
 unfold code Sm at *
 refine Prod.ext ?_ ?_ <;> omega
section
variable {prog:Program}{w:World}{A:Around}{E:Value->Shared->Prop}{s:Shared}
abbrev pW (ps:List Pr)(i:Nat):Int:=code (ps.getD i (0,0))
def AD {ps:List Pr}(nd:ps.Nodup)(hs:∀p,p∈ps->Sm p):L2.SO.Inj ps.length (pW ps):=λi j hi hj e=>by
 have a1:ps.getD i (0,0)=ps[i]:=by simp[hi]
 have a2:ps.getD j (0,0)=ps[j]:=by simp[hj]
 unfold pW at e
 rw[a1,a2] at e
 have e':=code_inj (hs _ (Lr hi)) (hs _ (Lr hj)) e
 have q:=Mu.mp nd
 rcases Nat.lt_trichotomy i j with c |c |c
 ·exact absurd e' (q i j hi hj c)
 ·exact c
 ·exact absurd e'.symm (q j i hj hi c)
theorem Dw {a b:Addr}{p q:Pr}{Q:Bool->Shared->Prop}(ha:i4 prog w s.heap p a)(hb:i4 prog w s.heap q b)(hp:Sm p)(hq:Sm q)(h:Q (decide (code p < code q)) s) :
  wpAny (model prog w) A (keyLt' (tuples' true) (.ref a) (.ref b)) Q E s:=by
 obtain⟨oa,ia,na,hoa,hca,hda,hia⟩:=ha
 obtain⟨ob,ib,nb,hob,hcb,hdb,hib⟩:=hb
 obtain⟨l1,rfl⟩:∃l,ia=List.toArray l:=⟨ia.toList,by simp⟩
 obtain⟨l2,rfl⟩:∃l,ib=List.toArray l:=⟨ib.toList,by simp⟩
 simp only[List.toList_toArray] at hia hib
 cases hia with
 | @cons _ v1 _ _ h1 hia=>
  cases hia with
  | @cons _ v2 _ _ h2 hia=>
   cases hia
   cases hib with
   | @cons _ u1 _ _ g1 hib=>
    cases hib with
    | @cons _ u2 _ _ g2 hib=>
     cases hib
     obtain⟨t1,rfl⟩:=L3 h1
     obtain⟨t2,rfl⟩:=L3 h2
     obtain⟨t3,rfl⟩:=L3 g1
     obtain⟨t4,rfl⟩:=L3 g2
     refine kat_lt hoa hda hob hdb ?_
     have hc:=xt hp hq
     refine kat_cons (wpAny_eqBool_int ?_)
     by_cases e1:p.1=q.1
     ·rw[show (p.1 == q.1)=true by simpa using e1]
      refine kat_yes (kat_cons (wpAny_eqBool_int ?_))
      by_cases e2:p.2=q.2
      ·rw[show (p.2 == q.2)=true by simpa using e2]
       refine kat_yes (kat_nil ?_)
       have:decide (code p < code q)=false:=KC (by rw[hc];omega)
       rw[this] at h
       simpa using h
      ·rw[show (p.2 == q.2)=false by simpa using e2]
       refine kat_no ?_
       show wpAny _ _ (oneLt' false _ _) _ _ _
       refine kat_one _ _ (lt_int ?_)
       have:decide (code p < code q)=decide (p.2 < q.2):=by
        by_cases z:p.2 < q.2
        ·rw[Kn z];exact Kn (hc.mpr (.inr ⟨e1,z⟩))
        ·rw[KC z];exact KC (by rw[hc];omega)
       rw[this] at h;exact h
     ·rw[show (p.1 == q.1)=false by simpa using e1]
      refine kat_no ?_
      show wpAny _ _ (oneLt' true _ _) _ _ _
      refine oneLt_int ?_
      have:decide (code p < code q)=decide (p.1 < q.1):=by
       by_cases z:p.1 < q.1
       ·rw[Kn z];exact Kn (hc.mpr (.inl z))
       ·rw[KC z];exact KC (by rw[hc];omega)
      rw[this] at h;exact h
theorem xD:∀{vs:List Value} {ps:List Pr},fw prog w s.heap vs ps->∃fs,KatTups s.heap vs fs/\fs.length=vs.length/\∀v∈fs,∃(i:Int) (t:Tok),v=.int i t
 | [],ps,_=>⟨[],KatTups.nil,rfl,λv hv=>by cases hv⟩
 |v :: vs,[],h=>by have:=h.1;simp at this
 |v :: vs,p :: ps,h=>by
  obtain⟨a,rfl,⟨o,items,n,ho,hc,hd,hi⟩,_⟩:=h.2 0 v p rfl rfl
  obtain⟨fs,k,e,f⟩:=xD (vs:=vs) (ps:=ps) ⟨by simpa using h.1,λi v p h1 h2=>h.2 (i + 1) v p (by simpa using h1) (by simpa using h2)⟩
  obtain⟨l1,rfl⟩:∃l,items=List.toArray l:=⟨items.toList,by simp⟩
  simp only[List.toList_toArray] at hi
  cases hi with
  | @cons _ v1 _ _ h1 hi=>
   obtain⟨t1,rfl⟩:=L3 h1
   exact⟨_ :: fs,KatTups.cons ho hc hd rfl k,by simp[e],λv hv=>by
    rcases Ks.mp hv with z |z
    ·exact⟨_,_,z⟩
    ·exact f v z⟩
def tE {a:Addr}{vs:List Value}{ps:List Pr}{n:Nat}{P:PySem.Fin->Shared->Prop}(ho:s.heap.get? a=some (seqObj "list" vs.toArray n))(hps:fw prog w s.heap vs ps)(nd:ps.Nodup)(h64:vs.length < 64)
  (h:∀(h':Heap) (c:Nat) (ix:Array Nat),L2.SO.Pm vs.length ix->L2.SO.Up (pW ps) ix vs.length->(∀b o,b≠a->s.heap.get? b=some o->h'.get? b=some o)->
   h'.get? a=some (seqObj "list" (ix.toList.map λi=>vs.getD i Value.none).toArray c)->P (.done (.ret .none)) {s with heap:=h'}) :
  wpAny (model prog w) A (Builtin.«list.sort» ⟨[.ref a],[]⟩) P E s:=by
 have ha:a < s.heap.objs.size:=Ky ho
 obtain⟨e1,ho1⟩:∃e1,(s.heap.update a (Obj.mapSeq λ_=>(#[]:Array Value))).get? a=some (seqObj "list" #[] e1):=⟨_,get?_update_seq ho λ_=>#[]⟩
 generalize hH1:(s.heap.update a (Obj.mapSeq λ_=>(#[]:Array Value)))=H1 at ho1
 have sb1:Heap.SameBut a s.heap H1:=by rw[<-hH1];exact Heap.SameBut.update ..
 have kp2:∀b o,H1.get? b=some o->((H1.push (seqObj "tuple" vs.toArray 0)).push (seqObj "list" #[] 0)).get? b=some o:=λb o e=>Kk _ (Kk _ e)
 generalize hH2:((H1.push (seqObj "tuple" vs.toArray 0)).push (seqObj "list" #[] 0))=H2 at kp2
 have kp:∀b o,b≠a->s.heap.get? b=some o->H2.get? b=some o:=λb o hb e=>kp2 b o ((sb1.2 b hb).trans e)
 have ho2:=kp2 _ _ ho1
 have hps2:fw prog w H2 vs ps:=⟨hps.1,λi v p h1 h2=>by
  obtain⟨b,e,⟨o,it,m,hb,hc,hd,r⟩,hs⟩:=hps.2 i v p h1 h2
  refine⟨b,e,⟨o,it,m,kp b o (λz=>?_) hb,hc,hd,r⟩,hs⟩
  subst z
  rw[ho] at hb;cases hb
  exact absurd hc (by simp[seqObj])⟩
 have hz:vs.length<=sizeLine:=by rw[K1];omega
 rw[list_sort_plain]
 refine Ki (listItems_at ho rfl (Ki (listUpdate_at ho rfl ?_ (by simpa using hz) (K6 _))))
 rw[hH1]
 refine Ki (seqEpoch_at (s:={s with heap:=H1}) ho1 rfl (Ki (wpAny_newTuple ?_ (by simpa using hz))))
 refine Ki (wpAny_newList ?_ (K6 _))
 refine L0 ?_
 show wpAny (model prog w) A _ P E {s with heap:=(H1.push (seqObj "tuple" vs.toArray 0)).push (seqObj "list" #[] 0)}
 rw[hH2]
 have fin:∀(ix:Array Nat) (st:SortSt),L2.SO.Pm vs.length ix->L2.SO.Up (pW ps) ix vs.length->(arrOf st).map (·.2)=List.toArray (ix.toList.map λi=>vs.getD i Value.none)->failedOf st=none->
   wpAny (model prog w) A (do
    let sorted:=(arrOf st).map (·.2)
    let touched:=(<-seqEpoch a) != e1
    Builtin.List.listUpdate (.ref a) λ_=>sorted
    if let some e:=failedOf st then rule "list.sort.comparison-raised";throw e
    if touched then rule "list.sort.modified";raiseError "ValueError" "list modified during sort"
    ret .none) P E {s with heap:=H2}:=λix st P1 U1 hout hf=>by
  dsimp only
  rw[hout]
  have hsz:(List.toArray (ix.toList.map λi=>vs.getD i Value.none)).size=vs.length:=by simp[P1.sz]
  refine Ki (seqEpoch_at (s:={s with heap:=H2}) ho2 rfl ?_)
  refine Ki (listUpdate_at (s:={s with heap:=H2}) ho2 rfl ?_ (K6 _) (Lg (Nat.le_of_eq hsz) (Nat.le_succ_of_le hz)))
  rw[hf]
  simp only[bne_self_eq_false,Lv,LG]
  obtain⟨c2,hc2⟩:∃c2,(H2.update a (Obj.mapSeq λ_=>List.toArray (ix.toList.map λi=>vs.getD i Value.none))).get? a=some (seqObj "list" (List.toArray (ix.toList.map λi=>vs.getD i Value.none)) c2):=⟨_,get?_update_seq ho2 λ_=>List.toArray (ix.toList.map λi=>vs.getD i Value.none)⟩
  exact Kv (h _ c2 ix P1 U1 (λb o hb e=>((Heap.SameBut.update H2 a _).2 b hb).trans (kp b o hb e)) hc2)
 by_cases h2:vs.length < 2
 ·have h2':vs.toArray.size < 2:=by simpa using h2
  dsimp only
  rw[Kl h2',Kl h2']
  refine Ki (Kv ?_)
  rw[StateT.run_pure]
  refine Ki (Kv ?_)
  refine fin (List.toArray (List.range vs.length)) (SortSt.mk' general' (vs.toArray.zip vs.toArray) #[] 7 none) (L2.SO.tm _) (λi j hij hj=>by omega) ?_ rfl
  have:∀{l:List Value},l.length < 2->((l.toArray.zip l.toArray).map (·.2))=List.toArray ((List.range l.length).map λi=>l.getD i Value.none):=λ{l} hl=>by
   match l,hl with
   | [],_=>simp
   | [x],_=>simp
  exact (this h2).trans (by simp)
 ·have h2':¬vs.toArray.size < 2:=by simpa using h2
  dsimp only
  rw[Kw h2',Kw h2']
  obtain⟨fs,kt,fl,ff⟩:=xD (s:={s with heap:=H2}) hps2
  refine Ki (kat_kind (s:={s with heap:=H2}) (T:=.type "int") kt (by omega) (λv hv=>?_) (by decide) ?_)
  ·obtain⟨i,t,rfl⟩:=ff v hv
   exact .now
  ·rw[show ((Value.type "int" != Value.type "tuple"):Bool)=true by decide]
   have hinj:L2.SO.Inj vs.length (pW ps):=by
    rw[hps.1]
    refine AD nd λp hp=>?_
    obtain⟨i,hi,e⟩:=L5.mp hp
    have hi':i < vs.length:=by rw[hps.1];exact hi
    obtain⟨_,_,_,hs⟩:=hps.2 i vs[i] p (Kh hi') (by rw[Kh hi,e])
    exact hs
   obtain⟨ix,⟨er,ok⟩,P1,U1⟩:=L2.SO.yZ hinj (by omega)
   refine Ki (LU (kat_run (s:={s with heap:=H2}) (κ:=tuples' true) (ks:=vs) (Q:=λst s'=>s'={s with heap:=H2}/\arrOf st=ix.map (kas_item (vs.toArray.zip vs.toArray))/\failedOf st=none)
    (G:=λp s'=>p=ix/\s'={s with heap:=H2}) rfl (by omega) h64 (λp st s' a1 a2 a3 a4=>?_) (L2.SO.wp_run (n:=vs.length) (lt:=L2.SO.mR (pW ps)) _ (λi j C hi hj hC=>?_) ok ⟨er,rfl⟩)) ?_ λ_ _ x=>x)
   ·obtain⟨rfl,rfl⟩:=a4
    exact⟨rfl,a2,a3⟩
   ·unfold kas_ask
    have hi':i < ps.length:=by rw[<-hps.1];exact hi
    have hj':j < ps.length:=by rw[<-hps.1];exact hj
    obtain⟨b1,eb1,hb1,s1⟩:=hps2.2 i vs[i] ps[i] (Kh hi) (Kh hi')
    obtain⟨b2,eb2,hb2,s2⟩:=hps2.2 j vs[j] ps[j] (Kh hj) (Kh hj')
    have e1:vs.getD i Value.none=.ref b1:=by rw[<-eb1];simp[hi]
    have e2:vs.getD j Value.none=.ref b2:=by rw[<-eb2];simp[hj]
    rw[e1,e2]
    refine Dw (s:={s with heap:=H2}) hb1 hb2 s1 s2 ?_
    have:L2.SO.mR (pW ps) i j=decide (code ps[i] < code ps[j]):=by
     unfold L2.SO.mR pW;simp[hi',hj']
    rw[<-this];exact hC
   ·rintro⟨⟨⟩,st⟩ s' ⟨rfl,har,hf⟩
    exact fin ix st P1 U1 (kat_snds rfl har) hf
end
section
variable {prog:Program}{w:World}{A:Around}{E:Value->Shared->Prop}{s:Shared}
def told (w:World)(S:Addr)(ep:Nat)(es:Array (Int×Value)):Array (Int×Value):=if w.params.followText "set-order" then pickOrder (w.params.setOrder S ep) es else es
end
end L2.ST
namespace OM
abbrev Pr:=Int×Int
def BG (p q:Pr):Prop:=p.1 < q.1\/(p.1=q.1/\p.2 < q.2)
def jy (p:Pr):¬BG p p:=by unfold BG;omega
def yi {p q r:Pr}(a:BG p q)(b:BG q r):BG p r:=by unfold BG at *;omega
abbrev uT (l:List Pr):Prop:=l.Pairwise BG
theorem iS:∀{l m:List Pr},uT l->uT m->(∀x,x∈l↔x∈m)->l=m
 | [],[],_,_,_=>rfl
 | [],b :: m,_,_,h=>absurd ((h b).mpr (Ku ..)) (by simp)
 |a :: l,[],_,_,h=>absurd ((h a).mp (Ku ..)) (by simp)
 |a :: l,b :: m,hl,hm,h=>by
  have hl':=List.pairwise_cons.mp hl
  have hm':=List.pairwise_cons.mp hm
  have e:a=b:=by
   rcases Ks.mp ((h a).mp (Ku ..)) with e |e
   ·exact e
   ·rcases Ks.mp ((h b).mpr (Ku ..)) with e' |e'
    ·exact e'.symm
    ·exact absurd (yi (hm'.1 a e) (hl'.1 b e')) (jy _)
  subst e
  congr 1
  refine iS hl'.2 hm'.2 λx=>⟨λhx=>?_,λhx=>?_⟩
  ·rcases Ks.mp ((h x).mp (Kr _ hx)) with e |e
   ·subst e;exact absurd (hl'.1 x hx) (jy _)
   ·exact e
  ·rcases Ks.mp ((h x).mpr (Kr _ hx)) with e |e
   ·subst e;exact absurd (hm'.1 x hx) (jy _)
   ·exact e
def mK {l:List Pr}(h:uT l):l.Nodup:=h.imp λ{a b} hab e=>by subst e;exact jy _ hab
def fJ {l:List Pr}(p:Pr->Bool)(h:uT l):uT (l.filter p):=h.sublist List.filter_sublist
def dO (n:Nat):List Pr:=(List.range (n * n)).map λk=>(((k / n:Nat):Int),((k % n:Nat):Int))
def bR {n:Nat}{p:Pr}:p∈dO n↔(0<=p.1/\p.1 < n)/\(0<=p.2/\p.2 < n):=by
 unfold dO
 rw[KZ]
 constructor
 ·rintro⟨k,hk,rfl⟩
  have hk:=K2.mp hk
  have hn:0 < n:=by
   rcases Nat.eq_zero_or_pos n with e |e
   ·subst e;omega
   ·exact e
  have h1:k / n < n:=Nat.div_lt_of_lt_mul hk
  have h2:k % n < n:=Nat.mod_lt _ hn
  generalize k / n=q at h1
  generalize k % n=r at h2
  exact⟨⟨Int.natCast_nonneg _,by dsimp only;omega⟩,⟨Int.natCast_nonneg _,by dsimp only;omega⟩⟩
 ·rintro⟨⟨a0,a1⟩,⟨b0,b1⟩⟩
  have hn:0 < n:=by omega
  refine⟨p.1.toNat * n + p.2.toNat,K2.mpr ?_,?_⟩
  ·have h1:p.1.toNat + 1<=n:=by omega
   have h2:p.2.toNat < n:=by omega
   have:=Nat.mul_le_mul_right n h1
   rw[Nat.add_mul] at this
   omega
  ·have h2:p.2.toNat < n:=by omega
   have e1:(p.1.toNat * n + p.2.toNat) / n=p.1.toNat:=by
    rw[Nat.mul_comm,Nat.mul_add_div hn,Nat.div_eq_of_lt h2];rfl
   have e2:(p.1.toNat * n + p.2.toNat) % n=p.2.toNat:=by
    rw[Nat.mul_comm,Nat.mul_add_mod,Nat.mod_eq_of_lt h2]
   rw[e1,e2]
   refine Prod.ext ?_ ?_ <;> dsimp only <;> omega
def iB (n:Nat):uT (dO n):=by
 unfold dO
 refine LP.mpr (My ?_ List.pairwise_lt_range)
 intro a b ha hb hab
 have ha:=K2.mp ha
 have hb:=K2.mp hb
 have hn:0 < n:=by
  rcases Nat.eq_zero_or_pos n with e |e
  ·subst e;omega
  ·exact e
 have h1:a / n<=b / n:=Nat.div_le_div_right (Nat.le_of_lt hab)
 have e1:=Nat.div_add_mod a n
 have e2:=Nat.div_add_mod b n
 unfold BG
 dsimp only
 rcases LN (a / n) (b / n) with c |c
 ·left;omega
 ·right
  have e:a / n=b / n:=by omega
  rw[e] at e1
  omega
open Classical in
noncomputable def hX (n:Nat)(R:Int->Int->Prop):List Pr:=(dO n).filter λp=>decide (R p.1 p.2)
def dN {n:Nat}{R:Int->Int->Prop}{p:Pr}:p∈hX n R↔((0<=p.1/\p.1 < n)/\(0<=p.2/\p.2 < n))/\R p.1 p.2:=by
 unfold hX
 rw[KP,bR]
 simp
def ip (n:Nat)(R:Int->Int->Prop):uT (hX n R):=fJ _ (iB n)
def vM {n:Nat}{R S:Int->Int->Prop}(h:∀a b:Int,0<=a->a < n->0<=b->b < n->(R a b↔S a b)):hX n R=hX n S:=by
 refine iS (ip n R) (ip n S) λx=>?_
 rw[dN,dN]
 constructor
 ·rintro⟨⟨⟨a,b⟩,c,d⟩,r⟩;exact⟨⟨⟨a,b⟩,c,d⟩,(h _ _ a b c d).mp r⟩
 ·rintro⟨⟨⟨a,b⟩,c,d⟩,r⟩;exact⟨⟨⟨a,b⟩,c,d⟩,(h _ _ a b c d).mpr r⟩
def Wn (n:Nat)(l:List Pr):Prop:=∀p,p∈l->(0<=p.1/\p.1 < n)/\(0<=p.2/\p.2 < n)
abbrev Mem (l:List Pr)(a b:Int):Prop:=(a,b)∈l
def ye {n:Nat}{l:List Pr}(w:Wn n l)(r:uT l):hX n (Mem l)=l:=by
 refine iS (ip n _) r λx=>?_
 rw[dN]
 exact⟨λh=>h.2,λh=>⟨w x h,h⟩⟩
def Ca (n:Nat)(R:Int->Int->Prop):Wn n (hX n R):=λ_ h=>(dN.mp h).1
def AU (n:Nat)(R:Int->Int->Prop):(hX n R).length<=n * n:=by
 unfold hX
 refine Lg (LM ..) ?_
 unfold dO;simp
inductive Tr (R:Int->Int->Prop):Int->Int->Prop
 |one {a b}:R a b->Tr R a b
 |more {a b c}:R a b->Tr R b c->Tr R a c
theorem Tr.trans {R:Int->Int->Prop}{a b c:Int}(h:Tr R a b)(k:Tr R b c):Tr R a c:=by
 induction h with
 |one r=>exact .more r k
 |more r _ ih=>exact .more r (ih k)
theorem Tr.least {R S:Int->Int->Prop}(f:∀a b,R a b->S a b)(t:∀a b c,S a b->S b c->S a c){a b:Int}(h:Tr R a b):S a b:=by
 induction h with
 |one r=>exact f _ _ r
 |more r _ ih=>exact t _ _ _ (f _ _ r) ih
theorem Tr.wn {n:Nat}{l:List Pr}(w:Wn n l){a b:Int}(h:Tr (Mem l) a b):(0<=a/\a < n)/\(0<=b/\b < n):=by
 induction h with
 |one r=>exact w _ r
 |more r _ ih=>exact⟨(w _ r).1,ih.2⟩
structure Ord (n:Nat)(l:List Pr):Prop where
 lo:1<=n
 hi:n<=8
 wn:Wn n l
 ris:uT l
 irr:∀a,(a,a)∉l
 tr:∀a b c,(a,b)∈l->(b,c)∈l->(a,c)∈l
def Ord.tr_mem {n:Nat}{l:List Pr}(O:Ord n l){a b:Int}:Tr (Mem l) a b↔(a,b)∈l:=
 ⟨λh=>h.least (λ_ _ r=>r) λa b c=>O.tr a b c,λh=>.one h⟩
def Ord.closed {n:Nat}{l:List Pr}(O:Ord n l):hX n (Tr (Mem l))=l:=by
 rw[vM (S:=Mem l) λa b _ _ _ _=>O.tr_mem,ye O.wn O.ris]
theorem AA {l m:List Pr}(hl:l.Nodup)(h:∀x,x∈l->x∈m):l.length<=m.length:=by
 induction l generalizing m with
 |nil=>exact K6 _
 |cons a l ih=>
  have ha:=h a (Ku ..)
  have hl':=Lm.mp hl
  have:=ih (m:=m.erase a) hl'.2 λx hx=>by
   refine (List.mem_erase_of_ne ?_).mpr (h x (Kr _ hx))
   rintro rfl;exact hl'.1 hx
  rw[List.length_erase_of_mem ha] at this
  have:0 < m.length:=List.length_pos_of_mem ha
  simp only[KW];omega
def sub_eq {l m:List Pr}(hl:uT l)(hm:uT m)(h:∀x,x∈l->x∈m)(e:l.length=m.length):l=m:=by
 refine iS hl hm λx=>⟨h x,λhx=>Classical.byContradiction λhn=>?_⟩
 have:=AA (l:=x :: l) (m:=m) (Lm.mpr ⟨hn,mK hl⟩) λy hy=>by
  rcases Ks.mp hy with e |e
  ·subst e;exact hx
  ·exact h y e
 simp only[KW] at this
 omega
def more (l:List Pr):List Pr:=l.flatMap λp=>(l.filter λq=>decide (q.1=p.2)).map λq=>(p.1,q.2)
abbrev Tb:=Nat->Nat->Bool
def Tb.set (M:Tb)(a b:Nat):Tb:=λx y=>if x=a/\y=b then true else M x y
def Cs (M:Tb)(m:Nat):Prop:=∀k a b,k < m->M a k=true->M k b=true->M a b=true
def Phase (M0 M:Tb)(m:Nat)(D:Nat->Nat->Prop):Prop:=∀a b,M a b=true↔M0 a b=true\/(D a b/\M0 a m=true/\M0 m b=true)
def Phase.start (M:Tb)(m:Nat):Phase M M m λ_ _=>False:=λa b=>by simp
def Phase.row {M0 M:Tb}{m:Nat}{D:Nat->Nat->Prop}(P:Phase M0 M m D)(a:Nat):M a m=true↔M0 a m=true:=by
 rw[P]
 exact⟨λh=>h.elim id λh=>h.2.1,.inl⟩
def Phase.col {M0 M:Tb}{m:Nat}{D:Nat->Nat->Prop}(P:Phase M0 M m D)(b:Nat):M m b=true↔M0 m b=true:=by
 rw[P]
 exact⟨λh=>h.elim id λh=>h.2.2,.inl⟩
def Phase.step {M0 M:Tb}{m:Nat}{D:Nat->Nat->Prop}(P:Phase M0 M m D)(x y:Nat) :
  Phase M0 (if M x m=true/\M m y=true then M.set x y else M) m (λa b=>D a b\/(a=x/\b=y)):=λa b=>by
 have r:=P.row x
 have c:=P.col y
 by_cases h:M x m=true/\M m y=true
 ·rw[Kl h]
  unfold Tb.set
  by_cases e:a=x/\b=y
  ·rw[Kl e]
   obtain⟨rfl,rfl⟩:=e
   simp only[true_iff]
   exact .inr ⟨.inr (by simp),r.mp h.1,c.mp h.2⟩
  ·rw[Kw e,P]
   constructor
   ·rintro (q | ⟨d,q⟩)
    ·exact .inl q
    ·exact .inr ⟨.inl d,q⟩
   ·rintro (q | ⟨d |d,q⟩)
    ·exact .inl q
    ·exact .inr ⟨d,q⟩
    ·exact absurd d e
 ·rw[Kw h,P]
  constructor
  ·rintro (q | ⟨d,q⟩)
   ·exact .inl q
   ·exact .inr ⟨.inl d,q⟩
  ·rintro (q | ⟨d | ⟨rfl,rfl⟩,q1,q2⟩)
   ·exact .inl q
   ·exact .inr ⟨d,q1,q2⟩
   ·exact absurd ⟨r.mpr q1,c.mpr q2⟩ h
def Phase.done {M0 M:Tb}{m n:Nat}{D:Nat->Nat->Prop}(P:Phase M0 M m D)(hD:∀a b,a < n->b < n->D a b)(hM:∀a b,M0 a b=true->a < n/\b < n)(T:Cs M0 m) :
  Cs M (m + 1)/\∀a b,M a b=true->a < n/\b < n:=by
 have hM':∀a b,M a b=true->a < n/\b < n:=λa b h=>by
  rcases (P a b).mp h with q | ⟨_,q1,q2⟩
  ·exact hM a b q
  ·exact⟨(hM _ _ q1).1,(hM _ _ q2).2⟩
 have put:∀a b,M0 a m=true->M0 m b=true->M a b=true:=λa b h1 h2=>(P a b).mpr (.inr ⟨hD a b (hM _ _ h1).1 (hM _ _ h2).2,h1,h2⟩)
 refine⟨λk a b hk h1 h2=>?_,hM'⟩
 rcases LN k m with c |c
 ·rcases (P a k).mp h1 with q1 | ⟨_,q1,q1'⟩
  ·rcases (P k b).mp h2 with q2 | ⟨_,q2,q2'⟩
   ·exact (P a b).mpr (.inl (T k a b c q1 q2))
   ·exact put a b (T k a m c q1 q2) q2'
  ·rcases (P k b).mp h2 with q2 | ⟨_,q2,q2'⟩
   ·exact put a b q1 (T k m b c q1' q2)
   ·exact put a b q1 q2'
 ·have e:k=m:=by omega
  subst e
  exact put a b ((P.row a).mp h1) ((P.col b).mp h2)
structure Tab (n:Nat)(ps:List Pr)(M:Tb):Prop where
 inn:∀a b,M a b=true->a < n/\b < n
 sub:∀a b:Nat,((a:Int),(b:Int))∈ps->M a b=true
 sup:∀a b:Nat,M a b=true->Tr (Mem ps) a b
def Tab.phase {n:Nat}{ps:List Pr}{M0 M:Tb}{m:Nat}{D:Nat->Nat->Prop}(T:Tab n ps M0)(P:Phase M0 M m D):Tab n ps M:=
 ⟨λa b h=>by
  rcases (P a b).mp h with q | ⟨_,q1,q2⟩
  ·exact T.inn a b q
  ·exact⟨(T.inn _ _ q1).1,(T.inn _ _ q2).2⟩,
  λa b h=>(P a b).mpr (.inl (T.sub a b h)),
  λa b h=>by
  rcases (P a b).mp h with q | ⟨_,q1,q2⟩
  ·exact T.sup a b q
  ·exact (T.sup _ _ q1).trans (T.sup _ _ q2)⟩
def Tab.all {n:Nat}{ps:List Pr}{M:Tb}(w:Wn n ps)(T:Tab n ps M)(H:Cs M n)(a b:Nat):M a b=true↔Tr (Mem ps) a b:=by
 refine⟨T.sup a b,λh=>?_⟩
 have key:∀{x y:Int},Tr (Mem ps) x y->M x.toNat y.toNat=true:=λ{x y} h=>by
  induction h with
  | @one x y r=>
   have:=w _ r
   refine T.sub _ _ ?_
   have e1:((x.toNat:Nat):Int)=x:=by simp only at this;omega
   have e2:((y.toNat:Nat):Int)=y:=by simp only at this;omega
   rw[e1,e2];exact r
  | @more x y z r _ ih=>
   have:=w _ r
   have e1:((x.toNat:Nat):Int)=x:=by simp only at this;omega
   have e2:((y.toNat:Nat):Int)=y:=by simp only at this;omega
   have q:M x.toNat y.toNat=true:=T.sub _ _ (by rw[e1,e2];exact r)
   exact H y.toNat _ _ (T.inn _ _ q).2 q ih
 have:=key h
 simpa using this
end OM
namespace L2.ST
open PySem PySem.SetTable PySem.W PyProof.Rows
section
variable {prog:Program}{w:World}{A:Around}{E:Value->Shared->Prop}{s:Shared}
def Ey {ps:List Pr}(hs:∀p,p∈ps->Sm p){ix:Array Nat}(P:L2.SO.Pm ps.length ix)(U:L2.SO.Up (pW ps) ix ps.length):OM.uT (ix.toList.map λi=>ps.getD i (0,0)):=by
 refine LP.mpr (Mu.mpr λi j hi hj hij=>?_)
 have hi':i < ix.size:=by simpa using hi
 have hj':j < ix.size:=by simpa using hj
 have q:=U i j hij (by rw[<-P.sz];exact hj')
 unfold L2.SO.Kp pW at q
 have ei:ix.getD i 0=ix.toList[i]:=by simp[Array.getD,hi']
 have ej:ix.getD j 0=ix.toList[j]:=by simp[Array.getD,hj']
 rw[ei,ej] at q
 have ai:ix.toList[i] < ps.length:=P.lt _ (by simp)
 have aj:ix.toList[j] < ps.length:=P.lt _ (by simp)
 have bi:Sm (ps.getD ix.toList[i] (0,0)):=by rw[Kq,Kh ai];exact hs _ (Lr ai)
 have bj:Sm (ps.getD ix.toList[j] (0,0)):=by rw[Kq,Kh aj];exact hs _ (Lr aj)
 exact (xt bi bj).mp q
def E2 {n:Nat}{ix:Array Nat}(P:L2.SO.Pm n ix){k:Nat}(hk:k < n):k∈ix.toList:=by
 refine Classical.byContradiction λhn=>?_
 have:=mi (l:=k :: ix.toList) (m:=List.range n) (Lm.mpr ⟨hn,P.nd⟩) λx hx=>by
  rcases Ks.mp hx with e |e
  ·rw[e];exact K2.mpr hk
  ·exact K2.mpr (P.lt x (by simpa using e))
 simp[P.sz] at this
 omega
theorem GS {h:Heap}{vs:List Value}{ps:List Pr}(hps:fw prog w h vs ps){ix:Array Nat}(P:L2.SO.Pm vs.length ix) :
  fw prog w h (ix.toList.map λi=>vs.getD i Value.none) (ix.toList.map λi=>ps.getD i (0,0)):=by
 refine⟨by simp,λi v p h1 h2=>?_⟩
 rw[KD] at h1 h2
 cases e:ix.toList[i]? with
 |none=>rw[e] at h1;cases h1
 |some k=>
  rw[e] at h1 h2
  have hk:k < vs.length:=P.lt k (by simpa using KA e)
  have hk':k < ps.length:=by rw[<-hps.1];exact hk
  simp[hk,hk'] at h1 h2
  exact hps.2 k v p (by rw[Kh hk,h1]) (by rw[Kh hk',h2])
def yf {v:Value}{vs:List Value}{ps:List Pr}{Q:Value->Shared->Prop}(hps:fw prog w s.heap vs ps)(nd:ps.Nodup)(h64:vs.length < 64)
  (hcol:∀(Q':List Value->Shared->Prop),(∀h' tk,(∀b o,s.heap.get? b=some o->h'.get? b=some o)->Q' vs {s with heap:=h',toks:=tk})->wpAny (model prog w) A.in1 (collect v) Q' (λe s'=>E e s') s)
  (h:∀(h1 h':Heap) (tk:Nat) (D:Addr) (out:List Value) (qs:List Pr) (c:Nat),(∀b o,s.heap.get? b=some o->h1.get? b=some o)->D=h1.objs.size->(∀b o,h1.get? b=some o->h'.get? b=some o)->h'.get? D=some (seqObj "list" out.toArray c)->fw prog w h' out qs->(∀u,u∈out->u∈vs)->OM.uT qs->(∀p,p∈qs↔p∈ps)->
   Q (.ref D) {s with heap:=h',toks:=tk}):wpAny (model prog w) A (call (.builtin "sorted") [v]) Q E s:=by
 have hsm:∀p,p∈ps->Sm p:=λp hp=>by
  obtain⟨i,hi,e⟩:=L5.mp hp
  have hi':i < vs.length:=by rw[hps.1];exact hi
  obtain⟨_,_,_,hs⟩:=hps.2 i vs[i] p (Kh hi') (by rw[Kh hi,e])
  exact hs
 (refine Calls.call_function_entry kind_sorted plain_sorted entry_sorted (args_sorted1 _) ?_)
 unfold Builtin.«sorted»
 refine Ki (m:=checkCount "sorted" 1 1 ([v]:List Value).length) (Kv ?_)
 refine Ki (hcol _ λh1 tk1 k1=>?_)
 have hz:vs.length<=sizeLine:=by rw[K1];omega
 refine Ki (wpAny_newList ?_ hz)
 show wpAny _ _ _ _ _ {s with heap:=h1.push (seqObj "list" vs.toArray 0),toks:=tk1}
 have hoL:(h1.push (seqObj "list" vs.toArray 0)).get? h1.objs.size=some (seqObj "list" vs.toArray 0):=KL _ rfl
 have kp:∀b o,s.heap.get? b=some o->(h1.push (seqObj "list" vs.toArray 0)).get? b=some o:=λb o e=>Kk _ (k1 b o e)
 have hp1:fw prog w (h1.push (seqObj "list" vs.toArray 0)) vs ps:=⟨hps.1,λi v p a b=>by
  obtain⟨c,e,⟨o,it,n,ho,r⟩,hs⟩:=hps.2 i v p a b
  exact⟨c,e,⟨o,it,n,kp _ _ ho,r⟩,hs⟩⟩
 have hne:∀b o,s.heap.get? b=some o->b≠h1.objs.size:=λb o e=>K3 (Ky (k1 b o e))
 refine Ki (L0 (Mn slot_list_sort ⟨_,hoL,rfl⟩ entry_list_sort ?_ (args_list_sort _)))
 refine tE (s:={s with heap:=h1.push (seqObj "list" vs.toArray 0),toks:=tk1}) hoL hp1 nd h64 λh' c ix P U hk ho=>?_
 refine⟨_,rfl,Kv ⟨_,rfl,?_⟩⟩
 have kk:∀b o,s.heap.get? b=some o->h'.get? b=some o:=λb o e=>hk b o (hne b o e) (kp b o e)
 have P':L2.SO.Pm ps.length ix:=by rw[<-hps.1];exact P
 have k2:∀b o,h1.get? b=some o->h'.get? b=some o:=λb o e=>hk b o (K3 (Ky e)) (Kk _ e)
 refine h h1 h' tk1 h1.objs.size _ (ix.toList.map λi=>ps.getD i (0,0)) c k1 rfl k2 ho (GS ⟨hps.1,λi v p a b=>?_⟩ P) (λu hu=>?_) (Ey hsm P' (by rw[<-hps.1];exact U)) λp=>⟨λhp=>?_,λhp=>?_⟩
 ·obtain⟨c,e,⟨o,it,n,ho,r⟩,hs⟩:=hps.2 i v p a b
  exact⟨c,e,⟨o,it,n,kk _ _ ho,r⟩,hs⟩
 ·obtain⟨i,hi,rfl⟩:=KZ.mp hu
  have:i < vs.length:=P.lt i (by simpa using hi)
  rw[Kq,Kh this]
  exact Lr this
 ·obtain⟨i,hi,rfl⟩:=KZ.mp hp
  have:i < ps.length:=P'.lt i (by simpa using hi)
  rw[Kq,Kh this]
  exact Lr this
 ·obtain⟨i,hi,e⟩:=L5.mp hp
  refine KZ.mpr ⟨i,E2 P' hi,?_⟩
  rw[Kq,Kh hi,e];rfl
end
end L2.ST
namespace L2
open PySem PySem.Spec PyProof.Rows
abbrev Pr:=Int×Int
abbrev Sm:=L2.ST.Sm
section
variable {X:Cx}{pins:List (Addr×Obj)}{σ:St}{H H':Hp}{s:Shared}
def i3 (H H':Hp):Prop:=(∀b xs,H b=some (.tup xs)->H' b=some (.tup xs))/\∀b o u,H b=some (.ba o u)->H' b=some (.ba o u)
def i3.trans {H H1 H2:Hp}(a:i3 H H1)(b:i3 H1 H2):i3 H H2:=⟨λc xs h=>b.1 c xs (a.1 c xs h),λc o u h=>b.2 c o u (a.2 c o u h)⟩
def au.grow {H H':Hp}(e:au H H'):i3 H H':=⟨λb xs h=>e b _ h,λb o u h=>e b _ h⟩
def i3.new {H:Hp}{l:Addr}{o:HO}(h:H l=none):i3 H (upd H l o):=⟨λb xs e=>by rw[aC (aJ e h)];exact e,λb o' u e=>by rw[aC (aJ e h)];exact e⟩
def au.new {H:Hp}{l:Addr}{o:HO}(h:H l=none):au H (upd H l o):=λb u e=>Kt.of (by rw[aC (aJ e h)];exact e)
def fy.grow {K:Frag}{a:Addr}{xs:List V}(h:fy K H a xs)(g:i3 H H'):fy K H' a xs:=by
 rcases h with (h | ⟨o,h⟩) |h
 ·exact .inl (.inl (g.1 _ _ h))
 ·exact .inl (.inr ⟨o,g.2 _ _ _ h⟩)
 ·exact .inr h
def i3.list {a:Addr}{ys:List V}{o:HO}(h:H a=some (.lst ys)):i3 H (upd H a o):=
 ⟨λb xs e=>by rw[aC (D8 e h (by intro z;cases z))];exact e,λb o' u e=>by rw[aC (D8 e h (by intro z;cases z))];exact e⟩
def a9 (K:Frag)(H:Hp):List V->List Pr->Prop:=Paired λv p=>∃a,v=.ref a/\fy K H a [.int p.1,.int p.2]
def a9.grow {K:Frag}{vs:List V}{ps:List Pr}(h:a9 K H vs ps)(g:i3 H H'):a9 K H' vs ps:=Paired.mapP h λv p ⟨a,e,q⟩=>⟨a,e,q.grow g⟩
theorem Paired.getP {α β:Type}{F:α->β->Prop}:∀{l:List α} {m:List β} {i:Nat} {x:α},Paired F l m->l[i]? =some x->∃y,m[i]? =some y/\F x y
 |_,_,_,_,.nil,e=>by simp at e
 |_,_,0,_,.cons r _,e=>by simp at e;subst e;exact⟨_,rfl,r⟩
 |_,_,i + 1,x,.cons _ t,e=>by
  obtain⟨u,h1,h2⟩:=Paired.getP (i:=i) (x:=x) t (by simpa using e)
  exact⟨u,by simpa using h1,h2⟩
theorem Paired.getQ {α β:Type}{F:α->β->Prop}:∀{l:List α} {m:List β} {i:Nat} {y:β},Paired F l m->m[i]? =some y->∃x,l[i]? =some x/\F x y
 |_,_,_,_,.nil,e=>by simp at e
 |_,_,0,_,.cons r _,e=>by simp at e;subst e;exact⟨_,rfl,r⟩
 |_,_,i + 1,x,.cons _ t,e=>by
  obtain⟨u,h1,h2⟩:=Paired.getQ (i:=i) (y:=x) t (by simpa using e)
  exact⟨u,by simpa using h1,h2⟩
theorem xk (I:Inv X pins σ H s){a:Addr}{p:Pr}(h:fy X.K H a [.int p.1,.int p.2]):L2.ST.i4 X.prog X.w s.heap p a:=by
 obtain⟨its,r,⟨o,ho,hc,n,hd⟩,_⟩:=I.tuple h
 cases r with
 |cons r1 r=>
  cases r with
  |cons r2 r=>
   cases r
   obtain⟨t1,rfl⟩:=r1
   obtain⟨t2,rfl⟩:=r2
   exact⟨o,_,n,ho,hc,hd,.cons (intKind_is ..) (.cons (intKind_is ..) .nil)⟩
def pairs_at (I:Inv X pins σ H s){vs:List V}{us:List Value}{ps:List Pr}(hv:Vals vs us)(h:a9 X.K H vs ps)(hs:∀p,p∈ps->Sm p):L2.ST.fw X.prog X.w s.heap us ps:=by
 refine⟨by rw[<-hv.length];exact Paired.length h,λi u p e1 e2=>?_⟩
 obtain⟨v,ev,a,rfl,q⟩:=Paired.getQ h e2
 obtain⟨u',eu,ru⟩:=hv.get ev
 rw[e1] at eu;cases eu
 cases ru
 exact⟨a,rfl,xk I q,hs p (KA e2)⟩
theorem pD (I:Inv X pins σ H s){vs:List V}{us:List Value}{ps:List Pr}(hv:Vals vs us)(h:a9 X.K H vs ps){h':Heap}(k:∀b o,s.heap.get? b=some o->h'.get? b=some o):∀{out:List Value} {qs:List Pr},
  (∀u,u∈out->u∈us)->L2.ST.fw X.prog X.w h' out qs->∃ws,Vals ws out/\a9 X.K H ws qs
 | [],[],_,_=>⟨[],.nil,.nil⟩
 | [],_ :: _,_,hp=>by have:=hp.1;simp at this
 |_ :: _,[],_,hp=>by have:=hp.1;simp at this
 |u :: out,q :: qs,hm,hp=>by
  obtain⟨ws,a1,a2⟩:=pD I hv h k (out:=out) (qs:=qs) (λx hx=>hm x (Kr _ hx)) ⟨by have:=hp.1;simpa using this,λi v p e1 e2=>hp.2 (i + 1) v p (by simpa using e1) (by simpa using e2)⟩
  obtain⟨i,hi,e⟩:=L5.mp (hm u (Ku ..))
  have hi':i < vs.length:=by rw[hv.length];exact hi
  obtain⟨u',eu,ru⟩:=hv.get (Kh hi')
  rw[Kh hi,e] at eu
  cases eu
  obtain⟨p,ep,a,ea,qa⟩:=Paired.getP h (Kh hi')
  rw[ea] at ru
  cases ru
  obtain⟨b,eb,hb,_⟩:=hp.2 0 (.ref a) q rfl rfl
  cases eb
  have pa:L2.ST.i4 X.prog X.w h' p a:=by
   obtain⟨o,it,n,ho,r⟩:=xk I qa
   exact⟨o,it,n,k _ _ ho,r⟩
  have:p=q:=L2.ST.i4.inj pa hb
  subst this
  exact⟨.ref a :: ws,.cons rfl a1,.cons ⟨a,rfl,qa⟩ a2⟩
def wG (K:Frag):List V->Hp->VK->Prop:=λxs H Q=>∃a vs ps,xs= [.ref a]/\iw K H a vs/\a9 K H vs ps/\(∀p,p∈ps->Sm p)/\ps.Nodup/\ps.length < 64/\
 ∀l ws qs,H l=none->a9 K H ws qs->OM.uT qs->(∀p,p∈qs↔p∈ps)->Q (.ref l) (upd H l (.lst ws))
def wq (I:Inv X pins σ H s){vs:List V}{us:List Value}{ps:List Pr}(hv:Vals vs us)(hp:a9 X.K H vs ps)(hlen:ps.length < 64){Q:VK}
  (q:∀l ws qs,H l=none->a9 X.K H ws qs->OM.uT qs->(∀p,p∈qs↔p∈ps)->Q (.ref l) (upd H l (.lst ws)))
  {h1 h':Heap} {tk:Nat} {D:Addr} {out:List Value} {qs:List Pr} {c:Nat} (k1:∀b o,s.heap.get? b=some o->h1.get? b=some o) (eD:D=h1.objs.size) (k2:∀b o,h1.get? b=some o->h'.get? b=some o)
  (ho:h'.get? D=some (seqObj "list" out.toArray c)) (hpq:L2.ST.fw X.prog X.w h' out qs) (hm:∀u,u∈out->u∈us) (hr:OM.uT qs) (hmem:∀p,p∈qs↔p∈ps):EP X pins σ Q (.ref D) {s with heap:=h',toks:=tk}:=by
 obtain⟨ws,r1,r2⟩:=pD I hv hp (λb o e=>k2 b o (k1 b o e)) hm hpq
 have I1:Inv X pins σ H {s with heap:=h1,toks:=tk}:=I.kept k1
 have hf:H D=none:=by rw[eD];exact I1.hok.fresh (Kj _)
 have hz:ws.length<=sizeLine:=by
  have e1:=r1.length
  have e2:out.length=qs.length:=hpq.1
  have e3:=OM.AA (OM.mK hr) λx hx=>(hmem x).mp hx
  rw[K1];omega
 have I2:Inv X pins σ (upd H D (.lst ws)) {s with heap:=h',toks:=tk}:=I1.laid (t':=tk) k2 (by rw[eD];exact Kj _) (show cB X.prog X.w _ h' _ (.lst ws) from⟨hz,out,c,r1,ho⟩)
 exact⟨.ref D,_,I2,rfl,q D ws qs hf r2 hr hmem⟩
def ua:fD X (.builtin "sorted") (wG X.K):=by
 intro pins s σ H xs us Q I r h
 obtain⟨a,vs,ps,rfl,hq,hp,hs,nd,hl,q⟩:=h
 obtain⟨u,rfl,rx⟩:=vals1 r
 cases rx
 obtain⟨its,rv,pl,hz⟩:=I.list hq
 have hpa:=pairs_at I rv hp hs
 have h64:its.length < 64:=by rw[hpa.1];exact hl
 refine L2.ST.yf (v:=.ref a) hpa nd h64 (λQ' hQ'=>collect_list pl.isList ?_ (by rw[K1];omega)) λh1 h' tk D out qs c k1 eD k2 ho hpq hm hr hmem=>?_
 ·exact hQ' _ s.toks λb o e=>by
   rw[Heap.get?_update_ne _ _ _ _ (K3 (Ky e)),Heap.get?_push_ne _ _ _ (K3 (Ky e))];exact e
 ·exact wq I rv hp hl q k1 eD k2 ho hpq hm hr hmem
abbrev pq (qs:List (Addr×Pr)):List Pr:=qs.map (·.2)
end
def mM (cells:List (Str×Addr)):List (Str×NameKind)->List (Str×Addr)->List (Str×Addr)
 | [],cs=>cs
 | (n,k) :: r,cs=>mM cells r (if k == .free then (n,(cells.lookup n).getD 0) :: cs else cs)
def oN {scope:Scope}{env:Env}(h:∀y∈scope.names,y.2=.free->∃c,env.cells.lookup y.1=some c):closureFor scope env=pure (mM env.cells scope.names []):=by
 unfold closureFor
 have key:∀(l:List (Str×NameKind)) (cs:List (Str×Addr)),(∀y∈l,y.2=.free->∃c,env.cells.lookup y.1=some c)->
   (forIn l cs (λ(x:Str×NameKind) (r:List (Str×Addr))=>if (x.2 == NameKind.free)=true then (do let a <-cellOf env x.1;pure (ForInStep.yield ((x.1,a) :: r)):Sem _) else pure (ForInStep.yield r)):Sem (List (Str×Addr)))=pure (mM env.cells l cs):=by
  intro l
  induction l with
  |nil=>intro cs _;rfl
  |cons y l ih=>
   intro cs hy
   obtain⟨n,k⟩:=y
   rw[List.forIn_cons]
   unfold mM
   by_cases hk:(k == NameKind.free)=true
   ·have hk':k=.free:=by simpa using hk
    obtain⟨c,hc⟩:=hy (n,k) (Ku ..) hk'
    have hce:cellOf env n=pure c:=by unfold cellOf;rw[hc]
    simp only[hk,Lz]
    have hc':env.cells.lookup n=some c:=hc
    rw[hce,hc']
    simp only[pure_bind,Option.getD_some]
    exact ih _ λz hz=>hy z (Kr _ hz)
   ·simp only[hk,LG,Lv]
    simp only[pure_bind]
    exact ih _ λz hz=>hy z (Kr _ hz)
 have:=key scope.names [] h
 simp only[bind_pure_comp] at this ⊢
 first
  |exact this
  | (rw[this];rfl)
  | (simpa using this)
theorem mE {cells:List (Str×Addr)}{x:Str}:∀{l:List (Str×NameKind)} {cs:List (Str×Addr)},((x,NameKind.free)∈l\/cs.lookup x=some ((cells.lookup x).getD 0))->(mM cells l cs).lookup x=some ((cells.lookup x).getD 0)
 | [],cs,h=>by
  rcases h with h |h
  ·cases h
  ·exact h
 | (n,k) :: r,cs,h=>by
  unfold mM
  refine mE ?_
  by_cases hk:(k == NameKind.free)=true
  ·rw[Kl hk]
   by_cases hx:x=n
   ·subst hx;right;simp
   ·rcases h with h |h
    ·rcases Ks.mp h with e |e
     ·injection e with e1 _;exact absurd e1 hx
     ·exact .inl e
    ·right
     rw[Mo,show (x == n)=false by simpa using hx]
     exact h
  ·rw[Kw hk]
   rcases h with h |h
   ·rcases Ks.mp h with e |e
    ·injection e with _ e2;exact absurd (by rw[<-e2];rfl) hk
    ·exact .inl e
   ·exact .inr h
theorem mL {cells:List (Str×Addr)}{x:Str}{c:Addr}:∀{l:List (Str×NameKind)} {cs:List (Str×Addr)},(mM cells l cs).lookup x=some c->((x,NameKind.free)∈l/\c=(cells.lookup x).getD 0)\/cs.lookup x=some c
 | [],cs,h=>.inr h
 | (n,k) :: r,cs,h=>by
  unfold mM at h
  rcases mL h with⟨a,b⟩ |a
  ·exact .inl ⟨Kr _ a,b⟩
  ·by_cases hk:(k == NameKind.free)=true
   ·rw[Kl hk,Mo] at a
    by_cases hx:x=n
    ·subst hx
     simp at a
     have:k=.free:=by simpa using hk
     subst this
     exact .inl ⟨Ku ..,a.symm⟩
    ·rw[show (x == n)=false by simpa using hx] at a
     exact .inr a
   ·rw[Kw hk] at a
    exact .inr a
theorem mW {f:Str->NameKind->NameKind}{x:Str}:∀(l:List (Str×NameKind)),(l.map λy=>(y.1,f y.1 y.2)).lookup x=(l.lookup x).map (f x)
 | []=>rfl
 | (n,k) :: l=>by
  rw[LD,Mo,Mo]
  by_cases hx:x=n
  ·subst hx;simp
  ·have hb:(x == n)=false:=by simpa using hx
   simp only[hb]
   exact mW l
def oq (scope:Scope)(env:Env)(x:Str):(relabel scope env).names.lookup x=(scope.names.lookup x).map λk=>if (k == .free && env.scope.kind == .function && env.kindOf x == some .cell) then .cell else k:=by
 have e:(relabel scope env).names=scope.names.map λy=>(y.1,if (y.2 == .free && env.scope.kind == .function && env.kindOf y.1 == some .cell) then .cell else y.2):=by
  unfold relabel
  dsimp only
  refine LS λy _=>?_
  obtain⟨n,k⟩:=y
  dsimp only
  split <;> rfl
 rw[e]
 exact mW (f:=λn k=>if (k == .free && env.scope.kind == .function && env.kindOf n == some .cell) then .cell else k) scope.names
def i5 (X:Cx)(NB:List Str)(scope:Scope)(C:Addr)(ex:List Addr)(s3:Shared)(H3:Hp)(pn:List (Addr×Obj)):Cx:=
 {X with N:=NB,s₀:=s3,H₀:=H3,env:=compEnvC scope (mM X.env.cells scope.names []) C X.env,outer:=X.stack,ex:=ex,fn:=λ_=>false,pn:=pn,xe:=λ_ _=>False}
def rA (own:Nat)(ixs:List Nat)(σ:St):St:=List.replicate own none ++ ixs.map λi=>(σ[i]?).join
structure dB (X:Cx)(NB:List Str)(own:Nat)(ixs:List Nat)(scope:Scope):Prop where
 kind:scope.kind=.function
 nocell:∀y∈scope.names,y.2≠.cell
 names:∀y∈scope.names,scope.names.lookup y.1=some y.2
 frees:∀y∈scope.names,y.2=.free->X.env.kindOf y.1=some .cell\/X.env.kindOf y.1=some .free
 nd:NB.Nodup
 len:NB.length=own + ixs.length
 at':∀k,k < ixs.length->NB[own + k]? =X.N[ixs.getD k 0]?/\∀x,NB[own + k]? =some x->(x,NameKind.free)∈scope.names
section
variable {X:Cx}{NB:List Str}{own:Nat}{ixs:List Nat}{scope:Scope}{pins:List (Addr×Obj)}{σ:St}{H:Hp}{s:Shared}
def yV (S:dB X NB own ixs scope)(I:Inv X pins σ H s){fp:List Addr}(hfp:∀b∈fp,nr X pins H b)(hob:∀b∈fp,∃o,s.heap.get? b=some o){h1:Heap}{tk:Nat}
  (hn:h1.Ns s.heap.objs.size (λ_=>none)) (hk:∀b o,s.heap.get? b=some o->h1.get? b=some o) :
  Inv (i5 X NB scope s.heap.objs.size fp s H (X.pn ++ pins)) [] (rA own ixs σ) H {s with heap:=h1,toks:=tk}:=by
 have stk:=I.stack
 have frees:∀{x:Str},(x,NameKind.free)∈scope.names->∃c,X.env.cells.lookup x=some c:=λ{x} hx=>I.ok.has x (S.frees _ hx rfl)
 have clE:∀{x:Str} {c:Addr},(mM X.env.cells scope.names []).lookup x=some c->(x,NameKind.free)∈scope.names/\X.env.cells.lookup x=some c:=λ{x c} h=>by
  rcases mL h with⟨a,b⟩ |a
  ·obtain⟨c',e⟩:=frees a
   rw[e] at b
   exact⟨a,by rw[e,b];rfl⟩
  ·simp at a
 have kindB:∀x,(i5 X NB scope s.heap.objs.size fp s H (X.pn ++ pins)).env.kindOf x=(scope.names.lookup x).map λk=>if (k == .free && X.env.scope.kind == .function && X.env.kindOf x == some .cell) then .cell else k:=λx=>oq scope X.env x
 have isFree:∀{x:Str},((i5 X NB scope s.heap.objs.size fp s H (X.pn ++ pins)).env.kindOf x=some .cell\/(i5 X NB scope s.heap.objs.size fp s H (X.pn ++ pins)).env.kindOf x=some .free)->(x,NameKind.free)∈scope.names:=λ{x} h=>by
  rw[kindB] at h
  cases e:scope.names.lookup x with
  |none=>rw[e] at h;simp at h
  |some k=>
   have hm:=LR e
   cases k with
   |free=>exact hm
   |cell=>exact absurd rfl (S.nocell _ hm)
   |_=>rw[e] at h;simp at h
 have neN:∀b o,s.heap.get? b=some o->b≠s.heap.objs.size:=λb o e=>K3 (Ky e)
 have cellN:∀{x:Str} {c:Addr},X.env.cells.lookup x=some c->c < s.heap.objs.size:=λ{x c} e=>by
  obtain⟨v,o,ho,_⟩:=I.cell x c e
  exact Ky ho
 have ok:(i5 X NB scope s.heap.objs.size fp s H (X.pn ++ pins)).Ok:=by
  refine⟨I.ok.mod,S.kind,I.ok.glob,I.ok.blt,Kj _,λx y c h1 h2=>I.ok.inj x y c (clE h1).2 (clE h2).2,λx hx=>?_,λx c h=>(by cases h),I.ok.hd,I.ok.frames,.inl rfl,λb hb=>?_,I.bs,Lg I.ok.bsz I.sz,λb o e hb=>?_,λb hb hs=>?_,stk,I.stkFree⟩
  ·have hm:=isFree hx
   exact⟨_,mE (.inl hm)⟩
  ·obtain⟨_,f1,f2,f3,f4,f5⟩:=hfp b hb
   refine⟨?_,λx c h z=>f4 x c (clE h).2 z⟩
   obtain⟨o,ho⟩:=hob b hb
   exact neN b o ho
  ·obtain⟨_,f1,f2,f3,f4,f5⟩:=hfp b hb
   rcases f3 with f3 |f3
   ·exact I.ok.noex b o e f3
   ·exact absurd (KS (Ky e) (Lg I.ok.bsz f3)) (K5 _)
  ·obtain⟨_,f1,f2,f3,f4,f5⟩:=hfp b hb
   rcases Ks.mp (I.stkSub b hs) with z |z
   ·exact f1 z
   ·exact f2 z
 refine⟨ok,rfl,I.bare,Un.kept hk,⟨_,hn,λi x v h1' h2' h3'=>?_⟩,λx c h=>?_,I.hok.fresh (Kj _),λx c h=>I.freeC x c (clE h).2,λp hp=>?_,I.hok.kept hk,?_⟩
 ·
  have h1':NB[i]? =some x:=h1'
  have hown:own<=i:=by
   refine Classical.byContradiction λhc=>?_
   have hlt:i < own:=Nat.lt_of_not_le hc
   unfold rA at h2'
   rw[K4 (by simpa using hlt),LF,Kl hlt] at h2'
   cases h2'
  obtain⟨k,rfl⟩:∃k,i=own + k:=⟨i - own,by omega⟩
  have hk':k < ixs.length:=by
   have:=(KJ.mp h1').1
   rw[S.len] at this;omega
  obtain⟨e1,e2⟩:=S.at' k hk'
  have hm:=e2 x h1'
  unfold rA at h2'
  rw[Ld (by simp),Ls,Nat.add_sub_cancel_left,KD,Kh hk'] at h2'
  simp only[Option.map_some,Option.some.injEq] at h2'
  have hix:ixs.getD k 0=ixs[k]:=by simp[hk']
  have hσ:σ[ixs[k]]? =some (some v):=by
   cases e:σ[ixs[k]]? with
   |none=>rw[e] at h2';cases h2'
   |some o=>rw[e] at h2';simp at h2';rw[h2']
  rw[e1,hix] at h1'
  have hkind:=S.frees _ hm rfl
  have hvis:xO X.env.scope x:=hkind.elim (λz=>.inr (.inl z)) (λz=>.inr (.inr z))
  obtain⟨m,hm',hl⟩:=I.loc
  obtain⟨u,r,look⟩:=hl _ x v h1' hσ hvis
  refine⟨u,r,.inr ⟨?_,?_⟩⟩
  ·rw[kindB]
   have hfr:scope.names.lookup x=some .free:=S.names _ hm
   rw[hfr]
   simp only[Option.map_some]
   split
   ·exact .inl rfl
   ·exact .inr rfl
  ·rcases look with⟨z,_⟩ | ⟨_,c,hc,hcell⟩
   ·rcases hkind with q |q
    ·rw[q] at z;cases z
    ·rw[q] at z;cases z
   ·refine⟨c,?_,?_⟩
    ·have:=mE (cells:=X.env.cells) (cs:=[]) (.inl hm)
     rw[hc] at this
     exact this
    ·obtain⟨o,ho,hd⟩:=hcell
     exact⟨o,hk _ _ ho,hd⟩
 ·obtain⟨v,o,ho,hd⟩:=I.cell x c (clE h).2
  exact⟨v,o,hk _ _ ho,hd⟩
 ·have hp':p∈X.pn ++ pins:=by
   rcases KI.mp hp with z |z
   ·exact z
   ·cases z
  obtain⟨e,n,ne,nf,d⟩:=I.pin p hp'
  refine⟨hk _ _ e,n,neN _ _ e,λz=>?_,d⟩
  rcases Ks.mp (I.stkSub _ z) with q |q
  ·exact ne q
  ·exact nf q
 ·show (rA own ixs σ).length=NB.length
  unfold rA
  rw[S.len];simp
end
abbrev wA (ifs:List Expr)(env:Env):Sem Bool:=forIn ifs true λc r=>if r=true then do let ok <-isTrue c env (eval c env);pure (ForInStep.yield ok) else pure (ForInStep.yield r)
theorem yP {prog:Program}{w:World}{A:Around}{R:Result->Shared->Prop}{s:Shared}{elt target iter:Expr}{ifs:List Expr}{scope:Scope}{pos:Pos}{it acc:Value}{env:Env}(I:Nat->Shared->Prop)
  (turn:∀n s,I n s->wpAny (model prog w) A (pyNext it) (λr s1=>match r with
   |none=>R (.ok .next) s1
   |some v=>wpAny (model prog w) A (letOwnedTupleGo target it v) (λ_ s1'=>wpAny (model prog w) A (assign target env v) (λ_ s2=>
     wpAny (model prog w) A (wA ifs env) (λok s3=>
      if ok=true then wpAny (model prog w) A (eval elt env) (λx s4=>wpAny (model prog w) A (call (.builtin "list.append") [acc,x]) (λ_ s5=>∃m,m < n/\I m s5) (λ_ _=>False) s4) (λ_ _=>False) s3
      else ∃m,m < n/\I m s3) (λ_ _=>False) s2) (λ_ _=>False) s1') (λ_ _=>False) s1) (λ_ _=>False) s)
  (n:Nat) (h:I n s):codeAny (model prog w) A (.compLoop (.ListComp elt [⟨target,iter,ifs,0⟩] scope pos) 0 it acc env) R s:=by
 refine codeAny_loop rfl I (λn s hI=>?_) n h
 (show wpAny _ A ((compTurn (.ListComp elt [⟨target,iter,ifs,0⟩] scope pos) 0 it acc env).onRaise (λx=>do (noteFrame x env);theTreesLotGoes x)) _ _ s)
 refine wpAny_noted ?_
 rw[compTurn_list]
 refine Ki (wpAny_standAt (Ki (LU (turn n s hI) (λr s1 h1=>?_) λ_ _ z=>z.elim)))
 cases r with
 |none=>exact Kv h1
 |some v=>
  refine Ki (LU h1 (λ_ s1' h1'=>?_) λ_ _ z=>z.elim)
  refine Ki (LU h1' (λ_ s2 h2=>Ki (LU h2 (λok s3 h3=>?_) λ_ _ z=>z.elim)) λ_ _ z=>z.elim)
  cases ok with
  |false=>exact Kv ⟨rfl,h3⟩
  |true=>exact Ki (Ki (LU h3 (λx s4 h4=>Ki (LU h4 (λ_ s5 h5=>Kv (Kv ⟨rfl,h5⟩)) λ_ _ z=>z.elim)) λ_ _ z=>z.elim))
def AV (X:Cx)(ifs:List Expr)(t:TT):Prop:=
 ∀(pins:List (Addr×Obj)) (s:Shared) (σ:St) (H:Hp) (Q:Bool->Hp->Prop),Inv X pins σ H s->t σ H Q->wpAny (model X.prog X.w) X.A (wA ifs X.env) (TP X pins σ Q) X.xe s
def EN:TT:=λ_ H Q=>Q true H
def rf {X:Cx}:AV X [] EN:=λpins s σ H Q I h=>Kv ⟨H,I,h⟩
def wL {X:Cx}{c:Expr}{t:TT}(h:PT X c t):AV X [c] t:=λpins s σ H Q I q=>wpAny_tests_one (h pins s σ H Q I q)
def u7 (own:Nat)(ixs:List Nat)(wi:TI)(g:TG)(tt:TT)(te:TE)(σ:St)(H:Hp)(Q:VK):Prop:=wi σ H λJ H1=>∀D,H1 D=none->∃W:Nat->Nat->St->Hp->Prop,(∃m,W 0 m (rA own ixs σ) (upd H1 D (.lst [])))/\∀i m σ' H',W i m σ' H'->
 (J.stop i H'/\(∃acc,H' D=some (.lst acc))/\Q (.ref D) H')\/
 (J.go i H'/\∃N:St->Hp->Prop,(∀σ2 H2,N σ2 H2->∃m',m' < m/\W (i + 1) m' σ2 H2)/\∀x H2,J.yld i H' x H2->g x σ' H2 λσ3 H3=>tt σ3 H3 λb H4=>
  if b=true then te σ3 H4 λv H5=>∃acc,H5 D=some (.lst acc)/\acc.length < sizeLine/\N σ3 (upd H5 D (.lst (acc ++ [v]))) else N σ3 H4)
section
variable {X:Cx}{NB:List Str}{own:Nat}{ixs:List Nat}{scope:Scope}{elt tg iter:Expr}{ifs:List Expr}{pos:Pos}{wi:TI}{g:TG}{tt:TT}{te:TE}
def qJ (hc:X.calm=true)(S:dB X NB own ixs scope)
  (hg:∀C ex s3 H3 pn,PG (i5 X NB scope C ex s3 H3 pn) tg g) (ht:∀C ex s3 H3 pn,AV (i5 X NB scope C ex s3 H3 pn) ifs tt) (he:∀C ex s3 H3 pn,PE (i5 X NB scope C ex s3 H3 pn) elt te)
  {pins:List (Addr×Obj)} {σ:St} {H1:Hp} {s2:Shared} {it:Addr} {fp:List Addr} {tn:Nat->Heap->Prop} {J:It} {Q:VK} (I2:Inv X pins σ H1 s2) (T:Turn X.prog X.w X.K tg J fp it tn) (st2:tn 0 s2.heap) (f2:∀b∈fp,nr X pins H1 b)
  (hQ:∀D,H1 D=none->∃W:Nat->Nat->St->Hp->Prop,(∃m,W 0 m (rA own ixs σ) (upd H1 D (.lst [])))/\∀i m σ' H',W i m σ' H'->
   (J.stop i H'/\(∃acc,H' D=some (.lst acc))/\Q (.ref D) H')\/
   (J.go i H'/\∃N:St->Hp->Prop,(∀σ2 H2,N σ2 H2->∃m',m' < m/\W (i + 1) m' σ2 H2)/\∀x H2,J.yld i H' x H2->g x σ' H2 λσ3 H3=>tt σ3 H3 λb H4=>
    if b=true then te σ3 H4 λv H5=>∃acc,H5 D=some (.lst acc)/\acc.length < sizeLine/\N σ3 (upd H5 D (.lst (acc ++ [v]))) else N σ3 H4))
  {E:Value->Shared->Prop} {RR:Value->Addr->Result->Shared->Prop}
  (fin:∀D C H' s' m,Inv X pins σ H' s'->Q (.ref D) H'->s'.heap.Ns C m->H' C=none->C≠X.env.locals->(∀x c,X.env.cells.lookup x=some c->c≠C)->X.s₀.heap.objs.size<=C->(∀p∈X.pn ++ pins,p.1≠C)->RR (.ref D) C (.ok .next) s') :
  wpAny (model X.prog X.w) X.A (newList []) (λacc s3=>wpAny (model X.prog X.w) X.A (newFunctionEnv scope X.env.globals (mM X.env.cells scope.names []) [] X.env.qual none .none (some X.env)) (λcenv s4=>
   codeAny (model X.prog X.w) X.A (.compStart (.ListComp elt [⟨tg,iter,ifs,0⟩] scope pos) 0 (.ref it) acc {cenv with scope:=relabel scope X.env}) (RR acc cenv.locals) s4) E s3) E s2:=by
 refine wpAny_newList ?_ (K6 _)
 have hD:H1 s2.heap.objs.size=none:=I2.hok.fresh (Kj _)
 obtain⟨W,⟨m0,w0⟩,turn⟩:=hQ s2.heap.objs.size hD
 generalize hs3:({s2 with heap:=s2.heap.push (seqObj "list" ([]:List Value).toArray 0)}:Shared)=s3
 have I3:Inv X pins σ (upd H1 s2.heap.objs.size (.lst [])) s3:=by
  rw[<-hs3]
  exact I2.lnew (ys:=[]) (its:=[]) (t':=s2.toks) .nil (K6 _)
 have k3:∀b o,s2.heap.get? b=some o->s3.heap.get? b=some o:=λb o e=>by rw[<-hs3];exact Kk _ e
 have sz3:s3.heap.objs.size=s2.heap.objs.size + 1:=by rw[<-hs3];exact Heap.size_push ..
 have ob2:∀b∈fp,∃o,s2.heap.get? b=some o:=λb hb=>let ⟨o,e,_⟩:=T.obj 0 _ st2 b hb;⟨o,e⟩
 have neD:∀b∈fp,b≠s2.heap.objs.size:=λb hb=>let ⟨o,e⟩:=ob2 b hb;K3 (Ky e)
 have f3:∀b∈fp,nr X pins (upd H1 s2.heap.objs.size (.lst [])) b:=λb hb=>by
  obtain⟨a1,a2⟩:=f2 b hb
  exact⟨by rw[aC (neD b hb)];exact a1,a2⟩
 have st3:tn 0 s3.heap:=T.keep _ _ _ st2 λb _ o e=>k3 b o e
 refine wpAny_newFunctionEnv S.nocell (λy hy=>by simp at hy) (λh4 hn4 sb4=>?_) S.kind
 have k4:∀b o,s3.heap.get? b=some o->h4.get? b=some o:=λb o e=>sb4.extBut b o (K3 (Ky e)) (Kk _ e)
 have I4:Inv (i5 X NB scope s3.heap.objs.size fp s3 (upd H1 s2.heap.objs.size (.lst [])) (X.pn ++ pins)) [] (rA own ixs σ) (upd H1 s2.heap.objs.size (.lst [])) {s3 with heap:=h4,toks:=s3.toks + ([]:List (Str×Value)).length}:=
  yV S I3 f3 (λb hb=>let ⟨o,e⟩:=ob2 b hb;⟨o,k3 _ _ e⟩) (by simpa using hn4) k4
 have st4:tn 0 h4:=T.keep _ _ _ st3 λb _ o e=>k4 b o e
 generalize hB:i5 X NB scope s3.heap.objs.size fp s3 (upd H1 s2.heap.objs.size (.lst [])) (X.pn ++ pins)=B at I4
 have hgB:PG B tg g:=by rw[<-hB];exact hg _ _ _ _ _
 have htB:AV B ifs tt:=by rw[<-hB];exact ht _ _ _ _ _
 have heB:PE B elt te:=by rw[<-hB];exact he _ _ _ _ _
 have eP:B.prog=X.prog:=by rw[<-hB];rfl
 have eW:B.w=X.w:=by rw[<-hB];rfl
 have eK:B.K=X.K:=by rw[<-hB];rfl
 have eA:B.A=X.A:=by rw[<-hB];rfl
 have eC:B.calm=true:=by rw[<-hB];exact hc
 have eX:B.xe=λ_ _=>False:=by rw[<-hB];rfl
 have eE:B.env=compEnvC scope (mM X.env.cells scope.names []) s3.heap.objs.size X.env:=by rw[<-hB];rfl
 have ex:B.ex=fp:=by rw[<-hB];rfl
 have eL:B.env.locals=s3.heap.objs.size:=by rw[eE];rfl
 have stat:∀{H':Hp},(∀b∈fp,H' b=none)->∀b∈fp,nr B [] H' b:=λ{H'} hn b hb=>by
  obtain⟨a1,a2,a3,a4,a5,a6⟩:=f3 b hb
  obtain⟨o,eo⟩:=ob2 b hb
  refine⟨hn b hb,?_,λz=>?_,.inl (by rw[ex];exact hb),λx c e z=>?_,λp hp z=>?_⟩
  ·rw[eL];exact K3 (Ky (k3 _ _ eo))
  ·have hz:b∈i8 X.stack:=by rw[<-hB] at z;exact z
   rcases Ks.mp (I3.stkSub b hz) with q |q
   ·exact a2 q
   ·exact a3 q
  ·rw[eE] at e
   rcases mL e with⟨m1,m2⟩ |m1
   ·obtain⟨c',e'⟩:=I3.ok.has x (S.frees _ m1 rfl)
    rw[e'] at m2
    exact a5 x c' e' (by rw[<-z,m2];rfl)
   ·simp at m1
  ·have hp':p∈X.pn ++ pins:=by
    rw[<-hB] at hp
    rcases KI.mp hp with q |q
    ·exact q
    ·cases q
   exact a6 p hp' z
 have back:∀{σ':St} {H':Hp} {s':Shared},Inv B [] σ' H' s'->Inv X pins σ H' s':=λ{σ' H' s'} J'=>by
  have u:=J'.base
  have os:=J'.os
  have bare:=J'.bare
  have hok:=J'.hok
  subst hB
  exact I3.call' (ch:=fp) os u hok bare λb hb=>by
   obtain⟨a1,a2,a3,a4,a5,a6⟩:=f3 b hb
   exact⟨a4,a2,a5,a6⟩
 have loop:∀s5:Shared,s5={s3 with heap:=h4,toks:=s3.toks + ([]:List (Str×Value)).length}->
   codeAny (model X.prog X.w) X.A (.compLoop (.ListComp elt [⟨tg,iter,ifs,0⟩] scope pos) 0 (.ref it) (.ref s2.heap.objs.size) (compEnvC scope (mM X.env.cells scope.names []) s3.heap.objs.size X.env)) (RR (.ref s2.heap.objs.size) s3.heap.objs.size) s5:=by
  rintro s5 rfl
  refine yP (λn s'=>∃i σ' H',Inv B [] σ' H' s'/\tn i s'.heap/\(∀b∈fp,H' b=none)/\W i n σ' H') ?_ m0 ⟨0,_,_,I4,st4,λb hb=>(f3 b hb).1,w0⟩
  rintro n s6 ⟨i,σ6,H6,I6,st6,fr6,w6⟩
  rcases turn i n σ6 H6 w6 with⟨stop,⟨acc,hacc⟩,qn⟩ | ⟨go,N,hN,step⟩
  ·have:=T.done B eP eW eK eC i [] s6 σ6 H6 (λ_ _=>False) I6 (stat fr6) st6 stop
   rw[eA] at this
   refine cq this λr s7 ⟨hr,I7⟩=>?_
   subst hr
   obtain⟨m7,hn7,_⟩:=I7.loc
   rw[eL] at hn7
   have J7:=back I7
   refine fin _ _ H6 s7 m7 J7 qn hn7 (by rw[<-eL];exact I7.free) (λz=>?_) (λx c e z=>?_) ?_ λp hp z=>?_
   ·have:=I3.lt
    rw[<-z] at this
    exact K5 _ this
   ·obtain⟨v,o,ho,_⟩:=I3.cell x c e
    exact absurd (Ky ho) (by rw[z];exact K5 _)
   ·exact I3.sz
   ·have:=Ky (I3.pin p hp).1
    rw[z] at this
    exact K5 _ this
  ·have hitem:=T.item B eP eW eK eC i [] s6 σ6 H6 (λ_ _=>False) I6 (stat fr6) st6 go
   rw[eA] at hitem
   refine cq hitem λr s7 ⟨u,hr,h7⟩=>?_
   subst hr
   refine cq h7 λ_ s8 ⟨x,H8,I8,r8,y8,st8,fr8⟩=>?_
   have I8':=I8.pinned (stat fr8) (T.obj _ _ st8)
   have ha:=hgB _ s8 σ6 H8 x u _ I8' r8 (step x H8 y8)
   rw[eP,eW,eA,eE,eX] at ha
   refine cq ha λ_ s9 ⟨σ9,H9,I9,q9⟩=>?_
   have hb:=htB _ s9 σ9 H9 _ I9 q9
   rw[eP,eW,eA,eE,eX] at hb
   refine cq hb λok s10 ⟨H10,I10,q10⟩=>?_
   have again:∀{σ7:St} {H7:Hp} {s7:Shared},Inv B ([] ++ oP fp s8.heap) σ7 H7 s7->N σ7 H7->∃m,m < n/\∃i σ' H',Inv B [] σ' H' s7/\tn i s7.heap/\(∀b∈fp,H' b=none)/\W i m σ' H':=λ{σ7 H7 s7} I7 n7=>by
    obtain⟨m',hm,w7⟩:=hN σ7 H7 n7
    refine⟨m',hm,i + 1,σ7,H7,I7.unpinned,T.keep _ _ _ st8 λb hb o e=>(I7.pin (b,o) (K8 _ (K8 _ (jK hb e)))).1,λb hb=>?_,w7⟩
    obtain⟨o,e,d⟩:=T.obj _ _ st8 b hb
    exact (I7.pin (b,o) (K8 _ (K8 _ (jK hb e)))).2.1
   cases ok with
   |false=>
    simp only[Lv,LG] at q10 ⊢
    exact again I10 q10
   |true=>
    simp only[Lz] at q10 ⊢
    have hv:=heB _ s10 σ9 H10 _ I10 q10
    rw[eP,eW,eA,eE,eX] at hv
    refine cq hv λy s11 ⟨v,H11,I11,r11,acc,hacc,hz,q11⟩=>?_
    have hap:=mI (X:=B) _ s11 σ9 H11 (.ref s2.heap.objs.size) [v] (.ref s2.heap.objs.size) [y] (λz H'=>z=.non/\N σ9 H') I11 rfl (.cons r11 .nil) ⟨_,acc,v,rfl,rfl,hacc,hz,rfl,q11⟩
    rw[eP,eW,eA,eX] at hap
    exact cq hap λ_ s12 ⟨_,H12,I12,_,_,q12⟩=>again I12 q12
 exact codeAny_compStart_list (loop _ rfl) (T.self X.A 0 _ _ _ st4 (loop _ rfl))
def tx (hc:X.calm=true)(S:dB X NB own ixs scope)(hi:PI X tg iter wi)
  (hg:∀C ex s3 H3 pn,PG (i5 X NB scope C ex s3 H3 pn) tg g) (ht:∀C ex s3 H3 pn,AV (i5 X NB scope C ex s3 H3 pn) ifs tt) (he:∀C ex s3 H3 pn,PE (i5 X NB scope C ex s3 H3 pn) elt te)
  (hs:∀x,foldedSetIterable iter X.env x=pure x:=by intro _;rfl) :
  PE X (.ListComp elt [⟨tg,iter,ifs,0⟩] scope pos) (u7 own ixs wi g tt te):=by
 intro pins s σ H Q I h
 rw[eval_ListComp]
 refine wpAny_comprehension_free (use:=none) rfl hs (oN λy hy e=>I.ok.has _ (S.frees y hy e)) S.kind (λy hy e=>by rw[S.names y hy,e]) ?_
 refine cq (hi pins s σ H _ I h) λv s1 h1=>cq h1 λitv s2 h2=>?_
 obtain⟨it,fp,tn,J,H2,e,I2,T,st2,f2,q2⟩:=h2
 subst e
 refine qJ hc S hg ht he I2 T st2 f2 q2 (RR:=λacc C=>compPost (model X.prog X.w) X.A X.xe none (EP X pins σ Q) acc C) λD C H' s' m J' q hn hC n1 n2 n3 n4=>?_
 refine⟨m,hn,λh'' sb=>⟨.ref D,H',?_,rfl,q⟩⟩
 exact J'.turned (t':=s'.toks) (it:=C) (λb o hb e=>sb.extBut b o hb e) hC n1 (.inr n3) n2 n4
def za {i:Nat}{y:Str}{py spos:Pos}(hc:X.calm=true)(S:dB X NB own ixs scope)(hi:PI X tg iter wi)
  (hg:∀C ex s3 H3 pn,PG (i5 X NB scope C ex s3 H3 pn) tg g) (ht:∀C ex s3 H3 pn,AV (i5 X NB scope C ex s3 H3 pn) ifs tt) (he:∀C ex s3 H3 pn,PE (i5 X NB scope C ex s3 H3 pn) elt te)
  (hN:X.N.Nodup) (hy:X.N[i]? =some y) (hl:X.env.scope.names.lookup y=some .local)
  (hsw:swapsWith (.ListComp elt [⟨tg,iter,ifs,0⟩] scope pos) (some (.Name y py)) spos.line X.env=pure true)
  (hs:∀x,foldedSetIterable iter X.env x=pure x:=by intro _;rfl) :
  PS X (.Assign [.Name y py] (.ListComp elt [⟨tg,iter,ifs,0⟩] scope pos) spos) (λD σ H=>u7 own ixs wi g tt te σ H λv H'=>D.nx (σ.set i (some v)) H'):=by
 intro pins s σ H D I h
 rw[exec_Assign_Name_used _ _ _ _ hsw]
 refine Ki (wpAny_standAt (Ki ?_))
 show wpAny _ X.A (comprehension (.ListComp elt [⟨tg,iter,ifs,0⟩] scope pos) scope X.env _ (newList []) false (eval iter X.env) (some (assign (.Name y py) X.env)) >>= λ_=>pure ()) _ _ s
 refine Ki (LU (wpAny_comprehension_free (use:=some (assign (.Name y py) X.env)) (Q:=λ_ s'=>SP X pins D .next s') rfl hs (oN λy hy e=>I.ok.has _ (S.frees y hy e)) S.kind (λy hy e=>by rw[S.names y hy,e]) ?_)
  (λ_ s' hq=>Kv (Kv hq)) λ_ _ e=>e)
 refine cq (hi pins s σ H _ I h) λv s1 h1=>cq h1 λitv s2 h2=>?_
 obtain⟨it,fp,tn,J,H2,e,I2,T,st2,f2,q2⟩:=h2
 subst e
 refine qJ hc S hg ht he I2 T st2 f2 q2 (Q:=λv H'=>D.nx (σ.set i (some v)) H') (RR:=λacc C=>compPost (model X.prog X.w) X.A X.xe (some (assign (.Name y py) X.env)) (λ_ s'=>SP X pins D .next s') acc C) λD' C H' s' m J' q hn hC n1 n2 n3 n4=>?_
 show wpAny _ X.A (assign (.Name y py) X.env (.ref D')) _ _ s'
 refine wpAny_assign_Name (qI J' hN hy (.inl hl) (v:=.ref D') rfl (λs'' I'' ⟨a,sb,ha⟩=>?_) (.inr hl))
 have hCa:C≠a:=by
  rcases ha with z |z
  ·rw[z];exact n1
  ·exact (n2 _ _ z).symm
 refine⟨m,hn.sameBut sb hCa,λh3 sb3=>⟨_,H',?_,q⟩⟩
 exact I''.turned (t':=s''.toks) (it:=C) (λb o hb e=>sb3.extBut b o hb e) hC n1 (.inr n3) n2 n4
end
section
variable {own:Nat}{ixs:List Nat}{g:TG}{tt:TT}{te:TE}{σ:St}{H:Hp}{Q:VK}{K:Frag}{D a:Addr}{xs:List V}
abbrev fG (g:TG)(tt:TT)(te:TE)(D:Addr)(x:V)(σ:St)(H:Hp)(N:St->Hp->Prop):Prop:=g x σ H λσ3 H3=>tt σ3 H3 λb H4=>
  if b=true then te σ3 H4 λv H5=>∃acc,H5 D=some (.lst acc)/\acc.length < sizeLine/\N σ3 (upd H5 D (.lst (acc ++ [v]))) else N σ3 H4
def yT (Pv:Nat->St->Hp->Prop)(h0:Pv 0 (rA own ixs σ) (upd H D (.lst [])))(hl:∀i σ H,i<=xs.length->Pv i σ H->iw K H a xs)
  (hs:∀i x σ H,xs[i]? =some x->Pv i σ H->fG g tt te D x σ H (Pv (i + 1))) (hd:∀σ H,Pv xs.length σ H->(∃acc,H D=some (.lst acc))/\Q (.ref D) H) :
  ∃W:Nat->Nat->St->Hp->Prop,(∃m,W 0 m (rA own ixs σ) (upd H D (.lst [])))/\∀i m σ' H',W i m σ' H'->
   ((yJ K a).stop i H'/\(∃acc,H' D=some (.lst acc))/\Q (.ref D) H')\/
   ((yJ K a).go i H'/\∃N:St->Hp->Prop,(∀σ2 H2,N σ2 H2->∃m',m' < m/\W (i + 1) m' σ2 H2)/\∀x H2,(yJ K a).yld i H' x H2->fG g tt te D x σ' H2 N):=by
 refine⟨λi m σ H=>m=xs.length - i/\i<=xs.length/\Pv i σ H,⟨xs.length,by simp,K6 _,h0⟩,?_⟩
 rintro i m σ H ⟨rfl,hi,p⟩
 have q:=hl i σ H hi p
 by_cases hlt:i < xs.length
 ·refine .inr ⟨⟨xs,xs[i],q,by simp[hlt]⟩,Pv (i + 1),λσ' H' p'=>⟨xs.length - (i + 1),by omega,rfl,hlt,p'⟩,λx H' y=>?_⟩
  obtain⟨e,y⟩:=y
  subst e
  exact hs i x σ _ (y xs q) p
 ·have e:i=xs.length:=by omega
  subst e
  exact .inl ⟨⟨xs,q,Kj _⟩,hd σ H p⟩
def vE {lo:Int}{n:Nat}(Pv:Nat->St->Hp->Prop)(h0:Pv 0 (rA own ixs σ) (upd H D (.lst [])))
  (hs:∀i σ H,i < n->Pv i σ H->fG g tt te D (.int (lo + i)) σ H (Pv (i + 1))) (hd:∀σ H,Pv n σ H->(∃acc,H D=some (.lst acc))/\Q (.ref D) H) :
  ∃W:Nat->Nat->St->Hp->Prop,(∃m,W 0 m (rA own ixs σ) (upd H D (.lst [])))/\∀i m σ' H',W i m σ' H'->
   ((z0 lo n).stop i H'/\(∃acc,H' D=some (.lst acc))/\Q (.ref D) H')\/
   ((z0 lo n).go i H'/\∃N:St->Hp->Prop,(∀σ2 H2,N σ2 H2->∃m',m' < m/\W (i + 1) m' σ2 H2)/\∀x H2,(z0 lo n).yld i H' x H2->fG g tt te D x σ' H2 N):=by
 refine⟨λi m σ H=>m=n - i/\i<=n/\Pv i σ H,⟨n,by simp,K6 _,h0⟩,?_⟩
 rintro i m σ H ⟨rfl,hi,p⟩
 by_cases hlt:i < n
 ·refine .inr ⟨hlt,Pv (i + 1),λσ' H' p'=>⟨n - (i + 1),by omega,rfl,hlt,p'⟩,λx H' y=>?_⟩
  obtain⟨e,y⟩:=y
  subst e y
  exact hs i σ _ hlt p
 ·have e:i=n:=by omega
  subst e
  exact .inl ⟨Kj _,hd σ H p⟩
end
mutual
inductive Rep (K:Frag)(H:Hp):V->PyData->Prop
 |non:Rep K H .non .none
 |bl (b:Bool):Rep K H (.bl b) (.bool b)
 |int (i:Int):Rep K H (.int i) (.int i)
 |str (x:Str):Rep K H (.str x) (.str x)
 |tup {a:Addr} {xs:List V} {ds:List PyData}:fy K H a xs->j0 K H xs ds->Rep K H (.ref a) (.tuple ds)
 |lst {a:Addr} {xs:List V} {ds:List PyData}:iw K H a xs->j0 K H xs ds->Rep K H (.ref a) (.list ds)
inductive j0 (K:Frag)(H:Hp):List V->List PyData->Prop
 |nil:j0 K H [] []
 |cons {x:V} {xs:List V} {d:PyData} {ds:List PyData}:Rep K H x d->j0 K H xs ds->j0 K H (x :: xs) (d :: ds)
end
section
variable {X:Cx}{pins:List (Addr×Obj)}{σ:St}{H H':Hp}{s:Shared}
mutual
theorem Rep.reads (I:Inv X pins σ H s):∀{x:V} {d:PyData} {u:Value},Rep X.K H x d->RelV x u->∃as,Reads s.heap u d as
 |_,_,_,.non,r=>by cases r;exact⟨_,.none⟩
 |_,_,_,.bl b,r=>by cases r;exact⟨_,.bool b⟩
 |_,_,_,.int i,r=>by obtain⟨t,rfl⟩:=r;exact⟨_,.int i t⟩
 |_,_,_,.str x,r=>by obtain⟨t,rfl⟩:=r;exact⟨_,.str x t⟩
 |_,_,_,.tup h hs,r=>by
  cases r
  obtain⟨its,rv,⟨o,ho,hc,n,hd⟩,_⟩:=I.tuple h
  obtain⟨as,q⟩:=j0.reads I hs rv
  exact⟨_,.tuple ho hc hd (by simpa using q)⟩
 |_,_,_,.lst h hs,r=>by
  cases r
  obtain⟨its,rv,pl,_⟩:=I.list h
  obtain⟨o,ho,hc,n,hd⟩:=pl.isList
  obtain⟨as,q⟩:=j0.reads I hs rv
  exact⟨_,.list ho hc hd (by simpa using q)⟩
theorem j0.reads (I:Inv X pins σ H s):∀{xs:List V} {ds:List PyData} {us:List Value},j0 X.K H xs ds->Vals xs us->∃as,ReadsAll s.heap us ds as
 |_,_,_,.nil,r=>by cases r;exact⟨_,.nil⟩
 |_,_,_,.cons h hs,r=>by
  cases r with
  |cons r1 r2=>
   obtain⟨as,q⟩:=Rep.reads I h r1
   obtain⟨bs,q'⟩:=j0.reads I hs r2
   exact⟨_,.cons q q'⟩
end
def EA (K:Frag)(neg:Bool):R2:=λx y H Q=>∃d e,Rep K H x d/\Rep K H y e/\SeqAt.shaped d=true/\SeqAt.shaped e=true/\Q (.bl (if neg then !PyData.eqv d e else PyData.eqv d e)) H
def fF (hu:X.A.units + 64 < cLine):jT X (compareOp .Eq) (EA X.K false):=by
 intro pins s σ H x y v u Q I rx ry h
 obtain⟨d,e,h1,h2,s1,s2,q⟩:=h
 obtain⟨as,r1⟩:=h1.reads I rx
 obtain⟨bs,r2⟩:=h2.reads I ry
 exact SeqAt.compareEq_shaped r1 r2 s1 s2 hu ⟨.bl _,H,I,rfl,q⟩
def dI (hu:X.A.units + 64 < cLine):jT X (compareOp .NotEq) (EA X.K true):=by
 intro pins s σ H x y v u Q I rx ry h
 obtain⟨d,e,h1,h2,s1,s2,q⟩:=h
 obtain⟨as,r1⟩:=h1.reads I rx
 obtain⟨bs,r2⟩:=h2.reads I ry
 exact SeqAt.compareNe_shaped r1 r2 s1 s2 hu ⟨.bl _,H,I,rfl,q⟩
def ED (K:Frag)(neg:Bool):R2:=λx y H Q=>∃p xs d ds,y=.ref p/\(iw K H p xs\/fy K H p xs)/\j0 K H xs ds/\Rep K H x d/\SeqAt.shaped d=true/\(∀e,e∈ds->SeqAt.shaped e=true)/\
 Q (.bl (if neg then !(ds.any λe=>PyData.eqv e d) else ds.any λe=>PyData.eqv e d)) H
theorem j0.at' {K:Frag}:∀{xs:List V} {ds:List PyData} {i:Nat} {x:V},j0 K H xs ds->xs[i]? =some x->∃d,ds[i]? =some d/\Rep K H x d
 |_,_,_,_,.nil,e=>by simp at e
 |_,_,0,_,.cons r _,e=>by simp at e;subst e;exact⟨_,rfl,r⟩
 |_,_,i + 1,x,.cons _ t,e=>by
  obtain⟨u,h1,h2⟩:=j0.at' (i:=i) (x:=x) t (by simpa using e)
  exact⟨u,by simpa using h1,h2⟩
open Classical in
theorem lP (I:Inv X pins σ H s)(d:PyData):∀{xs:List V} {us:List Value} {ds:List PyData},Vals xs us->j0 X.K H xs ds->(∀e,e∈ds->SeqAt.shaped e=true)->∃f:Value->Bool,us.any f=(ds.any λe=>PyData.eqv e d)/\∀u,u∈us->∃e as,e∈ds/\Reads s.heap u e as/\f u=PyData.eqv e d:=by
 intro xs us ds hv hr hs
 let f:Value->Bool:=λu=>if h:∃e as,SeqAt.shaped e=true/\Reads s.heap u e as then PyData.eqv (Classical.choose h) d else false
 have hf:∀{u:Value} {e:PyData} {as:List Addr},SeqAt.shaped e=true->Reads s.heap u e as->f u=PyData.eqv e d:=λ{u e as} h1 h2=>by
  have hx:∃e as,SeqAt.shaped e=true/\Reads s.heap u e as:=⟨e,as,h1,h2⟩
  show (if h:∃e as,SeqAt.shaped e=true/\Reads s.heap u e as then PyData.eqv (Classical.choose h) d else false)=_
  rw[dif_pos hx]
  obtain⟨bs,q1,q2⟩:=Classical.choose_spec hx
  rw[SeqAt.Reads.unique _ _ _ _ _ (LK q1) q2 h2]
 refine⟨f,?_,?_⟩
 ·induction hv generalizing ds with
  |nil=>cases hr;rfl
  | @cons x u xs us r1 r2 ih=>
   cases hr with
   | @cons _ _ e es h1 h2=>
    obtain⟨as,q⟩:=h1.reads I r1
    rw[Ma,Ma,hf (hs e (Ku ..)) q,ih h2 λz hz=>hs z (Kr _ hz)]
 ·intro u hu
  obtain⟨i,hi,e0⟩:=L5.mp hu
  have hi':i < xs.length:=by rw[hv.length];exact hi
  obtain⟨u',eu,ru⟩:=hv.get (Kh hi')
  rw[Kh hi,e0] at eu
  cases eu
  obtain⟨e,ee,re⟩:=j0.at' hr (Kh hi')
  obtain⟨as,q⟩:=re.reads I ru
  have hm:=KA ee
  exact⟨e,as,hm,q,hf (hs e hm) q⟩
def wo (hu:X.A.units + 100 < cLine):jT X (compareOp .In) (ED X.K false):=by
 intro pins s σ H x y v u Q I rx ry h
 obtain⟨p,xs,d,ds,rfl,hq,hs,hx,s1,s2,q⟩:=h
 cases ry
 obtain⟨bs,r2⟩:=hx.reads I rx
 have key:∀{e:PyData} {as:List Addr} {u:Value},SeqAt.shaped e=true->Reads s.heap u e as->SeqAt.EqAt X.A.in1 s u v (PyData.eqv e d):=λ{e as u} h1 h2=>by
  refine SeqAt.eqAt_reads _ _ _ _ _ _ _ _ h2 r2 (LK h1) (LK s1) ?_
  have:=SeqAt.depth_of_shaped h1
  show X.A.units + 1 + _ < _
  omega
 rcases hq with hq |hq
 ·obtain⟨its,r,pl,hz⟩:=I.list hq
  obtain⟨f,e1,e2⟩:=lP I d r hs s2
  refine SeqAt.in_listAt f pl.isList (λw hw=>?_) ⟨.bl _,H,I,rfl,?_⟩
  ·obtain⟨e,as,hm,rd,ef⟩:=e2 w (by simpa using hw)
   rw[ef];exact key (s2 e hm) rd
  ·rw[show its.toArray.any f=its.any f by simp,e1];exact q
 ·obtain⟨its,r,pl,hz⟩:=I.tuple hq
  obtain⟨f,e1,e2⟩:=lP I d r hs s2
  refine SeqAt.in_tupleAt f pl (λw hw=>?_) ⟨.bl _,H,I,rfl,?_⟩
  ·obtain⟨e,as,hm,rd,ef⟩:=e2 w (by simpa using hw)
   rw[ef];exact key (s2 e hm) rd
  ·rw[show its.toArray.any f=its.any f by simp,e1];exact q
inductive CO (K:Frag)(H:Hp):V->String->Prop
 |non:CO K H .non "NoneType"
 |bl (b:Bool):CO K H (.bl b) "bool"
 |int (i:Int):CO K H (.int i) "int"
 |str (x:Str):CO K H (.str x) "str"
 |tup {a:Addr} {xs:List V}:fy K H a xs->CO K H (.ref a) "tuple"
 |lst {a:Addr} {xs:List V}:iw K H a xs->CO K H (.ref a) "list"
 |dic {a:Addr} {kvs:List (Key×V)}:H a=some (.dK kvs)->CO K H (.ref a) "dict"
def Jd (K:Frag):List V->Hp->VK->Prop:=λxs H Q=>∃x T t b,xs= [x,.ty T]/\CO K H x t/\PySem.W.kitOne K (.type t) (.type T)=some b/\Q (.bl b) H
theorem BE:fD X (.builtin "isinstance") (Jd X.K):=by
 intro pins s σ H xs us Q I r h
 obtain⟨x,T,t,b,rfl,ty,e,q⟩:=h
 obtain⟨u,c,rfl,rx,rc⟩:=vals2 r
 cases rc
 have fin:∀tk,EP X pins σ Q (.bool b) {s with toks:=tk}:=λtk=>⟨.bl b,H,I.tok tk,rfl,q⟩
 cases ty with
 |non=>exact ja I rx .non e fin
 |bl b=>exact ja I rx (.bl b) e fin
 |int i=>exact ja I rx (.int i) e fin
 |str z=>exact ja I rx (.str z) e fin
 |dic hk=>exact ja I rx (.dK hk) e fin
 |tup hq=>
  cases rx
  obtain⟨its,rv,⟨o,h1,h2,_⟩,_⟩:=I.tuple hq
  exact K9 PySem.W.kitx_tuple I.kIn ⟨o,h1,h2⟩ e (λz=>nomatch z) fin
 |lst hq=>
  cases rx
  obtain⟨its,rv,pl,_⟩:=I.list hq
  obtain⟨o,h1,h2,_⟩:=pl.isList
  exact K9 PySem.W.kitx_list I.kIn ⟨o,h1,h2⟩ e (λz=>nomatch z) fin
def uc {A:Around}{its:List Value}{bs:List Bool}(hv:Vals (bs.map V.bl) its):TruthOf X.prog X.w A (λi v=>its[i]? =some v) (λi=>bs.getD i false):=λi v s Q E hi hq=>by
 have hl:=hv.length
 have hi2:i < bs.length:=by
  have:=(KJ.mp hi).1
  rw[<-hl] at this;simpa using this
 obtain⟨u,eu,ru⟩:=hv.get (i:=i) (x:=.bl bs[i]) (by simp[hi2])
 rw[hi] at eu;cases eu
 cases ru
 refine Ln ?_
 have:bs.getD i false=bs[i]:=by simp[hi2]
 rw[<-this];exact hq
theorem range_all (bs:List Bool):(List.range bs.length).all (λi=>bs.getD i false)=bs.all id:=by
 induction bs with
 |nil=>rfl
 |cons b bs ih=>
  rw[KW,List.range_succ_eq_map,all_cons,all_map,all_cons,<-ih]
  rfl
theorem range_any (bs:List Bool):(List.range bs.length).any (λi=>bs.getD i false)=bs.any id:=by
 induction bs with
 |nil=>rfl
 |cons b bs ih=>
  rw[KW,List.range_succ_eq_map,Ma,List.any_map,Ma,<-ih]
  rfl
def v5 (K:Frag)(f:List Bool->Bool):List V->Hp->VK->Prop:=λxs H Q=>∃a bs,xs= [.ref a]/\iw K H a (bs.map V.bl)/\Q (.bl (f bs)) H
def o4 (hc:X.calm=true){a:Addr}{bs:List Bool}{Q:VK}(I:Inv X pins σ H s)(hq:iw X.K H a (bs.map V.bl)){f:List Bool->Bool}{g:(Nat->Bool)->Nat->Bool}(hfg:g (λi=>bs.getD i false) bs.length=f bs)(q:Q (.bl (f bs)) H) :
  wpAny (model X.prog X.w) X.A.in1 (pyIter (.ref a)) (λit s2=>∃Ii fp wr n P St tr,it=.ref Ii/\Walks X.prog X.w X.A.in1 Ii fp wr n P St/\St 0 s2.heap/\TruthOf X.prog X.w X.A.in1 P tr/\
   ∀h' tk,(∀b o,b∉wr->s2.heap.get? b=some o->h'.get? b=some o)->EP X pins σ Q (.bool (g tr n)) {s2 with heap:=h',toks:=tk}) X.xe s:=by
 obtain⟨its,rv,pl,hz⟩:=I.list hq
 have hh:X.A.in1.handled=none:=I.ok.hd hc
 have hlen:its.length=bs.length:=by rw[<-rv.length];simp
 obtain⟨o,ho,_⟩:=id pl.isList
 refine MC pl.isList ?_
 have W:=Walks.list (prog:=X.prog) (w:=X.w) hh s.heap.objs.size a (K3 (Ky ho)) its.toArray
 refine⟨s.heap.objs.size,_,_,_,_,_,λi=>bs.getD i false,rfl,W,⟨⟨_,KL _ rfl,rfl,rfl⟩,pl.isList.push _⟩,?_,λh' tk k=>?_⟩
 ·have:=uc (X:=X) (A:=X.A.in1) rv
  simpa using this
 ·have e:its.toArray.size=bs.length:=by simpa using hlen
  rw[e,hfg]
  have I1:Inv X pins σ H {s with heap:=s.heap.push {cls:=.type "list_iterator",data:=.fields #[.ref a,.int 0 0]}}:=I.kept (t':=s.toks) λb o e=>Kk _ e
  have hf:H s.heap.objs.size=none:=I.hok.fresh (Kj _)
  have fp:=I.fpOk (H':=H) (b:=s.heap.objs.size) (Kj _) hf
  refine⟨.bl _,H,I1.turned (it:=s.heap.objs.size) (t':=tk) (λb o hb e=>k b o (by simpa using hb) e) hf fp.2.1 fp.2.2.2.1 fp.2.2.2.2.1 fp.2.2.2.2.2,rfl,q⟩
def fC (hc:X.calm=true):fD X (.builtin "all") (v5 X.K λbs=>bs.all id):=by
 intro pins s σ H xs us Q I r h
 obtain⟨a,bs,rfl,hq,q⟩:=h
 obtain⟨u,rfl,rx⟩:=vals1 r
 cases rx
 exact call_all_walk (o4 hc I hq (f:=λbs=>bs.all id) (g:=λtr n=>(List.range n).all tr) (range_all bs) q)
def zZ (hc:X.calm=true):fD X (.builtin "any") (v5 X.K λbs=>bs.any id):=by
 intro pins s σ H xs us Q I r h
 obtain⟨a,bs,rfl,hq,q⟩:=h
 obtain⟨u,rfl,rx⟩:=vals1 r
 cases rx
 exact call_any_walk (o4 hc I hq (f:=λbs=>bs.any id) (g:=λtr n=>(List.range n).any tr) (range_any bs) q)
def Ab:fD X (.type "range") (λxs H Q=>∃n:Int,xs= [.int n]/\∀p,H p=none->Q (.ref p) (upd H p (.jP 0 n))):=by
 intro pins s σ H xs us Q I r h
 obtain⟨n,rfl,q⟩:=h
 obtain⟨u,rfl,rx⟩:=vals1 r
 obtain⟨t,rfl⟩:=rx
 refine call_range_1 ⟨.ref s.heap.objs.size,upd H s.heap.objs.size (.jP 0 n),?_,rfl,q _ (I.hok.fresh (Kj _))⟩
 exact I.laid (λb o e=>Kk _ e) (Kj _) ⟨_,_,_,KL _ rfl⟩
def p8 (hc:X.calm=true):fD X (.type "list") (λxs H Q=>∃p n,xs= [.ref p]/\H p=some (.jP 0 n)/\0<=n/\n<=1000/\∀l,H l=none->Q (.ref l) (upd H l (.lst ((List.range n.toNat).map λ(i:Nat)=>V.int (i:Int))))):=by
 intro pins s σ H xs us Q I r h
 obtain⟨p,n,rfl,hp,h0,h1,q⟩:=h
 obtain⟨u,rfl,rx⟩:=vals1 r
 cases rx
 obtain⟨t,u,v,hr⟩:∃t u v,s.heap.get? p=some {cls:=.type "range",data:=.fields #[.int 0 t,.int n u,.int 1 v]}:=I.hok p _ hp
 have hsz:Builtin.Range.rangeSize 0 n 1=(n.toNat:Int):=by rw[rangeSize_one];split <;> omega
 refine call_list_range (I.ok.hd hc) hr (small_one (by omega) (by omega) (by omega) (by omega)) hsz (by omega) λh' tk acc c k hS hacc=>?_
 have hv:Vals ((List.range n.toNat).map λ(i:Nat)=>V.int (i:Int)) acc.toList:=by
  have key:∀(m:Nat) (us:List Value) (j:Nat),us.length=m->(∀(i:Nat) (v:Value),us[i]? =some v->∃t,v=Value.int ((j + i:Nat):Int) t)->Vals ((List.range' j m).map λ(i:Nat)=>V.int (i:Int)) us:=by
   intro m
   induction m with
   |zero=>intro us j hl _;cases us with
    |nil=>exact .nil
    |cons a b=>simp at hl
   |succ m ih=>
    intro us j hl hh
    cases us with
    |nil=>simp at hl
    |cons u us=>
     rw[List.range'_succ,LD]
     refine .cons (by have:=hh 0 u rfl;simp at this;exact this) (ih us (j + 1) (by simpa using hl) λi v hi=>?_)
     obtain⟨t,e⟩:=hh (i + 1) v (by simpa using hi)
     exact⟨t,by rw[e];congr 2;omega⟩
  have:=key n.toNat acc.toList 0 (by simpa using hacc.1) λi v hi=>by
   obtain⟨t,e⟩:=hacc.2 i v (by simpa using hi)
   exact⟨t,by rw[e];simp⟩
  rw[List.range_eq_range'];exact this
 refine⟨.ref s.heap.objs.size,_,I.laid (t':=tk) k (Kj _) (show cB X.prog X.w _ h' _ (.lst _) from⟨by simp;rw[K1];omega,acc.toList,c,hv,by simpa using hS⟩),rfl,q _ (I.hok.fresh (Kj _))⟩
end
def Rc (h:Heap)(e:Addr)(cls:Value)(T:Addr)(fl:Value):Prop:=∃oe vs oT ts,h.get? e=some oe/\oe.cls=cls/\oe.dict=none/\oe.data=.fields vs/\vs[1]? =some (.ref T)/\vs[2]? =some .none/\T≠e/\h.get? T=some oT/\oT.data=.fields ts/\ts[3]? =some fl
abbrev Keeps (F:List Addr)(ch:List Addr)(h h':Heap):Prop:=∀b o,h.get? b=some o->b∉F->b∉ch->h'.get? b=some o
abbrev Slots (F:List Addr)(h h':Heap):Prop:=∀b o,h.get? b=some o->b∈F->∃sl,h'.get? b=some {o with slots:=sl}
section
variable {M:Model}{A:Around}{E:Value->Shared->Prop}{s:Shared}{base:Heap}{env:Env}{outer:List Env}{L e:Addr}{cls:Value}{Q:Unit->Shared->Prop}
def zr {oe:Obj}{vs:Array Value}{head:Value}{hadNext:Bool}(hfr:A.frames=some (env :: outer))(hl:s.heap.FunFrames base (env :: outer))(hf:env.frame=some L)(he:s.heap.get? e=some oe)(hc:oe.cls=cls)(hdd:oe.dict=none)(hd:oe.data=.fields vs)(hsz:1 < vs.size)(h2:vs[2]? =some .none)
  (h:∀h' T,Keeps (i8 (env :: outer)) [e] s.heap h'->Slots (i8 (env :: outer)) s.heap h'->s.heap.get? T=none->Rc h' e cls T (rawInt L)->Q () {s with heap:=h'}) :
  wpAny M A (do let a <-frameOf env;let pl <-entryPlaceOf L hadNext;let b <-EntryCells.newEntry head a .none (rawInt L) .none pl;setField (.ref e) 1 b) Q E s:=by
 have eF:e∉i8 (env :: outer):=λz=>by
  obtain⟨_,o,q,n⟩:=hl.mem z
  rw[he] at q;cases q;exact n _ hd
 refine Ki (wpAny_frameOf_fun hfr hl hf λh1 s1=>?_)
 refine Ki (wpAny_entryPlaceOf λpl hpl=>?_)
 unfold EntryCells.newEntry newFields
 refine Ki (Lo ?_ (hpl.sizeOk5 _ _ _ _ _))
 have e1:h1.get? e=some oe:=(s1.2.1 e eF).trans he
 have e2:=Kk (h:=h1) {cls:=.type "traceback",dict:=none,data:=.fields ([head,.ref L,.none,rawInt L,.none] ++ (if pl.isEmpty then List.replicate 6 Value.none else pl)).toArray} e1
 have tn:h1.objs.size≠e:=Nat.ne_of_gt (Ky e1)
 refine MB e2 hd hsz (h _ h1.objs.size (λb o q hb hn=>?_) (λb o q hb=>?_) ?_ ?_)
 ·have hbe:b≠e:=by simpa using hn
  have q1:h1.get? b=some o:=(s1.2.1 b hb).trans q
  rw[Lq _ _ (Ne.symm hbe)]
  exact Kk _ q1
 ·obtain⟨sl,q1⟩:=s1.2.2 b o q
  have hbe:b≠e:=λz=>eF (z▸hb)
  refine⟨sl,?_⟩
  rw[Lq _ _ (Ne.symm hbe)]
  exact Kk _ q1
 ·cases q:s.heap.get? h1.objs.size with
  |none=>rfl
  |some o=>obtain⟨sl,q1⟩:=s1.2.2 _ o q;exact absurd (Ky q1) (K5 _)
 ·have d3:=Mz hd (·.setIfInBounds 1 (Value.ref h1.objs.size))
  have e3:=Mk (Obj.mapFields (·.setIfInBounds 1 (Value.ref h1.objs.size))) e2 (Obj.isFreed_of_fields d3)
  refine⟨_,_,_,_,e3,(Obj.cls_mapFields _ _).trans hc,?_,d3,by simp[hsz],by rw[Array.getElem?_setIfInBounds_ne (by omega)];exact h2,tn,(Lq _ _ (Ne.symm tn)).trans (KL h1 rfl),rfl,?_⟩
  ·unfold Obj.mapFields
   split <;> exact hdd
  ·rcases hpl with rfl | ⟨_,_,_,_,_,_,_,rfl⟩ <;> simp
def vW {oe:Obj}{vs:Array Value}(hfr:A.frames=some (env :: outer))(hl:s.heap.FunFrames base (env :: outer))(hf:env.frame=some L)(he:s.heap.get? e=some oe)(hc:oe.cls=cls)(hdd:oe.dict=none)(hd:oe.data=.fields vs)(h1:vs[1]? =some .none)(h2:vs[2]? =some .none)
  (h:∀h' T,Keeps (i8 (env :: outer)) [e] s.heap h'->Slots (i8 (env :: outer)) s.heap h'->s.heap.get? T=none->Rc h' e cls T (rawInt L)->Q () {s with heap:=h'}):wpAny M A (noteFrame (.ref e) env) Q E s:=by
 unfold noteFrame
 simp only[hf]
 refine Ki (LJ he hd h1 ?_)
 rw[Kw (by decide)]
 exact zr hfr hl hf he hc hdd hd (L1.mp h1).1 h2 h
def yE {T0:Addr}(hfr:A.frames=some (env :: outer))(hl:s.heap.FunFrames base (env :: outer))(hf:env.frame=some L)(r:Rc s.heap e cls T0 .none)
  (h:∀h' T,Keeps (i8 (env :: outer)) [e,T0] s.heap h'->Slots (i8 (env :: outer)) s.heap h'->(s.heap.get? T=none\/T=T0)->Rc h' e cls T (rawInt L)->Q () {s with heap:=h'}):wpAny M A (noteFrame (.ref e) env) Q E s:=by
 obtain⟨oe,vs,oT,ts,he,hc,hdd,hd,h1,h2,hTe,hT,hdT,h3⟩:=r
 have tF:T0∉i8 (env :: outer):=λz=>by
  obtain⟨_,o,q,n⟩:=hl.mem z
  rw[hT] at q;cases q;exact n _ hdT
 unfold noteFrame
 simp only[hf]
 refine Ki (LJ he hd h1 ?_)
 rw[Kl (show (Value.ref T0 != Value.none)=true from by simp)]
 refine Ki (LJ hT hdT h3 ?_)
 rw[Kw (show ¬((Value.none == rawInt L)=true) from by simp[rawInt])]
 refine Ki (MB hT hdT (L1.mp h3).1 ?_)
 have oth:∀b,b≠T0->(s.heap.update T0 (Obj.mapFields (·.setIfInBounds 3 Value.none))).get? b=s.heap.get? b:=λb hb=>Lq _ _ (Ne.symm hb)
 have nf:∀b o,s.heap.get? b=some o->(∀ws,o.data≠.fields ws)->b≠T0:=λb o q n z=>by
  rw[z,hT] at q;cases q;exact n _ hdT
 refine zr (base:=base) hfr (hl.of_keeps λb o q n=>⟨o,(oth b (nf b o q n)).trans q,rfl⟩) hf ((oth e (Ne.symm hTe)).trans he) hc hdd hd (L1.mp h1).1 h2 λh' T kp sl tn rc=>?_
 refine h h' T (λb o q hb hn=>?_) (λb o q hb=>?_) ?_ rc
 ·simp only[Ks,K0,LL,not_or] at hn
  exact kp b o ((oth b hn.2).trans q) hb (by simp[hn.1])
 ·exact sl b o ((oth b λz=>tF (z▸hb)).trans q) hb
 ·by_cases z:T=T0
  ·exact .inr z
  ·exact .inl ((oth T z).symm.trans tn)
def wX {T:Addr}{fl:Value}(r:Rc s.heap e cls T fl)(h:∀h',Keeps [] [T] s.heap h'->Rc h' e cls T .none->Q () {s with heap:=h'}):wpAny M A (setFlight (.ref e) none) Q E s:=by
 obtain⟨oe,vs,oT,ts,he,hc,hdd,hd,h1,h2,hTe,hT,hdT,h3⟩:=r
 have sz:3 < ts.size:=(L1.mp h3).1
 unfold setFlight
 refine Ki (LJ he hd h1 ?_)
 rw[Kl (show (Value.ref T != Value.none)=true from by simp)]
 refine MB hT hdT sz (h _ (λb o q _ hn=>?_) ?_)
 ·have hb:b≠T:=by simpa using hn
  exact (Lq _ _ (Ne.symm hb)).trans q
 ·have d3:=Mz hdT (·.setIfInBounds 3 ((none:Option Addr).elim Value.none λf=>rawInt f))
  exact⟨oe,vs,_,_,(Lq _ _ hTe).trans he,hc,hdd,hd,h1,h2,hTe,Mk _ hT (Obj.isFreed_of_fields d3),d3,by simp[sz]⟩
end
section
variable {P:Program}{w:World}
theorem cB.there {H:Hp}{h:Heap}{a:Addr}{o:HO}(x:cB P w H h a o):∃u,h.get? a=some u:=by
 cases o with
 |lst xs=>obtain⟨_,_,_,_,e⟩:=x;exact⟨_,e⟩
 |tup xs=>obtain⟨_,_,_,u,e,_⟩:=x;exact⟨u,e⟩
 |dK kvs=>obtain⟨_,_,_,_,o,_,_,e,_⟩:=x;exact⟨_,e⟩
 |dT kvs=>obtain⟨_,_,_,_,o,_,_,e,_⟩:=x;exact⟨_,e⟩
 |set S n=>obtain⟨o,_,_,_,e,_⟩:=x;exact⟨_,e⟩
 |ins C dx fs=>obtain⟨_,_,_,e,_⟩:=x;exact⟨_,e⟩
 |own y=>obtain⟨_,e⟩:=x;exact⟨_,e⟩
 |xd fs=>obtain⟨_,⟨_,_,_,e,_⟩,_⟩:=x;exact⟨_,e⟩
 |jP lo hi=>obtain⟨_,_,_,e⟩:=x;exact⟨_,e⟩
 |ba ob u=>obtain⟨e,_⟩:=x;exact⟨_,e⟩
 |tbl ps=>exact⟨_,show h.get? a=some _ from x⟩
 |met f y=>exact⟨_,show h.get? a=some _ from x⟩
 |ext φ=>obtain⟨_,⟨_,e⟩,_⟩:=x;exact⟨_,e⟩
end
structure Lies (h₀:Heap)(H:Hp)(h:Heap)(e:Addr)(cls:Value):Prop where
 free:H e=none
 new:h₀.get? e=none
 ob:∃T,Rc h e cls T .none/\H T=none/\h₀.get? T=none
def mS (P:Program)(w:World):yb:=λouter H s E e s'=>∃ea cls H',e=.ref ea/\s'.os=s.os/\AllBare s'.gens/\Un (i8 outer) [] H H' s.heap s'.heap/\ky P w H' s'.heap/\Lies s.heap H' s'.heap ea cls/\E cls none H'
section
variable {P:Program}{w:World}{M:Model}{A:Around}{E':Value->Shared->Prop}{s:Shared}{env:Env}{outer:List Env}{L e:Addr}{cls:Value}{base h₀:Heap}{H:Hp}{Q:Unit->Shared->Prop}
def tZ {h h':Heap}(hok:ky P w H h)(k:∀b o,h.get? b=some o->(∃u,H b=some u)->h'.get? b=some o):ky P w H h':=λa o ha=>
 (hok a o ha).stay (λb u hb q=>k b u q (hb.elim (λz=>⟨o,by rw[z];exact ha⟩) λz=>⟨_,z⟩)) (λ_ q=>q) λ_ _ q=>q
def zk (hfr:A.frames=some (env :: outer))(hf:env.frame=some L)(hfn:s.heap.FunFrames base (env :: outer))(hok:ky P w H s.heap)(hff:∀b∈i8 (env :: outer),H b=none)(Ly:Lies h₀ H s.heap e cls)(hex:∀b o,h₀.get? b=some o->∃o',s.heap.get? b=some o')
  (hQ:∀h',(∀b o,s.heap.get? b=some o->b∉i8 (env :: outer)->((∃o0,h₀.get? b=some o0)\/∃u,H b=some u)->h'.get? b=some o)->(∀b o,s.heap.get? b=some o->b∈i8 (env :: outer)->∃sl,h'.get? b=some {o with slots:=sl})->Lies h₀ H h' e cls->ky P w H h'->Q () {s with heap:=h'}) :
  wpAny M A (leaving env (.ref e)) Q E' s:=by
 obtain⟨fr,nw,T0,rc,hHT,hnT⟩:=Ly
 obtain⟨oe,vs,oT,ts,he,hc,hdd,hd,h1,h2,hTe,hT,hdT,h3⟩:=id rc
 have tF:T0∉i8 (env :: outer):=λz=>by
  obtain⟨_,o,q,n⟩:=hfn.mem z
  rw[hT] at q;cases q;exact n _ hdT
 unfold leaving
 refine Ki (yE hfr hfn hf rc λh4 T kp sl tn rc4=>wX rc4 λh5 kp5 rc5=>?_)
 have nT:∀b o,s.heap.get? b=some o->b≠T0->b≠T:=λb o q n z=>by
  rcases tn with tn |tn
  ·rw[z,tn] at q;cases q
  ·exact n (z.trans tn)
 have kept:∀b o,s.heap.get? b=some o->b∉i8 (env :: outer)->((∃o0,h₀.get? b=some o0)\/∃u,H b=some u)->h5.get? b=some o:=λb o q hb hor=>by
  have be:b≠e:=λz=>by subst z;rcases hor with⟨_,z⟩ | ⟨_,z⟩ <;> simp_all
  have bT:b≠T0:=λz=>by subst z;rcases hor with⟨_,z⟩ | ⟨_,z⟩ <;> simp_all
  exact kp5 b o (kp b o q hb (by simp[be,bT])) (by simp) (by simp[nT b o q bT])
 have slot:∀b o,s.heap.get? b=some o->b∈i8 (env :: outer)->∃sl,h5.get? b=some {o with slots:=sl}:=λb o q hb=>by
  obtain⟨x,q4⟩:=sl b o q hb
  exact⟨x,kp5 b _ q4 (by simp) (by simp[nT b o q λz=>tF (z▸hb)])⟩
 have fresh:H T=none/\h₀.get? T=none:=by
  rcases tn with tn |tn
  ·refine⟨?_,?_⟩
   ·cases q:H T with
    |none=>rfl
    |some u=>obtain⟨o,qo⟩:=(hok T u q).there;rw[tn] at qo;cases qo
   ·cases q:h₀.get? T with
    |none=>rfl
    |some u=>obtain⟨o,qo⟩:=hex T u q;rw[tn] at qo;cases qo
  ·rw[tn];exact⟨hHT,hnT⟩
 refine hQ h5 kept slot ⟨fr,nw,T,rc5,fresh.1,fresh.2⟩ (tZ hok λb o q hu=>kept b o q (λz=>?_) (.inr hu))
 obtain⟨u,hu⟩:=hu
 rw[hff b z] at hu;cases hu
def wx {h:Heap}{args:List Value}(hfr:A.frames=some (env :: outer))(hf:env.frame=some L)(hfn:h.FunFrames base (env :: outer))(hok:ky P w H h)(hff:∀b∈i8 (env :: outer),H b=none)(hex:∀b o,h₀.get? b=some o->∃o',h.get? b=some o')(hx:Heap.MadeExcOf h s.heap e cls args)
  (hQ:∀h',(∀b o,h.get? b=some o->b∉i8 (env :: outer)->h'.get? b=some o)->(∀b o,h.get? b=some o->b∈i8 (env :: outer)->∃sl,h'.get? b=some {o with slots:=sl})->Lies h₀ H h' e cls->ky P w H h'->Q () {s with heap:=h'}) :
  wpAny M A (leaving env (.ref e)) Q E' s:=by
 obtain⟨t,he,_,_⟩:=hx.there
 unfold leaving
 refine Ki (vW (cls:=cls) hfr (hfn.of_keeps λb o q _=>⟨o,hx.keeps b o q,rfl⟩) hf he rfl rfl rfl rfl rfl λh4 T kp sl tn rc4=>wX rc4 λh5 kp5 rc5=>?_)
 have ne:∀b o,h.get? b=some o->b≠e:=λb o q z=>by rw[z,hx.new] at q;cases q
 have nT:∀b o,h.get? b=some o->b≠T:=λb o q z=>by
  have:=hx.keeps b o q
  rw[z,tn] at this;cases this
 have kept:∀b o,h.get? b=some o->b∉i8 (env :: outer)->h5.get? b=some o:=λb o q hb=>kp5 b o (kp b o (hx.keeps b o q) hb (by simp[ne b o q])) (by simp) (by simp[nT b o q])
 have slot:∀b o,h.get? b=some o->b∈i8 (env :: outer)->∃sl,h5.get? b=some {o with slots:=sl}:=λb o q hb=>by
  obtain⟨x,q4⟩:=sl b o (hx.keeps b o q) hb
  exact⟨x,kp5 b _ q4 (by simp) (by simp[nT b o q])⟩
 have fresh:∀{b:Addr},h.get? b=none->H b=none/\h₀.get? b=none:=λ{b} hb=>by
  refine⟨?_,?_⟩
  ·cases q:H b with
   |none=>rfl
   |some u=>obtain⟨o,qo⟩:=(hok b u q).there;rw[hb] at qo;cases qo
  ·cases q:h₀.get? b with
   |none=>rfl
   |some u=>obtain⟨o,qo⟩:=hex b u q;rw[hb] at qo;cases qo
 have no:h.get? T=none:=by
  cases q:h.get? T with
  |none=>rfl
  |some o=>exact absurd rfl (nT T o q)
 obtain⟨f1,f2⟩:=fresh hx.new
 obtain⟨g1,g2⟩:=fresh no
 refine hQ h5 kept slot ⟨f1,f2,T,rc5,g1,g2⟩ (tZ hok λb o q hu=>kept b o q λz=>?_)
 obtain⟨u,hu⟩:=hu
 rw[hff b z] at hu;cases hu
end
section
variable {P:Program}{w:World}{K:Frag}{mg:Str->Option Value}{base:Heap}{N:List Str}{qual:Str}{scope:Scope}{f:Addr}{cd:Value}{A:Around}{outer:List Env}{s0:Shared}{H0:Hp}{E:XK}
def a8:Passes (mS P w) (kM (mS P w) P w K mg base N qual scope f cd A outer s0 H0 E) E:=by
 intro pins σ H s e s' I hcx
 obtain⟨ea,cls,H',rfl,os,bare,un,hok,Ly,q⟩:=hcx
 have I':=I.call' os un hok bare (λb hb=>absurd hb (by simp))
 have old:∀{b:Addr},s.heap.get? b=none->s0.heap.get? b=none:=λ{b} hb=>by
  cases z:s0.heap.get? b with
  |none=>rfl
  |some o=>obtain⟨o',z'⟩:=I.base.there b o z (show b∉([]:List Addr) by simp);rw[hb] at z';cases z'
 have Ly0:Lies s0.heap H' s'.heap ea cls:=by
  obtain⟨fr,nw,T,rc,hHT,hnT⟩:=Ly
  exact⟨fr,old nw,T,rc,hHT,old hnT⟩
 have above:s0.heap.objs.size<=(envOfC qual scope s0.heap.objs.size f cd).locals:=I.ok.above
 refine zk (base:=base) (h₀:=s0.heap) I'.ok.frames rfl I'.stack I'.hok I'.stkFree Ly0 (λb o z=>I'.base.there b o z (show b∉([]:List Addr) by simp)) λh' kept slot Ly' hok'=>?_
 have nL:∀{b:Addr} {o:Obj},s0.heap.get? b=some o->b∉i8 outer->b∉i8 (envOfC qual scope s0.heap.objs.size f cd :: outer):=λ{b o} z hb hm=>by
  rcases Ks.mp (I'.stkSub b hm) with e |e
  ·have:=Ky z
   rw[e] at this
   exact absurd (KS this above) (K5 _)
  ·exact hb e
 have inn:∀{b:Addr},b∈i8 outer->b∈i8 (envOfC qual scope s0.heap.objs.size f cd :: outer):=λ{b} hb=>by
  obtain⟨en,h1,h2⟩:=LW.mp hb
  exact LW.mpr ⟨en,Kr _ h1,h2⟩
 refine⟨ea,cls,H',rfl,os.trans I.os,bare,⟨λb o z n hb _=>?_,λb o z n hb _=>?_,λb o z n _=>I'.base.free b o z n (show b∉([]:List Addr) by simp),λb o z _=>?_,I'.base.tups,I'.base.frzs,I'.base.tbls⟩,hok',Ly',q⟩
 ·exact kept b o (I'.base.keep b o z n hb (show b∉([]:List Addr) by simp)) (nL z hb) (.inl ⟨o,z⟩)
 ·obtain⟨sl,z1⟩:=I'.base.slot b o z n hb (show b∉([]:List Addr) by simp)
  obtain⟨sl2,z2⟩:=slot b _ z1 (inn hb)
  exact⟨sl2,z2⟩
 ·obtain⟨o',z1⟩:=I'.base.there b o z (show b∉([]:List Addr) by simp)
  by_cases hb:b∈i8 (envOfC qual scope s0.heap.objs.size f cd :: outer)
  ·obtain⟨sl,z2⟩:=slot b o' z1 hb
   exact⟨_,z2⟩
  ·exact⟨o',kept b o' z1 hb (.inl ⟨o,z⟩)⟩
def Fh (C:Addr)(E:XK)(t:TA):TS:=λ_ σ H=>t σ H λvs H1=>vs.length<=sizeLine/\E (.ref C) none H1
def Ae {x:Str}{C:Addr}{np cpos pos:Pos}{e0:Expr}{es:List Expr}{t:TA}{Bn newId initId:String}{bmB:List Value}(FB:ExcBaseFacts Bn newId initId bmB)(hbb:bmB.contains (.type "BaseException")=true)(q:PySem.W.excIn K C bmB newId=true)
  (hg:Gl (kM (mS P w) P w K mg base N qual scope f cd A outer s0 H0 E) x) (hm:mg x=some (.ref C)) (ha:PA (kM (mS P w) P w K mg base N qual scope f cd A outer s0 H0 E) (e0 :: es) t)
  (he:starEach (e0 :: es) (envOfC qual scope s0.heap.objs.size f cd)=(false,eval e0 (envOfC qual scope s0.heap.objs.size f cd)) :: starEach es (envOfC qual scope s0.heap.objs.size f cd):=by rfl)
  (hpl:(backTo cpos (starEach es (envOfC qual scope s0.heap.objs.size f cd))).any (·.1)=false:=by rfl) (hdb:(x == ("__debug__":Str))=false:=by decide) :
  PS (kM (mS P w) P w K mg base N qual scope f cd A outer s0 H0 E) (.Raise (some (.Call (.Name x np) (e0 :: es) [] cpos)) none pos) (Fh C E t):=by
 intro pins s σ H D I h
 have own:∀{hh:Heap},K.In hh->∃bm Nn nm qn bs hdct sn sub ab col dd k0 k1 k2 k3 k5 mN,hh.get? C=some (excClassObj nm qn C Nn bs bm hdct sn sub ab col dd k0 k1 k2 k3 k5 newId)/\hh.Ns Nn mN/\mN "__init__"=none/\OwnTail hh bmB bm:=λ{hh} X=>by
  have q:=q
  unfold PySem.W.excIn at q
  split at q
  ·rename_i dd cdd sl ho
   split at q
   ·rename_i C' bm k0 k1 k2 k3 n k5 hm hs
    simp only[Km,beq_iff_eq,Mi] at q
    obtain⟨⟨⟨⟨⟨rfl,rfl⟩,hdel⟩,ht⟩,hok⟩,hni⟩:=q
    obtain⟨nm,bs,mro,ns,qn,hd,sn,sub,ab,col,del⟩:=cdd
    dsimp only at hm hdel hok hni
    subst hm hdel
    have hsl:sl=#[k0,k1,k2,k3,some (.builtin n),k5]:=by
     obtain⟨l⟩:=sl
     simp only at hs
     rw[hs]
    subst hsl
    exact⟨bm,ns,nm,qn,bs,hd,sn,sub,ab,col,dd,k0,k1,k2,k3,k5,_,X _ _ ho,.of_isNs (PySem.W.isNs_of_in X hok),PySem.W.nsMap_none_of_in X hok hni,PySem.W.tail_of_in X ht⟩
   ·cases q
  ·cases q
 obtain⟨bm,Nn,nm,qn,bs,hdct,sn,sub,ab,col,dd,k0,k1,k2,k3,k5,mN,hC,hN,hni,TL⟩:=own I.ok.mod.kin
 have hA:=ha cpos pins s σ H _ I h
 refine wpAny_Raise_call_subT (C:=C) (nm:=nm) (q:=qn) (N:=Nn) (bs:=bs) (bm:=bm) (hdct:=hdct) (sn:=sn) (sub:=sub) (ab:=ab) (col:=col) (dd:=dd) (k0:=k0) (k1:=k1) (k2:=k2) (k3:=k3) (k5:=k5) FB (mN:=mN) (TL.hasType hbb) (I.ok.hd rfl) ?_ hni (sx I hg hm ⟨rfl,?_⟩ hdb)
 ·show (backTo cpos (starEach (e0 :: es) (envOfC qual scope s0.heap.objs.size f cd))).any (·.1)=false
  rw[he]
  show (false || (backTo cpos (starEach es (envOfC qual scope s0.heap.objs.size f cd))).any (·.1))=false
  rw[hpl];rfl
 have hA:wpAny _ _ (spliced (backTo cpos (starEach (e0 :: es) (envOfC qual scope s0.heap.objs.size f cd)))) _ _ s:=hA
 show wpAny _ _ (evalArgs (.ref C) true (backTo cpos (starEach (e0 :: es) (envOfC qual scope s0.heap.objs.size f cd))) []) _ _ s
 rw[he] at hA ⊢
 refine Calls.evalArgs_plain (cq hA λus s2 ⟨vs,H2,I2,r2,hl2,q2⟩=>⟨rfl,by show us.length<=_;rw[<-r2.length];exact hl2,I2.bk _ _ hC,hN.keeps I2.bk,TL.keeps I2.bk,λh' e hx=>?_⟩)
 have above:s0.heap.objs.size<=(envOfC qual scope s0.heap.objs.size f cd).locals:=I2.ok.above
 have nil:∀b:Addr,b∉([]:List Addr):=λb=>by simp
 refine wx (s:={s2 with heap:=h'}) (h:=s2.heap) (base:=base) (h₀:=s0.heap) I2.ok.frames rfl I2.stack I2.hok I2.stkFree (λb o z=>I2.base.there b o z (nil b)) hx λh2 kept slot Ly hok=>?_
 have nL:∀{b:Addr} {o:Obj},s0.heap.get? b=some o->b∉i8 outer->b∉i8 (envOfC qual scope s0.heap.objs.size f cd :: outer):=λ{b o} z hb hm=>by
  rcases Ks.mp (I2.stkSub b hm) with e |e
  ·have:=Ky z
   rw[e] at this
   exact absurd (KS this above) (K5 _)
  ·exact hb e
 have inn:∀{b:Addr},b∈i8 outer->b∈i8 (envOfC qual scope s0.heap.objs.size f cd :: outer):=λ{b} hb=>by
  obtain⟨en,h1,h2⟩:=LW.mp hb
  exact LW.mpr ⟨en,Kr _ h1,h2⟩
 refine⟨e,.ref C,H2,rfl,I2.os,I2.bare,⟨λb o z n hb _=>?_,λb o z n hb _=>?_,λb o z n _=>I2.base.free b o z n (nil b),λb o z _=>?_,I2.base.tups,I2.base.frzs,I2.base.tbls⟩,hok,Ly,q2⟩
 ·exact kept b o (I2.base.keep b o z n hb (nil b)) (nL z hb)
 ·obtain⟨sl,z1⟩:=I2.base.slot b o z n hb (nil b)
  obtain⟨sl2,z2⟩:=slot b _ z1 (inn hb)
  exact⟨sl2,z2⟩
 ·obtain⟨o',z1⟩:=I2.base.there b o z (nil b)
  by_cases hb:b∈i8 (envOfC qual scope s0.heap.objs.size f cd :: outer)
  ·obtain⟨sl,z2⟩:=slot b o' z1 hb
   exact⟨_,z2⟩
  ·exact⟨o',kept b o' z1 hb⟩
end
def mroIn (K:Frag)(C:Addr):List Value:=match K.lookup C with
 |some ⟨_,_,.cls cd,_⟩=>cd.mro
 |_=>[]
structure AL (k:Nat)(A:Around):Prop where
 dp:A.depth + 3 * k + 5 < recursionLimit
 un:A.units + 16 * k + 200 < cLine
 gd:A.guards=some []
def fY.h {k:Nat}{A:Around}(r:fY k A):AL k A:=⟨r.dp,r.un,r.gd⟩
def AL.units {k:Nat}{A:Around}(r:AL k A):A.units + 64 < cLine:=by have:=r.un;omega
section
variable {P:Program}{w:World}{K:Frag}{mg:Str->Option Value}{base:Heap}
def BJ.D3 {x qual:Str}{st:Stmt}{f:Addr}{fd:FuncData}{N ps:List Str}{k:Nat}{sp:Sp}(F:BJ K x qual st f fd)(S:aL N ps (av st))(len:∀vs H Q E,sp vs H Q E->vs.length=ps.length)
  (hbody:∀(cdv:Value) (A:Around) (outer:List Env) (s:Shared) (H:Hp) (vs:List V) (Q:VK) (E:XK),fY k (A.deeper (envOfC qual (av st) s.heap.objs.size f cdv))->sp vs H Q E->
   ∃t,ql (kM (mS P w) P w K mg base N qual (av st) f cdv A outer s H E) (dY st) t/\t {nx:=λ_ H'=>Q .non H',rt:=Q} (start N vs) H):fL P w K mg base (mS P w) (k + 1) f fd ps sp:=by
 obtain⟨oc,od,kV,doc,pm,an,cdv,ct,osl,rfl,lk,hcd⟩:=F.ex
 exact DE lk hcd S len λA outer s H vs Q E hr hsp=>hbody cdv A outer s H vs Q E hr hsp
end
section
variable {X:Cx}
def jl (hu:X.A.units + 100 < cLine):jT X (compareOp .NotIn) (ED X.K true):=by
 intro pins s σ H x y v u Q I rx ry h
 obtain⟨p,xs,d,ds,rfl,hq,hs,hx,s1,s2,q⟩:=h
 cases ry
 obtain⟨bs,r2⟩:=hx.reads I rx
 have key:∀{e:PyData} {as:List Addr} {u:Value},SeqAt.shaped e=true->Reads s.heap u e as->SeqAt.EqAt X.A.in1 s u v (PyData.eqv e d):=λ{e as u} h1 h2=>by
  refine SeqAt.eqAt_reads _ _ _ _ _ _ _ _ h2 r2 (LK h1) (LK s1) ?_
  have:=SeqAt.depth_of_shaped h1
  show X.A.units + 1 + _ < _
  omega
 rcases hq with hq |hq
 ·obtain⟨its,r,pl,hz⟩:=I.list hq
  obtain⟨f,e1,e2⟩:=lP I d r hs s2
  refine SeqAt.notIn_listAt f pl.isList (λw hw=>?_) ⟨.bl _,H,I,rfl,?_⟩
  ·obtain⟨e,as,hm,rd,ef⟩:=e2 w (by simpa using hw)
   rw[ef];exact key (s2 e hm) rd
  ·rw[show its.toArray.any f=its.any f by simp,e1];exact q
 ·obtain⟨its,r,pl,hz⟩:=I.tuple hq
  obtain⟨f,e1,e2⟩:=lP I d r hs s2
  refine SeqAt.notIn_tupleAt f pl (λw hw=>?_) ⟨.bl _,H,I,rfl,?_⟩
  ·obtain⟨e,as,hm,rd,ef⟩:=e2 w (by simpa using hw)
   rw[ef];exact key (s2 e hm) rd
  ·rw[show its.toArray.any f=its.any f by simp,e1];exact q
end
abbrev D:=PyData
def kD:Key->D
 | .inl i=>.int i
 | .inr x=>.str x
mutual
inductive Rp (K:Frag)(G:Hp):V->D->Prop
 |non:Rp K G .non .none
 |bl (b:Bool):Rp K G (.bl b) (.bool b)
 |int (i:Int):Rp K G (.int i) (.int i)
 |str (x:Str):Rp K G (.str x) (.str x)
 |tup {a:Addr} {xs:List V} {ds:List D}:fy K G a xs->cn K G xs ds->Rp K G (.ref a) (.tuple ds)
 |lst {a:Addr} {xs:List V} {ds:List D}:G a=some (.lst xs)->cn K G xs ds->Rp K G (.ref a) (.list ds)
 |scr {a:Addr} {ns:List Int}:iw K G a (ns.map V.int)->Rp K G (.ref a) (.dict [(.none,.list (ns.map int))])
 |dK {a:Addr} {kvs:List (Key×V)} {ds:List (D×D)}:G a=some (.dK kvs)->yg K G kvs ds->Rp K G (.ref a) (.dict ds)
 |dT {a:Addr} {kvs:List (List Key×V)} {ds:List (D×D)}:G a=some (.dT kvs)->y0 K G kvs ds->Rp K G (.ref a) (.dict ds)
inductive cn (K:Frag)(G:Hp):List V->List D->Prop
 |nil:cn K G [] []
 |cons {x:V} {xs:List V} {d:D} {ds:List D}:Rp K G x d->cn K G xs ds->cn K G (x :: xs) (d :: ds)
inductive yg (K:Frag)(G:Hp):List (Key×V)->List (D×D)->Prop
 |nil:yg K G [] []
 |cons {k:Key} {x:V} {xs:List (Key×V)} {d:D} {ds:List (D×D)}:Rp K G x d->yg K G xs ds->yg K G ((k,x) :: xs) ((kD k,d) :: ds)
inductive y0 (K:Frag)(G:Hp):List (List Key×V)->List (D×D)->Prop
 |nil:y0 K G [] []
 |cons {k:List Key} {x:V} {xs:List (List Key×V)} {d:D} {ds:List (D×D)}:Rp K G x d->y0 K G xs ds->y0 K G ((k,x) :: xs) ((.tuple (k.map kD),d) :: ds)
end
section
variable {K:Frag}{G G' H H':Hp}
def Hg {b:Addr}{o:HO}(h:Kt H b o)(hu:∀ps,o≠.tbl ps):H b=some o:=by
 obtain⟨u,e,k,_⟩:=h.some
 rw[e,k hu]
theorem jY {a b:Addr}{o u:HO}(h:Kt H b u)(hb:b≠a)(ha:∀x y,H a≠some (.ba x y)):Kt (upd H a o) b u:=by
 cases u with
 |tbl ps=>
  obtain⟨m,e,k⟩:=h
  refine⟨m,by rw[aC hb];exact e,λc hc=>?_⟩
  obtain⟨x,ex,ix⟩:=k c hc
  exact⟨x,by rw[aC (λz=>ha x _ (z▸ex))];exact ex,ix⟩
 |_=>exact (aC hb).trans h
def Rd.mono {a:Addr}{u:HO}(h:Rd G a u)(s:au G G')(hu:∀ps,u≠.tbl ps:=by intro _ z;cases z):Rd G' a u:=h.elim (λe=>.inl (Hg (s _ _ e) hu)) λ⟨o,e⟩=>.inr ⟨o,s _ _ e⟩
mutual
theorem Rp.mono (s:au G G'):∀{x:V} {d:D},Rp K G x d->Rp K G' x d
 |_,_,.non=>.non
 |_,_,.bl b=>.bl b
 |_,_,.int i=>.int i
 |_,_,.str x=>.str x
 |_,_,.tup h hs=>.tup (h.grow s.grow) (cn.mono s hs)
 |_,_,.lst h hs=>.lst (s _ _ h) (cn.mono s hs)
 |_,_,.scr h=>.scr (s.seq h)
 |_,_,.dK h hs=>.dK (s _ _ h) (yg.mono s hs)
 |_,_,.dT h hs=>.dT (s _ _ h) (y0.mono s hs)
theorem cn.mono (s:au G G'):∀{xs:List V} {ds:List D},cn K G xs ds->cn K G' xs ds
 |_,_,.nil=>.nil
 |_,_,.cons h hs=>.cons (Rp.mono s h) (cn.mono s hs)
theorem yg.mono (s:au G G'):∀{xs:List (Key×V)} {ds:List (D×D)},yg K G xs ds->yg K G' xs ds
 |_,_,.nil=>.nil
 |_,_,.cons h hs=>.cons (Rp.mono s h) (yg.mono s hs)
theorem y0.mono (s:au G G'):∀{xs:List (List Key×V)} {ds:List (D×D)},y0 K G xs ds->y0 K G' xs ds
 |_,_,.nil=>.nil
 |_,_,.cons h hs=>.cons (Rp.mono s h) (y0.mono s hs)
end
theorem cn.len:∀{xs:List V} {ds:List D},cn K G xs ds->xs.length=ds.length
 |_,_,.nil=>rfl
 |_,_,.cons _ t=>by simp[cn.len t]
theorem cn.at:∀{xs:List V} {ds:List D} {i:Nat} {d:D},cn K G xs ds->ds[i]? =some d->∃x,xs[i]? =some x/\Rp K G x d
 |_,_,_,_,.nil,e=>by simp at e
 |_,_,0,_,.cons r _,e=>by simp at e;subst e;exact⟨_,rfl,r⟩
 |_,_,i + 1,x,.cons _ t,e=>by
  obtain⟨u,h1,h2⟩:=cn.at (i:=i) (d:=x) t (by simpa using e)
  exact⟨u,by simpa using h1,h2⟩
theorem cn.at':∀{xs:List V} {ds:List D} {i:Nat} {x:V},cn K G xs ds->xs[i]? =some x->∃d,ds[i]? =some d/\Rp K G x d
 |_,_,_,_,.nil,e=>by simp at e
 |_,_,0,_,.cons r _,e=>by simp at e;subst e;exact⟨_,rfl,r⟩
 |_,_,i + 1,x,.cons _ t,e=>by
  obtain⟨u,h1,h2⟩:=cn.at' (i:=i) (x:=x) t (by simpa using e)
  exact⟨u,by simpa using h1,h2⟩
theorem cn.append:∀{xs ys:List V} {ds es:List D},cn K G xs ds->cn K G ys es->cn K G (xs ++ ys) (ds ++ es)
 |_,_,_,_,.nil,s=>s
 |_,_,_,_,.cons r t,s=>.cons r (cn.append t s)
def cn.snoc {xs:List V}{ds:List D}{x:V}{d:D}(h:cn K G xs ds)(q:Rp K G x d):cn K G (xs ++ [x]) (ds ++ [d]):=h.append (.cons q .nil)
theorem cn.take:∀{xs:List V} {ds:List D} (n:Nat),cn K G xs ds->cn K G (xs.take n) (ds.take n)
 |_,_,0,_=>.nil
 |_,_,_ + 1,.nil=>.nil
 |_,_,n + 1,.cons r t=>.cons r (cn.take n t)
theorem cn.drop:∀{xs:List V} {ds:List D} (n:Nat),cn K G xs ds->cn K G (xs.drop n) (ds.drop n)
 |_,_,0,r=>r
 |_,_,_ + 1,.nil=>.nil
 |_,_,n + 1,.cons _ t=>cn.drop n t
theorem cn.set {x:V}{d:D}(r:Rp K G x d):∀{xs:List V} {ds:List D} (i:Nat),cn K G xs ds->cn K G (xs.set i x) (ds.set i d)
 |_,_,_,.nil=>.nil
 |_,_,0,.cons _ t=>.cons r t
 |_,_,i + 1,.cons q t=>.cons q (cn.set r i t)
theorem cn.rep {n:Nat}{xs:List V}{ds:List D}(h:cn K G xs ds):cn K G (List.replicate n xs).flatten (List.replicate n ds).flatten:=by
 induction n with
 |zero=>exact .nil
 |succ n ih=>rw[LI,LI,L4,L4];exact h.append ih
mutual
def y9:D->Bool
 | .dict _=>false
 | .list ds=>pO ds
 | .tuple ds=>pO ds
 |_=>true
def pO:List D->Bool
 | []=>true
 |d :: ds=>y9 d && pO ds
end
mutual
theorem Rp.rep:∀{x:V} {d:D},Rp K G x d->y9 d=true->Rep K G x d
 |_,_,.non,_=>.non
 |_,_,.bl b,_=>.bl b
 |_,_,.int i,_=>.int i
 |_,_,.str x,_=>.str x
 |_,_,.tup h hs,e=>.tup h (cn.reps hs (by simpa[y9] using e))
 |_,_,.lst h hs,e=>.lst (.inl (.inl h)) (cn.reps hs (by simpa[y9] using e))
 |_,_,.scr _,e=>by simp[y9] at e
 |_,_,.dK _ _,e=>by simp[y9] at e
 |_,_,.dT _ _,e=>by simp[y9] at e
theorem cn.reps:∀{xs:List V} {ds:List D},cn K G xs ds->pO ds=true->j0 K G xs ds
 |_,_,.nil,_=>.nil
 |_,_,.cons h hs,e=>.cons (Rp.rep h (by simp[pO] at e;exact e.1)) (cn.reps hs (by simp[pO] at e;exact e.2))
end
def Own (K:Frag)(G H:Hp)(a:Addr):D->Prop
 | .list ds=>∃xs,H a=some (.lst xs)/\cn K G xs ds
 | .dict ds=>(∃kvs,H a=some (.dK kvs)/\yg K G kvs ds)\/∃kvs,H a=some (.dT kvs)/\y0 K G kvs ds
 |_=>False
def Own.obj {a:Addr}{d:D}(h:Own K G H a d):∃o,H a=some o:=by
 cases d <;> first |exact h.elim |skip
 ·obtain⟨xs,e,_⟩:=h;exact⟨_,e⟩
 ·rcases h with⟨_,e,_⟩ | ⟨_,e,_⟩ <;> exact⟨_,e⟩
def Own.mono {a:Addr}{d:D}(h:Own K G H a d)(s:au G G')(m:∀o,H a=some o->Kt H' a o):Own K G' H' a d:=by
 cases d <;> first |exact h.elim |skip
 ·obtain⟨xs,e,r⟩:=h;exact⟨xs,m _ e,r.mono s⟩
 ·rcases h with⟨k,e,r⟩ | ⟨k,e,r⟩
  ·exact .inl ⟨k,m _ e,r.mono s⟩
  ·exact .inr ⟨k,m _ e,r.mono s⟩
def Own.rp {a:Addr}{d:D}(h:Own K G H a d)(n:G a=none){G':Hp}(s:au G G')(e:∀o,H a=some o->G' a=some o):Rp K G' (.ref a) d:=by
 cases d <;> first |exact h.elim |skip
 ·obtain⟨xs,q,r⟩:=h;exact .lst (e _ q) (r.mono s)
 ·rcases h with⟨k,q,r⟩ | ⟨k,q,r⟩
  ·exact .dK (e _ q) (r.mono s)
  ·exact .dT (e _ q) (r.mono s)
def kW (K:Frag)(B:Option Addr)(G H:Hp)(v:V)(d:D):Prop:=Rp K G v d\/∃a,v=.ref a/\B≠some a/\Own K G H a d
def iC (B:Option Addr)(H H':Hp):Prop:=(∀b o,H b=some o->B≠some b->Kt H' b o)/\∀b o u,H b=some (.ba o u)->H' b=some (.ba o u)
def iC.refl (B:Option Addr)(H:Hp):iC B H H:=⟨λ_ _ h _=>Kt.of h,λ_ _ _ h=>h⟩
theorem v8 {B:Option Addr}{b:Addr}{o:HO}(h1:Kt H b o)(y:iC B H H')(n:B≠some b):Kt H' b o:=by
 cases o with
 |tbl ps=>
  obtain⟨m,e,k⟩:=h1
  obtain⟨m2,e2,k2⟩:=y.1 b _ e n
  refine⟨m ++ m2,by rw[e2,Array.append_assoc],λc hc=>?_⟩
  rw[Array.toList_append,KI] at hc
  rcases hc with hc |hc
  ·obtain⟨o,eo,io⟩:=k c hc;exact⟨o,y.2 c _ _ eo,io⟩
  ·exact k2 c hc
 |_=>exact y.1 b _ h1 n
def iC.trans {B:Option Addr}{H1:Hp}(x:iC B H H1)(y:iC B H1 H'):iC B H H':=⟨λb o h n=>v8 (x.1 b o h n) y n,λb o u h=>y.2 b o u (x.2 b o u h)⟩
def au.mov (s:au H H')(B:Option Addr):iC B H H':=⟨λb o h _=>s b o h,λb o u h=>s b _ h⟩
def kW.mono {B:Option Addr}{v:V}{d:D}(h:kW K B G H v d)(s:au G G')(m:iC B H H'):kW K B G' H' v d:=by
 rcases h with h | ⟨a,e,n,h⟩
 ·exact .inl (h.mono s)
 ·exact .inr ⟨a,e,n,h.mono s λo q=>m.1 a o q n⟩
def kW.rpH {B:Option Addr}{v:V}{d:D}(h:kW K B G H v d)(s:au G H):Rp K H v d:=by
 rcases h with h | ⟨a,rfl,n,h⟩
 ·exact h.mono s
 ·cases d <;> first |exact h.elim |skip
  ·obtain⟨xs,q,r⟩:=h;exact .lst q (r.mono s)
  ·rcases h with⟨k,q,r⟩ | ⟨k,q,r⟩
   ·exact .dK q (r.mono s)
   ·exact .dT q (r.mono s)
def kW.list {B:Option Addr}{v:V}{ds:List D}(h:kW K B G H v (.list ds))(s:au G H):∃a xs,v=.ref a/\Rd H a (.lst xs)/\cn K G xs ds:=by
 rcases h with h | ⟨a,rfl,n,xs,q,r⟩
 ·cases h with
  |lst h r=>exact⟨_,_,rfl,.inl (s _ _ h),r⟩
 ·exact⟨a,xs,rfl,.inl q,r⟩
def kW.tuple {B:Option Addr}{v:V}{ds:List D}(h:kW K B G H v (.tuple ds))(s:au G H):∃a xs,v=.ref a/\fy K H a xs/\cn K G xs ds:=by
 rcases h with h | ⟨a,rfl,n,h⟩
 ·cases h with
  |tup h r=>exact⟨_,_,rfl,h.grow s.grow,r⟩
 ·exact h.elim
def kW.int {B:Option Addr}{v:V}{i:Int}(h:kW K B G H v (.int i)):v=.int i:=by
 rcases h with h | ⟨a,rfl,n,h⟩
 ·cases h;rfl
 ·exact h.elim
def kW.bool {B:Option Addr}{v:V}{b:Bool}(h:kW K B G H v (.bool b)):v=.bl b:=by
 rcases h with h | ⟨a,rfl,n,h⟩
 ·cases h;rfl
 ·exact h.elim
def kW.str {B:Option Addr}{v:V}{x:Str}(h:kW K B G H v (.str x)):v=.str x:=by
 rcases h with h | ⟨a,rfl,n,h⟩
 ·cases h;rfl
 ·exact h.elim
def kW.none {B:Option Addr}{v:V}(h:kW K B G H v .none):v=.non:=by
 rcases h with h | ⟨a,rfl,n,h⟩
 ·cases h;rfl
 ·exact h.elim
end
def Fz:HO->Prop
 | .tup _=>True
 | .ba _ _=>True
 |_=>False
def Mx (H:Hp)(b:Addr):Prop:=H b≠none/\∀o,H b=some o->¬Fz o
def Mx.lst {H:Hp}{b:Addr}{xs:List V}(h:H b=some (.lst xs)):Mx H b:=⟨by rw[h];simp,λys z=>by rw[h] at z;cases z;exact λy=>y⟩
theorem Mx.same {H H':Hp}{b:Addr}(h:Mx H b)(m:∀o,H b=some o->Kt H' b o):Mx H' b:=by
 obtain⟨h1,h2⟩:=h
 cases e:H b with
 |none=>exact absurd e h1
 |some o=>
  obtain⟨u,eu,k1,k2⟩:=(m o e).some
  refine⟨by rw[eu];simp,λxs z=>?_⟩
  rw[eu] at z
  cases z
  by_cases c:∃ps,o=.tbl ps
  ·obtain⟨ps,e⟩:=k2 c;rw[e];exact λy=>y
  ·rw[k1 λps e=>c ⟨ps,e⟩];exact h2 o e
def Own.mx {K:Frag}{G H:Hp}{a:Addr}{d:D}(h:Own K G H a d):Mx H a:=by
 cases d <;> first |exact h.elim |skip
 ·obtain⟨xs,e,_⟩:=h;exact Mx.lst e
 ·rcases h with⟨k,e,_⟩ | ⟨k,e,_⟩ <;> exact⟨by rw[e];simp,λys z=>by rw[e] at z;cases z;exact λy=>y⟩
open Classical in
noncomputable def mD (G H:Hp):Hp:=λb=>match G b with
 |some o=>some o
 |none=>match H b with
  |some o=>if Fz o then some o else none
  |none=>none
def qC {G H:Hp}:au G (mD G H):=λb o e=>Kt.of (by unfold mD;rw[e])
theorem wU {G H:Hp}(s:au G H){b:Addr}{o:HO}(e:H b=some o)(f:Fz o):mD G H b=some o:=by
 unfold mD
 cases q:G b with
 |some u=>
  obtain⟨u',eu,k1,k2⟩:=(s b u q).some
  rw[e] at eu
  cases eu
  by_cases c:∃ps,u=.tbl ps
  ·obtain⟨ps,z⟩:=k2 c;subst z;exact f.elim
  ·rw[k1 λps z=>c ⟨ps,z⟩]
 |none=>simp only[e];rw[Kl f]
theorem uE {G H:Hp}(s:au G H):au (mD G H) H:=λb o e=>by
 unfold mD at e
 cases q:G b with
 |some u=>rw[q] at e;cases e;exact s b _ q
 |none=>
  rw[q] at e
  cases q2:H b with
  |none=>rw[q2] at e;cases e
  |some u=>
   rw[q2] at e
   dsimp only at e
   split at e
   ·cases e;exact Kt.of q2
   ·cases e
theorem xi {G H H':Hp}(hh:au H H'){b:Addr}(m:Mx H b):mD G H' b=G b:=by
 unfold mD
 cases q:G b with
 |some u=>rfl
 |none=>
  obtain⟨h1,h2⟩:=m
  cases e:H b with
  |none=>exact absurd e h1
  |some o=>
   have hm:=(show Mx H b from⟨h1,h2⟩).same (hh b)
   cases e2:H' b with
   |none=>rfl
   |some u=>simp only;rw[Kw (hm.2 u e2)]
def om {K:Frag}{G H:Hp}(s:au G H){a:Addr}{xs:List V}(h:fy K H a xs):fy K (mD G H) a xs:=by
 rcases h with (h | ⟨o,h⟩) |h
 ·exact .inl (.inl (wU s h trivial))
 ·exact .inl (.inr ⟨o,wU s h trivial⟩)
 ·exact .inr h
structure Fx where
 K:Frag
 H0:Hp
 G0:Hp
 par:List Addr
 ca:Str->Addr
 br:Nat->Bool
 bx:Option Addr
inductive Sl where
 |no |fz (d:D) |ow (d:D) |bx |br (d:D)
abbrev En:=List Sl
inductive Nv where
 |no |da (d:D) |bx
def Sl.val:Sl->Nv
 | .no=>.no
 | .fz d=>.da d
 | .ow d=>.da d
 | .br d=>.da d
 | .bx=>.bx
def vl (env:En):List Nv:=env.map Sl.val
def Jh (Γ:Fx)(B:Option Addr)(G H:Hp)(i:Nat)(o:Option (Option V)):Sl->Prop
 | .no=>True
 | .fz d=>∃v,o=some (some v)/\Rp Γ.K G v d
 | .ow d=>∃a,o=some (some (.ref a))/\Γ.H0 a=none/\G a=none/\B≠some a/\Own Γ.K G H a d
 | .bx=>∃a,o=some (some (.ref a))/\B=some a
 | .br d=>Γ.br i=true/\∃a,o=some (some (.ref a))/\B≠some a/\a∉Γ.par/\Own Γ.K G H a d
structure SR (Γ:Fx)(B:Option Addr)(G H:Hp)(σ:St)(env:En)(β:Int):Prop where
 sub:au G H
 old:au Γ.G0 G
 new:∀b,Mx Γ.H0 b->Γ.G0 b=none->G b=none
 keep:∀b o,Γ.H0 b=some o->b∉Γ.par->Kt H b o
 pin:∀b,b∈Γ.par->Mx H b
 fix:∀b,Γ.bx=some b->B=some b
 box:∀b,B=some b->H b=some (.lst [.int β])/\G b=none/\(b∈Γ.par\/Γ.H0 b=none)
 len:σ.length=env.length
 slot:∀(i:Nat) (s:Sl),env[i]? =some s->Jh Γ B G H i (σ[i]?) s
 sep:∀(i j:Nat) (a:Addr) (d e:D),env[i]? =some (.ow d)->env[j]? =some (.ow e)->σ[i]? =some (some (.ref a))->σ[j]? =some (some (.ref a))->i=j
structure Ext (G H G' H':Hp):Prop where
 hh:au H H'
 gg:au G G'
 gh:au G' H'
 on:∀b,Mx H b->G' b=G b
def Ext.refl {G H:Hp}(s:au G H):Ext G H G H:=⟨au.refl _,au.refl _,s,λ_ _=>rfl⟩
def Ext.tups {G H H':Hp}(s:au G H)(hh:au H H'):Ext G H (mD G H') H':=⟨hh,qC,uE (s.trans hh),λ_ m=>xi hh m⟩
def Ext.new {G H:Hp}(s:au G H){p:Addr}{o:HO}(h:H p=none):Ext G H (upd G p o) (upd H p o):=by
 refine⟨au.new h,au.new (s.free h),λb u e=>?_,λb hb=>?_⟩
 ·by_cases z:b=p
  ·subst z;rw[aB] at e;exact Kt.of (by rw[aB];exact e)
  ·rw[aC z] at e;exact jY (s b u e) z (λx y w=>by rw[h] at w;cases w)
 ·exact aC (λz=>hb.1 (by rw[z];exact h))
def Ext.own {G H:Hp}(s:au G H){p:Addr}{o:HO}(h:H p=none):Ext G H G (upd H p o):=
 ⟨au.new h,au.refl _,s.trans (au.new h),λ_ _=>rfl⟩
def Ext.trans {G H G1 H1 G2 H2:Hp}(x:Ext G H G1 H1)(y:Ext G1 H1 G2 H2):Ext G H G2 H2:=by
 refine⟨x.hh.trans y.hh,x.gg.trans y.gg,y.gh,λb hb=>?_⟩
 rw[y.on b (hb.same λo e=>x.hh b o e),x.on b hb]
section
variable {Γ:Fx}{B:Option Addr}{G H G' H':Hp}{σ:St}{env:En}{β:Int}
def SR.there (I:SR Γ B G H σ env β){b:Addr}(h:Γ.H0 b≠none):H b≠none:=by
 by_cases hp:b∈Γ.par
 ·exact (I.pin b hp).1
 ·cases e:Γ.H0 b with
  |none=>exact absurd e h
  |some o=>obtain⟨u,eu,_⟩:=(I.keep b o e hp).some;rw[eu];simp
def SR.thereM (I:SR Γ B G H σ env β){b:Addr}(h:Mx Γ.H0 b):Mx H b:=by
 by_cases hp:b∈Γ.par
 ·exact I.pin b hp
 ·exact h.same λo e=>I.keep b o e hp
def SR.ext (I:SR Γ B G H σ env β)(x:Ext G H G' H'):SR Γ B G' H' σ env β:=by
 refine⟨x.gh,I.old.trans x.gg,λb h1 h2=>?_,λb o h1 h2=>(I.keep b o h1 h2).step x.hh,λb hb=>?_,I.fix,λb e=>?_,I.len,λi s e=>?_,I.sep⟩
 ·rw[x.on b (I.thereM h1)];exact I.new b h1 h2
 ·exact (I.pin b hb).same λo e=>x.hh b o e
 ·obtain⟨h1,h2,h3⟩:=I.box b e
  exact⟨x.hh b _ h1,by rw[x.on b (Mx.lst h1)];exact h2,h3⟩
 ·have q:=I.slot i s e
  cases s with
  |no=>trivial
  |fz d=>obtain⟨v,h1,h2⟩:=q;exact⟨v,h1,h2.mono x.gg⟩
  |ow d=>
   obtain⟨a,h1,h2,h3,h4,h5⟩:=q
   exact⟨a,h1,h2,by rw[x.on a h5.mx];exact h3,h4,h5.mono x.gg λo q=>x.hh a o q⟩
  |bx=>exact q
  |br d=>obtain⟨b1,a,h1,h4,hp,h5⟩:=q;exact⟨b1,a,h1,h4,hp,h5.mono x.gg λo q=>x.hh a o q⟩
def jd (env:En)(i:Nat):En:=match env[i]? with
 |some (.ow d)=>env.set i (.fz d)
 |_=>env
def ba (L:List Nat)(env:En):En:=L.foldl jd env
def cm (L M:List Nat)(env:En):ba (L ++ M) env=ba M (ba L env):=by unfold ba;rw[List.foldl_append]
def v3 (env:En)(i:Nat)(s:Sl)(h:∀t,env[i]? =some t->t.val=s.val):vl (env.set i s)=vl env:=by
 unfold vl
 apply List.ext_getElem?
 intro j
 rw[KD,KD,List.getElem?_set]
 by_cases e:i=j
 ·subst e
  by_cases hi:i < env.length
  ·simp only[Lz,hi]
   have:=h _ (Kh hi)
   simp[Kh hi,this]
  ·simp only[Lz,hi,LG]
   rw[LZ (by omega)]
 ·simp[e]
def Cz (env:En)(i:Nat):vl (jd env i)=vl env:=by
 unfold jd
 split
 ·rename_i d e
  exact v3 _ _ _ λt ht=>by rw[e] at ht;cases ht;rfl
 ·rfl
theorem eQ (L:List Nat)(env:En):vl (ba L env)=vl env:=by
 unfold ba
 induction L generalizing env with
 |nil=>rfl
 |cons i L ih=>rw[List.foldl_cons,ih,Cz]
theorem DG {i:Nat}{d:D}(h:(vl env)[i]? =some (.da d)):env[i]? =some (.fz d)\/env[i]? =some (.ow d)\/env[i]? =some (.br d):=by
 unfold vl at h
 rw[KD] at h
 cases e:env[i]? with
 |none=>rw[e] at h;simp at h
 |some s=>
  rw[e] at h
  cases s with
  |no=>simp[Sl.val] at h
  |fz d'=>simp[Sl.val] at h;subst h;exact .inl rfl
  |ow d'=>simp[Sl.val] at h;subst h;exact .inr (.inl rfl)
  |bx=>simp[Sl.val] at h
  |br d'=>simp[Sl.val] at h;subst h;exact .inr (.inr rfl)
theorem He {i:Nat}(h:(vl env)[i]? =some .bx):env[i]? =some .bx:=by
 unfold vl at h
 rw[KD] at h
 cases e:env[i]? with
 |none=>rw[e] at h;simp at h
 |some s=>
  rw[e] at h
  cases s with
  |bx=>rfl
  |_=>simp[Sl.val] at h
def SR.freeze (I:SR Γ B G H σ env β)(i:Nat)(hb:Γ.br i=false){d:D}(h:(vl env)[i]? =some (.da d)):∃G' v,SR Γ B G' H σ (jd env i) β/\au G G'/\σ[i]? =some (some v)/\Rp Γ.K G' v d:=by
 rcases DG h with e |e |e
 ·obtain⟨v,h1,h2⟩:=I.slot i _ e
  exact⟨G,v,by unfold jd;rw[e];exact I,au.refl _,h1,h2⟩
 rotate_left
 ·obtain⟨z,_⟩:=I.slot i _ e
  rw[hb] at z;cases z
 ·obtain⟨a,h1,h2,h3,h4,h5⟩:=I.slot i _ e
  obtain⟨o,ho⟩:=h5.obj
  have sG:au G (upd G a o):=au.new h3
  have hi:i < env.length:=(KJ.mp e).1
  have hr:Rp Γ.K (upd G a o) (.ref a) d:=h5.rp h3 sG λo' q=>by rw[ho] at q;cases q;exact aB
  refine⟨upd G a o,.ref a,?_,sG,h1,hr⟩
  unfold jd
  rw[e]
  refine⟨λb u q=>?_,I.old.trans sG,λb n1 n2=>?_,I.keep,I.pin,I.fix,λb q=>?_,by rw[Lp];exact I.len,λj s q=>?_,λj k c d1 d2 q1 q2 q3 q4=>?_⟩
  ·by_cases z:b=a
   ·subst z;rw[aB] at q;cases q;exact Kt.of ho
   ·rw[aC z] at q;exact I.sub b u q
  ·rw[aC (λz=>n1.1 (by rw[z];exact h2))];exact I.new b n1 n2
  ·obtain⟨k1,k2,k3⟩:=I.box b q
   exact⟨k1,by rw[aC (λz=>h4 (by rw[<-z];exact q))];exact k2,k3⟩
  ·by_cases z:j=i
   ·subst z
    rw[KH hi] at q
    cases q
    exact⟨.ref a,h1,hr⟩
   ·rw[KG (Ne.symm z)] at q
    have w:=I.slot j s q
    cases s with
    |no=>trivial
    |fz d'=>obtain⟨v,w1,w2⟩:=w;exact⟨v,w1,w2.mono sG⟩
    |ow d'=>
     obtain⟨c,w1,w2,w3,w4,w5⟩:=w
     have ca:c≠a:=λz2=>z (I.sep j i c d' d q e w1 (by rw[z2];exact h1))
     exact⟨c,w1,w2,by rw[aC ca];exact w3,w4,w5.mono sG λo q=>Kt.of q⟩
    |bx=>exact w
    |br d'=>obtain⟨b1,c,w1,w4,wp,w5⟩:=w;exact⟨b1,c,w1,w4,wp,w5.mono sG λo q=>Kt.of q⟩
  ·have ne:∀{j:Nat} {d':D},(env.set i (Sl.fz d))[j]? =some (.ow d')->env[j]? =some (.ow d'):=λ{j d'} q=>by
    by_cases z:j=i
    ·subst z;rw[KH hi] at q;cases q
    ·rw[KG (Ne.symm z)] at q;exact q
   exact I.sep j k c d1 d2 (ne q1) (ne q2) q3 q4
theorem SR.ba (I:SR Γ B G H σ env β)(L:List Nat)(hb:∀i,i∈L->Γ.br i=false):∃G',SR Γ B G' H σ (ba L env) β/\au G G':=by
 induction L generalizing env G with
 |nil=>exact⟨G,I,au.refl _⟩
 |cons i L ih=>
  show ∃G',SR Γ B G' H σ (L2.ba L (jd env i)) β/\au G G'
  have key:∃G1,SR Γ B G1 H σ (jd env i) β/\au G G1:=by
   cases e:env[i]? with
   |none=>exact⟨G,by unfold jd;rw[e];exact I,au.refl _⟩
   |some s=>
    cases s with
    |ow d=>
     obtain⟨G1,v,h1,h2,_⟩:=I.freeze i (hb i (Ku ..)) (d:=d) (by unfold vl;rw[KD,e];rfl)
     exact⟨G1,h1,h2⟩
    |_=>exact⟨G,by unfold jd;rw[e];exact I,au.refl _⟩
  obtain⟨G1,I1,s1⟩:=key
  obtain⟨G2,I2,s2⟩:=ih I1 λj hj=>hb j (Kr _ hj)
  exact⟨G2,I2,s1.trans s2⟩
def SR.set (I:SR Γ B G H σ env β){i:Nat}(hi:i < env.length){v:V}{d:D}(h:Rp Γ.K G v d):SR Γ B G H (σ.set i (some v)) (env.set i (.fz d)) β:=by
 have hs:i < σ.length:=by rw[I.len];exact hi
 refine⟨I.sub,I.old,I.new,I.keep,I.pin,I.fix,I.box,by rw[Lp,Lp];exact I.len,λj s q=>?_,λj k c d1 d2 q1 q2 q3 q4=>?_⟩
 ·by_cases z:j=i
  ·subst z
   rw[KH hi] at q
   cases q
   exact⟨v,by rw[KH hs],h⟩
  ·rw[KG (Ne.symm z)] at q ⊢
   exact I.slot j s q
 ·have ne:∀{j:Nat} {d':D},(env.set i (Sl.fz d))[j]? =some (.ow d')->j≠i/\env[j]? =some (.ow d'):=λ{j d'} q=>by
   by_cases z:j=i
   ·subst z;rw[KH hi] at q;cases q
   ·rw[KG (Ne.symm z)] at q;exact⟨z,q⟩
  obtain⟨n1,e1⟩:=ne q1
  obtain⟨n2,e2⟩:=ne q2
  rw[KG (Ne.symm n1)] at q3
  rw[KG (Ne.symm n2)] at q4
  exact I.sep j k c d1 d2 e1 e2 q3 q4
def SR.setOw (I:SR Γ B G H σ env β){i:Nat}(hi:i < env.length){a:Addr}{d:D}(h0:Γ.H0 a=none)(hg:G a=none)(hb:B≠some a)(h:Own Γ.K G H a d)(hn:∀(j:Nat) (d':D),env[j]? =some (.ow d')->j≠i->σ[j]?≠some (some (.ref a))):SR Γ B G H (σ.set i (some (.ref a))) (env.set i (.ow d)) β:=by
 have hs:i < σ.length:=by rw[I.len];exact hi
 refine⟨I.sub,I.old,I.new,I.keep,I.pin,I.fix,I.box,by rw[Lp,Lp];exact I.len,λj s q=>?_,λj k c d1 d2 q1 q2 q3 q4=>?_⟩
 ·by_cases z:j=i
  ·subst z
   rw[KH hi] at q
   cases q
   exact⟨a,by rw[KH hs],h0,hg,hb,h⟩
  ·rw[KG (Ne.symm z)] at q ⊢
   exact I.slot j s q
 ·by_cases z1:j=i
  ·by_cases z2:k=i
   ·rw[z1,z2]
   ·subst z1
    rw[KG (Ne.symm z2)] at q2 q4
    rw[KH hs] at q3
    cases q3
    exact absurd q4 (hn k d2 q2 z2)
  ·by_cases z2:k=i
   ·subst z2
    rw[KG (Ne.symm z1)] at q1 q3
    rw[KH hs] at q4
    cases q4
    exact absurd q3 (hn j d1 q1 z1)
   ·rw[KG (Ne.symm z1)] at q1 q3
    rw[KG (Ne.symm z2)] at q2 q4
    exact I.sep j k c d1 d2 q1 q2 q3 q4
def SR.fresh (I:SR Γ B G H σ env β){a:Addr}(h:H a=none):Γ.H0 a=none/\G a=none/\B≠some a/\∀(j:Nat) (d:D),env[j]? =some (.ow d)->σ[j]?≠some (some (.ref a)):=by
 have hB:B≠some a:=λz=>by rw[(I.box a z).1] at h;cases h
 refine⟨?_,I.sub.free h,hB,λj d e z=>?_⟩
 ·cases e:Γ.H0 a with
  |none=>rfl
  |some o=>exact absurd h (I.there (by rw[e];simp))
 ·obtain⟨c,h1,_,_,_,h5⟩:=I.slot j _ e
  rw[z] at h1
  cases h1
  obtain⟨o,ho⟩:=h5.obj
  rw[h] at ho;cases ho
def SR.write (I:SR Γ B G H σ env β)(hb:∀j,Γ.br j=false){i:Nat}{a:Addr}{d d':D}{o:HO}(e:env[i]? =some (.ow d))(ea:σ[i]? =some (some (.ref a)))(h:∀H',H' a=some o->au G H'->Own Γ.K G H' a d'):SR Γ B G (upd H a o) σ (env.set i (.ow d')) β:=by
 obtain⟨a',h1,h2,h3,h4,h5⟩:=I.slot i _ e
 rw[ea] at h1;cases h1
 have hi:i < env.length:=(KJ.mp e).1
 have ha:∀x y,H a≠some (.ba x y):=λx y w=>h5.mx.2 _ w trivial
 have sub:au G (upd H a o):=λb u q=>jY (I.sub b u q) (λz=>by rw[z,h3] at q;cases q) ha
 refine⟨sub,I.old,I.new,λb u q n=>?_,λb q=>?_,I.fix,λb q=>?_,by rw[Lp];exact I.len,λj s q=>?_,λj k c d1 d2 q1 q2 q3 q4=>?_⟩
 ·exact jY (I.keep b u q n) (λz=>by rw[z,h2] at q;cases q) ha
 ·by_cases z:b=a
  ·subst z;exact (h _ aB sub).mx
  ·exact (I.pin b q).same λo e=>Kt.of (by rw[aC z];exact e)
 ·obtain⟨k1,k2,k3⟩:=I.box b q
  exact⟨by rw[aC (λz=>h4 (by rw[<-z];exact q))];exact k1,k2,k3⟩
 ·by_cases z:j=i
  ·subst z
   rw[KH hi] at q
   cases q
   exact⟨a,ea,h2,h3,h4,h _ aB sub⟩
  ·rw[KG (Ne.symm z)] at q
   have w:=I.slot j s q
   cases s with
   |no=>trivial
   |fz d1=>exact w
   |ow d1=>
    obtain⟨c,w1,w2,w3,w4,w5⟩:=w
    have ca:c≠a:=λz2=>z (I.sep j i c d1 d q e w1 (by rw[z2];exact ea))
    exact⟨c,w1,w2,w3,w4,w5.mono (au.refl _) λo q=>Kt.of (by rw[aC ca];exact q)⟩
   |bx=>exact w
   |br d1=>obtain⟨b1,_⟩:=w;rw[hb j] at b1;cases b1
 ·have back:∀{j:Nat} {d1:D},(env.set i (Sl.ow d'))[j]? =some (.ow d1)->∃d2,env[j]? =some (.ow d2):=λ{j d1} q=>by
   by_cases z:j=i
   ·subst z;exact⟨d,e⟩
   ·rw[KG (Ne.symm z)] at q;exact⟨d1,q⟩
  obtain⟨_,b1⟩:=back q1
  obtain⟨_,b2⟩:=back q2
  exact I.sep j k c _ _ b1 b2 q3 q4
end
inductive R (α:Type) where
 |ok (a:α) (β:Int)
 |exc (c:Str)
 |bad
def R.bnd {α γ:Type}(r:R α)(k:α->Int->R γ):R γ:=match r with
 | .ok a β=>k a β
 | .exc c=>.exc c
 | .bad=>.bad
def R.of {α:Type}(o:Option α)(β:Int):R α:=match o with
 |some a=>.ok a β
 |none=>.bad
abbrev VF (α:Type):=List Nv->Int->R α
def Kp (Γ:Fx)(H':Hp):Prop:=∀b o,Γ.H0 b=some o->b∉Γ.par->Kt H' b o
def Out {α:Type}(Γ:Fx)(E:XK)(r:R α)(P:α->Int->Prop):Prop:=match r with
 | .ok a β=>P a β
 | .exc c=>∀H',Kp Γ H'->E (.ref (Γ.ca c)) none H'
 | .bad=>False
section
variable {α γ:Type}{Γ:Fx}{E:XK}
theorem Out.bnd {r:R α}{k:α->Int->R γ}{P:γ->Int->Prop}(h:Out Γ E (r.bnd k) P):Out Γ E r λa β=>Out Γ E (k a β) P:=by
 cases r with
 |ok a β=>exact h
 |exc c=>exact h
 |bad=>exact h
theorem Out.imp {r:R α}{P P':α->Int->Prop}(h:Out Γ E r P)(i:∀a β,P a β->P' a β):Out Γ E r P':=by
 cases r with
 |ok a β=>exact i a β h
 |exc c=>exact h
 |bad=>exact h
theorem Out.of {o:Option α}{β:Int}{P:α->Int->Prop}(h:Out Γ E (R.of o β) P):∃a,o=some a/\P a β:=by
 cases o with
 |none=>exact h.elim
 |some a=>exact⟨a,rfl,h⟩
end
inductive Md where
 |b |v |w
def VO (K:Frag)(B:Option Addr)(H G' H':Hp):Md->D->V->Prop
 | .b,d,v=>kW K B G' H' v d
 | .v,d,v=>Rp K G' v d
 | .w,d,v=>∃a,v=.ref a/\H a=none/\G' a=none/\Own K G' H' a d
def pT (Γ:Fx)(E:XK)(f:VF D)(L:List Nat)(md:Md):TE:=λσ H Q=>∃env G B β,SR Γ B G H σ env β/\
 Out Γ E (f (vl env) β) λd β'=>∀v G' H',SR Γ B G' H' σ (ba L env) β'->au G G'->iC B H H'->VO Γ.K B H G' H' md d v->Q v H'
def SE (X:Cx)(Γ:Fx)(E:XK)(e:Expr)(f:VF D)(L:List Nat)(md:Md):Prop:=PE X e (pT Γ E f L md)
def qT (Γ:Fx)(E:XK)(f:VF Bool)(L:List Nat):TT:=λσ H Q=>∃env G B β,SR Γ B G H σ env β/\
 Out Γ E (f (vl env) β) λc β'=>∀G' H',SR Γ B G' H' σ (ba L env) β'->au G G'->iC B H H'->Q c H'
def xj (X:Cx)(Γ:Fx)(E:XK)(e:Expr)(f:VF Bool)(L:List Nat):Prop:=PT X e (qT Γ E f L)
def lV (X:Cx)(Γ:Fx)(E:XK)(e:Expr)(f:VF Bool)(L:List Nat):Prop:=PW X e (qT Γ E f L)
def aT (Γ:Fx)(E:XK)(f:VF (List D))(L:List Nat):TA:=λσ H Q=>∃env G B β,SR Γ B G H σ env β/\
 Out Γ E (f (vl env) β) λds β'=>∀vs G' H',SR Γ B G' H' σ (ba L env) β'->au G G'->iC B H H'->cn Γ.K G' vs ds->Q vs H'
def SA (X:Cx)(Γ:Fx)(E:XK)(es:List Expr)(f:VF (List D))(L:List Nat):Prop:=PA X es (aT Γ E f L)
def PE.post' {X:Cx}{e:Expr}{t u:TE}(h:PE X e t)(m:∀σ H Q,u σ H Q->t σ H Q):PE X e u:=λpins s σ H Q I q=>h pins s σ H Q I (m σ H Q q)
def PT.post {X:Cx}{e:Expr}{t u:TT}(h:PT X e t)(m:∀σ H Q,u σ H Q->t σ H Q):PT X e u:=λpins s σ H Q I q=>h pins s σ H Q I (m σ H Q q)
def PW.post {X:Cx}{e:Expr}{t u:TT}(h:PW X e t)(m:∀σ H Q,u σ H Q->t σ H Q):PW X e u:=λwh pins s σ H Q I q=>h wh pins s σ H Q I (m σ H Q q)
def PA.post {X:Cx}{es:List Expr}{t u:TA}(h:PA X es t)(m:∀σ H Q,u σ H Q->t σ H Q):PA X es u:=λpos pins s σ H Q I q=>h pos pins s σ H Q I (m σ H Q q)
def PS.post {X:Cx}{st:Stmt}{t u:TS}(h:PS X st t)(m:∀D σ H,u D σ H->t D σ H):PS X st u:=λpins s σ H D I q=>h pins s σ H D I (m D σ H q)
def dat:Option Nv->Option D
 |some (.da d)=>some d
 |_=>none
def gv (i:Nat):VF D:=λvs β=>R.of (dat vs[i]?) β
def cst (d:D):VF D:=λ_ β=>.ok d β
section
variable {X:Cx}{Γ:Fx}{E:XK}{e a b c:Expr}{f fa fb fc:VF D}{L La Lb Lc:List Nat}{md ma mb mc:Md}{pos:Pos}
theorem join_some {o:Option Nv}{d:D}(h:dat o=some d):o=some (.da d):=by
 cases o with
 |none=>cases h
 |some o=>cases o with
  |da x=>cases h;rfl
  |_=>cases h
def SR.letIn {B:Option Addr}{G H:Hp}{σ:St}{env:En}{β:Int}(I:SR Γ B G H σ env β){p:Addr}{d:D}(h0:Γ.H0 p=none)(hg:G p=none)(hb:B≠some p)(hn:∀(j:Nat) (d':D),env[j]? =some (.ow d')->σ[j]?≠some (some (.ref p)))(h:Own Γ.K G H p d) :
  ∃G',SR Γ B G' H σ env β/\au G G'/\Rp Γ.K G' (.ref p) d:=by
 obtain⟨o,ho⟩:=h.obj
 have sG:au G (upd G p o):=au.new hg
 refine⟨upd G p o,⟨λb u q=>?_,I.old.trans sG,λb n1 n2=>?_,I.keep,I.pin,I.fix,λb q=>?_,I.len,λj s q=>?_,I.sep⟩,sG,h.rp hg sG λo' q=>by rw[ho] at q;cases q;exact aB⟩
 ·by_cases z:b=p
  ·subst z;rw[aB] at q;cases q;exact Kt.of ho
  ·rw[aC z] at q;exact I.sub b u q
 ·rw[aC (λz=>n1.1 (by rw[z];exact h0))];exact I.new b n1 n2
 ·obtain⟨k1,k2,k3⟩:=I.box b q
  exact⟨k1,by rw[aC (λz=>hb (by rw[<-z];exact q))];exact k2,k3⟩
 ·have w:=I.slot j s q
  cases s with
  |no=>trivial
  |fz d'=>obtain⟨v,w1,w2⟩:=w;exact⟨v,w1,w2.mono sG⟩
  |ow d'=>
   obtain⟨c,w1,w2,w3,w4,w5⟩:=w
   have ca:c≠p:=λz2=>hn j d' q (by rw[<-z2];exact w1)
   exact⟨c,w1,w2,by rw[aC ca];exact w3,w4,w5.mono sG λo q=>Kt.of q⟩
  |bx=>exact w
  |br d'=>obtain⟨b1,c,w1,w4,wp,w5⟩:=w;exact⟨b1,c,w1,w4,wp,w5.mono sG λo q=>Kt.of q⟩
def xJ {env:En}{i j:Nat}{d:D}(h:(jd env i)[j]? =some (.ow d)):env[j]? =some (.ow d):=by
 unfold jd at h
 split at h
 ·rename_i d' e
  by_cases z:i=j
  ·subst z
   rw[KH (KJ.mp e).1] at h;cases h
  ·rw[KG z] at h;exact h
 ·exact h
theorem qX {L:List Nat}{env:En}{j:Nat}{d:D}(h:(ba L env)[j]? =some (.ow d)):env[j]? =some (.ow d):=by
 unfold ba at h
 induction L generalizing env with
 |nil=>exact h
 |cons i L ih=>exact xJ (ih h)
def SR.letW {B:Option Addr}{G H G' H':Hp}{σ:St}{env:En}{β β':Int}{L:List Nat}{d:D}{v:V}(I:SR Γ B G H σ env β)(I':SR Γ B G' H' σ (L2.ba L env) β')(h:VO Γ.K B H G' H' .w d v):∃G2,SR Γ B G2 H' σ (L2.ba L env) β'/\au G' G2/\Rp Γ.K G2 v d:=by
 obtain⟨p,rfl,h1,h2,h3⟩:=h
 obtain⟨q1,q2,q3,q4⟩:=I.fresh h1
 exact I'.letIn q1 h2 q3 (λj d' e=>q4 j d' (qX e)) h3
def SE.wv (h:SE X Γ E e f L .w):SE X Γ E e f L .v:=by
 refine PE.post' h λσ H Q ⟨env,G,B,β,I,o⟩=>⟨env,G,B,β,I,o.imp λd β' k v G' H' I' s m vo=>?_⟩
 obtain⟨G2,I2,s2,r⟩:=I.letW I' vo
 exact k v G2 H' I2 (s.trans s2) m r
theorem VO.brw {B:Option Addr}{H G' H':Hp}{d:D}{v:V}{K:Frag}(h:VO K B H G' H' md d v)(hB:∀x,B=some x->H x≠none):kW K B G' H' v d:=by
 cases md with
 |b=>exact h
 |v=>exact .inl h
 |w=>
  obtain⟨p,rfl,h1,h2,h3⟩:=h
  exact .inr ⟨p,rfl,λz=>hB p z h1,h3⟩
def SR.boxThere {B:Option Addr}{G H:Hp}{σ:St}{env:En}{β:Int}(I:SR Γ B G H σ env β):∀x,B=some x->H x≠none:=λx e=>by rw[(I.box x e).1];simp
def af (i:Nat){x:Str}(hN:X.N[i]? =some x:=by rfl)(hv:xO X.env.scope x:=by first |exact Or.inl rfl |exact Or.inr (Or.inl rfl) |exact Or.inr (Or.inr rfl))(hd:(x == ("__debug__":Str))=false:=by decide)
  (hcd:(x == ("__classdict__":Str))=false:=by decide):SE X Γ E (.Name x pos) (gv i) [] .b:=by
 refine PE.post' (kh hN hv hd hcd) λσ H Q ⟨env,G,B,β,I,o⟩=>?_
 obtain⟨d,e,k⟩:=o.of
 have e:=join_some e
 rcases DG e with q |q |q
 ·obtain⟨v,h1,h2⟩:=I.slot i _ q
  exact⟨v,h1,k v G H I (au.refl _) (iC.refl _ _) (.inl h2)⟩
 ·obtain⟨p,h1,h2,h3,h4,h5⟩:=I.slot i _ q
  exact⟨.ref p,h1,k _ G H I (au.refl _) (iC.refl _ _) (.inr ⟨p,rfl,h4,h5⟩)⟩
 ·obtain⟨_,p,h1,h4,_,h5⟩:=I.slot i _ q
  exact⟨.ref p,h1,k _ G H I (au.refl _) (iC.refl _ _) (.inr ⟨p,rfl,h4,h5⟩)⟩
def ax (i:Nat)(hb:Γ.br i=false){x:Str}(hN:X.N[i]? =some x:=by rfl)(hv:xO X.env.scope x:=by first |exact Or.inl rfl |exact Or.inr (Or.inl rfl) |exact Or.inr (Or.inr rfl))(hd:(x == ("__debug__":Str))=false:=by decide)
  (hcd:(x == ("__classdict__":Str))=false:=by decide):SE X Γ E (.Name x pos) (gv i) [i] .v:=by
 refine PE.post' (kh hN hv hd hcd) λσ H Q ⟨env,G,B,β,I,o⟩=>?_
 obtain⟨d,e,k⟩:=o.of
 obtain⟨G',v,I',s,h1,h2⟩:=I.freeze i hb (join_some e)
 exact⟨v,h1,k v G' H I' s (iC.refl _ _) h2⟩
def zb {v:V}{d:D}(h:PE X e (tC v))(r:∀G,Rp Γ.K G v d):SE X Γ E e (cst d) [] .v:=by
 refine PE.post' h λσ H Q ⟨env,G,B,β,I,o⟩=>?_
 exact o v G H I (au.refl _) (iC.refl _ _) (r G)
def ag {i:Int}{j}:SE X Γ E (.Constant (.int i) j pos) (cst (.int i)) [] .v:=zb mG λ_=>.int i
def dR {i:Bool}{j}:SE X Γ E (.Constant (.bool i) j pos) (cst (.bool i)) [] .v:=zb xQ λ_=>.bl i
def Bb {j}:SE X Γ E (.Constant .none j pos) (cst .none) [] .v:=zb FQ λ_=>.non
def gG {x:Str}{j}:SE X Γ E (.Constant (.str x) j pos) (cst (.str x)) [] .v:=zb Bl λ_=>.str x
def w9 {x:Str}{i:Int}{t:Tok}(hg:Gl X x)(hm:X.mg x=some (.int i t))(hd:(x == ("__debug__":Str))=false:=by decide):SE X Γ E (.Name x pos) (cst (.int i)) [] .v:=zb (B5 hg hm (show RelV (.int i) _ from⟨_,rfl⟩) hd) λ_=>.int i
def two {W:V->V->Hp->Prop}{B:Option Addr}{G H:Hp}{σ:St}{env:En}{β:Int}(I:SR Γ B G H σ env β)
  (h:Out Γ E (fa (vl env) β) λd1 β1=>Out Γ E (fb (vl env) β1) λd2 β2=>∀x y G2 H2,SR Γ B G2 H2 σ (ba (La ++ Lb) env) β2->au G G2->iC B H H2->kW Γ.K B G2 H2 x d1->kW Γ.K B G2 H2 y d2->W x y H2) :
  pT Γ E fa La ma σ H λx H1=>pT Γ E fb Lb mb σ H1 λy H2=>W x y H2:=by
 refine⟨env,G,B,β,I,h.imp λd1 β1 h x G1 H1 I1 s1 m1 vx=>⟨ba La env,G1,B,β1,I1,?_⟩⟩
 rw[eQ]
 refine h.imp λd2 β2 k y G2 H2 I2 s2 m2 vy=>?_
 refine k x y G2 H2 (by rw[cm];exact I2) (s1.trans s2) (m1.trans m2) ((vx.brw I.boxThere).mono s2 m2) (vy.brw I1.boxThere)
def kY (K:Frag)(r:R2)(g:D->D->Option D)(md:Md):Prop:=∀(B:Option Addr) (G H:Hp) (x y:V) (dx dy d:D) (Q:VK),au G H->(∀x,B=some x->H x≠none)->kW K B G H x dx->kW K B G H y dy->g dx dy=some d->
 (∀v G' H',Ext G H G' H'->VO K B H G' H' md d v->Q v H')->r x y H Q
def f2 (fa fb:VF D)(g:D->D->Option D):VF D:=λvs β=>(fa vs β).bnd λx β1=>(fb vs β1).bnd λy β2=>R.of (g x y) β2
theorem e9 {B:Option Addr}{H H2:Hp}(m:iC B H H2)(hB:∀x,B=some x->H2 x≠none){p:Addr}(h:H2 p=none):H p=none:=by
 cases e:H p with
 |none=>rfl
 |some o=>obtain⟨u,eu,_⟩:=(m.1 p o e λz=>hB p z h).some;rw[eu] at h;cases h
theorem VO.back {K:Frag}{B:Option Addr}{H H2 G' H':Hp}{d:D}{v:V}(h:VO K B H2 G' H' md d v)(m:iC B H H2)(hB:∀x,B=some x->H2 x≠none):VO K B H G' H' md d v:=by
 cases md with
 |b=>exact h
 |v=>exact h
 |w=>obtain⟨p,e,h1,h2,h3⟩:=h;exact⟨p,e,e9 m hB h1,h2,h3⟩
def lH {r:R2}{g:D->D->Option D}{Q:VK}(pr:kY Γ.K r g md){B:Option Addr}{G H:Hp}{σ:St}{env:En}{β:Int}(I:SR Γ B G H σ env β)
  (h:Out Γ E (f2 fa fb g (vl env) β) λd β'=>∀v G' H',SR Γ B G' H' σ (ba (La ++ Lb) env) β'->au G G'->iC B H H'->VO Γ.K B H G' H' md d v->Q v H') :
  pT Γ E fa La ma σ H λx H1=>pT Γ E fb Lb mb σ H1 λy H2=>r x y H2 Q:=by
 refine two I (h.bnd.imp λd1 β1 h=>h.bnd.imp λd2 β2 h x y G2 H2 I2 s2 m2 bx by'=>?_)
 obtain⟨d,e,k⟩:=h.of
 refine pr B G2 H2 x y d1 d2 d Q I2.sub I2.boxThere bx by' e λv G' H' x' vo=>?_
 exact k v G' H' (I2.ext x') (s2.trans x'.gg) (m2.trans (x'.hh.mov B)) (vo.back m2 I2.boxThere)
def aS {op:Operator}{r:R2}{g:D->D->Option D}(ho:jT X (binaryOp op) r)(pr:kY Γ.K r g md)(ha:SE X Γ E a fa La ma)(hb:SE X Γ E b fb Lb mb):SE X Γ E (.BinOp a op b pos) (f2 fa fb g) (La ++ Lb) md:=
 PE.post' (qv ho ha hb) λσ H Q ⟨env,G,B,β,I,o⟩=>lH pr I o
def dG {op:CmpOp}{r:R2}{g:D->D->Option D}(ho:jT X (compareOp op) r)(pr:kY Γ.K r g md)(ha:SE X Γ E a fa La ma)(hb:SE X Γ E b fb Lb mb)(hm:behindInMarks op b=false):SE X Γ E (.Compare a [op] [b] pos) (f2 fa fb g) (La ++ Lb) md:=
 PE.post' (CH ho ha hb hm) λσ H Q ⟨env,G,B,β,I,o⟩=>lH pr I o
def aH {r:R2}{g:D->D->Option D}(hr:AO X r)(pr:kY Γ.K r g md)(ha:SE X Γ E a fa La ma)(hb:SE X Γ E b fb Lb mb)(hs:xp b):SE X Γ E (.Subscript a b pos) (f2 fa fb g) (La ++ Lb) md:=
 PE.post' (kN hr ha hb hs) λσ H Q ⟨env,G,B,β,I,o⟩=>lH pr I o
def z8 (K:Frag)(r:V->Hp->VK->Prop)(g:D->Option D)(md:Md):Prop:=∀(B:Option Addr) (G H:Hp) (x:V) (dx d:D) (Q:VK),au G H->(∀x,B=some x->H x≠none)->kW K B G H x dx->g dx=some d->
 (∀v G' H',Ext G H G' H'->VO K B H G' H' md d v->Q v H')->r x H Q
def f1 (fa:VF D)(g:D->Option D):VF D:=λvs β=>(fa vs β).bnd λx β1=>R.of (g x) β1
def kz {r:V->Hp->VK->Prop}{g:D->Option D}{Q:VK}(pr:z8 Γ.K r g md){B:Option Addr}{G H:Hp}{σ:St}{env:En}{β:Int}(I:SR Γ B G H σ env β)
  (h:Out Γ E (f1 fa g (vl env) β) λd β'=>∀v G' H',SR Γ B G' H' σ (ba La env) β'->au G G'->iC B H H'->VO Γ.K B H G' H' md d v->Q v H') :
  pT Γ E fa La ma σ H λx H1=>r x H1 Q:=by
 refine⟨env,G,B,β,I,h.bnd.imp λd1 β1 h x G1 H1 I1 s1 m1 vx=>?_⟩
 obtain⟨d,e,k⟩:=h.of
 refine pr B G1 H1 x d1 d Q I1.sub I1.boxThere (vx.brw I.boxThere) e λv G' H' x' vo=>?_
 exact k v G' H' (I1.ext x') (s1.trans x'.gg) (m1.trans (x'.hh.mov B)) (vo.back m1 I1.boxThere)
def wD {op:UnaryOp}{r:V->Hp->VK->Prop}{g:D->Option D}(ho:Im X (unaryOp op) r)(pr:z8 Γ.K r g md)(ha:SE X Γ E a fa La ma):SE X Γ E (.UnaryOp op a pos) (f1 fa g) La md:=
 PE.post' (zT ho ha) λσ H Q ⟨env,G,B,β,I,o⟩=>kz pr I o
def aI {id:String}{r:List V->Hp->VK->Prop}{g:D->Option D}{x:Str}{p:Pos}(hc:fD X (.builtin id) r)(pr:z8 Γ.K (λx=>r [x]) g md)(hg:Gl X x)(hm:X.mg x=none)(hv:bootBuiltins x=some (.builtin id))(ha:SE X Γ E a fa La ma)(hn:x≠"__name__":=by decide)(hdb:(x == ("__debug__":Str))=false:=by decide)
  (he:starEach [a] X.env=(false,eval a X.env) :: starEach [] X.env:=by rfl):SE X Γ E (.Call (.Name x p) [a] [] pos) (f1 fa g) La md:=
 PE.post' (lS hc hg hm hv (bc ha cv he) hn hdb he) λσ H Q ⟨env,G,B,β,I,o⟩=>kz (r:=λx=>r [x]) pr I o
def gr {id:String}{r:List V->Hp->VK->Prop}{g:D->Option D}{x:Str}{p:Pos}(hc:fD X (.type id) r)(pr:z8 Γ.K (λx=>r [x]) g md)(hg:Gl X x)(hm:X.mg x=none)(hv:bootBuiltins x=some (.type id))(ha:SE X Γ E a fa La ma)(hn:x≠"__name__":=by decide)(hdb:(x == ("__debug__":Str))=false:=by decide)
  (he:starEach [a] X.env=(false,eval a X.env) :: starEach [] X.env:=by rfl):SE X Γ E (.Call (.Name x p) [a] [] pos) (f1 fa g) La md:=
 PE.post' (kG hc hg hm hv (bc ha cv he) hn hdb he) λσ H Q ⟨env,G,B,β,I,o⟩=>kz (r:=λx=>r [x]) pr I o
def uI {id:String}{r:List V->Hp->VK->Prop}{g:D->D->Option D}{x:Str}{p:Pos}(hc:fD X (.builtin id) r)(pr:kY Γ.K (λx y=>r [x,y]) g md)(hg:Gl X x)(hm:X.mg x=none)(hv:bootBuiltins x=some (.builtin id))(ha:SE X Γ E a fa La ma)(hb:SE X Γ E b fb Lb mb)(hn:x≠"__name__":=by decide)(hdb:(x == ("__debug__":Str))=false:=by decide)
  (he:starEach [a,b] X.env=(false,eval a X.env) :: starEach [b] X.env:=by rfl) (he2:starEach [b] X.env=(false,eval b X.env) :: starEach [] X.env:=by rfl) (hpl:(backTo pos (starEach [b] X.env)).any (·.1)=false:=by rfl):SE X Γ E (.Call (.Name x p) [a,b] [] pos) (f2 fa fb g) (La ++ Lb) md:=
 PE.post' (lS hc hg hm hv (bc ha (bc hb cv he2) he) hn hdb he hpl) λσ H Q ⟨env,G,B,β,I,o⟩=>lH (r:=λx y=>r [x,y]) pr I o
def c8 (fa fb:VF D):VF D:=λvs β=>(fa vs β).bnd λx β1=>match x with
 | .bool true=>fb vs β1
 | .bool false=>.ok (.bool false) β1
 |_=>.bad
def EO (fa fb:VF D):VF D:=λvs β=>(fa vs β).bnd λx β1=>match x with
 | .bool false=>fb vs β1
 | .bool true=>.ok (.bool true) β1
 |_=>.bad
def eO {op}(h:SE X Γ E a fa La md):SE X Γ E (.BoolOp op [a] pos) fa La md:=FI h
theorem eM {rest:List Expr}(ha:SE X Γ E a fa La ma)(hb:SE X Γ E (.BoolOp .And (b :: rest) pos) fb Lb .v)(hbr:∀i,i∈Lb->Γ.br i=false):SE X Γ E (.BoolOp .And (a :: b :: rest) pos) (c8 fa fb) (La ++ Lb) .v:=by
 refine PE.post' (Eb ha hb) λσ H Q ⟨env,G,B,β,I,o⟩=>?_
 refine⟨env,G,B,β,I,o.bnd.imp λd1 β1 h x G1 H1 I1 s1 m1 vx=>?_⟩
 have bx:=vx.brw I.boxThere
 cases d1 with
 |bool c=>
  obtain rfl:=bx.bool
  refine⟨c,rfl,?_⟩
  cases c with
  |true=>exact p7 ⟨_,G1,B,β1,I1,by rw[eQ];exact h.imp λd β' k v G' H' I' s' m' vo=>k v G' H' (by rw[cm];exact I') (s1.trans s') (m1.trans m') vo⟩
  |false=>
   obtain⟨G2,I2,s2⟩:=I1.ba Lb hbr
   exact pK (h _ G2 H1 (by rw[cm];exact I2) (s1.trans s2) m1 (.bl false))
 |_=>exact h.elim
theorem D9 {rest:List Expr}(ha:SE X Γ E a fa La ma)(hb:SE X Γ E (.BoolOp .Or (b :: rest) pos) fb Lb .v)(hbr:∀i,i∈Lb->Γ.br i=false):SE X Γ E (.BoolOp .Or (a :: b :: rest) pos) (EO fa fb) (La ++ Lb) .v:=by
 refine PE.post' (HB ha hb) λσ H Q ⟨env,G,B,β,I,o⟩=>?_
 refine⟨env,G,B,β,I,o.bnd.imp λd1 β1 h x G1 H1 I1 s1 m1 vx=>?_⟩
 have bx:=vx.brw I.boxThere
 cases d1 with
 |bool c=>
  obtain rfl:=bx.bool
  refine⟨c,rfl,?_⟩
  cases c with
  |true=>
   obtain⟨G2,I2,s2⟩:=I1.ba Lb hbr
   exact p7 (h _ G2 H1 (by rw[cm];exact I2) (s1.trans s2) m1 (.bl true))
  |false=>exact pK ⟨_,G1,B,β1,I1,by rw[eQ];exact h.imp λd β' k v G' H' I' s' m' vo=>k v G' H' (by rw[cm];exact I') (s1.trans s') (m1.trans m') vo⟩
 |_=>exact h.elim
def yh:D->Option D
 | .bool c=>some (.bool (!c))
 |_=>none
theorem vP (ha:SE X Γ E a fa La ma):SE X Γ E (.UnaryOp .Not a pos) (f1 fa yh) La .v:=by
 refine PE.post' (FL ha) λσ H Q ⟨env,G,B,β,I,o⟩=>?_
 refine kz (r:=λx H1 Q=>∃c,x=.bl c/\Q (.bl (!c)) H1) ?_ I o
 intro B G H x dx d Q s hB bx e k
 cases dx with
 |bool c=>
  obtain rfl:=bx.bool
  cases e
  exact⟨c,rfl,k _ G H (Ext.refl s) (.bl _)⟩
 |_=>cases e
def ES:D->Option Bool
 | .none=>some false
 | .bool b=>some b
 | .int i=>some (i != 0)
 | .str y=>if y.length<=sizeLine then some ((y.length:Int) != 0) else none
 | .list ds=>some (!ds.isEmpty)
 | .tuple ds=>some (!ds.isEmpty)
 | .dict _=>none
def fR (fa:VF D):VF Bool:=λvs β=>(fa vs β).bnd λx β1=>R.of (ES x) β1
def mV {K:Frag}{G:Hp}{xs:List V}{ds:List D}(r:cn K G xs ds):(!ds.isEmpty)= !xs.isEmpty:=by cases r <;> rfl
theorem bO (hK:X.K=Γ.K)(ha:SE X Γ E a fa La ma)(he:∀whole,isTrue a X.env whole=(do let v <-whole;standAt a.pos;holding [v] (truthy v)):=by intro _;rfl):xj X Γ E a (fR fa) La:=by
 refine PT.post (Ay ha he) λσ H Q ⟨env,G,B,β,I,o⟩=>?_
 refine⟨env,G,B,β,I,o.bnd.imp λd1 β1 h x G1 H1 I1 s1 m1 vx=>?_⟩
 obtain⟨c,e,k⟩:=h.of
 have bx:=vx.brw I.boxThere
 refine⟨c,?_,k G1 H1 I1 s1 m1⟩
 rw[hK]
 cases d1 with
 |none=>obtain rfl:=bx.none;cases e;rfl
 |bool b=>obtain rfl:=bx.bool;cases e;rfl
 |int i=>obtain rfl:=bx.int;cases e;rfl
 |str y=>
  obtain rfl:=bx.str
  simp only[ES] at e
  split at e
  ·cases e;exact⟨by assumption,rfl⟩
  ·cases e
 |list ds=>obtain⟨p,xs,rfl,hq,r⟩:=bx.list I1.sub;cases e;exact .inl ⟨xs,.inl hq,mV r⟩
 |tuple ds=>obtain⟨p,xs,rfl,hq,r⟩:=bx.tuple I1.sub;cases e;exact .inr (.inl ⟨xs,hq,mV r⟩)
 |dict ds=>cases e
def cL (fa:VF D):VF Bool:=λvs β=>(fa vs β).bnd λx β1=>match x with
 | .bool c=>.ok c β1
 |_=>.bad
theorem bG {op:CmpOp}{r:R2}{g:D->D->Option D}(ho:jT X (compareOp op) r)(pr:kY Γ.K r g .v)(ha:SE X Γ E a fa La ma)(hb:SE X Γ E b fb Lb mb)(hm:behindInMarks op b=false):xj X Γ E (.Compare a [op] [b] pos) (cL (f2 fa fb g)) (La ++ Lb):=by
 refine PT.post (B8 ho ha hb hm) λσ H Q ⟨env,G,B,β,I,o⟩=>?_
 refine lH pr I (o.bnd.imp λd β' h v G' H' I' s' m' vo=>?_)
 cases d with
 |bool c=>cases vo;exact⟨c,rfl,h G' H' I' s' m'⟩
 |_=>exact h.elim
def ly (t:VF Bool):VF Bool:=λvs β=>(t vs β).bnd λc β1=>.ok (!c) β1
def tT (t u:VF Bool):VF Bool:=λvs β=>(t vs β).bnd λc β1=>if c=true then u vs β1 else .ok false β1
def gB (t u:VF Bool):VF Bool:=λvs β=>(t vs β).bnd λc β1=>if c=true then .ok true β1 else u vs β1
variable {ta tb tc:VF Bool}
def bX (ha:xj X Γ E a ta La):xj X Γ E (.UnaryOp .Not a pos) (ly ta) La:=by
 refine PT.post (FJ ha) λσ H Q ⟨env,G,B,β,I,o⟩=>?_
 exact⟨env,G,B,β,I,o.bnd.imp λc β1 h=>h⟩
def lV.t (h:lV X Γ E e ta La):xj X Γ E e ta La:=PW.pt h
def lR (ha:xj X Γ E a ta La):lV X Γ E (.BoolOp .And [a] pos) ta La:=xo ha
def dJ (ha:xj X Γ E a ta La):lV X Γ E (.BoolOp .Or [a] pos) ta La:=EY ha
theorem mO {rest:List Expr}(ha:xj X Γ E a ta La)(hb:lV X Γ E (.BoolOp .And (b :: rest) pos) tb Lb)(hbr:∀i,i∈Lb->Γ.br i=false):lV X Γ E (.BoolOp .And (a :: b :: rest) pos) (tT ta tb) (La ++ Lb):=by
 refine PW.post (zh ha hb) λσ H Q ⟨env,G,B,β,I,o⟩=>?_
 refine⟨env,G,B,β,I,o.bnd.imp λc β1 h G1 H1 I1 s1 m1=>?_⟩
 cases c with
 |true=>exact p7 ⟨_,G1,B,β1,I1,by rw[eQ];exact Out.imp h λd β' k G' H' I' s' m'=>k G' H' (by rw[cm];exact I') (s1.trans s') (m1.trans m')⟩
 |false=>
  obtain⟨G2,I2,s2⟩:=I1.ba Lb hbr
  exact pK (h G2 H1 (by rw[cm];exact I2) (s1.trans s2) m1)
theorem eV {rest:List Expr}(ha:xj X Γ E a ta La)(hb:lV X Γ E (.BoolOp .Or (b :: rest) pos) tb Lb)(hbr:∀i,i∈Lb->Γ.br i=false):lV X Γ E (.BoolOp .Or (a :: b :: rest) pos) (gB ta tb) (La ++ Lb):=by
 refine PW.post (Gx ha hb) λσ H Q ⟨env,G,B,β,I,o⟩=>?_
 refine⟨env,G,B,β,I,o.bnd.imp λc β1 h G1 H1 I1 s1 m1=>?_⟩
 cases c with
 |true=>
  obtain⟨G2,I2,s2⟩:=I1.ba Lb hbr
  exact p7 (h G2 H1 (by rw[cm];exact I2) (s1.trans s2) m1)
 |false=>exact pK ⟨_,G1,B,β1,I1,by rw[eQ];exact Out.imp h λd β' k G' H' I' s' m'=>k G' H' (by rw[cm];exact I') (s1.trans s') (m1.trans m')⟩
def J5 (t:VF Bool)(fa fb:VF D):VF D:=λvs β=>(t vs β).bnd λc β1=>if c=true then fa vs β1 else fb vs β1
def ah:VF (List D):=λ_ β=>.ok [] β
def aa (fa:VF D)(fr:VF (List D)):VF (List D):=λvs β=>(fa vs β).bnd λx β1=>(fr vs β1).bnd λxs β2=>.ok (x :: xs) β2
variable {fr:VF (List D)}{es:List Expr}
def ak:SA X Γ E [] ah []:=PA.post cv λσ H Q ⟨env,G,B,β,I,o⟩=>o [] G H I (au.refl _) (iC.refl _ _) .nil
def ae (ha:SE X Γ E a fa La .v)(hr:SA X Γ E es fr Lb)(hs:starEach (a :: es) X.env=(false,eval a X.env) :: starEach es X.env:=by rfl):SA X Γ E (a :: es) (aa fa fr) (La ++ Lb):=by
 refine PA.post (bc ha hr hs) λσ H Q ⟨env,G,B,β,I,o⟩=>?_
 refine⟨env,G,B,β,I,o.bnd.imp λd1 β1 h x G1 H1 I1 s1 m1 vx=>⟨ba La env,G1,B,β1,I1,?_⟩⟩
 rw[eQ]
 refine h.bnd.imp λds β2 k xs G2 H2 I2 s2 m2 r=>?_
 exact k (x :: xs) G2 H2 (by rw[cm];exact I2) (s1.trans s2) (m1.trans m2) (.cons (vx.mono s2) r)
def aR (fr:VF (List D)):VF D:=λvs β=>(fr vs β).bnd λds β1=>if ds.length<=sizeLine then .ok (.tuple ds) β1 else .bad
def bH (fr:VF (List D)):VF D:=λvs β=>(fr vs β).bnd λds β1=>if ds.length<=sizeLine then .ok (.list ds) β1 else .bad
def bF {x1}(h:SA X Γ E es fr L):SE X Γ E (.Tuple es x1 pos) (aR fr) L .v:=by
 refine PE.post' (vI h) λσ H Q ⟨env,G,B,β,I,o⟩=>?_
 refine⟨env,G,B,β,I,o.bnd.imp λds β1 k xs G1 H1 I1 s1 m1 r=>?_⟩
 by_cases hz:ds.length<=sizeLine
 ·rw[Kl hz] at k
  refine⟨by rw[r.len];exact hz,λp hp=>?_⟩
  have x:=Ext.new I1.sub (o:=.tup xs) hp
  exact k _ _ _ (I1.ext x) (s1.trans x.gg) (m1.trans (x.hh.mov B)) (.tup (.inl (.inl aB)) (r.mono x.gg))
 ·rw[Kw hz] at k;exact k.elim
def bI (h:SA X Γ E es fr L):SE X Γ E (.List es pos) (bH fr) L .w:=by
 refine PE.post' (zD h) λσ H Q ⟨env,G,B,β,I,o⟩=>?_
 refine⟨env,G,B,β,I,o.bnd.imp λds β1 k xs G1 H1 I1 s1 m1 r=>?_⟩
 by_cases hz:ds.length<=sizeLine
 ·rw[Kl hz] at k
  refine⟨by rw[r.len];exact hz,λp hp=>?_⟩
  have x:=Ext.own I1.sub (o:=.lst xs) hp
  exact k _ _ _ (I1.ext x) s1 (m1.trans (x.hh.mov B)) ⟨p,rfl,e9 m1 I1.boxThere hp,I1.sub.free hp,xs,aB,r⟩
 ·rw[Kw hz] at k;exact k.elim
inductive FR where
 |ok (d:D) (fresh:Bool)
 |exc (c:Str)
 |bad
def FV (K:Frag)(H G' H':Hp)(fr:Bool)(d:D)(v:V):Prop:=if fr=true then ∃a,v=.ref a/\H a=none/\G' a=none/\Own K G' H' a d else Rp K G' v d
def zO (K:Frag)(ca:Str->Addr)(n:Nat)(F:List D->FR):Sp:=λvs H Q E=>∃G ds,au G H/\ds.length=n/\cn K G vs ds/\match F ds with
 | .ok d fr=>∀v G' H',au H H'->au G G'->au G' H'->(∀b,Mx H b->G b=none->G' b=none)->FV K H G' H' fr d v->Q v H'
 | .exc c=>∀H',au H H'->E (.ref (ca c)) none H'
 | .bad=>False
structure cW (P:Program)(w:World)(K:Frag)(mg:Str->Option Value)(base:Heap)(ca:Str->Addr)(x:Str)(ps:List Str)(k:Nat)(F:List D->FR):Prop where
 ex:∃f fd,mg x=some (.ref f)/\PySem.W.keepIn K (.ref f)=true/\Binds K fd ps []/\fL P w K mg base (mS P w) k f fd ps (zO K ca ps.length F)
 len:∀ds,F ds≠.bad->ds.length=ps.length
def aF (F:List D->FR)(fr:VF (List D)):VF D:=λvs β=>(fr vs β).bnd λds β1=>match F ds with
 | .ok d _=>.ok d β1
 | .exc c=>.exc c
 | .bad=>.bad
def uO (F:List D->FR)(fr:VF (List D)):VF D:=λvs β=>(fr vs β).bnd λds β1=>match F ds with
 | .ok d true=>.ok d β1
 | .ok _ false=>.bad
 | .exc c=>.exc c
 | .bad=>.bad
def SR.called {B:Option Addr}{G1 H1 G2 H2:Hp}{σ:St}{env:En}{β:Int}(I1:SR Γ B G1 H1 σ env β)(h:au H1 H2)(g:au G1 G2)(s:au G2 H2)(n:∀b,Mx H1 b->G1 b=none->G2 b=none):SR Γ B G2 H2 σ env β/\iC B H1 H2:=by
 refine⟨⟨s,I1.old.trans g,λb n1 n2=>?_,λb o e np=>(I1.keep b o e np).step h,λb hb=>?_,I1.fix,λb e=>?_,I1.len,λi t e=>?_,I1.sep⟩,h.mov B⟩
 ·exact n b (I1.thereM n1) (I1.new b n1 n2)
 ·exact (I1.pin b hb).same λo e=>h b o e
 ·obtain⟨h1,h2,h3⟩:=I1.box b e
  exact⟨h b _ h1,n b (Mx.lst h1) h2,h3⟩
 ·have q:=I1.slot i t e
  cases t with
  |no=>trivial
  |fz d=>obtain⟨v,h1,h2⟩:=q;exact⟨v,h1,h2.mono g⟩
  |ow d=>
   obtain⟨p,h1,h2,h3,h4,h5⟩:=q
   exact⟨p,h1,h2,n p h5.mx h3,h4,h5.mono g λo q=>h p o q⟩
  |bx=>exact q
  |br d=>obtain⟨b1,p,h1,h4,hp,h5⟩:=q;exact⟨b1,p,h1,h4,hp,h5.mono g λo q=>h p o q⟩
def SR.kp {B:Option Addr}{G H H':Hp}{σ:St}{env:En}{β:Int}(I:SR Γ B G H σ env β)(h:au H H'):Kp Γ H':=λb o e n=>(I.keep b o e n).step h
theorem qt {F:List D->FR}{ps:List Str}{Q:VK}{B:Option Addr}{G H:Hp}{σ:St}{env:En}{β:Int}(I:SR Γ B G H σ env β)(hK:X.K=Γ.K){wv:Bool}
  (h:Out Γ E (if wv=true then uO F fr (vl env) β else aF F fr (vl env) β) λd β'=>∀v G' H',SR Γ B G' H' σ (ba L env) β'->au G G'->iC B H H'->VO Γ.K B H G' H' (if wv=true then .w else .v) d v->Q v H') (hl:∀ds,F ds≠.bad->ds.length=ps.length) :
  aT Γ E fr L σ H λvs H1=>zO X.K Γ.ca ps.length F vs H1 Q E:=by
 refine⟨env,G,B,β,I,?_⟩
 have h:Out Γ E (fr (vl env) β) λds β1=>Out Γ E (match F ds with
   | .ok d true=>.ok d β1
   | .ok d false=>if wv=true then .bad else .ok d β1
   | .exc c=>.exc c
   | .bad=>.bad) λd β'=>∀v G' H',SR Γ B G' H' σ (ba L env) β'->au G G'->iC B H H'->VO Γ.K B H G' H' (if wv=true then .w else .v) d v->Q v H':=by
  cases wv with
  |true=>
   simp only[Lz] at h ⊢
   refine h.bnd.imp λds β1 h=>?_
   cases q:F ds with
   |ok d b=>rw[q] at h;cases b <;> exact h
   |exc c=>rw[q] at h;exact h
   |bad=>rw[q] at h;exact h
  |false=>
   simp only[Lv,LG] at h ⊢
   refine h.bnd.imp λds β1 h=>?_
   cases q:F ds with
   |ok d b=>rw[q] at h;cases b <;> exact h
   |exc c=>rw[q] at h;exact h
   |bad=>rw[q] at h;exact h
 refine h.imp λds β1 k vs G1 H1 I1 s1 m1 r=>?_
 refine⟨G1,ds,I1.sub,?_,by rw[hK];exact r,?_⟩
 ·exact hl ds λz=>by rw[z] at k;exact k
 cases q:F ds with
 |bad=>rw[q] at k;exact k
 |exc c=>rw[q] at k;exact λH' s=>k H' (I1.kp s)
 |ok d b=>
  rw[q] at k
  intro v G' H' hh hg hs hn fv
  obtain⟨I2,m2⟩:=I1.called hh hg hs hn
  cases b with
  |true=>
   obtain⟨p,rfl,p1,p2,p3⟩:∃a,v=.ref a/\H1 a=none/\G' a=none/\Own X.K G' H' a d:=fv
   rw[hK] at p3
   have hp:=e9 m1 I1.boxThere p1
   cases wv with
   |true=>exact k _ G' H' I2 (s1.trans hg) (m1.trans m2) ⟨p,rfl,hp,p2,p3⟩
   |false=>
    obtain⟨q1,q2,q3,q4⟩:=I1.fresh p1
    obtain⟨G3,I3,s3,r3⟩:=I2.letIn q1 p2 q3 q4 p3
    exact k _ G3 H' I3 ((s1.trans hg).trans s3) (m1.trans m2) r3
  |false=>
   cases wv with
   |true=>exact k.elim
   |false=>
    have fv:Rp X.K G' v d:=fv
    rw[hK] at fv
    exact k _ G' H' I2 (s1.trans hg) (m1.trans m2) fv
def aO {x:Str}{ps:List Str}{k:Nat}{F:List D->FR}{p:Pos}(hf:cW X.prog X.w X.K X.mg X.base Γ.ca x ps k F)(hr:fY k X.A)(hx:Passes (mS X.prog X.w) X E)(hK:X.K=Γ.K)(hg:Gl X x)(ha:SA X Γ E (a :: es) fr L)(hdb:(x == ("__debug__":Str))=false:=by decide)
  (he:starEach (a :: es) X.env=(false,eval a X.env) :: starEach es X.env:=by rfl) (hpl:(backTo pos (starEach es X.env)).any (·.1)=false:=by rfl):SE X Γ E (.Call (.Name x p) (a :: es) [] pos) (aF F fr) L .v:=by
 obtain⟨f,fd,hm,hk,hb,hF⟩:=hf.ex
 refine PE.post' (nG (dvs:=[]) hF hr hg hm hk hb .nil hx ha hdb he hpl) λσ H Q ⟨env,G,B,β,I,o⟩=>?_
 show aT Γ E fr L σ H λvs H1=>zO X.K Γ.ca ps.length F (vs ++ []) H1 Q E
 have:=qt (Q:=Q) (wv:=false) (ps:=ps) I hK o hf.len
 simpa using this
def zm {x:Str}{ps:List Str}{k:Nat}{F:List D->FR}{p:Pos}(hf:cW X.prog X.w X.K X.mg X.base Γ.ca x ps k F)(hr:fY k X.A)(hx:Passes (mS X.prog X.w) X E)(hK:X.K=Γ.K)(hg:Gl X x)(ha:SA X Γ E (a :: es) fr L)(hdb:(x == ("__debug__":Str))=false:=by decide)
  (he:starEach (a :: es) X.env=(false,eval a X.env) :: starEach es X.env:=by rfl) (hpl:(backTo pos (starEach es X.env)).any (·.1)=false:=by rfl):SE X Γ E (.Call (.Name x p) (a :: es) [] pos) (uO F fr) L .w:=by
 obtain⟨f,fd,hm,hk,hb,hF⟩:=hf.ex
 refine PE.post' (nG (dvs:=[]) hF hr hg hm hk hb .nil hx ha hdb he hpl) λσ H Q ⟨env,G,B,β,I,o⟩=>?_
 show aT Γ E fr L σ H λvs H1=>zO X.K Γ.ca ps.length F (vs ++ []) H1 Q E
 have:=qt (Q:=Q) (wv:=true) (ps:=ps) I hK o hf.len
 simpa using this
end
inductive SO where
 |nx (env:En) (β:Int)
 |bk (env:En) (β:Int)
 |ct (env:En) (β:Int)
 |rt (d:D) (fr:Bool) (β:Int)
 |exc (c:Str)
 |bad
abbrev SF:=En->Int->SO
def RV (Γ:Fx)(G' H':Hp)(fr:Bool)(d:D)(v:V):Prop:=if fr=true then ∃a,v=.ref a/\Γ.H0 a=none/\G' a=none/\Own Γ.K G' H' a d else Rp Γ.K G' v d
def pI (Γ:Fx)(E:XK)(G:Hp)(N:Ends):SO->Prop
 | .nx env β=>∀B G' H' σ,SR Γ B G' H' σ env β->au G G'->N.nx σ H'
 | .bk env β=>∀B G' H' σ,SR Γ B G' H' σ env β->au G G'->N.bk σ H'
 | .ct env β=>∀B G' H' σ,SR Γ B G' H' σ env β->au G G'->N.ct σ H'
 | .rt d fr β=>∀B G' H' σ env v,SR Γ B G' H' σ env β->au G G'->RV Γ G' H' fr d v->N.rt v H'
 | .exc c=>∀H',Kp Γ H'->E (.ref (Γ.ca c)) none H'
 | .bad=>False
def sT (Γ:Fx)(E:XK)(m:SF):TS:=λN σ H=>∃env G B β,SR Γ B G H σ env β/\pI Γ E G N (m env β)
def SS (X:Cx)(Γ:Fx)(E:XK)(st:Stmt)(m:SF):Prop:=PS X st (sT Γ E m)
def BI (X:Cx)(Γ:Fx)(E:XK)(st:List Stmt)(m:SF):Prop:=ql X st (sT Γ E m)
def ql.post {X:Cx}{st:List Stmt}{t u:TS}(h:ql X st t)(m:∀D σ H,u D σ H->t D σ H):ql X st u:=λpins s σ H D I q=>h pins s σ H D I (m D σ H q)
def aM (m m':SF):SF:=λenv β=>match m env β with
 | .nx env' β'=>m' env' β'
 |r=>r
def jR:SF:=λenv β=>.nx env β
section
variable {X:Cx}{Γ:Fx}{E:XK}{e a b c:Expr}{f fa fb:VF D}{L La Lb:List Nat}{md ma mb:Md}{pos:Pos}{st:Stmt}{sts:List Stmt}{m m':SF}{ta:VF Bool}
theorem pI.weak {G G1:Hp}{N:Ends}{r:SO}(h:pI Γ E G N r)(s:au G G1):pI Γ E G1 N r:=by
 cases r with
 |nx env β=>exact λB G' H' σ I s'=>h B G' H' σ I (s.trans s')
 |bk env β=>exact λB G' H' σ I s'=>h B G' H' σ I (s.trans s')
 |ct env β=>exact λB G' H' σ I s'=>h B G' H' σ I (s.trans s')
 |rt d fr β=>exact λB G' H' σ env v I s'=>h B G' H' σ env v I (s.trans s')
 |exc c=>exact h
 |bad=>exact h
def bC:BI X Γ E [] jR:=ql.post xP λN σ H ⟨env,G,B,β,I,o⟩=>o B G H σ I (au.refl _)
theorem aq (h:SS X Γ E st m)(h':BI X Γ E sts m'):BI X Γ E (st :: sts) (aM m m'):=by
 refine ql.post (iz h h') λN σ H ⟨env,G,B,β,I,o⟩=>?_
 refine⟨env,G,B,β,I,?_⟩
 unfold aM at o
 cases q:m env β with
 |nx env' β'=>rw[q] at o;exact λB' G' H' σ' I' s'=>⟨env',G',B',β',I',o.weak s'⟩
 |bk env' β'=>rw[q] at o;exact o
 |ct env' β'=>rw[q] at o;exact o
 |rt d fr β'=>rw[q] at o;exact o
 |exc c=>rw[q] at o;exact o
 |bad=>rw[q] at o;exact o
def ay (h:SS X Γ E st m):BI X Γ E [st] m:=iM h
def toS {α:Type}(r:R α)(k:α->Int->SO):SO:=match r with
 | .ok x β=>k x β
 | .exc c=>.exc c
 | .bad=>.bad
theorem cX {α:Type}{G:Hp}{N:Ends}{r:R α}{k:α->Int->SO}{P:α->Int->Prop}(h:pI Γ E G N (toS r k))(i:∀x β,pI Γ E G N (k x β)->P x β):Out Γ E r P:=by
 cases r with
 |ok x β=>exact i x β h
 |exc c=>exact h
 |bad=>exact h
def SR.set' {B:Option Addr}{G H:Hp}{σ:St}{env:En}{β:Int}(I:SR Γ B G H σ env β)(i:Nat){v:V}{d:D}(h:Rp Γ.K G v d):SR Γ B G H (σ.set i (some v)) (env.set i (.fz d)) β:=by
 by_cases hi:i < env.length
 ·exact I.set hi h
 ·have h1:env.set i (.fz d)=env:=LO (by omega)
  have h2:σ.set i (some v)=σ:=LO (by rw[I.len];omega)
  rw[h1,h2];exact I
def SR.setOw' {B:Option Addr}{G H:Hp}{σ:St}{env:En}{β:Int}(I:SR Γ B G H σ env β)(i:Nat){a:Addr}{d:D}(h0:Γ.H0 a=none)(hg:G a=none)(hb:B≠some a)(h:Own Γ.K G H a d)(hn:∀(j:Nat) (d':D),env[j]? =some (.ow d')->σ[j]?≠some (some (.ref a))):SR Γ B G H (σ.set i (some (.ref a))) (env.set i (.ow d)) β:=by
 by_cases hi:i < env.length
 ·exact I.setOw hi h0 hg hb h λj d' e _=>hn j d' e
 ·have h1:env.set i (.ow d)=env:=LO (by omega)
  have h2:σ.set i (some (.ref a))=σ:=LO (by rw[I.len];omega)
  rw[h1,h2];exact I
def bS (i:Nat)(L:List Nat)(f:VF D):SF:=λenv β=>toS (f (vl env) β) λd β'=>.nx ((ba L env).set i (.fz d)) β'
def bg {i:Nat}{x:Str}{pos':Pos}(he:SE X Γ E e f L .v)(hN:X.N.Nodup)(hi:X.N[i]? =some x:=by rfl)(hx:Loc X.env.scope x:=by first |exact Or.inl rfl |exact Or.inr rfl)(hs:swapsWith e (some (.Name x pos')) pos.line X.env=pure false:=by rfl)(hf:X.fn x=true\/X.env.scope.names.lookup x=some .local:=by first |exact .inl rfl |exact .inr rfl |assumption) :
  SS X Γ E (.Assign [.Name x pos'] e pos) (bS i L f):=by
 refine PS.post (oG hN hi hx he hs hf) λN σ H ⟨env,G,B,β,I,o⟩=>?_
 refine⟨env,G,B,β,I,cX o λd β' k v G' H' I' s' m' vo=>?_⟩
 exact k B G' H' _ (I'.set' i vo) s'
def mX (i:Nat)(L:List Nat)(f:VF D):SF:=λenv β=>toS (f (vl env) β) λd β'=>.nx ((ba L env).set i (.ow d)) β'
def nI {i:Nat}{x:Str}{pos':Pos}(he:SE X Γ E e f L .w)(hN:X.N.Nodup)(hi:X.N[i]? =some x:=by rfl)(hx:Loc X.env.scope x:=by first |exact Or.inl rfl |exact Or.inr rfl)(hs:swapsWith e (some (.Name x pos')) pos.line X.env=pure false:=by rfl)(hf:X.fn x=true\/X.env.scope.names.lookup x=some .local:=by first |exact .inl rfl |exact .inr rfl |assumption) :
  SS X Γ E (.Assign [.Name x pos'] e pos) (mX i L f):=by
 refine PS.post (oG hN hi hx he hs hf) λN σ H ⟨env,G,B,β,I,o⟩=>?_
 refine⟨env,G,B,β,I,cX o λd β' k v G' H' I' s' m' vo=>?_⟩
 obtain⟨p,rfl,h1,h2,h3⟩:=vo
 obtain⟨q1,q2,q3,q4⟩:=I.fresh h1
 exact k B G' H' _ (I'.setOw' i q1 h2 q3 h3 λj d' z=>q4 j d' (qX z)) s'
def qm (L:List Nat)(f:VF D):SF:=λenv β=>toS (f (vl env) β) λ_ β'=>.nx (ba L env) β'
def xg (he:SE X Γ E e f L md)(hs:swapsWith e none pos.line X.env=pure false:=by rfl):SS X Γ E (.Expr e pos) (qm L f):=by
 refine PS.post (rG he hs) λN σ H ⟨env,G,B,β,I,o⟩=>?_
 exact⟨env,G,B,β,I,cX o λd β' k v G' H' I' s' m' vo=>k B G' H' _ I' s'⟩
def bB (f:VF D):SF:=λenv β=>toS (f (vl env) β) λd β'=>.rt d false β'
def aN (he:SE X Γ E e f L .v):SS X Γ E (.Return (some e) pos) (bB f):=by
 refine PS.post (mj he) λN σ H ⟨env,G,B,β,I,o⟩=>?_
 exact⟨env,G,B,β,I,cX o λd β' k v G' H' I' s' m' vo=>k B G' H' σ _ v I' s' vo⟩
def mU (f:VF D):SF:=λenv β=>toS (f (vl env) β) λd β'=>.rt d true β'
def nO (he:SE X Γ E e f L .w):SS X Γ E (.Return (some e) pos) (mU f):=by
 refine PS.post (mj he) λN σ H ⟨env,G,B,β,I,o⟩=>?_
 refine⟨env,G,B,β,I,cX o λd β' k v G' H' I' s' m' vo=>?_⟩
 obtain⟨p,rfl,h1,h2,h3⟩:=vo
 obtain⟨q1,_⟩:=I.fresh h1
 exact k B G' H' σ _ _ I' s' ⟨p,rfl,q1,h2,h3⟩
def Ar (i:Nat):SF:=λenv β=>match env[i]? with
 |some (.fz d)=>.rt d false β
 |some (.ow d)=>.rt d true β
 |_=>.bad
theorem Cg (i:Nat){x:Str}{p:Pos}(hN:X.N[i]? =some x:=by rfl)(hv:xO X.env.scope x:=by first |exact Or.inl rfl |exact Or.inr (Or.inl rfl) |exact Or.inr (Or.inr rfl))(hd:(x == ("__debug__":Str))=false:=by decide)
  (hcd:(x == ("__classdict__":Str))=false:=by decide):SS X Γ E (.Return (some (.Name x p)) pos) (Ar i):=by
 refine PS.post (mj (kh hN hv hd hcd)) λN σ H ⟨env,G,B,β,I,o⟩=>?_
 unfold Ar at o
 cases q:env[i]? with
 |none=>rw[q] at o;exact o.elim
 |some s=>
  rw[q] at o
  cases s with
  |no=>exact o.elim
  |bx=>exact o.elim
  |br d=>exact o.elim
  |fz d=>
   obtain⟨v,h1,h2⟩:=I.slot i _ q
   exact⟨v,h1,o B G H σ env v I (au.refl _) h2⟩
  |ow d=>
   obtain⟨p,h1,h2,h3,h4,h5⟩:=I.slot i _ q
   exact⟨_,h1,o B G H σ env _ I (au.refl _) ⟨p,rfl,h2,h3,h5⟩⟩
def iD (L:List Nat)(t:VF Bool)(m m':SF):SF:=λenv β=>toS (t (vl env) β) λc β'=>if c=true then m (ba L env) β' else m' (ba L env) β'
theorem cp {x y:List Stmt}(hc:xj X Γ E c ta L)(ha:BI X Γ E x m)(hb:BI X Γ E y m'):SS X Γ E (.If c x y pos) (iD L ta m m'):=by
 refine PS.post (D6 hc ha hb) λN σ H ⟨env,G,B,β,I,o⟩=>?_
 refine⟨env,G,B,β,I,cX o λd β' k G' H' I' s' m'=>?_⟩
 cases d with
 |true=>exact p7 ⟨_,G',B,β',I',pI.weak k s'⟩
 |false=>exact pK ⟨_,G',B,β',I',pI.weak k s'⟩
def jV (L:List Nat)(t:VF Bool)(m:SF):Nat->SF
 | 0=>λ_ _=>.bad
 |n + 1=>λenv β=>toS (t (vl env) β) λc β'=>if c=true then (match m (ba L env) β' with
   | .nx env2 β2=>jV L t m n env2 β2
   | .ct env2 β2=>jV L t m n env2 β2
   | .bk env2 β2=>.nx env2 β2
   |r=>r) else .nx (ba L env) β'
theorem Af {x:List Stmt}(n:Nat)(hp:PassesOwn (model X.prog X.w) X.A X.env X.xe)(hc:xj X Γ E c ta L)(hb:BI X Γ E x m):SS X Γ E (.While c x [] pos) (jV L ta m n):=by
 refine PS.post (AF hp hc hb) λN σ H ⟨env,G,B,β,I,o⟩=>?_
 refine⟨λk σ H=>∃env G1 B β,SR Γ B G1 H σ env β/\au G G1/\pI Γ E G1 N (jV L ta m k env β),⟨n,env,G,B,β,I,au.refl _,o⟩,?_⟩
 rintro k σ H ⟨env,G1,B,β,I,sG,o⟩
 cases k with
 |zero=>exact o.elim
 |succ k=>
  refine⟨env,G1,B,β,I,cX o λd β' q G' H' I' s' m'=>?_⟩
  cases d with
  |false=>exact pK (q B G' H' σ I' s')
  |true=>
   refine p7 ⟨λσ H=>∃env G1 B β,SR Γ B G1 H σ env β/\au G G1/\pI Γ E G1 N (jV L ta m k env β),λσ' H' h=>⟨k,Nat.lt_succ_self k,h⟩,ba L env,G',B,β',I',?_⟩
   rw[Kl rfl] at q
   cases r:m (ba L env) β' with
   |nx env2 β2=>rw[r] at q;exact λB2 G2 H2 σ2 I2 s2=>⟨env2,G2,B2,β2,I2,(sG.trans s').trans s2,pI.weak q (s'.trans s2)⟩
   |ct env2 β2=>rw[r] at q;exact λB2 G2 H2 σ2 I2 s2=>⟨env2,G2,B2,β2,I2,(sG.trans s').trans s2,pI.weak q (s'.trans s2)⟩
   |bk env2 β2=>rw[r] at q;exact λB2 G2 H2 σ2 I2 s2=>q B2 G2 H2 σ2 I2 (s'.trans s2)
   |rt d fr β2=>rw[r] at q;exact pI.weak q s'
   |exc c=>rw[r] at q;exact q
   |bad=>rw[r] at q;exact q
def Walk (K:Frag)(B:Option Addr)(G H1:Hp)(ds:List D)(J:It):Prop:=∀Gc H (i:Nat),au G Gc->au Gc H->iC B H1 H->
 (i < ds.length->J.go i H/\∀x H',J.yld i H x H'->∃G' d,Ext Gc H G' H'/\ds[i]? =some d/\Rp K G' x d)/\(ds.length<=i->J.stop i H)
def iT (Γ:Fx)(E:XK)(f:VF (List D))(L:List Nat)(md:Md):TI:=λσ H Rr=>∃env G B β,SR Γ B G H σ env β/\
 Out Γ E (f (vl env) β) λds β'=>∀J G' H',SR Γ B G' H' σ (ba L env) β'->au G G'->iC B H H'->Walk Γ.K B G' (match md with | .b=>H' |_=>λ_=>none) ds J->Rr J H'
def SI (X:Cx)(Γ:Fx)(E:XK)(tg e:Expr)(f:VF (List D))(L:List Nat)(md:Md):Prop:=PI X tg e (iT Γ E f L md)
def PI.post {X:Cx}{tg e:Expr}{t u:TI}(h:PI X tg e t)(m:∀σ H Q,u σ H Q->t σ H Q):PI X tg e u:=λpins s σ H Q I q=>h pins s σ H Q I (m σ H Q q)
variable {tg:Expr}
def pf:D->Option (List D)
 | .list ds=>some ds
 | .tuple ds=>some ds
 |_=>none
def fj (fa:VF D):VF (List D):=λvs β=>(fa vs β).bnd λx β1=>R.of (pf x) β1
end
def JZ (K:Frag)(tl:TE):TI:=λσ H R=>tl σ H λx H1=>∃a xs,x=.ref a/\((iw K H1 a xs/\R (yJ K a) H1)\/(fy K H1 a xs/\R (DD K a) H1))
section
variable {X:Cx}{tg l:Expr}{tl:TE}
def D7 (hl:PE X l tl):PI X tg l (JZ X.K tl):=by
 intro pins s σ H R I h
 refine cq (hl pins s σ H _ I h) λv s1 ⟨x,H1,I1,r1,q1⟩=>?_
 obtain⟨a,xs,e,q⟩:=q1
 subst e
 cases r1
 rcases q with⟨hq,q⟩ | ⟨hq,q⟩
 ·obtain⟨its,rv,p,hz⟩:=I1.list hq
  refine MC p.isList ?_
  refine⟨s1.heap.objs.size,[s1.heap.objs.size],_,_,H1,rfl,I1.kept (t':=s1.toks) λb o e=>Kk _ e,mJ a _,⟨_,KL _ rfl,rfl,rfl⟩,λb hb=>?_,q⟩
  have e:b=s1.heap.objs.size:=by simpa using hb
  subst e
  exact I1.fpOk (Kj _) (I1.hok.fresh (Kj _))
 ·obtain⟨its,rv,p,hz⟩:=I1.tuple hq
  refine Mc (show s1.heap.IsTuple a its.toArray from p) ?_
  refine⟨s1.heap.objs.size,[s1.heap.objs.size],_,_,H1,rfl,I1.kept (t':=s1.toks) λb o e=>Kk _ e,oA a _,⟨_,KL _ rfl,rfl,rfl⟩,λb hb=>?_,q⟩
  have e:b=s1.heap.objs.size:=by simpa using hb
  subst e
  exact I1.fpOk (Kj _) (I1.hok.fresh (Kj _))
end
section
variable {X:Cx}{Γ:Fx}{E:XK}{e a b c:Expr}{f fa fb:VF D}{L La Lb:List Nat}{md ma mb:Md}{pos:Pos}{st:Stmt}{sts:List Stmt}{m m':SF}{ta:VF Bool}{tg:Expr}
def mC {K:Frag}{B:Option Addr}{G H1:Hp}{p:Addr}{xs:List V}{ds:List D}(h:∀Gc H,au G Gc->au Gc H->iC B H1 H->iw K H p xs)(r:cn K G xs ds):Walk K B G H1 ds (yJ K p):=λGc H i s1 s2 m=>by
 have hq:=h Gc H s1 s2 m
 refine⟨λhi=>⟨?_,λx H' y=>?_⟩,λhi=>⟨xs,hq,by rw[r.len];exact hi⟩⟩
 ·have hi':i < xs.length:=by rw[r.len];exact hi
  exact⟨xs,xs[i],hq,by simp[hi']⟩
 ·obtain⟨rfl,y⟩:=y
  obtain⟨d,e,q⟩:=r.at' (y xs hq)
  exact⟨Gc,d,Ext.refl s2,e,q.mono s1⟩
def uS {K:Frag}{B:Option Addr}{G H1:Hp}{p:Addr}{xs:List V}{ds:List D}(h:∀Gc H,au G Gc->au Gc H->iC B H1 H->fy K H p xs)(r:cn K G xs ds):Walk K B G H1 ds (DD K p):=λGc H i s1 s2 m=>by
 have hq:=h Gc H s1 s2 m
 refine⟨λhi=>⟨?_,λx H' y=>?_⟩,λhi=>⟨xs,hq,by rw[r.len];exact hi⟩⟩
 ·have hi':i < xs.length:=by rw[r.len];exact hi
  exact⟨xs,xs[i],hq,by simp[hi']⟩
 ·obtain⟨rfl,y⟩:=y
  obtain⟨d,e,q⟩:=r.at' (y xs hq)
  exact⟨Gc,d,Ext.refl s2,e,q.mono s1⟩
theorem EE (hK:X.K=Γ.K)(ha:SE X Γ E a fa La .v):SI X Γ E tg a (fj fa) La .v:=by
 refine PI.post (D7 ha) λσ H Q ⟨env,G,B,β,I,o⟩=>?_
 refine⟨env,G,B,β,I,o.bnd.imp λd1 β1 h x G1 H1 I1 s1 m1 vx=>?_⟩
 obtain⟨ds,e,k⟩:=h.of
 rw[hK]
 have vx:Rp Γ.K G1 x d1:=vx
 cases d1 with
 |list l=>
  cases e
  cases vx with
  | @lst p xs _ hq r=>exact⟨p,xs,rfl,.inl ⟨.inl (Rd.mono (.inl hq) I1.sub),k _ G1 H1 I1 s1 m1 (mC (λGc H t1 t2 _=>.inl (Rd.mono (.inl hq) (t1.trans t2))) r)⟩⟩
 |tuple l=>
  cases e
  cases vx with
  | @tup p xs _ hq r=>exact⟨p,xs,rfl,.inr ⟨hq.grow I1.sub.grow,k _ G1 H1 I1 s1 m1 (uS (λGc H t1 t2 _=>hq.grow (t1.trans t2).grow) r)⟩⟩
 |_=>cases e
theorem rJ (hK:X.K=Γ.K)(ha:SE X Γ E a fa La ma):SI X Γ E tg a (fj fa) La .b:=by
 refine PI.post (D7 ha) λσ H Q ⟨env,G,B,β,I,o⟩=>?_
 refine⟨env,G,B,β,I,o.bnd.imp λd1 β1 h x G1 H1 I1 s1 m1 vx=>?_⟩
 obtain⟨ds,e,k⟩:=h.of
 rw[hK]
 have vx:=vx.brw I.boxThere
 cases d1 with
 |list l=>
  cases e
  rcases vx with vx | ⟨p,rfl,hb,xs,q,r⟩
  ·cases vx with
   | @lst p xs _ hq r=>exact⟨p,xs,rfl,.inl ⟨.inl (Rd.mono (.inl hq) I1.sub),k _ G1 H1 I1 s1 m1 (mC (λGc H t1 t2 _=>.inl (Rd.mono (.inl hq) (t1.trans t2))) r)⟩⟩
  ·exact⟨p,xs,rfl,.inl ⟨.inl (.inl q),k _ G1 H1 I1 s1 m1 (mC (λGc H t1 t2 mv=>.inl (.inl (mv.1 p _ q hb))) r)⟩⟩
 |tuple l=>
  cases e
  rcases vx with vx | ⟨p,rfl,hb,q⟩
  ·cases vx with
   | @tup p xs _ hq r=>exact⟨p,xs,rfl,.inr ⟨hq.grow I1.sub.grow,k _ G1 H1 I1 s1 m1 (uS (λGc H t1 t2 _=>hq.grow (t1.trans t2).grow) r)⟩⟩
  ·exact q.elim
 |_=>cases e
def cI (lo:Int)(n:Nat):List D:=(List.range n).map λ(k:Nat)=>int (lo + k)
def b9 (lo:Int)(n:Nat):(cI lo n).length=n:=by unfold cI;simp
def BF {K:Frag}{B:Option Addr}{G H1:Hp}(lo:Int)(n:Nat):Walk K B G H1 (cI lo n) (z0 lo n):=λGc H i s1 s2 m=>by
 rw[b9]
 refine⟨λhi=>⟨hi,λx H' y=>?_⟩,λhi=>hi⟩
 obtain⟨rfl,rfl⟩:=y
 refine⟨Gc,.int (lo + i),Ext.refl s2,?_,.int _⟩
 unfold cI
 rw[KD,List.getElem?_range hi];rfl
def D3 (j:Int):Bool:=Nat.ble j.natAbs 1000000
def Bg {j:Int}(h:D3 j=true): -(2 ^ 62)<=j/\j < 2 ^ 62:=by
 have:=Nat.le_of_ble_eq_true h
 omega
def yr {j:Int}(h: -1000<=j)(h2:j<=10000):D3 j=true:=Nat.ble_eq_true_of_le (by omega)
def bP (fa:VF D):VF (List D):=λvs β=>(fa vs β).bnd λx β1=>match x with
 | .int j=>if D3 j=true then .ok (cI 0 j.toNat) β1 else .bad
 |_=>.bad
theorem gx {p:Pos}(hg:Gl X "range")(hm:X.mg "range"=none)(ha:SE X Γ E a fa La ma)(hs:starEach [a] X.env= [(false,eval a X.env)]:=by rfl)(hs':starEach [a] X.env=(false,eval a X.env) :: starEach [] X.env:=by rfl):SI X Γ E tg (.Call (.Name "range" p) [a] [] pos) (bP fa) La md:=by
 refine PI.post (kF hg hm (bc ha cv hs') hs) λσ H Q ⟨env,G,B,β,I,o⟩=>?_
 refine⟨env,G,B,β,I,o.bnd.imp λd1 β1 h x G1 H1 I1 s1 m1 vx=>?_⟩
 have vx:=vx.brw I.boxThere
 cases d1 with
 |int j=>
  obtain rfl:=vx.int
  dsimp only at h
  by_cases hj:D3 j=true
  ·rw[Kl hj] at h
   exact⟨j,rfl,(Bg hj).1,(Bg hj).2,h _ G1 H1 I1 s1 m1 (BF 0 _)⟩
  ·rw[Kw hj] at h;exact h.elim
 |_=>exact h.elim
inductive Tg where
 |nm (i:Nat)
 |two (i j:Nat)
def pairD:D->Option (D×D)
 | .tuple [x,y]=>some (x,y)
 |_=>none
def zM {d x y:D}(h:pairD d=some (x,y)):d=.tuple [x,y]:=by
 unfold pairD at h
 split at h
 ·cases h;rfl
 ·cases h
def gq:Tg->D->En->Option En
 | .nm i,d,env=>some (env.set i (.fz d))
 | .two i j,d,env=>(pairD d).map λp=>(env.set i (.fz p.1)).set j (.fz p.2)
def kS:Tg->D->List Nv->Option (List Nv)
 | .nm i,d,vs=>some (vs.set i (.da d))
 | .two i j,d,vs=>(pairD d).map λp=>(vs.set i (.da p.1)).set j (.da p.2)
def vC (env:En)(i:Nat)(s:Sl):vl (env.set i s)=(vl env).set i s.val:=by unfold vl;rw[List.map_set]
theorem CZ (t:Tg)(d:D)(env:En):(gq t d env).map vl=kS t d (vl env):=by
 cases t with
 |nm i=>show some (vl _)=some _;rw[vC];rfl
 |two i j=>
  show ((pairD d).map _).map vl=(pairD d).map _
  cases pairD d with
  |none=>rfl
  |some p=>show some (vl _)=some _;rw[vC,vC];rfl
def gT (Γ:Fx)(t:Tg):TG:=λv σ H Q=>∃env G B β d env',SR Γ B G H σ env β/\Rp Γ.K G v d/\gq t d env=some env'/\∀σ',SR Γ B G H σ' env' β->Q σ' H
def SG (X:Cx)(Γ:Fx)(tg:Expr)(t:Tg):Prop:=PG X tg (gT Γ t)
def PG.post {X:Cx}{tg:Expr}{t u:TG}(h:PG X tg t)(m:∀v σ H Q,u v σ H Q->t v σ H Q):PG X tg u:=λpins s σ H v uu Q I r q=>h pins s σ H v uu Q I r (m v σ H Q q)
def cf {i:Nat}{x:Str}(hN:X.N.Nodup)(hi:X.N[i]? =some x:=by rfl)(hx:Loc X.env.scope x:=by first |exact Or.inl rfl |exact Or.inr rfl)(hf:X.fn x=true\/X.env.scope.names.lookup x=some .local:=by first |exact .inl rfl |exact .inr rfl |assumption):SG X Γ (.Name x pos) (.nm i):=by
 refine PG.post (cZ hN hi hx hf) λv σ H Q ⟨env,G,B,β,d,env',I,r,e,k⟩=>?_
 cases e
 exact k _ (I.set' i r)
theorem zz {i j:Nat}{x y:Str}{px py:Pos}{n:Nat}(hN:X.N.Nodup)(hc:X.calm=true:=by rfl)(hK:X.K=Γ.K:=by rfl)(hi:X.N[i]? =some x:=by rfl)(hj:X.N[j]? =some y:=by rfl)(hx:Loc X.env.scope x:=by first |exact Or.inl rfl |exact Or.inr rfl)(hy:Loc X.env.scope y:=by first |exact Or.inl rfl |exact Or.inr rfl)
  (hf:X.fn x=true\/X.env.scope.names.lookup x=some .local:=by first |exact .inl rfl |exact .inr rfl |assumption) (hf':X.fn y=true\/X.env.scope.names.lookup y=some .local:=by first |exact .inl rfl |exact .inr rfl |assumption):SG X Γ (.Tuple [.Name x px,.Name y py] n pos) (.two i j):=by
 refine PG.post (mF (n:=2) hc (cH (cZ hN hi hx hf) (cH (cZ hN hj hy hf') ku))) λv σ H Q ⟨env,G,B,β,d,env',I,r,e,k⟩=>?_
 rw[hK]
 have e:(pairD d).map (λp=>(env.set i (.fz p.1)).set j (.fz p.2))=some env':=e
 cases q:pairD d with
 |none=>rw[q] at e;cases e
 |some p=>
  obtain⟨dx,dy⟩:=p
  rw[q] at e
  cases e
  obtain rfl:=zM q
  cases r with
  | @tup p xs _ hq r=>
   cases r with
   |cons r1 r=>
    cases r with
    |cons r2 r=>
     cases r
     exact⟨p,_,rfl,hq.grow I.sub.grow,rfl,_,_,rfl,_,_,rfl,rfl,k _ ((I.set' i r1).set' j r2)⟩
def iW (t:Tg)(m:SF):List D->SF
 | []=>λenv β=>.nx env β
 |d :: ds=>λenv β=>match gq t d env with
  |none=>.bad
  |some env1=>match m env1 β with
   | .nx env2 β2=>iW t m ds env2 β2
   | .ct env2 β2=>iW t m ds env2 β2
   | .bk env2 β2=>.nx env2 β2
   |r=>r
def fg (t:Tg)(L:List Nat)(fi:VF (List D))(m:SF):SF:=λenv β=>toS (fi (vl env) β) λds β'=>iW t m ds (ba L env) β'
def fQ {t:Tg}{fi:VF (List D)}{x:List Stmt}(hp:PassesOwn (model X.prog X.w) X.A X.env X.xe)(hc:X.calm=true)(hi:SI X Γ E tg e fi L .v)(hg:SG X Γ tg t)(hb:BI X Γ E x m)(hs:∀x,foldedSetIterable e X.env x=pure x:=by intro _;rfl):SS X Γ E (.For tg e x [] pos) (fg t L fi m):=by
 refine PS.post (rL hp hc hi hg hb hs) λN σ H ⟨env,G,B,β,I,o⟩=>?_
 refine⟨env,G,B,β,I,cX o λds β' q J G' H' I' s' m' w=>?_⟩
 have w:Walk Γ.K B G' (λ_=>none) ds J:=w
 refine⟨λi n σ H=>n=ds.length - i/\i<=ds.length/\∃env G1 B β,SR Γ B G1 H σ env β/\au G' G1/\pI Γ E G1 N (iW t m (ds.drop i) env β),⟨ds.length,by simp,K6 _,ba L env,G',B,β',I',au.refl _,by rw[List.drop_zero];exact pI.weak q s'⟩,?_⟩
 rintro i n σ H ⟨rfl,hi,env,G1,B1,β1,I1,s1,q⟩
 obtain⟨w1,w2⟩:=w G1 H i s1 I1.sub ⟨(λb o e=>by cases e),λb o u e=>by cases e⟩
 by_cases hlt:i < ds.length
 ·obtain⟨go,yl⟩:=w1 hlt
  refine .inr ⟨go,λσ H=>∃env G2 B β,SR Γ B G2 H σ env β/\au G' G2/\pI Γ E G2 N (iW t m (ds.drop (i + 1)) env β),λσ2 H2 h=>⟨ds.length - (i + 1),by omega,rfl,hlt,h⟩,λx H2 y=>?_⟩
  obtain⟨G2,d,x2,ed,rd⟩:=yl x H2 y
  have I2:=I1.ext x2
  have q:=pI.weak q x2.gg
  rw[List.drop_eq_getElem_cons hlt] at q
  have ed':ds[i]=d:=by rw[Kh hlt] at ed;exact Option.some.inj ed
  rw[ed'] at q
  unfold iW at q
  cases eb:gq t d env with
  |none=>rw[eb] at q;exact q.elim
  |some env1=>
   rw[eb] at q
   refine⟨env,G2,B1,β1,d,env1,I2,rd,eb,λσ3 I3=>⟨env1,G2,B1,β1,I3,?_⟩⟩
   have s2:=s1.trans x2.gg
   dsimp only at q
   cases r:m env1 β1 with
   |nx env2 β2=>rw[r] at q;exact λB2 G3 H3 σ2 I2 s3=>⟨env2,G3,B2,β2,I2,s2.trans s3,pI.weak q s3⟩
   |ct env2 β2=>rw[r] at q;exact λB2 G3 H3 σ2 I2 s3=>⟨env2,G3,B2,β2,I2,s2.trans s3,pI.weak q s3⟩
   |bk env2 β2=>rw[r] at q;exact λB2 G3 H3 σ2 I2 s3=>q B2 G3 H3 σ2 I2 s3
   |rt d fr β2=>rw[r] at q;exact q
   |exc c=>rw[r] at q;exact q
   |bad=>rw[r] at q;exact q
 ·have e:i=ds.length:=by omega
  subst e
  rw[drop_length] at q
  exact .inl ⟨w2 (Kj _),q B1 G1 H σ I1 (au.refl _)⟩
end
abbrev Fx.i5 (Γ:Fx)(H0 G0:Hp)(par:List Addr)(br:Nat->Bool)(bx:Option Addr):Fx:=⟨Γ.K,H0,G0,par,Γ.ca,br,bx⟩
def c6 (own:Nat)(ixs:List Nat)(vs:List Nv):List Nv:=List.replicate own .no ++ ixs.map λi=>(vs[i]?).getD .no
def Hs:Option Sl->Sl
 |some (.ow d)=>.br d
 |some s=>s
 |none=>.no
def benv (own:Nat)(ixs:List Nat)(env:En):En:=List.replicate own .no ++ ixs.map λi=>Hs env[i]?
theorem BW (o:Option Sl):(Hs o).val=(o.map Sl.val).getD .no:=by
 cases o with
 |none=>rfl
 |some s=>cases s <;> rfl
def BQ (own:Nat)(ixs:List Nat)(env:En):vl (benv own ixs env)=c6 own ixs (vl env):=by
 unfold vl benv c6
 rw[Lu,List.map_replicate,map_map]
 congr 1
 refine LS λi _=>?_
 show (Hs env[i]?).val=_
 rw[BW,KD]
def vQ (env:En):Prop:=∀(i:Nat) (d:D),env[i]?≠some (.ow d)
theorem uf {env:En}(h:vQ env)(L:List Nat):ba L env=env:=by
 unfold ba
 induction L with
 |nil=>rfl
 |cons i L ih=>
  rw[List.foldl_cons]
  have:jd env i=env:=by
   unfold jd
   split
   ·rename_i d e;exact absurd e (h i d)
   ·rfl
  rw[this];exact ih
def qu (own:Nat)(ixs:List Nat)(env:En):vQ (benv own ixs env):=λi d e=>by
 unfold benv at e
 have hm:=KA e
 rcases KI.mp hm with h |h
 ·have:=LA h;cases this
 ·obtain⟨k,_,hk⟩:=KZ.mp h
  cases q:env[k]? with
  |none=>rw[q] at hk;cases hk
  |some s=>rw[q] at hk;cases s <;> cases hk
def oX {env:En}(h:vQ env)(i:Nat)(d:D):vQ (env.set i (.fz d)):=λj d' e=>by
 by_cases z:i=j
 ·subst z
  by_cases hi:i < env.length
  ·rw[KH hi] at e;cases e
  ·rw[LO (by omega)] at e;exact h _ _ e
 ·rw[KG z] at e;exact h _ _ e
theorem yG {env env1:En}{t:Tg}{d:D}(h:vQ env)(e:gq t d env=some env1):vQ env1:=by
 cases t with
 |nm i=>cases e;exact oX h i d
 |two i j=>
  have e:(pairD d).map _=some env1:=e
  cases q:pairD d with
  |none=>rw[q] at e;cases e
  |some p=>rw[q] at e;cases e;exact oX (oX h _ _) _ _
theorem x9 {env env1:En}{t:Tg}{d:D}(e:gq t d env=some env1)(d':D):gq t d' env1=gq t d' env:=by
 cases t with
 |nm i=>cases e;show some _=some _;rw[set_set]
 |two i j=>
  have e:(pairD d).map _=some env1:=e
  cases q:pairD d with
  |none=>rw[q] at e;cases e
  |some p=>
   rw[q] at e;cases e
   show (pairD d').map _=(pairD d').map _
   cases pairD d' with
   |none=>rfl
   |some p'=>
    show some _=some _
    congr 1
    dsimp only
    by_cases z:i=j
    ·subst z;simp[set_set]
    ·rw[List.set_comm _ _ (Ne.symm z),set_set,set_set]
def Ext.mov {G H G' H':Hp}(x:Ext G H G' H')(B:Option Addr):iC B H H':=x.hh.mov B
section
variable {Γ:Fx}{B:Option Addr}{G H G1 H1 Gc Hc:Hp}{σ σ':St}{env envb:En}{β β':Int}{own:Nat}{ixs:List Nat}{Da:Addr}{acc:List V}
def wm (envb:En):Nat->Bool:=λj=>match envb[j]? with
 |some (.br _)=>true
 |_=>false
def SR.block (I:SR Γ B G H σ env β)(own:Nat)(ixs:List Nat)(hD:H Da=none):SR (Γ.i5 (upd H Da (.lst [])) G (Da :: B.toList) (wm (benv own ixs env)) B) B G (upd H Da (.lst [])) (rA own ixs σ) (benv own ixs env) β:=by
 obtain⟨q1,q2,q3,q4⟩:=I.fresh hD
 have nB:∀b,B=some b->b≠Da:=λb e z=>q3 (by rw[<-z];exact e)
 refine⟨I.sub.trans (au.new hD),au.refl _,λb _ h=>h,λb o h _=>Kt.of h,λb hb=>?_,λb e=>e,λb e=>?_,?_,λi s e=>?_,λi j c d d' e=>absurd e (qu own ixs env i d)⟩
 ·rcases Ks.mp hb with z |z
  ·subst z;exact Mx.lst aB
  ·have z':B=some b:=by simpa using z
   exact Mx.lst (by rw[aC (nB b z')];exact (I.box b z').1)
 ·obtain⟨h1,h2,_⟩:=I.box b e
  exact⟨by rw[aC (nB b e)];exact h1,h2,.inl (Kr _ (by simpa using e))⟩
 ·unfold rA benv;simp
 ·by_cases hi:i < own
  ·unfold benv at e
   rw[K4 (by simpa using hi),LF,Kl hi] at e
   cases e;trivial
  ·have e0:=e
   unfold benv at e
   rw[Ld (by simpa using hi),Ls,KD] at e
   cases ek:ixs[i - own]? with
   |none=>rw[ek] at e;cases e
   |some k=>
    rw[ek] at e
    have e:Hs env[k]? =s:=Option.some.inj e
    have es:(rA own ixs σ)[i]? =some ((σ[k]?).join):=by
     unfold rA
     rw[Ld (by simpa using hi),Ls,KD,ek];rfl
    rw[es]
    cases q:env[k]? with
    |none=>rw[q] at e;subst e;trivial
    |some t=>
     rw[q] at e
     have w:=I.slot k t q
     cases t with
     |no=>subst e;trivial
     |fz d=>subst e;obtain⟨v,h1,h2⟩:=w;exact⟨v,by rw[h1];rfl,h2⟩
     |bx=>subst e;obtain⟨a,h1,h2⟩:=w;exact⟨a,by rw[h1];rfl,h2⟩
     |ow d=>
      subst e
      obtain⟨a,h1,h2,h3,h4,h5⟩:=w
      obtain⟨o,ho⟩:=h5.obj
      have aD:a≠Da:=aJ ho hD
      refine⟨by show wm _ i=true;unfold wm;rw[e0];rfl,a,by rw[h1];rfl,h4,?_,h5.mono (au.refl _) λo q=>Kt.of (by rw[aC aD];exact q)⟩
      intro hm
      rcases Ks.mp hm with z |z
      ·exact aD z
      ·exact h4 (by simpa using z)
     |br d=>
      subst e
      obtain⟨b1,a,h1,h4,hp,h5⟩:=w
      obtain⟨o,ho⟩:=h5.obj
      have aD:a≠Da:=aJ ho hD
      refine⟨by show wm _ i=true;unfold wm;rw[e0];rfl,a,by rw[h1];rfl,h4,?_,h5.mono (au.refl _) λo q=>Kt.of (by rw[aC aD];exact q)⟩
      intro hm
      rcases Ks.mp hm with z |z
      ·exact aD z
      ·exact h4 (by simpa using z)
def SR.unblock (I:SR Γ B G H σ env β){br:Nat->Bool}(hD:H Da=none)(J:SR (Γ.i5 (upd H Da (.lst [])) G (Da :: B.toList) br B) B Gc Hc σ' envb β'):SR Γ B Gc Hc σ env β'/\iC B H Hc/\Gc Da=none:=by
 obtain⟨q1,q2,q3,q4⟩:=I.fresh hD
 have up:∀{b:Addr},Mx H b->Mx (upd H Da (.lst [])) b:=λ{b} h=>h.same λo e=>Kt.of (by rw[aC (aJ e hD)];exact e)
 have mv0:∀b o,H b=some o->B≠some b->Kt Hc b o:=λb o e n=>J.keep b o (show upd H Da (.lst []) b=some o by rw[aC (aJ e hD)];exact e) λhm=>by
  rcases Ks.mp hm with z |z
  ·rw[z,hD] at e;cases e
  ·exact n (by simpa using z)
 have mv:iC B H Hc:=⟨mv0,λb o u e=>mv0 b _ e λz=>by rw[(I.box b z).1] at e;cases e⟩
 refine⟨⟨J.sub,I.old.trans J.old,λb h1 h2=>J.new b (up (I.thereM h1)) (I.new b h1 h2),λb o h1 h2=>v8 (I.keep b o h1 h2) mv λz=>?_,λb hb=>J.thereM (up (I.pin b hb)),I.fix,λb e=>?_,I.len,λi s e=>?_,I.sep⟩,mv,J.new Da (Mx.lst (show upd H Da (.lst []) Da=some (.lst []) from aB)) q2⟩
 ·obtain⟨_,_,h3⟩:=I.box b z
  rcases h3 with h3 |h3
  ·exact h2 h3
  ·rw[h1] at h3;cases h3
 ·obtain⟨j1,j2,_⟩:=J.box b e
  exact⟨j1,j2,(I.box b e).2.2⟩
 ·have w:=I.slot i s e
  cases s with
  |no=>trivial
  |fz d=>obtain⟨v,h1,h2⟩:=w;exact⟨v,h1,h2.mono J.old⟩
  |bx=>exact w
  |ow d=>
   obtain⟨a,h1,h2,h3,h4,h5⟩:=w
   exact⟨a,h1,h2,J.new a (up h5.mx) h3,h4,h5.mono J.old λo q=>mv.1 a o q h4⟩
  |br d=>
   obtain⟨b1,a,h1,h4,hp,h5⟩:=w
   exact⟨b1,a,h1,h4,hp,h5.mono J.old λo q=>mv.1 a o q h4⟩
def SR.updD {ys:List V}(J:SR Γ B G H σ env β)(hp:Da∈Γ.par)(h0:Mx Γ.H0 Da)(g0:Γ.G0 Da=none)(hB:B≠some Da):SR Γ B G (upd H Da (.lst ys)) σ env β:=by
 have gD:=J.new Da h0 g0
 have ha:∀x y,H Da≠some (.ba x y):=λx y w=>(J.pin Da hp).2 _ w trivial
 refine⟨λb u q=>jY (J.sub b u q) (λz=>by rw[z,gD] at q;cases q) ha,J.old,J.new,λb u q n=>jY (J.keep b u q n) (λz=>n (by rw[z];exact hp)) ha,λb hb=>?_,J.fix,λb e=>?_,J.len,λi s e=>?_,J.sep⟩
 ·by_cases z:b=Da
  ·subst z;exact Mx.lst aB
  ·exact (J.pin b hb).same λo e=>Kt.of (by rw[aC z];exact e)
 ·obtain⟨h1,h2⟩:=J.box b e
  exact⟨by rw[aC (λz=>hB (by rw[<-z];exact e))];exact h1,h2⟩
 ·have w:=J.slot i s e
  cases s with
  |no=>trivial
  |fz d=>exact w
  |bx=>exact w
  |ow d=>
   obtain⟨a,h1,h2,h3,h4,h5⟩:=w
   have aD:a≠Da:=λz=>h0.1 (by rw[<-z];exact h2)
   exact⟨a,h1,h2,h3,h4,h5.mono (au.refl _) λo q=>Kt.of (by rw[aC aD];exact q)⟩
  |br d=>
   obtain⟨b1,a,h1,h4,hpa,h5⟩:=w
   have aD:a≠Da:=λz=>hpa (by rw[z];exact hp)
   exact⟨b1,a,h1,h4,hpa,h5.mono (au.refl _) λo q=>Kt.of (by rw[aC aD];exact q)⟩
end
def R.okb {α γ:Type}(r:R α)(k:α->Int->R γ):R γ:=match r with
 | .ok a β=>k a β
 |_=>.bad
def gu (t:Tg)(ft:VF Bool)(fe:VF D)(vs:List Nv):List D->Int->R (List D)
 | [],β=>.ok [] β
 |d :: ds,β=>match kS t d vs with
  |none=>.bad
  |some vs1=>(ft vs1 β).okb λc β1=>if c=true then (fe vs1 β1).okb λx β2=>(gu t ft fe vs ds β2).okb λxs β3=>.ok (x :: xs) β3 else gu t ft fe vs ds β1
def aQ (own:Nat)(ixs:List Nat)(t:Tg)(fi:VF (List D))(ft:VF Bool)(fe:VF D):VF D:=λvs β=>(fi vs β).bnd λds β1=>if ds.length<=sizeLine then (gu t ft fe (c6 own ixs vs) ds β1).okb λxs β2=>.ok (.list xs) β2 else .bad
def i7:VF Bool:=λ_ β=>.ok true β
def DA (own:Nat)(ixs Lc:List Nat)(j:Nat):Bool:=decide (j < own) || (match ixs[j - own]? with
 |some i=>Lc.contains i
 |none=>false)
theorem C6 {α γ:Type}{Γ:Fx}{E:XK}{r:R α}{k:α->Int->R γ}{P:γ->Int->Prop}(h:Out Γ E (r.okb k) P):∃a β,r=.ok a β/\Out Γ E (k a β) P:=by
 cases r with
 |ok a β=>exact⟨a,β,rfl,h⟩
 |exc c=>exact h.elim
 |bad=>exact h.elim
section
variable {X:Cx}{Γ:Fx}{E:XK}{tg iter elt:Expr}{ifs:List Expr}{scope:Scope}{NB:List Str}{own:Nat}{ixs Li Lc Lt Le:List Nat}{t:Tg}{fi:VF (List D)}{ft:VF Bool}{fe:VF D}{pos:Pos}
def cY {X:Cx}{Γ:Fx}{E:XK}:AV X [] (qT Γ E i7 []):=λpins s σ H Q I ⟨env,G,B,β,J,o⟩=>rf pins s σ H Q I (o G H J (au.refl _) (iC.refl _ _))
def ra {X:Cx}{Γ:Fx}{E:XK}{c:Expr}{ta:VF Bool}{L:List Nat}(h:xj X Γ E c ta L):AV X [c] (qT Γ E ta L):=wL h
def l7 {NB:List Str}{scope:Scope}{C:Addr}{ex:List Addr}{s3:Shared}{H3:Hp}{pn:List (Addr×Obj)}{P:Program}{w:World}:Passes (mS P w) (i5 X NB scope C ex s3 H3 pn) E0:=λpins σ H s e s' I h=>by
 obtain⟨_,_,_,_,_,_,_,_,_,q⟩:=h
 exact q.elim
abbrev gU (Γ:Fx)(t:Tg):TG:=λv σ H Q=>∃H0 G0 par br bx,gT (Γ.i5 H0 G0 par br bx) t v σ H Q
abbrev tU (Γ:Fx)(own:Nat)(ixs Lc:List Nat)(ft:VF Bool)(Lt:List Nat):TT:=λσ H Q=>∃H0 G0 par br bx,(∀j,DA own ixs Lc j=true->br j=false)/\qT (Γ.i5 H0 G0 par br bx) E0 ft Lt σ H Q
abbrev eU (Γ:Fx)(own:Nat)(ixs Lc:List Nat)(fe:VF D)(Le:List Nat):TE:=λσ H Q=>∃H0 G0 par br bx,(∀j,DA own ixs Lc j=true->br j=false)/\pT (Γ.i5 H0 G0 par br bx) E0 fe Le .v σ H Q
def DC {σ:St}{H:Hp}{Q:VK}(hLc:∀i,i∈Lc->Γ.br i=false)(h:pT Γ E (aQ own ixs t fi ft fe) (Li ++ Lc) .w σ H Q):u7 own ixs (iT Γ E fi Li .b) (gU Γ t) (tU Γ own ixs Lc ft Lt) (eU Γ own ixs Lc fe Le) σ H Q:=by
 obtain⟨env,G,B,β,I,o⟩:=h
 refine⟨env,G,B,β,I,o.bnd.imp λds β1 h J G1 H1 I1 s1 m1 wk Da hD=>?_⟩
 have wk:Walk Γ.K B G1 H1 ds J:=wk
 by_cases hz:ds.length<=sizeLine
 case neg=>rw[Kw hz] at h;exact h.elim
 rw[Kl hz] at h
 obtain⟨xs0,β0,e0,h⟩:=C6 h
 have h:∀v G' H',SR Γ B G' H' σ (ba (Li ++ Lc) env) β0->au G G'->iC B H H'->VO Γ.K B H G' H' .w (.list xs0) v->Q v H':=h
 obtain⟨G2,I2,s2⟩:=I1.ba Lc hLc
 rw[<-cm] at I2
 obtain⟨q1,q2,q3,q4⟩:=I2.fresh hD
 have Ib0:=I2.block own ixs hD
 generalize hbr:wm (benv own ixs (ba (Li ++ Lc) env))=br at Ib0
 have hbo:∀j,DA own ixs Lc j=true->br j=false:=by
  intro j hj
  rw[<-hbr]
  unfold wm
  split
  ·rename_i d e
   exfalso
   unfold benv at e
   by_cases hjo:j < own
   ·rw[K4 (by simpa using hjo),LF,Kl hjo] at e;cases e
   ·rw[Ld (by simpa using hjo),Ls,KD] at e
    unfold DA at hj
    rw[KC hjo,Bool.false_or] at hj
    cases ek:ixs[j - own]? with
    |none=>rw[ek] at hj;cases hj
    |some k=>
     rw[ek] at hj e
     have hk:k∈Lc:=by simpa using hj
     have e:Hs (ba (Li ++ Lc) env)[k]? =.br d:=Option.some.inj e
     cases q:(ba (Li ++ Lc) env)[k]? with
     |none=>rw[q] at e;cases e
     |some s=>
      rw[q] at e
      cases s with
      |no=>cases e
      |fz _=>cases e
      |bx=>cases e
      |br d'=>
       obtain⟨b1,_⟩:=I2.slot k _ q
       rw[hLc k hk] at b1;cases b1
      |ow d'=>
       rw[cm] at q
       have key:∀(M:List Nat) (en:En),k∈M->∀d',(ba M en)[k]?≠some (.ow d'):=by
        intro M
        induction M with
        |nil=>intro en hm;cases hm
        |cons i M ih=>
         intro en hm d' z
         rcases Ks.mp hm with y |y
         ·subst y
          have z1:(jd en k)[k]? =some (.ow d'):=qX (L:=M) z
          have z2:=xJ z1
          unfold jd at z1
          rw[z2] at z1
          dsimp only at z1
          rw[KH (KJ.mp z2).1] at z1;cases z1
         ·exact ih (jd en i) y d' z
       exact key Lc _ hk d' q
  ·rfl
 have evb:vl (benv own ixs (ba (Li ++ Lc) env))=c6 own ixs (vl env):=by rw[BQ,eQ]
 refine⟨λi n σ' H'=>n=ds.length - i/\i<=ds.length/\∃envb Gc β' acc accd,SR (Γ.i5 (upd H1 Da (.lst [])) G2 (Da :: B.toList) br B) B Gc H' σ' envb β'/\(envb=benv own ixs (ba (Li ++ Lc) env)\/∃d,gq t d (benv own ixs (ba (Li ++ Lc) env))=some envb)/\
   H' Da=some (.lst acc)/\cn Γ.K Gc acc accd/\accd.length<=i/\∃xs,gu t ft fe (c6 own ixs (vl env)) (ds.drop i) β'=.ok xs β0/\accd ++ xs=xs0,
  ⟨ds.length,by simp,K6 _,_,G2,β1,[],[],Ib0,.inl rfl,aB,.nil,K6 _,xs0,by rw[List.drop_zero];exact e0,rfl⟩,?_⟩
 rintro i n σ' H' ⟨rfl,hi',envb,Gc,β',acc,accd,Ib,eb,hacc,racc,lacc,xs,ec,exs⟩
 obtain⟨Io,mv,gD⟩:=I2.unblock hD Ib
 obtain⟨w1,w2⟩:=wk Gc H' i (s2.trans Ib.old) Ib.sub mv
 by_cases hlt:i < ds.length
 ·obtain⟨go,yl⟩:=w1 hlt
  refine .inr ⟨go,λσ' H'=>∃envb Gc β' acc accd,SR (Γ.i5 (upd H1 Da (.lst [])) G2 (Da :: B.toList) br B) B Gc H' σ' envb β'/\(envb=benv own ixs (ba (Li ++ Lc) env)\/∃d,gq t d (benv own ixs (ba (Li ++ Lc) env))=some envb)/\
   H' Da=some (.lst acc)/\cn Γ.K Gc acc accd/\accd.length<=i + 1/\∃xs,gu t ft fe (c6 own ixs (vl env)) (ds.drop (i + 1)) β'=.ok xs β0/\accd ++ xs=xs0,λσ2 H2 hh=>⟨ds.length - (i + 1),by omega,rfl,hlt,hh⟩,λx H2 y=>?_⟩
  obtain⟨G3,d,x3,ed,rd⟩:=yl x H2 y
  have I3:=Ib.ext x3
  have ed':ds[i]=d:=by rw[Kh hlt] at ed;exact Option.some.inj ed
  rw[List.drop_eq_getElem_cons hlt,ed'] at ec
  unfold gu at ec
  cases ebv:kS t d (c6 own ixs (vl env)) with
  |none=>rw[ebv] at ec;cases ec
  |some vs1=>
   rw[ebv] at ec
   dsimp only at ec
   obtain⟨env1,eb1,ev1⟩:∃env1,gq t d (benv own ixs (ba (Li ++ Lc) env))=some env1/\vl env1=vs1:=by
    have:=CZ t d (benv own ixs (ba (Li ++ Lc) env))
    rw[evb,ebv] at this
    cases q:gq t d (benv own ixs (ba (Li ++ Lc) env)) with
    |none=>rw[q] at this;cases this
    |some env1=>rw[q] at this;exact⟨env1,rfl,Option.some.inj this⟩
   have eb2:gq t d envb=some env1:=by
    rcases eb with rfl | ⟨d0,eb⟩
    ·exact eb1
    ·rw[x9 eb];exact eb1
   have no1:vQ env1:=yG (qu _ _ _) eb1
   have a2:H2 Da=some (.lst acc):=x3.hh _ _ hacc
   refine⟨_,_,_,_,_,envb,G3,B,β',d,env1,I3,rd,eb2,λσ3 I4=>?_⟩
   refine⟨_,_,_,_,_,hbo,env1,G3,B,β',I4,?_⟩
   rw[ev1]
   cases et:ft vs1 β' with
   |exc c=>rw[et] at ec;cases ec
   |bad=>rw[et] at ec;cases ec
   |ok c β2=>
    rw[et] at ec
    intro G4 H4 I5 s4 m4
    rw[uf no1] at I5
    have a4:H4 Da=some (.lst acc):=m4.1 _ _ a2 q3
    cases c with
    |false=>
     refine pK ⟨env1,G4,β2,acc,accd,I5,.inr ⟨d,eb1⟩,a4,racc.mono (x3.gg.trans s4),by omega,xs,?_,exs⟩
     exact ec
    |true=>
     refine p7 ⟨_,_,_,_,_,hbo,env1,G4,B,β2,I5,?_⟩
     rw[ev1]
     have ec:((fe vs1 β2).okb λx β3=>(gu t ft fe (c6 own ixs (vl env)) (ds.drop (i + 1)) β3).okb λxs β4=>R.ok (x :: xs) β4)=R.ok xs β0:=ec
     cases ee:fe vs1 β2 with
     |exc c=>rw[ee] at ec;cases ec
     |bad=>rw[ee] at ec;cases ec
     |ok dx β3=>
      rw[ee] at ec
      intro v G5 H5 I6 s5 m5 vo
      rw[uf no1] at I6
      have a5:H5 Da=some (.lst acc):=m5.1 _ _ a4 q3
      have ec:((gu t ft fe (c6 own ixs (vl env)) (ds.drop (i + 1)) β3).okb λxs β4=>R.ok (dx :: xs) β4)=R.ok xs β0:=ec
      cases er:gu t ft fe (c6 own ixs (vl env)) (ds.drop (i + 1)) β3 with
      |exc c=>rw[er] at ec;cases ec
      |bad=>rw[er] at ec;cases ec
      |ok ys β4=>
       rw[er] at ec
       cases ec
       refine⟨acc,a5,by rw[racc.len];omega,env1,G5,β3,acc ++ [v],accd ++ [dx],?_,.inr ⟨d,eb1⟩,aB,(racc.mono ((x3.gg.trans s4).trans s5)).snoc vo,by rw[KN];simp;omega,ys,er,by rw[<-exs,Mh];rfl⟩
       refine I6.updD (Ku ..) (Mx.lst (show upd H1 Da (.lst []) Da=some (.lst []) from aB)) (I2.sub.free hD) q3
 ·have e:i=ds.length:=by omega
  subst e
  rw[drop_length] at ec
  cases ec
  rw[Mt] at exs
  subst exs
  refine .inl ⟨w2 (Kj _),⟨acc,hacc⟩,h _ Gc H' Io ((s1.trans s2).trans Ib.old) (m1.trans mv) ⟨Da,rfl,e9 m1 I1.boxThere hD,gD,acc,hacc,racc⟩⟩
def bU (hg:∀H0 G0 par br bx C ex s3 H3 pn,SG (i5 X NB scope C ex s3 H3 pn) (Γ.i5 H0 G0 par br bx) tg t)(C:Addr)(ex:List Addr)(s3:Shared)(H3:Hp)(pn:List (Addr×Obj)):PG (i5 X NB scope C ex s3 H3 pn) tg (gU Γ t):=by
 rintro pins s σ H v u Q I r ⟨H0,G0,par,br,bx,q⟩
 exact hg H0 G0 par br bx C ex s3 H3 pn pins s σ H v u Q I r q
def cO (Lc:List Nat)(hc:X.calm=true)(S:dB X NB own ixs scope)(hLc:∀i,i∈Lc->Γ.br i=false)(hi:SI X Γ E tg iter fi Li .b)
  (hg:∀H0 G0 par br bx C ex s3 H3 pn,SG (i5 X NB scope C ex s3 H3 pn) (Γ.i5 H0 G0 par br bx) tg t)
  (ht:∀H0 G0 par br bx C ex s3 H3 pn,(∀j,DA own ixs Lc j=true->br j=false)->AV (i5 X NB scope C ex s3 H3 pn) ifs (qT (Γ.i5 H0 G0 par br bx) E0 ft Lt))
  (he:∀H0 G0 par br bx C ex s3 H3 pn,(∀j,DA own ixs Lc j=true->br j=false)->SE (i5 X NB scope C ex s3 H3 pn) (Γ.i5 H0 G0 par br bx) E0 elt fe Le .v)
  (hs:∀x,foldedSetIterable iter X.env x=pure x:=by intro _;rfl) :
  SE X Γ E (.ListComp elt [⟨tg,iter,ifs,0⟩] scope pos) (aQ own ixs t fi ft fe) (Li ++ Lc) .w:=by
 refine PE.post' (tx (g:=gU Γ t) (tt:=tU Γ own ixs Lc ft Lt) (te:=eU Γ own ixs Lc fe Le) hc S hi (bU hg) (λC ex s3 H3 pn=>?_) (λC ex s3 H3 pn=>?_) hs) λσ H Q h=>DC hLc h
 ·rintro pins s σ H Q I ⟨H0,G0,par,br,bx,b,q⟩
  exact ht H0 G0 par br bx C ex s3 H3 pn b pins s σ H Q I q
 ·rintro pins s σ H Q I ⟨H0,G0,par,br,bx,b,q⟩
  exact he H0 G0 par br bx C ex s3 H3 pn b pins s σ H Q I q
def wF {i:Nat}{y:Str}{py spos:Pos}(Lc:List Nat)(hc:X.calm=true)(S:dB X NB own ixs scope)(hLc:∀i,i∈Lc->Γ.br i=false)(hi:SI X Γ E tg iter fi Li .b)
  (hg:∀H0 G0 par br bx C ex s3 H3 pn,SG (i5 X NB scope C ex s3 H3 pn) (Γ.i5 H0 G0 par br bx) tg t)
  (ht:∀H0 G0 par br bx C ex s3 H3 pn,(∀j,DA own ixs Lc j=true->br j=false)->AV (i5 X NB scope C ex s3 H3 pn) ifs (qT (Γ.i5 H0 G0 par br bx) E0 ft Lt))
  (he:∀H0 G0 par br bx C ex s3 H3 pn,(∀j,DA own ixs Lc j=true->br j=false)->SE (i5 X NB scope C ex s3 H3 pn) (Γ.i5 H0 G0 par br bx) E0 elt fe Le .v)
  (hN:X.N.Nodup) (hy:X.N[i]? =some y:=by rfl) (hl:X.env.scope.names.lookup y=some .local:=by rfl)
  (hsw:swapsWith (.ListComp elt [⟨tg,iter,ifs,0⟩] scope pos) (some (.Name y py)) spos.line X.env=pure true:=by rfl)
  (hs:∀x,foldedSetIterable iter X.env x=pure x:=by intro _;rfl) :
  SS X Γ E (.Assign [.Name y py] (.ListComp elt [⟨tg,iter,ifs,0⟩] scope pos) spos) (bS i (Li ++ Lc) (aQ own ixs t fi ft fe)):=by
 refine PS.post (za (g:=gU Γ t) (tt:=tU Γ own ixs Lc ft Lt) (te:=eU Γ own ixs Lc fe Le) hc S hi (bU hg) (λC ex s3 H3 pn=>?_) (λC ex s3 H3 pn=>?_) hN hy hl hsw hs) λN σ H ⟨env,G,B,β,I,o⟩=>?_
 ·rintro pins s σ H Q I ⟨H0,G0,par,br,bx,b,q⟩
  exact ht H0 G0 par br bx C ex s3 H3 pn b pins s σ H Q I q
 ·rintro pins s σ H Q I ⟨H0,G0,par,br,bx,b,q⟩
  exact he H0 G0 par br bx C ex s3 H3 pn b pins s σ H Q I q
 refine DC hLc ⟨env,G,B,β,I,cX o λd β' k v G' H' I' s' m' vo=>?_⟩
 obtain⟨G2,I2,s2,r⟩:=I.letW I' vo
 exact k B G2 H' _ (I2.set' i r) (s'.trans s2)
end
def fin:SO->FR
 | .nx _ _=>.ok .none false
 | .rt d fr _=>.ok d fr
 | .exc c=>.exc c
 |_=>.bad
def ya (n:Nat)(ds:List D):En:=ds.map Sl.fz ++ List.replicate (n - ds.length) .no
def bE (n p:Nat)(m:SF):List D->FR:=λds=>if ds.length=p then fin (m (ya n ds) 0) else .bad
abbrev Fx.fn (K:Frag)(H G:Hp)(ca:Str->Addr):Fx:=⟨K,H,G,[],ca,λ_=>false,none⟩
def SR.start {K:Frag}{H G:Hp}{ca:Str->Addr}{N:List Str}{vs:List V}{ds:List D}(s:au G H)(r:cn K G vs ds)(hn:ds.length<=N.length):SR (Fx.fn K H G ca) none G H (start N vs) (ya N.length ds) 0:=by
 have hl:=r.len
 refine⟨s,au.refl _,λb _ h=>h,λb o h _=>Kt.of h,λb h=>(by cases h),λb h=>(by cases h),λb h=>(by cases h),?_,λi t e=>?_,λi j a d e h=>?_⟩
 ·unfold L2.start ya;simp;omega
 ·unfold ya at e
  by_cases hi:i < ds.length
  ·rw[K4 (by simpa using hi),KD,Kh hi] at e
   cases e
   obtain⟨x,hx,rx⟩:=r.at (Kh hi)
   refine⟨x,?_,rx⟩
   unfold L2.start
   rw[K4 (by simpa[hl] using hi),KD,hx];rfl
  ·rw[Ld (by simpa using hi),LF] at e
   split at e
   ·cases e;trivial
   ·cases e
 ·unfold ya at h
  have hm:=KA h
  rcases KI.mp hm with z |z
  ·obtain⟨_,_,z⟩:=KZ.mp z;cases z
  ·have:=LA z;cases this
section
variable {P:Program}{w:World}{K:Frag}{mg:Str->Option Value}{base:Heap}{ca:Str->Addr}
def bb {x qual:Str}{st:Stmt}{f:Addr}{fd:FuncData}{N ps:List Str}{k:Nat}{m:SF}(F:BJ K x qual st f fd)(S:aL N ps (av st))
  (hbody:∀(cdv:Value) (A:Around) (outer:List Env) (s:Shared) (H G:Hp) (E:XK),fY k (A.deeper (envOfC qual (av st) s.heap.objs.size f cdv))->BI (kM (mS P w) P w K mg base N qual (av st) f cdv A outer s H E) (Fx.fn K H G ca) E (dY st) m) :
  fL P w K mg base (mS P w) (k + 1) f fd ps (zO K ca ps.length (bE N.length ps.length m)):=by
 have hpn:ps.length<=N.length:=by have:=congrArg List.length S.pre;rw[KU] at this;omega
 refine F.D3 S (λvs H Q E h=>?_) (λcdv A outer s H vs Q E hr h=>?_)
 ·obtain⟨G,ds,sG,hl,r,_⟩:=h
  rw[r.len];exact hl
 ·obtain⟨G,ds,sG,hl,r,h⟩:=h
  refine⟨_,hbody cdv A outer s H G E hr,?_⟩
  have I:=SR.start (ca:=ca) (N:=N) sG r (by omega)
  refine⟨_,G,none,0,I,?_⟩
  unfold bE at h
  rw[Kl hl] at h
  have fin':∀{B G' H' σ env β},SR (Fx.fn K H G ca) B G' H' σ env β->au H H':=λJ b o e=>J.keep b o e (λz=>by cases z)
  cases q:m (ya N.length ds) 0 with
  |nx env β=>rw[q] at h;exact λB G' H' σ J s'=>h .non G' H' (fin' J) s' J.sub (λb h1 h2=>J.new b h1 h2) Rp.non
  |bk env β=>rw[q] at h;exact h.elim
  |ct env β=>rw[q] at h;exact h.elim
  |rt d fr β=>
   rw[q] at h
   refine λB G' H' σ env v J s' rv=>h v G' H' (fin' J) s' J.sub (λb h1 h2=>J.new b h1 h2) ?_
   cases fr with
   |true=>exact rv
   |false=>exact rv
  |exc c=>rw[q] at h;exact λH' kp=>h H' λb o e=>kp b o e (λz=>by cases z)
  |bad=>rw[q] at h;exact h.elim
def uQ {f:Addr}{fd:FuncData}{ps:List Str}{k:Nat}:fL P w K mg base (mS P w) k f fd ps (zO K ca ps.length λ_=>.bad):=
 ⟨λvs H Q E h=>by obtain⟨_,_,_,_,_,h⟩:=h;exact h.elim,λA outer s H args us vs Q E _ _ _ _ h=>by obtain⟨_,_,_,_,_,h⟩:=h;exact h.elim⟩
def Cm {n:Nat}{F F':List D->FR}(h:∀ds,ds.length=n->F' ds≠.bad->F ds=F' ds){vs:List V}{H:Hp}{Q:VK}{E:XK}(q:zO K ca n F' vs H Q E):zO K ca n F vs H Q E:=by
 obtain⟨G,ds,s,hl,r,q⟩:=q
 refine⟨G,ds,s,hl,r,?_⟩
 by_cases hb:F' ds=.bad
 ·rw[hb] at q;exact q.elim
 ·rw[h ds hl hb];exact q
def cW.imp {x:Str}{ps:List Str}{k:Nat}{F F':List D->FR}(h:cW P w K mg base ca x ps k F)(i:∀ds,F' ds≠.bad->F ds=F' ds):cW P w K mg base ca x ps k F':=by
 obtain⟨f,fd,a,b,c,d⟩:=h.ex
 exact⟨⟨f,fd,a,b,c,d.imp λvs H Q E q=>Cm (λds _=>i ds) q⟩,λds hn=>h.len ds (by rw[i ds hn];exact hn)⟩
def aU {n p:Nat}{m:SF}(ds:List D)(h:bE n p m ds≠.bad):ds.length=p:=by
 unfold bE at h
 by_cases hl:ds.length=p
 ·exact hl
 ·rw[Kw hl] at h;exact absurd rfl h
def tD {N:List Str}{qual:Str}{scope:Scope}{f:Addr}{cd:Value}{A:Around}{outer:List Env}{s0:Shared}{H0:Hp}{E:XK}{Γ:Fx}{x:Str}{C:Addr}{np cpos pos:Pos}{e0:Expr}{es:List Expr}{fr:VF (List D)}{L:List Nat}(q:PySem.W.excIn K C [.type "ValueError",.type "Exception",.type "BaseException",.type "object"] "ValueError.__new__"=true)(hca:Γ.ca x=C)
  (hg:Gl (kM (mS P w) P w K mg base N qual scope f cd A outer s0 H0 E) x) (hm:mg x=some (.ref C)) (ha:SA (kM (mS P w) P w K mg base N qual scope f cd A outer s0 H0 E) Γ E (e0 :: es) fr L)
  (he:starEach (e0 :: es) (envOfC qual scope s0.heap.objs.size f cd)=(false,eval e0 (envOfC qual scope s0.heap.objs.size f cd)) :: starEach es (envOfC qual scope s0.heap.objs.size f cd):=by rfl)
  (hpl:(backTo cpos (starEach es (envOfC qual scope s0.heap.objs.size f cd))).any (·.1)=false:=by rfl) (hdb:(x == ("__debug__":Str))=false:=by decide) :
  SS (kM (mS P w) P w K mg base N qual scope f cd A outer s0 H0 E) Γ E (.Raise (some (.Call (.Name x np) (e0 :: es) [] cpos)) none pos) (λenv β=>toS (fr (vl env) β) λds _=>if ds.length<=sizeLine then .exc x else .bad):=by
 refine PS.post (Ae PySem.F.excBase_ValueError (by decide +kernel) q hg hm ha he hpl hdb) λD σ H ⟨env,G,B,β,I,o⟩=>?_
 refine⟨env,G,B,β,I,cX o λds β' k vs G' H' I' s' m' r=>?_⟩
 by_cases hz:ds.length<=sizeLine
 ·rw[Kl hz] at k
  refine⟨by rw[r.len];exact hz,?_⟩
  have:=k H' (I'.kp (au.refl _))
  rw[hca] at this
  exact this
 ·rw[Kw hz] at k;exact k.elim
end
section
variable {X:Cx}{Γ:Fx}{E:XK}{e a b c:Expr}{f fa fb:VF D}{L La Lb:List Nat}{md ma mb:Md}{pos apos cpos np:Pos}
def uV:Option Sl->Bool
 |some (.ow (.list _))=>true
 |_=>false
theorem sR {o:Option Sl}(h:uV o=true):∃ds,o=some (.ow (.list ds)):=by
 cases o with
 |none=>cases h
 |some s=>
  cases s with
  |ow d=>cases d with
   |list ds=>exact⟨ds,rfl⟩
   |_=>cases h
  |_=>cases h
def Gg (i:Nat)(env:En)(β:Int)(g:List D->Option (List D)):SO:=match env[i]? with
 |some (.ow (.list ds))=>(match g ds with
  |some es=>.nx (env.set i (.ow (.list es))) β
  |none=>.bad)
 |_=>.bad
def sH (i:Nat)(L:List Nat)(f:VF D):SF:=λenv β=>if uV env[i]? =true then toS (f (vl env) β) λd β'=>Gg i (ba L env) β' λds=>if ds.length < sizeLine then some (ds ++ [d]) else none else .bad
def xx {Γ:Fx}{E:XK}{G:Hp}{N:Ends}{i:Nat}{env:En}{β:Int}{g:List D->Option (List D)}(h:pI Γ E G N (Gg i env β g)):∃ds es,env[i]? =some (.ow (.list ds))/\g ds=some es/\pI Γ E G N (.nx (env.set i (.ow (.list es))) β):=by
 unfold Gg at h
 split at h
 ·rename_i ds q
  cases e:g ds with
  |none=>rw[e] at h;exact h.elim
  |some es=>rw[e] at h;exact⟨ds,es,q,e,h⟩
 ·exact h.elim
def qM (i:Nat){x:Str}(hb:∀j,Γ.br j=false)(he:SE X Γ E e f L .v)(hN:X.N[i]? =some x:=by rfl)(hv:xO X.env.scope x:=by first |exact Or.inl rfl |exact Or.inr (Or.inl rfl) |exact Or.inr (Or.inr rfl))(hd:(x == ("__debug__":Str))=false:=by decide)
  (hcd:(x == ("__classdict__":Str))=false:=by decide)
  (hbase:attributeBase (.Name x np) "append" X.env (eval (.Name x np) X.env)=eval (.Name x np) X.env:=by rfl)
  (hfew:((backTo cpos (starEach [e] X.env)).all (λx=> !x.1) && (backToKw cpos (keywordEach [] X.env)).all (λx=>x.1.isSome)
   && decide ([e].length + ([]:List Keyword).length + (if ([]:List Keyword).isEmpty then 0 else 1) < 30))=true:=by rfl)
  (hline:(apos.endLine == cpos.line)=true:=by rfl) (hs:starEach [e] X.env=(false,eval e X.env) :: starEach [] X.env:=by rfl)
  (hsw:swapsWith (.Call (.Attribute (.Name x np) "append" apos) [e] [] cpos) none pos.line X.env=pure false:=by rfl) :
  SS X Γ E (.Expr (.Call (.Attribute (.Name x np) "append" apos) [e] [] cpos) pos) (sH i L f):=by
 refine PS.post (rG (Bd PySem.F.plainAttrs_list PySem.F.slot_list_append PySem.F.type_list_append mI (kh hN hv hd hcd) (bc he cv hs) hbase hfew hline hs rfl) hsw) λN σ H ⟨env,G,B,β,I,o⟩=>?_
 unfold sH at o
 by_cases hO:uV env[i]? =true
 case neg=>rw[Kw hO] at o;exact o.elim
 rw[Kl hO] at o
 obtain⟨ds0,q0⟩:=sR hO
 obtain⟨p,h1,_,_,_,xs,h5,_⟩:=I.slot i _ q0
 refine⟨_,h1,.inl ⟨rfl,xs,.inl (.inl h5)⟩,?_⟩
 refine⟨env,G,B,β,I,cX o λd β' k v G' H' I' s' m' vo=>?_⟩
 obtain⟨ds,es,q,eg,k⟩:=xx k
 by_cases hz:ds.length < sizeLine
 case neg=>rw[Kw hz] at eg;cases eg
 rw[Kl hz] at eg
 cases eg
 obtain⟨p',g1,_,_,_,ys,g5,g6⟩:=I'.slot i _ q
 rw[h1] at g1;cases g1
 refine⟨p,ys,v,rfl,rfl,g5,by rw[g6.len];exact hz,?_⟩
 exact k B G' _ σ (I'.write hb q h1 λH2 e2 s2=>⟨_,e2,g6.snoc vo⟩) s'
def Inv.lstR {pins:List (Addr×Obj)}{σ:St}{H:Hp}{s:Shared}{l:Addr}{xs:List V}(I:Inv X pins σ H s)(hH:Rd H l (.lst xs)):xs.length<=sizeLine/\∃(its:List Value) (n:Nat),Vals xs its/\xs.length=its.length/\s.heap.get? l=some {cls:=.type "list",data:=.seq its.toArray n}:=by
 obtain⟨z,its,n,r,e⟩:=hH.ok I.hok
 exact⟨z,its,n,r,r.length,e⟩
end
section
variable {K:Frag}{X:Cx}
def uo {g:Int->Int->V}{gd:D->D->Option D}(h:∀dx dy d,gd dx dy=some d->∃i j,dx=.int i/\dy=.int j/\∀G,Rp K G (g i j) d):kY K (yY g) gd .v:=by
 intro B G H x y dx dy d Q s hB bx by' e k
 obtain⟨i,j,rfl,rfl,r⟩:=h _ _ _ e
 obtain rfl:=bx.int
 obtain rfl:=by'.int
 exact⟨i,j,rfl,rfl,k _ G H (Ext.refl s) (r G)⟩
def xW {C:Int->Int->Prop}{g:Int->Int->V}{gd:D->D->Option D}(h:∀dx dy d,gd dx dy=some d->∃i j,dx=.int i/\dy=.int j/\C i j/\∀G,Rp K G (g i j) d):kY K (rI C g) gd .v:=by
 intro B G H x y dx dy d Q s hB bx by' e k
 obtain⟨i,j,rfl,rfl,c,r⟩:=h _ _ _ e
 obtain rfl:=bx.int
 obtain rfl:=by'.int
 exact⟨i,j,rfl,rfl,c,k _ G H (Ext.refl s) (r G)⟩
def gI (c:Int->Int->Bool)(g:Int->Int->D):D->D->Option D
 | .int i,.int j=>if c i j=true then some (g i j) else none
 |_,_=>none
def wd (g:Int->Int->D):D->D->Option D
 | .int i,.int j=>some (g i j)
 |_,_=>none
def wW {c:Int->Int->Bool}{g:Int->Int->D}{dx dy d:D}(h:gI c g dx dy=some d):∃i j,dx=.int i/\dy=.int j/\c i j=true/\d=g i j:=by
 unfold gI at h
 split at h
 ·split at h
  ·cases h;exact⟨_,_,rfl,rfl,by assumption,rfl⟩
  ·cases h
 ·cases h
def k7 {g:Int->Int->D}{dx dy d:D}(h:wd g dx dy=some d):∃i j,dx=.int i/\dy=.int j/\d=g i j:=by
 unfold wd at h
 split at h
 ·cases h;exact⟨_,_,rfl,rfl,rfl⟩
 ·cases h
def ji:D->D->Option D:=wd λi j=>.int (i - j)
def xF:kY K (yY λi j=>.int (i - j)) ji .v:=uo λdx dy d h=>by obtain⟨i,j,rfl,rfl,rfl⟩:=k7 h;exact⟨i,j,rfl,rfl,λ_=>.int _⟩
def Gf:D->D->Option D:=gI (λ_ j=>decide (0 < j) && decide (j < 1073741824)) λi j=>.int (i / j)
def Hz:kY K (rI Ct λi j=>.int (i / j)) Gf .v:=xW λdx dy d h=>by obtain⟨i,j,rfl,rfl,c,rfl⟩:=wW h;exact⟨i,j,rfl,rfl,by simpa[Ct] using c,λ_=>.int _⟩
def jU:D->D->Option D:=gI (λ_ j=>decide (0 < j)) λi j=>.int (i % j)
def qF:kY K (rI (λ_ j=>0 < j) λi j=>.int (i % j)) jU .v:=xW λdx dy d h=>by obtain⟨i,j,rfl,rfl,c,rfl⟩:=wW h;exact⟨i,j,rfl,rfl,by simpa using c,λ_=>.int _⟩
def Ee (i j:Int):Bool:=decide (0<=j) && decide (j<=1000000) && decide (i.natAbs < 2 ^ 64)
def Bj:D->D->Option D:=gI Ee λi j=>.int (i ^ j.toNat)
def Co {i j:Int}(h:Ee i j=true):Em i j:=by
 unfold Ee at h
 simp only[Km,KQ] at h
 exact⟨h.1.1,h.1.2,h.2⟩
def Gz:kY K (rI Em λi j=>.int (i ^ j.toNat)) Bj .v:=xW λdx dy d h=>by obtain⟨i,j,rfl,rfl,c,rfl⟩:=wW h;exact⟨i,j,rfl,rfl,Co c,λ_=>.int _⟩
def sW:D->D->Option D:=wd λi j=>.bool (decide (i < j))
def tf:D->D->Option D:=wd λi j=>.bool (decide (i<=j))
def Ef:D->D->Option D:=wd λi j=>.bool (decide (j < i))
def z7:kY K (yY λi j=>.bl (decide (i < j))) sW .v:=uo λdx dy d h=>by obtain⟨i,j,rfl,rfl,rfl⟩:=k7 h;exact⟨i,j,rfl,rfl,λ_=>.bl _⟩
def uY:kY K (yY λi j=>.bl (decide (i<=j))) tf .v:=uo λdx dy d h=>by obtain⟨i,j,rfl,rfl,rfl⟩:=k7 h;exact⟨i,j,rfl,rfl,λ_=>.bl _⟩
def HK:kY K (yY λi j=>.bl (decide (j < i))) Ef .v:=uo λdx dy d h=>by obtain⟨i,j,rfl,rfl,rfl⟩:=k7 h;exact⟨i,j,rfl,rfl,λ_=>.bl _⟩
mutual
theorem wI:∀d:D,d.canLay0=true->y9 d=true
 | .none,_=>rfl
 | .bool _,_=>rfl
 | .int _,_=>rfl
 | .str _,_=>rfl
 | .list ds,h=>by simp only[PyData.canLay0] at h;simp only[y9];exact oj ds h
 | .tuple ds,h=>by simp only[PyData.canLay0] at h;simp only[y9];exact oj ds h
 | .dict _,h=>by simp[PyData.canLay0] at h
theorem oj:∀ds:List D,PyData.canLayAll0 ds=true->pO ds=true
 | [],_=>rfl
 |d :: ds,h=>by
  simp only[PyData.canLayAll0,Km] at h
  simp only[pO,Km]
  exact⟨wI d h.1,oj ds h.2⟩
end
def rm {d:D}(h:SeqAt.shaped d=true):y9 d=true:=wI d (LK h)
theorem xu:∀{ds:List D},(ds.all SeqAt.shaped)=true->pO ds=true
 | [],_=>rfl
 |d :: ds,h=>by
  rw[all_cons,Km] at h
  simp only[pO,Km]
  exact⟨rm h.1,xu h.2⟩
def cG (neg:Bool)(x y:D):Option D:=if (SeqAt.shaped x && SeqAt.shaped y)=true then some (.bool (if neg then !PyData.eqv x y else PyData.eqv x y)) else none
def fk {neg:Bool}:kY K (EA K neg) (cG neg) .v:=by
 intro B G H x y dx dy d Q s hB bx by' e k
 unfold cG at e
 split at e
 ·rename_i h
  rw[Km] at h
  cases e
  exact⟨dx,dy,(bx.rpH s).rep (rm h.1),(by'.rpH s).rep (rm h.2),h.1,h.2,k _ G H (Ext.refl s) (.bl _)⟩
 ·cases e
def rz (neg:Bool)(x y:D):Option D:=match pf y with
 |some ds=>if (SeqAt.shaped x && ds.all SeqAt.shaped)=true then some (.bool (if neg then !(ds.any λe=>PyData.eqv e x) else ds.any λe=>PyData.eqv e x)) else none
 |none=>none
theorem kW.seq {B:Option Addr}{G H:Hp}{v:V}{d:D}{ds:List D}(h:kW K B G H v d)(e:pf d=some ds)(s:au G H):∃a xs,v=.ref a/\(iw K H a xs\/fy K H a xs)/\cn K G xs ds:=by
 cases d with
 |list l=>cases e;obtain⟨a,xs,e,q,r⟩:=h.list s;exact⟨a,xs,e,.inl (.inl q),r⟩
 |tuple l=>cases e;obtain⟨a,xs,e,q,r⟩:=h.tuple s;exact⟨a,xs,e,.inr q,r⟩
 |_=>cases e
theorem tu {neg:Bool}:kY K (ED K neg) (rz neg) .v:=by
 intro B G H x y dx dy d Q s hB bx by' e k
 unfold rz at e
 cases q:pf dy with
 |none=>rw[q] at e;cases e
 |some ds=>
  rw[q] at e
  dsimp only at e
  split at e
  ·rename_i h
   rw[Km] at h
   cases e
   obtain⟨a,xs,rfl,hq,r⟩:=by'.seq q s
   refine⟨a,xs,dx,ds,rfl,hq,(r.mono s).reps (xu h.2),(bx.rpH s).rep (rm h.1),h.1,λe he=>Lf.mp h.2 e he,k _ G H (Ext.refl s) (.bl _)⟩
  ·cases e
def yI:D->Bool
 | .none=>true
 |_=>false
theorem cn.ints {G:Hp}:∀ns:List Int,cn K G (ns.map V.int) (ns.map int)
 | []=>.nil
 |n :: ns=>.cons (.int n) (cn.ints ns)
theorem yg.noNone {G:Hp}{kvs:List (Key×V)}{d:D}{r:List (D×D)}(h:yg K G kvs ((.none,d) :: r)):False:=by
 generalize e:(PyData.none,d) :: r=l at h
 cases h with
 |nil=>cases e
 | @cons k x xs d' ds _ _=>
  injection e with e1 _
  injection e1 with e2 _
  cases k <;> cases e2
theorem y0.noNone {G:Hp}{kvs:List (List Key×V)}{d:D}{r:List (D×D)}(h:y0 K G kvs ((.none,d) :: r)):False:=by
 generalize e:(PyData.none,d) :: r=l at h
 cases h with
 |nil=>cases e
 | @cons k x xs d' ds _ _=>
  injection e with e1 _
  injection e1 with e2 _
  cases e2
def kW.scr {B:Option Addr}{G H:Hp}{v:V}{ds:List D}(h:kW K B G H v (.dict [(.none,.list ds)]))(s:au G H):∃a xs,v=.ref a/\iw K H a xs/\cn K G xs ds:=by
 rcases h with h | ⟨a,rfl,n,h⟩
 ·cases h with
  | @scr a ns q=>exact⟨a,_,rfl,s.seq q,cn.ints ns⟩
  |dK _ r=>exact r.noNone.elim
  |dT _ r=>exact r.noNone.elim
 ·rcases h with⟨_,_,r⟩ | ⟨_,_,r⟩
  ·exact r.noNone.elim
  ·exact r.noNone.elim
def aW:D->D->Option D
 | .list ds,.int i=>i9 ds i
 | .tuple ds,.int i=>i9 ds i
 | .str z,.int i=>if z.length<=sizeLine then (i9 z.cps.toList i).map λc=>.str ⟨#[c]⟩ else none
 | .dict [(.none,.list ds)],.int i=>i9 ds i
 |_,_=>none
theorem rM {G:Hp}{xs:List V}{ds:List D}{i:Int}{d:D}(r:cn K G xs ds)(h:i9 ds i=some d):∃x,i9 xs i=some x/\Rp K G x d:=by
 unfold i9 at h ⊢
 rw[r.len]
 cases e:sU ds.length i with
 |none=>rw[e] at h;cases h
 |some j=>rw[e] at h;exact r.at h
theorem a7:kY K (JP K) aW .v:=by
 intro B G H x y dx dy d Q s hB bx by' e k
 cases dx with
 |list ds=>
  cases dy with
  |int i=>
   obtain rfl:=by'.int
   obtain⟨a,xs,rfl,q,r⟩:=bx.list s
   obtain⟨v,ev,rv⟩:=rM r e
   exact .inl ⟨a,xs,i,v,rfl,rfl,.inl q,ev,k _ G H (Ext.refl s) rv⟩
  |_=>cases e
 |tuple ds=>
  cases dy with
  |int i=>
   obtain rfl:=by'.int
   obtain⟨a,xs,rfl,q,r⟩:=bx.tuple s
   obtain⟨v,ev,rv⟩:=rM r e
   exact .inr (.inl ⟨a,xs,i,v,rfl,rfl,q,ev,k _ G H (Ext.refl s) rv⟩)
  |_=>cases e
 |str z=>
  cases dy with
  |int i=>
   obtain rfl:=by'.int
   obtain rfl:=bx.str
   simp only[aW] at e
   split at e
   ·rename_i hz
    cases q:i9 z.cps.toList i with
    |none=>rw[q] at e;cases e
    |some c=>rw[q] at e;cases e;exact .inr (.inr ⟨z,i,c,rfl,rfl,hz,q,k _ G H (Ext.refl s) (.str _)⟩)
   ·cases e
  |_=>cases e
 |none=>cases dy <;> cases e
 |bool b=>cases dy <;> cases e
 |int b=>cases dy <;> cases e
 |dict b=>
  obtain⟨ds,i,rfl,rfl,e⟩:∃ds i,b= [(.none,.list ds)]/\dy=.int i/\i9 ds i=some d:=by
   unfold aW at e
   split at e
   ·contradiction
   ·contradiction
   ·contradiction
   ·rename_i h;cases h;exact⟨_,_,rfl,rfl,e⟩
   ·cases e
  obtain rfl:=by'.int
  obtain⟨a,xs,rfl,q,r⟩:=bx.scr s
  obtain⟨v,ev,rv⟩:=rM r e
  exact .inl ⟨a,xs,i,v,rfl,rfl,q,ev,k _ G H (Ext.refl s) rv⟩
def bW:D->Option D
 | .list ds=>some (.int ds.length)
 | .tuple ds=>some (.int ds.length)
 | .str z=>if z.length<=sizeLine then some (.int z.length) else none
 | .dict [(.none,.list ds)]=>some (.int ds.length)
 |_=>none
def JF (K:Frag):List V->Hp->VK->Prop:=λxs H Q=>∃x n,xs= [x]/\Hj K x H n/\Q (.int n) H
def dE:z8 K (λx=>JF K [x]) bW .v:=by
 intro B G H x dx d Q s hB bx e k
 unfold bW at e
 split at e
 ·cases e;obtain⟨a,xs,rfl,q,r⟩:=bx.list s;exact⟨_,_,rfl,.inl ⟨xs,.inl q,r.len.symm⟩,k _ G H (Ext.refl s) (.int _)⟩
 ·cases e;obtain⟨a,xs,rfl,q,r⟩:=bx.tuple s;exact⟨_,_,rfl,.inr ⟨xs,q,r.len.symm⟩,k _ G H (Ext.refl s) (.int _)⟩
 ·obtain rfl:=bx.str
  split at e
  ·rename_i hz;cases e;exact⟨_,_,rfl,⟨hz,rfl⟩,k _ G H (Ext.refl s) (.int _)⟩
  ·cases e
 ·cases e;obtain⟨a,xs,rfl,q,r⟩:=bx.scr s;exact⟨_,_,rfl,.inl ⟨xs,q,r.len.symm⟩,k _ G H (Ext.refl s) (.int _)⟩
 ·cases e
def lu:D->Option D
 | .list ds=>some (.tuple ds)
 | .tuple ds=>some (.tuple ds)
 |_=>none
theorem lK:z8 K (λx H Q=>∃p ys,[x]= [.ref p]/\((iw K H p ys/\∀l,H l=none->Q (.ref l) (upd H l (.tup ys)))\/(fy K H p ys/\Q (.ref p) H))) lu .v:=by
 intro B G H x dx d Q s hB bx e k
 cases dx with
 |list ds=>
  cases e
  obtain⟨a,xs,rfl,q,r⟩:=bx.list s
  refine⟨a,xs,rfl,.inl ⟨.inl q,λl hl=>?_⟩⟩
  have x:=Ext.new s (o:=.tup xs) hl
  exact k _ _ _ x (.tup (.inl (.inl aB)) (r.mono x.gg))
 |tuple ds=>
  cases e
  rcases bx with bx | ⟨_,_,_,z⟩
  ·cases bx with
   | @tup a xs _ hq r=>exact⟨a,xs,rfl,.inr ⟨hq.grow s.grow,k _ G H (Ext.refl s) (.tup hq r)⟩⟩
  ·exact z.elim
 |_=>cases e
def uJ:D->Option D
 | .list ds=>some (.list ds)
 | .tuple ds=>some (.list ds)
 |_=>none
def vn:z8 K (λx H Q=>∃p ys,[x]= [.ref p]/\(iw K H p ys\/fy K H p ys)/\∀l,H l=none->Q (.ref l) (upd H l (.lst ys))) uJ .w:=by
 intro B G H x dx d Q s hB bx e k
 obtain⟨ds,e1,rfl⟩:∃ds,pf dx=some ds/\d=.list ds:=by
  cases dx <;> cases e <;> exact⟨_,rfl,rfl⟩
 obtain⟨a,xs,rfl,hq,r⟩:=bx.seq e1 s
 refine⟨a,xs,rfl,hq,λl hl=>?_⟩
 exact k _ _ _ (Ext.own s (o:=.lst xs) hl) ⟨l,rfl,hl,s.free hl,xs,aB,r⟩
def j3:List D->Option (List Bool)
 | []=>some []
 | .bool b :: ds=>(j3 ds).map (b :: ·)
 |_=>none
theorem qK {G:Hp}:∀{ds:List D} {bs:List Bool} {xs:List V},j3 ds=some bs->cn K G xs ds->xs=bs.map V.bl
 | [],bs,xs,e,r=>by cases e;cases r;rfl
 | .bool b :: ds,bs,xs,e,r=>by
  cases r with
  |cons r1 r2=>
   cases r1
   simp only[j3] at e
   cases q:j3 ds with
   |none=>rw[q] at e;cases e
   |some cs=>rw[q] at e;cases e;rw[qK q r2];rfl
 | .none :: _,_,_,e,_=>by cases e
 | .int _ :: _,_,_,e,_=>by cases e
 | .str _ :: _,_,_,e,_=>by cases e
 | .list _ :: _,_,_,e,_=>by cases e
 | .tuple _ :: _,_,_,e,_=>by cases e
 | .dict _ :: _,_,_,e,_=>by cases e
def bN (f:List Bool->Bool):D->Option D
 | .list ds=>(j3 ds).map λbs=>.bool (f bs)
 |_=>none
theorem gi {f:List Bool->Bool}:z8 K (λx=>v5 K f [x]) (bN f) .v:=by
 intro B G H x dx d Q s hB bx e k
 cases dx with
 |list ds=>
  simp only[bN] at e
  cases q:j3 ds with
  |none=>rw[q] at e;cases e
  |some bs=>
   rw[q] at e
   cases e
   obtain⟨a,xs,rfl,hq,r⟩:=bx.list s
   obtain rfl:=qK q r
   exact⟨a,bs,rfl,.inl hq,k _ G H (Ext.refl s) (.bl _)⟩
 |_=>cases e
def DI:R2:=λx y H Q=>∃l b xs zs,x=.ref l/\y=.ref b/\Rd H l (.lst xs)/\Rd H b (.lst zs)/\xs.length + zs.length<=sizeLine/\∀p,H p=none->Q (.ref p) (upd H p (.lst (xs ++ zs)))
def cD:jT X (binaryOp .Add) DI:=by
 intro pins s σ H x y v u Q I rx ry h
 obtain⟨l,b,xs,zs,rfl,rfl,hH,hB,hz,q⟩:=h
 cases rx
 cases ry
 obtain⟨z,its,n,r,hl,e⟩:=I.lstR hH
 obtain⟨z2,its2,n2,r2,hl2,e2⟩:=I.lstR hB
 refine PySem.P.add_list e e2 ?_ (by rw[Kz,Kz];omega)
 have ea:its.toArray ++ its2.toArray=(its ++ its2).toArray:=by simp
 rw[ea]
 exact⟨.ref _,_,I.lnew (t':=s.toks) (r.append r2) (by rw[KN];omega),rfl,q _ I.fresh⟩
def eR:D->D->Option D
 | .list a,.list b=>if a.length + b.length<=sizeLine then some (.list (a ++ b)) else none
 |_,_=>none
def gA:kY K DI eR .w:=by
 intro B G H x y dx dy d Q s hB bx by' e k
 cases dx <;> cases dy <;> first | (cases e;done) |skip
 rename_i a b
 simp only[eR] at e
 split at e
 ·rename_i hz
  cases e
  obtain⟨p,xs,rfl,q1,r1⟩:=bx.list s
  obtain⟨p2,ys,rfl,q2,r2⟩:=by'.list s
  refine⟨p,p2,xs,ys,rfl,rfl,q1,q2,by rw[r1.len,r2.len];exact hz,λl hl=>?_⟩
  exact k _ _ _ (Ext.own s (o:=.lst (xs ++ ys)) hl) ⟨l,rfl,hl,s.free hl,_,aB,r1.append r2⟩
 ·cases e
def b4:D->D->Option D:=wd λi j=>.int (i + j)
def fV:kY K (yY λi j=>.int (i + j)) b4 .v:=uo λdx dy d h=>by obtain⟨i,j,rfl,rfl,rfl⟩:=k7 h;exact⟨i,j,rfl,rfl,λ_=>.int _⟩
def dF:D->D->Option D:=gI (λi j=>(decide (-(2 ^ 64) < i) && decide (i < 2 ^ 64)) || (decide (-(2 ^ 64) < j) && decide (j < 2 ^ 64))) λi j=>.int (i * j)
def lg:kY K (rI AW λi j=>.int (i * j)) dF .v:=xW λdx dy d h=>by obtain⟨i,j,rfl,rfl,c,rfl⟩:=wW h;exact⟨i,j,rfl,rfl,by simpa[AW] using c,λ_=>.int _⟩
def B0:D->D->Option D
 | .list a,.int k=>if -(2 ^ 63)<=k/\k < 2 ^ 63/\a.length * k.toNat<=sizeLine then some (.list (List.replicate k.toNat a).flatten) else none
 |_,_=>none
def Ez {a b:Expr}{fa fb:VF D}{La Lb:List Nat}{mb:Md}{Γ:Fx}{E:XK}{pos:Pos}(ha:SE X Γ E a fa La .w)(hb:SE X Γ E b fb Lb mb):SE X Γ E (.BinOp a .Mult b pos) (f2 fa fb B0) (La ++ Lb) .w:=by
 refine PE.post' (qv zC ha hb) λσ H Q ⟨env,G,B,β,I,o⟩=>?_
 refine⟨env,G,B,β,I,o.bnd.imp λd1 β1 h x G1 H1 I1 s1 m1 vx=>⟨ba La env,G1,B,β1,I1,?_⟩⟩
 rw[eQ]
 refine h.bnd.imp λd2 β2 h y G2 H2 I2 s2 m2 vy=>?_
 obtain⟨d,e,k⟩:=h.of
 rw[<-cm] at I2
 obtain⟨p,rfl,p1,p2,p3⟩:=vx
 have by':=vy.brw I1.boxThere
 cases d1 <;> cases d2 <;> first | (cases e;done) |skip
 rename_i l j
 obtain rfl:=by'.int
 simp only[B0] at e
 split at e
 ·rename_i hz
  cases e
  obtain⟨xs,q,r⟩:=p3
  obtain⟨q1,q2,q3,q4⟩:=I.fresh p1
  have r2:=r.mono s2
  refine⟨p,j,xs,rfl,rfl,m2.1 _ _ q q3,hz.1,hz.2.1,by rw[r.len];exact hz.2.2,λl hl=>?_⟩
  have x:=Ext.own I2.sub (o:=.lst (List.replicate j.toNat xs).flatten) hl
  exact k _ _ _ (I2.ext x) ((s1.trans s2).trans x.gg) ((m1.trans m2).trans (x.hh.mov B)) ⟨l,rfl,e9 (m1.trans m2) I2.boxThere hl,I2.sub.free hl,_,aB,r2.rep⟩
 ·cases e
def Dg:D->Option D
 | .int i=>some (.int (-i))
 |_=>none
theorem wy:z8 K (rU λi=>.int (-i)) Dg .v:=by
 intro B G H x dx d Q s hB bx e k
 cases dx with
 |int i=>cases e;obtain rfl:=bx.int;exact⟨i,rfl,k _ G H (Ext.refl s) (.int _)⟩
 |_=>cases e
def HS:D->String
 | .none=>"NoneType"
 | .bool _=>"bool"
 | .int _=>"int"
 | .str _=>"str"
 | .list _=>"list"
 | .tuple _=>"tuple"
 | .dict _=>"dict"
def zd (d:D)(T:String):Bool:=HS d == T || (T == "int" && HS d == "bool")
def b5:D->Bool
 | .dict ((.none,_) :: _)=>true
 |_=>false
def dw (T:String)(d:D):Option D:=if b5 d=true then none else some (.bool (zd d T))
def JR (K:Frag)(H:Hp)(x:V)(t:String):Prop:=CO K H x t\/(t="dict"/\∃a kvs,x=.ref a/\H a=some (.dT kvs))
def Hh (K:Frag):List V->Hp->VK->Prop:=λxs H Q=>∃x T t b,xs= [x,.ty T]/\JR K H x t/\PySem.W.kitOne K (.type t) (.type T)=some b/\Q (.bl b) H
def Bi:fD X (.builtin "isinstance") (Hh X.K):=by
 intro pins s σ H xs us Q I r h
 obtain⟨x,T,t,b,rfl,ty,e,q⟩:=h
 rcases ty with ty | ⟨rfl,a,kvs,rfl,hk⟩
 ·exact BE pins s σ H _ us Q I r ⟨x,T,t,b,rfl,ty,e,q⟩
 ·obtain⟨u,c,rfl,rx,rc⟩:=vals2 r
  cases rc
  cases rx
  obtain⟨_,_,_,_,o,_,_,e2,ex,_⟩:=I.hok a _ hk
  exact K9 PySem.W.kitx_dict I.kIn ⟨o,e2,ex.1⟩ e (λz=>nomatch z) λtk=>⟨.bl b,H,I.tok tk,rfl,q⟩
theorem kW.ty {B:Option Addr}{G H:Hp}{v:V}{d:D}(h:kW K B G H v d)(s:au G H)(n:b5 d=false):JR K H v (HS d):=by
 cases d with
 |none=>obtain rfl:=h.none;exact .inl .non
 |bool b=>obtain rfl:=h.bool;exact .inl (.bl b)
 |int b=>obtain rfl:=h.int;exact .inl (.int b)
 |str b=>obtain rfl:=h.str;exact .inl (.str b)
 |list b=>obtain⟨a,xs,rfl,q,_⟩:=h.list s;exact .inl (.lst (.inl q))
 |tuple b=>obtain⟨a,xs,rfl,q,_⟩:=h.tuple s;exact .inl (.tup q)
 |dict b=>
  rcases h with h | ⟨a,rfl,_,h⟩
  ·cases h with
   |scr _=>cases n
   |dK q _=>exact .inl (.dic (s _ _ q))
   |dT q _=>exact .inr ⟨rfl,_,_,rfl,s _ _ q⟩
  ·rcases h with⟨_,q,_⟩ | ⟨_,q,_⟩
   ·exact .inl (.dic q)
   ·exact .inr ⟨rfl,_,_,rfl,q⟩
theorem HE {d:D}{T:String}(hT:T∈ ["int","bool","str","list","tuple","dict"]):PySem.W.kitOne K (.type (HS d)) (.type T)=some (zd d T):=by
 simp only[Ks,K0,LL] at hT
 cases d with
 |dict l=>rcases hT with rfl |rfl |rfl |rfl |rfl |rfl <;> rfl
 |none=>rcases hT with rfl |rfl |rfl |rfl |rfl |rfl <;> rfl
 |bool _=>rcases hT with rfl |rfl |rfl |rfl |rfl |rfl <;> rfl
 |int _=>rcases hT with rfl |rfl |rfl |rfl |rfl |rfl <;> rfl
 |str _=>rcases hT with rfl |rfl |rfl |rfl |rfl |rfl <;> rfl
 |list _=>rcases hT with rfl |rfl |rfl |rfl |rfl |rfl <;> rfl
 |tuple _=>rcases hT with rfl |rfl |rfl |rfl |rfl |rfl <;> rfl
def eJ {a:Expr}{fa:VF D}{La:List Nat}{ma:Md}{Γ:Fx}{E:XK}{pos p p2:Pos}(T:String){y:Str}(hT:T∈ ["int","bool","str","list","tuple","dict"])(hK:X.K=Γ.K)(hg:Gl X "isinstance")(hm:X.mg "isinstance"=none)(hgT:Gl X y)(hmT:X.mg y=none)(hvT:bootBuiltins y=some (.type T))(ha:SE X Γ E a fa La ma)
  (hnT:y≠"__name__":=by decide) (hdT:(y == ("__debug__":Str))=false:=by decide)
  (he:starEach [a,.Name y p2] X.env=(false,eval a X.env) :: starEach [.Name y p2] X.env:=by rfl) (he2:starEach [.Name y p2] X.env=(false,eval (.Name y p2) X.env) :: starEach [] X.env:=by rfl) (hpl:(backTo pos (starEach [.Name y p2] X.env)).any (·.1)=false:=by rfl) :
  SE X Γ E (.Call (.Name "isinstance" p) [a,.Name y p2] [] pos) (f1 fa (dw T)) La .v:=by
 refine PE.post' (lS Bi hg hm (by decide +kernel) (bc ha (bc (CF hgT hmT hvT (show RelV (.ty T) _ from rfl) hnT hdT) cv he2) he) (by decide) (by decide) he hpl) λσ H Q ⟨env,G,B,β,I,o⟩=>?_
 refine kz (r:=λx H1 Q=>Hh X.K [x,.ty T] H1 Q) ?_ I o
 intro B G H x dx d Q s hB bx e k
 unfold dw at e
 split at e
 ·cases e
 ·rename_i hn
  cases e
  rw[hK]
  exact⟨x,T,HS dx,zd dx T,rfl,bx.ty s (by simpa using hn),HE hT,k _ G H (Ext.refl s) (.bl _)⟩
def fx (fa fb fc:VF D)(g g':D->D->Option D):VF D:=λvs β=>(fa vs β).bnd λx β1=>(fb vs β1).bnd λy β2=>match g x y with
 |some (.bool true)=>(fc vs β2).bnd λz β3=>R.of (g' y z) β3
 |some (.bool false)=>.ok (.bool false) β2
 |_=>.bad
theorem oQ {a b c:Expr}{fa fb fc:VF D}{ma mb mc:Md}{Γ:Fx}{E:XK}{pos:Pos}{op op':CmpOp}{r r':R2}{g g':D->D->Option D}(ho:jT X (compareOp op) r)(ho':jT X (compareOp op') r')(pr:kY Γ.K r g .v)(pr':kY Γ.K r' g' .v)(ha:SE X Γ E a fa [] ma)(hb:SE X Γ E b fb [] mb)(hc:SE X Γ E c fc [] mc)
  (hm:lastMarks [op,op'] [b,c]=false:=by with_unfolding_all rfl):SE X Γ E (.Compare a [op,op'] [b,c] pos) (fx fa fb fc g g') [] .v:=by
 refine PE.post' (Bz ho ho' ha hb hc hm) λσ H Q ⟨env,G,B,β,I,o⟩=>?_
 refine two (W:=λx y H2=>r x y H2 λz H3=>∃k,z=.bl k/\(if k=true then pT Γ E fc [] mc σ H3 λw' H4=>r' y w' H4 Q else Q (.bl false) H3)) I (o.bnd.imp λd1 β1 h=>h.bnd.imp λd2 β2 h x y G2 H2 I2 s2 m2 bx by'=>?_)
 obtain⟨cb,ec,h⟩:∃cb,g d1 d2=some (.bool cb)/\Out Γ E (if cb=true then (fc (vl env) β2).bnd λz β3=>R.of (g' d2 z) β3 else .ok (.bool false) β2) λd β'=>∀v G' H',SR Γ B G' H' σ (ba [] env) β'->au G G'->iC B H H'->VO Γ.K B H G' H' .v d v->Q v H':=by
  split at h
  ·rename_i q;exact⟨true,q,by rw[Kl rfl];exact h⟩
  ·rename_i q;exact⟨false,q,by rw[Kw Kx];exact h⟩
  ·exact h.elim
 refine pr B G2 H2 x y d1 d2 _ _ I2.sub I2.boxThere bx by' ec λv G' H' x' vo=>?_
 cases vo
 refine⟨cb,rfl,?_⟩
 have I3:=I2.ext x'
 cases cb with
 |false=>rw[Kw Kx] at h;exact pK (h _ G' H' I3 (s2.trans x'.gg) (m2.trans (x'.mov B)) (.bl false))
 |true=>
  rw[Kl rfl] at h
  refine p7 ⟨env,G',B,β2,I3,h.bnd.imp λd3 β3 h z G4 H4 I4 s4 m4 vz=>?_⟩
  obtain⟨d,e,k⟩:=h.of
  refine pr' B G4 H4 y z d2 d3 d Q I4.sub I4.boxThere (by'.mono (x'.gg.trans s4) ((x'.mov B).trans m4)) (vz.brw I3.boxThere) e λv G5 H5 x5 vo=>?_
  exact k v G5 H5 (I4.ext x5) (((s2.trans x'.gg).trans s4).trans x5.gg) (((m2.trans (x'.mov B)).trans m4).trans (x5.mov B)) vo
end
def fY.u1 {k:Nat}{A:Around}(r:fY k A):A.units + 100 < cLine:=by have:=r.un;omega
def JU (N:List Str)(sc:Scope)(NB:List Str)(own:Nat)(ixs:List Nat)(scope:Scope):Bool:=
 decide (scope.kind=.function) && (scope.names.all λy=>decide (y.2≠.cell)) && (scope.names.all λy=>decide (scope.names.lookup y.1=some y.2)) &&
 (scope.names.all λy=>decide (y.2=.free->(sc.names.lookup y.1=some .cell\/sc.names.lookup y.1=some .free))) && decide NB.Nodup && decide (NB.length=own + ixs.length) &&
 ((List.range ixs.length).all λk=>decide (NB[own + k]? =N[ixs.getD k 0]?) && (match NB[own + k]? with |some x=>decide ((x,NameKind.free)∈scope.names) |none=>true))
def c5 {X:Cx}{NB:List Str}{own:Nat}{ixs:List Nat}{scope:Scope}(h:JU X.N X.env.scope NB own ixs scope=true):dB X NB own ixs scope:=by
 unfold JU at h
 simp only[Km,Lf,KQ,K2] at h
 obtain⟨⟨⟨⟨⟨⟨h1,h2⟩,h3⟩,h4⟩,h5⟩,h6⟩,h7⟩:=h
 refine⟨h1,h2,h3,h4,h5,h6,λk hk=>⟨(h7 k hk).1,λx hx=>?_⟩⟩
 have:=(h7 k hk).2
 rw[hx] at this
 simpa using this
section
variable {X:Cx}{Γ:Fx}{E:XK}{e a b c:Expr}{f fa fb fc:VF D}{L La Lb:List Nat}{md ma mb mc:Md}{pos:Pos}{K:Frag}
theorem ud {op op':CmpOp}{r r':R2}{g g':D->D->Option D}(ho:jT X (compareOp op) r)(ho':jT X (compareOp op') r')(pr:kY Γ.K r g .v)(pr':kY Γ.K r' g' .v)(ha:SE X Γ E a fa [] ma)(hb:SE X Γ E b fb [] mb)(hc:SE X Γ E c fc [] mc)
  (hm:lastMarks [op,op'] [b,c]=false:=by with_unfolding_all rfl):xj X Γ E (.Compare a [op,op'] [b,c] pos) (cL (fx fa fb fc g g')) []:=by
 refine PT.post (Bx ho ho' ha hb hc hm) λσ H Q ⟨env,G,B,β,I,o⟩=>?_
 refine two (W:=λx y H2=>r x y H2 λz H3=>∃k,z=.bl k/\(if k=true then pT Γ E fc [] mc σ H3 λw' H4=>r' y w' H4 (λx H'=>∃k,x=.bl k/\Q k H') else ∃k,V.bl false=.bl k/\Q k H3)) I (o.bnd.bnd.imp λd1 β1 h=>h.bnd.imp λd2 β2 h x y G2 H2 I2 s2 m2 bx by'=>?_)
 obtain⟨cb,ec,h⟩:∃cb,g d1 d2=some (.bool cb)/\Out Γ E (if cb=true then (fc (vl env) β2).bnd λz β3=>R.of (g' d2 z) β3 else .ok (.bool false) β2) λd β'=>Out Γ E (match d with | .bool c=>R.ok c β' |_=>.bad) λc β'=>∀G' H',SR Γ B G' H' σ (ba [] env) β'->au G G'->iC B H H'->Q c H':=by
  split at h
  ·rename_i q;exact⟨true,q,by rw[Kl rfl];exact h⟩
  ·rename_i q;exact⟨false,q,by rw[Kw Kx];exact h⟩
  ·exact h.elim
 refine pr B G2 H2 x y d1 d2 _ _ I2.sub I2.boxThere bx by' ec λv G' H' x' vo=>?_
 cases vo
 refine⟨cb,rfl,?_⟩
 have I3:=I2.ext x'
 cases cb with
 |false=>rw[Kw Kx] at h;exact pK ⟨false,rfl,h G' H' I3 (s2.trans x'.gg) (m2.trans (x'.mov B))⟩
 |true=>
  rw[Kl rfl] at h
  refine p7 ⟨env,G',B,β2,I3,h.bnd.imp λd3 β3 h z G4 H4 I4 s4 m4 vz=>?_⟩
  obtain⟨d,e,k⟩:=h.of
  refine pr' B G4 H4 y z d2 d3 d _ I4.sub I4.boxThere (by'.mono (x'.gg.trans s4) ((x'.mov B).trans m4)) (vz.brw I3.boxThere) e λv G5 H5 x5 vo=>?_
  cases d with
  |bool c=>cases vo;exact⟨c,rfl,k G5 H5 (I4.ext x5) (((s2.trans x'.gg).trans s4).trans x5.gg) (((m2.trans (x'.mov B)).trans m4).trans (x5.mov B))⟩
  |_=>exact k.elim
theorem EF {B:Option Addr}{G H:Hp}{x:V}{dx:D}(bx:kW K B G H x dx)(s:au G H):decide (x=.non)=yI dx:=by
 cases dx with
 |none=>obtain rfl:=bx.none;rfl
 |bool b=>obtain rfl:=bx.bool;rfl
 |int b=>obtain rfl:=bx.int;rfl
 |str b=>obtain rfl:=bx.str;rfl
 |list b=>obtain⟨a,xs,rfl,_⟩:=bx.list s;rfl
 |tuple b=>obtain⟨a,xs,rfl,_⟩:=bx.tuple s;rfl
 |dict b=>
  rcases bx with bx | ⟨a,rfl,_⟩
  ·cases bx <;> rfl
  ·rfl
def tN (fa:VF D)(neg:Bool):VF Bool:=λvs β=>(fa vs β).bnd λx β1=>.ok (if neg then !yI x else yI x) β1
def Ck {j pos'}(ha:SE X Γ E a fa La ma):xj X Γ E (.Compare a [.IsNot] [.Constant .none j pos'] pos) (tN fa true) La:=by
 refine PT.post (Eo (CN ha)) λσ H Q ⟨env,G,B,β,I,o⟩=>?_
 refine⟨env,G,B,β,I,o.bnd.imp λd1 β1 h x G1 H1 I1 s1 m1 vx=>?_⟩
 refine⟨!yI d1,?_,h G1 H1 I1 s1 m1⟩
 rw[EF (vx.brw I.boxThere) I1.sub]
def oT (Γ:Fx)(E:XK)(f:VF (Option Int))(L:List Nat):TO:=λσ H Q=>∃env G B β,SR Γ B G H σ env β/\
 Out Γ E (f (vl env) β) λd β'=>∀G' H',SR Γ B G' H' σ (ba L env) β'->au G G'->iC B H H'->Q d H'
def Gb (X:Cx)(Γ:Fx)(E:XK)(e:Option Expr)(f:VF (Option Int))(L:List Nat):Prop:=PO X e (oT Γ E f L)
def cR:Gb X Γ E none (λ_ β=>.ok none β) []:=λpins s σ H Q I ⟨env,G,B,β,J,o⟩=>Cr pins s σ H Q I (o G H J (au.refl _) (iC.refl _ _))
def kK (fa:VF D):VF (Option Int):=λvs β=>(fa vs β).bnd λx β1=>match x with
 | .int i=>.ok (some i) β1
 |_=>.bad
theorem cQ (ha:SE X Γ E a fa La ma):Gb X Γ E (some a) (kK fa) La:=λpins s σ H Q I ⟨env,G,B,β,J,o⟩=>by
 refine q8 ha pins s σ H Q I ⟨env,G,B,β,J,o.bnd.imp λd1 β1 h x G1 H1 I1 s1 m1 vx=>?_⟩
 cases d1 with
 |int i=>exact⟨i,(vx.brw J.boxThere).int,h G1 H1 I1 s1 m1⟩
 |_=>exact h.elim
def cutD (xs:List D)(lo hi:Option Int):List D:=(xs.drop (HT.dM xs.length 0 lo)).take (HT.dM xs.length xs.length hi - HT.dM xs.length 0 lo)
def xI {G:Hp}{xs:List V}{ds:List D}(r:cn K G xs ds)(lo hi:Option Int):cn K G (oK xs lo hi) (cutD ds lo hi):=by
 unfold oK cutD
 rw[r.len]
 exact (r.drop _).take _
def p9 (fa:VF D)(fl fh:VF (Option Int)):VF D:=λvs β=>(fa vs β).bnd λx β1=>(fl vs β1).bnd λl β2=>(fh vs β2).bnd λh β3=>match x with
 | .list ds=>.ok (.list (cutD ds l h)) β3
 |_=>.bad
theorem dQ {lo hi:Option Expr}{fl fh:VF (Option Int)}{Ll Lh:List Nat}{p2:Pos}(hK:X.K=Γ.K)(ha:SE X Γ E a fa La ma)(hl:Gb X Γ E lo fl Ll)(hh:Gb X Γ E hi fh Lh):SE X Γ E (.Subscript a (.Slice lo hi none p2) pos) (p9 fa fl fh) (La ++ Ll ++ Lh) .w:=by
 refine PE.post' (tI C2 ha hl hh) λσ H Q ⟨env,G,B,β,I,o⟩=>?_
 refine⟨env,G,B,β,I,o.bnd.imp λd1 β1 h x G1 H1 I1 s1 m1 vx=>⟨ba La env,G1,B,β1,I1,?_⟩⟩
 rw[eQ]
 refine h.bnd.imp λl β2 h G2 H2 I2 s2 m2=>⟨ba Ll (ba La env),G2,B,β2,I2,?_⟩
 rw[eQ,eQ]
 refine h.bnd.imp λu β3 h G3 H3 I3 s3 m3=>?_
 rw[<-cm,<-cm,<-Mh] at I3
 have bx:=((vx.brw I.boxThere).mono s2 m2).mono s3 m3
 cases d1 with
 |list ds=>
  obtain⟨p,xs,rfl,hq,r⟩:=bx.list I3.sub
  rw[hK]
  refine⟨p,xs,rfl,.inl hq,λq hn=>?_⟩
  have x:=Ext.own I3.sub (o:=.lst (oK xs l u)) hn
  exact h _ _ _ (I3.ext x) ((s1.trans s2).trans s3) (((m1.trans m2).trans m3).trans (x.mov B)) ⟨q,rfl,e9 ((m1.trans m2).trans m3) I3.boxThere hn,I3.sub.free hn,_,aB,xI r l u⟩
 |_=>exact h.elim
def Fv:kY K (λx y H Q=>∃i j,[x,y]= [.int i,.int j]/\Q (.int (if j > i then j else i)) H) (wd λi j=>.int (if j > i then j else i)) .v:=by
 intro B G H x y dx dy d Q s hB bx by' e k
 obtain⟨i,j,rfl,rfl,rfl⟩:=k7 e
 obtain rfl:=bx.int
 obtain rfl:=by'.int
 exact⟨i,j,rfl,k _ G H (Ext.refl s) (.int _)⟩
def Ed:kY K (λx y H Q=>∃i j,[x,y]= [.int i,.int j]/\Q (.int (if j < i then j else i)) H) (wd λi j=>.int (if j < i then j else i)) .v:=by
 intro B G H x y dx dy d Q s hB bx by' e k
 obtain⟨i,j,rfl,rfl,rfl⟩:=k7 e
 obtain rfl:=bx.int
 obtain rfl:=by'.int
 exact⟨i,j,rfl,k _ G H (Ext.refl s) (.int _)⟩
end
structure jg (K:Frag)(mg:Str->Option Value)(x:Str)(st:Stmt)(ps:List Str)(f:Addr)(fd:FuncData):Prop where
 mg:mg x=some (.ref f)
 F:BJ K x x st f fd
 b:Binds K fd ps []
structure Exc (K:Frag)(mg:Str->Option Value)(ca:Str->Addr)(x:Str):Prop where
 mg:mg x=some (.ref (ca x))
 ex:PySem.W.excIn K (ca x) [.type "ValueError",.type "Exception",.type "BaseException",.type "object"] "ValueError.__new__"=true
def Exc.ca {K:Frag}{mg:Str->Option Value}{ca:Str->Addr}{x:Str}(h:Exc K mg ca x):ca x=ca x:=rfl
structure jQ (mg:Str->Option Value):Prop where
 len:mg "len"=none
 range:mg "range"=none
 enumerate:mg "enumerate"=none
 zip:mg "zip"=none
 min:mg "min"=none
 max:mg "max"=none
 sum:mg "sum"=none
 abs:mg "abs"=none
 sorted:mg "sorted"=none
 reversed:mg "reversed"=none
 int:mg "int"=none
 str:mg "str"=none
 bool:mg "bool"=none
 list:mg "list"=none
 tuple:mg "tuple"=none
 dict:mg "dict"=none
 set:mg "set"=none
 isinstance:mg "isinstance"=none
 repr:mg "repr"=none
 any:mg "any"=none
 all:mg "all"=none
 divmod:mg "divmod"=none
inductive FB where
 |ok (d:D) (fresh:Bool) (β:Int)
 |bad
def G6 (K:Frag)(n:Nat)(F:List D->Int->FB):Sp:=λvs H Q _=>∃b rest G ds β,vs=.ref b :: rest/\H b=some (.lst [.int β])/\G b=none/\au G H/\ds.length=n/\cn K G rest ds/\match F ds β with
 | .ok d fr β'=>∀v G' H',iC (some b) H H'->H' b=some (.lst [.int β'])->au G G'->au G' H'->(∀c,Mx H c->G c=none->G' c=none)->FV K H G' H' fr d v->Q v H'
 | .bad=>False
structure iy (P:Program)(w:World)(K:Frag)(mg:Str->Option Value)(base:Heap)(x:Str)(ps:List Str)(k:Nat)(F:List D->Int->FB):Prop where
 ex:∃f fd,mg x=some (.ref f)/\PySem.W.keepIn K (.ref f)=true/\Binds K fd ps []/\fL P w K mg base (mS P w) k f fd ps (G6 K (ps.length - 1) F)
 len:∀ds β,F ds β≠.bad->ds.length=ps.length - 1
def vd (vs:List Nv)(i:Nat):Bool:=match vs[i]? with
 |some .bx=>true
 |_=>false
def iY (i:Nat)(F:List D->Int->FB)(fr:VF (List D)):VF D:=λvs β=>if vd vs i=true then (fr vs β).bnd λds β1=>match F ds β1 with
 | .ok d _ β2=>.ok d β2
 | .bad=>.bad else .bad
def Iz (i:Nat)(F:List D->Int->FB)(fr:VF (List D)):VF D:=λvs β=>if vd vs i=true then (fr vs β).bnd λds β1=>match F ds β1 with
 | .ok d true β2=>.ok d β2
 |_=>.bad else .bad
section
variable {X:Cx}{Γ:Fx}{E:XK}{e a b c:Expr}{f fa fb fc:VF D}{L La Lb:List Nat}{md ma mb mc:Md}{pos:Pos}{K:Frag}{es:List Expr}{fr:VF (List D)}
def Dh {env:En}{i:Nat}(h:vd (vl env) i=true):env[i]? =some .bx:=by
 unfold vd at h
 split at h
 ·exact He (by assumption)
 ·cases h
def CT {env:En}{i j:Nat}{d:D}(h:(jd env i)[j]? =some (.br d)):env[j]? =some (.br d):=by
 unfold jd at h
 split at h
 ·rename_i d' e
  by_cases z:i=j
  ·subst z
   rw[KH (KJ.mp e).1] at h;cases h
  ·rw[KG z] at h;exact h
 ·exact h
theorem Ew {L:List Nat}{env:En}{j:Nat}{d:D}(h:(ba L env)[j]? =some (.br d)):env[j]? =some (.br d):=by
 unfold ba at h
 induction L generalizing env with
 |nil=>exact h
 |cons i L ih=>exact CT (ih h)
def SR.calledB {p:Addr}{β β':Int}{G1 H1 G2 H2:Hp}{σ:St}{env:En}(I1:SR Γ (some p) G1 H1 σ env β)(h:iC (some p) H1 H2)(hp:H2 p=some (.lst [.int β']))(g:au G1 G2)(s:au G2 H2)(n:∀b,Mx H1 b->G1 b=none->G2 b=none):SR Γ (some p) G2 H2 σ env β':=by
 obtain⟨b1,b2,b3⟩:=I1.box p rfl
 refine⟨s,I1.old.trans g,λb n1 n2=>n b (I1.thereM n1) (I1.new b n1 n2),λb o e np=>v8 (I1.keep b o e np) h λz=>?_,λb hb=>?_,I1.fix,λb e=>?_,I1.len,λi t e=>?_,I1.sep⟩
 ·cases z
  rcases b3 with b3 |b3
  ·exact np b3
  ·rw[e] at b3;cases b3
 ·by_cases z:p=b
  ·subst z;exact Mx.lst hp
  ·exact (I1.pin b hb).same λo q=>h.1 b o q λy=>z (Option.some.inj y)
 ·cases e
  exact⟨hp,n p (Mx.lst b1) b2,b3⟩
 ·have q:=I1.slot i t e
  cases t with
  |no=>trivial
  |fz d=>obtain⟨v,h1,h2⟩:=q;exact⟨v,h1,h2.mono g⟩
  |ow d=>
   obtain⟨c,h1,h2,h3,h4,h5⟩:=q
   exact⟨c,h1,h2,n c h5.mx h3,h4,h5.mono g λo q=>h.1 c o q h4⟩
  |bx=>exact q
  |br d=>obtain⟨b1,c,h1,h4,hpp,h5⟩:=q;exact⟨b1,c,h1,h4,hpp,h5.mono g λo q=>h.1 c o q h4⟩
theorem Ds {F:List D->Int->FB}{ps:List Str}{Q:VK}{B:Option Addr}{G H:Hp}{σ:St}{env:En}{β:Int}{i:Nat}{p:Addr}(I:SR Γ B G H σ env β)(hK:X.K=Γ.K)(hp:B=some p){wv:Bool}
  (h:Out Γ E (fr (vl env) β) λds β1=>Out Γ E (match F ds β1 with
   | .ok d true β2=>.ok d β2
   | .ok d false β2=>if wv=true then .bad else .ok d β2
   | .bad=>.bad) λd β'=>∀v G' H',SR Γ B G' H' σ (ba L env) β'->au G G'->iC B H H'->VO Γ.K B H G' H' (if wv=true then .w else .v) d v->Q v H') (hl:∀ds β,F ds β≠.bad->ds.length=ps.length - 1) :
  aT Γ E fr L σ H λvs H1=>G6 X.K (ps.length - 1) F (.ref p :: vs) H1 Q E:=by
 subst hp
 refine⟨env,G,_,β,I,h.imp λds β1 k vs G1 H1 I1 s1 m1 r=>?_⟩
 obtain⟨b1,b2,b3⟩:=I1.box p rfl
 refine⟨p,vs,G1,ds,β1,rfl,b1,b2,I1.sub,hl ds β1 λz=>by rw[z] at k;exact k,by rw[hK];exact r,?_⟩
 cases q:F ds β1 with
 |bad=>rw[q] at k;exact k
 |ok d fr' β2=>
  rw[q] at k
  intro v G' H' hh hb hg hs hn fv
  have I2:=I1.calledB hh hb hg hs hn
  cases fr' with
  |true=>
   obtain⟨c,rfl,p1,p2,p3⟩:∃a,v=.ref a/\H1 a=none/\G' a=none/\Own X.K G' H' a d:=fv
   rw[hK] at p3
   have hp:=e9 m1 I1.boxThere p1
   cases wv with
   |true=>exact k _ G' H' I2 (s1.trans hg) (m1.trans hh) ⟨c,rfl,hp,p2,p3⟩
   |false=>
    obtain⟨q1,q2,q3,q4⟩:=I1.fresh p1
    obtain⟨G3,I3,s3,r3⟩:=I2.letIn q1 p2 q3 q4 p3
    exact k _ G3 H' I3 ((s1.trans hg).trans s3) (m1.trans hh) r3
  |false=>
   cases wv with
   |true=>exact k.elim
   |false=>
    have fv:Rp X.K G' v d:=fv
    rw[hK] at fv
    exact k _ G' H' I2 (s1.trans hg) (m1.trans hh) fv
theorem Fm {F:List D->Int->FB}{ps:List Str}{Q:VK}{i:Nat}{σ:St}{H:Hp}(hK:X.K=Γ.K){wv:Bool}(hl:∀ds β,F ds β≠.bad->ds.length=ps.length - 1)(h:pT Γ E (if wv=true then Iz i F fr else iY i F fr) L (if wv=true then .w else .v) σ H Q) :
  BX i σ H λx H1=>aT Γ E fr L σ H1 λvs H2=>G6 X.K (ps.length - 1) F (x :: vs) H2 Q E:=by
 obtain⟨env,G,B,β,I,o⟩:=h
 have hi:vd (vl env) i=true:=by
  by_cases hi:vd (vl env) i=true
  ·exact hi
  ·exfalso
   cases wv with
   |true=>simp only[Lz] at o;unfold Iz at o;rw[Kw hi] at o;exact o
   |false=>simp only[Lv,LG] at o;unfold iY at o;rw[Kw hi] at o;exact o
 obtain⟨p,e1,e2⟩:=I.slot i _ (Dh hi)
 refine⟨.ref p,e1,Ds (i:=i) (ps:=ps) I hK e2 (wv:=wv) ?_ hl⟩
 cases wv with
 |true=>
  simp only[Lz] at o ⊢
  unfold Iz at o
  rw[Kl hi] at o
  refine o.bnd.imp λds β1 h=>?_
  cases q:F ds β1 with
  |bad=>rw[q] at h;exact h
  |ok d b β2=>rw[q] at h;cases b <;> exact h
 |false=>
  simp only[Lv,LG] at o ⊢
  unfold iY at o
  rw[Kl hi] at o
  refine o.bnd.imp λds β1 h=>?_
  cases q:F ds β1 with
  |bad=>rw[q] at h;exact h
  |ok d b β2=>rw[q] at h;cases b <;> exact h
def fB {x y:Str}{ps:List Str}{k:Nat}{F:List D->Int->FB}{p np:Pos}(i:Nat)(hf:iy X.prog X.w X.K X.mg X.base x ps k F)(hr:fY k X.A)(hx:Passes (mS X.prog X.w) X E)(hK:X.K=Γ.K)(hg:Gl X x)(ha:SA X Γ E es fr L)(hN:X.N[i]? =some y:=by rfl)(hv:xO X.env.scope y:=by first |exact Or.inl rfl |exact Or.inr (Or.inl rfl) |exact Or.inr (Or.inr rfl))(hd:(y == ("__debug__":Str))=false:=by decide)
  (hcd:(y == ("__classdict__":Str))=false:=by decide) (hdb:(x == ("__debug__":Str))=false:=by decide)
  (he:starEach (.Name y np :: es) X.env=(false,eval (.Name y np) X.env) :: starEach es X.env:=by rfl) (hpl:(backTo pos (starEach es X.env)).any (·.1)=false:=by rfl):SE X Γ E (.Call (.Name x p) (.Name y np :: es) [] pos) (iY i F fr) L .v:=by
 obtain⟨f,fd,hm,hk,hb,hF⟩:=hf.ex
 refine PE.post' (nG (dvs:=[]) hF hr hg hm hk hb .nil hx (bc (kh hN hv hd hcd) ha he) hdb he hpl) λσ H Q h=>?_
 have:=Fm (Q:=Q) (wv:=false) (ps:=ps) hK hf.len (by simpa using h)
 show BX i σ H λx H1=>aT Γ E fr L σ H1 λvs H2=>G6 X.K (ps.length - 1) F ((x :: vs) ++ []) H2 Q E
 simpa using this
def zJ:D->Option Int
 | .list [.int z]=>some z
 |_=>none
def CY {d:D}{z:Int}(h:zJ d=some z):d=.list [.int z]:=by
 unfold zJ at h
 split at h
 ·cases h;rfl
 ·cases h
def Kg (f0:VF D)(F:List D->Int->FB)(n:Int):VF D:=λvs β=>(f0 vs β).bnd λd0 β1=>match zJ d0 with
 |some z=>(match F [.int n] z with
  | .ok d _ _=>.ok d β1
  | .bad=>.bad)
 |none=>.bad
def pV (env:En):En:=env.map λs=>match s with
 | .bx=>.no
 |s=>s
theorem zS {env:En}{i:Nat}{s:Sl}(h:(pV env)[i]? =some s)(n:s≠.no):env[i]? =some s/\s≠.bx:=by
 unfold pV at h
 rw[KD] at h
 cases e:env[i]? with
 |none=>rw[e] at h;cases h
 |some t=>
  rw[e] at h
  have h:=Option.some.inj h
  cases t with
  |bx=>exact absurd h.symm n
  |no=>exact absurd h.symm n
  |fz d=>subst h;exact⟨rfl,λz=>by cases z⟩
  |ow d=>subst h;exact⟨rfl,λz=>by cases z⟩
  |br d=>subst h;exact⟨rfl,λz=>by cases z⟩
def xc (i:Nat)(L:List Nat)(f:VF D):SF:=λenv β=>toS (f (vl env) β) λd _=>match zJ d with
 |some z=>.nx ((pV (ba L env)).set i .bx) z
 |none=>.bad
theorem Cu {i:Nat}{x:Str}{pos':Pos}(hbx:Γ.bx=none)(he:SE X Γ E e f L .w)(hN:X.N.Nodup)(hi:X.N[i]? =some x:=by rfl)(hx:Loc X.env.scope x:=by first |exact Or.inl rfl |exact Or.inr rfl)(hs:swapsWith e (some (.Name x pos')) pos.line X.env=pure false:=by rfl)(hf:X.fn x=true\/X.env.scope.names.lookup x=some .local:=by first |exact .inl rfl |exact .inr rfl |assumption) :
  SS X Γ E (.Assign [.Name x pos'] e pos) (xc i L f):=by
 refine PS.post (oG hN hi hx he hs hf) λN σ H ⟨env,G,B,β,I,o⟩=>?_
 refine⟨env,G,B,β,I,cX o λd β' k v G' H' I' s' m' vo=>?_⟩
 cases q:zJ d with
 |none=>rw[q] at k;exact k.elim
 |some z=>
  rw[q] at k
  obtain rfl:=CY q
  obtain⟨p,rfl,h1,h2,xs,h3,r⟩:=vo
  have hx2:H' p=some (.lst [.int z]):=by
   cases r with
   |cons r1 r2=>
    cases r1
    cases r2
    exact h3
  obtain⟨q1,q2,q3,q4⟩:=I.fresh h1
  refine k (some p) G' H' _ ⟨I'.sub,I'.old,I'.new,I'.keep,I'.pin,λb e=>(by rw[hbx] at e;cases e),λb e=>?_,?_,λj t e=>?_,λj j' c d1 d2 e1 e2 e3 e4=>?_⟩ s'
  ·cases e;exact⟨hx2,h2,.inr q1⟩
  ·rw[Lp,Lp];unfold pV;rw[Ko];exact I'.len
  ·by_cases hj:j=i
   ·subst hj
    by_cases hl:j < (pV (ba L env)).length
    ·rw[KH hl] at e
     cases e
     refine⟨p,?_,rfl⟩
     rw[KH]
     rw[I'.len];unfold pV at hl;simpa using hl
    ·rw[LZ (by rw[Lp];omega)] at e;cases e
   ·rw[KG (Ne.symm hj)] at e ⊢
    by_cases hn:t=.no
    ·subst hn;trivial
    ·obtain⟨e1,nb⟩:=zS e hn
     have w:=I'.slot j t e1
     cases t with
     |no=>trivial
     |fz d=>exact w
     |bx=>exact absurd rfl nb
     |ow d=>
      obtain⟨a',g1,g2,g3,g4,g5⟩:=w
      exact⟨a',g1,g2,g3,λy=>q4 j d (qX e1) (by cases y;exact g1),g5⟩
     |br d=>
      obtain⟨b1,a',g1,g4,hpp,g5⟩:=w
      have e0:env[j]? =some (.br d):=Ew e1
      obtain⟨_,a2,f1,_,_,f5⟩:=I.slot j _ e0
      rw[g1] at f1;cases f1
      obtain⟨o,ho⟩:=f5.obj
      exact⟨b1,a',g1,λy=>(by cases y;rw[h1] at ho;cases ho),hpp,g5⟩
  ·have back:∀{j:Nat} {d1:D},((pV (ba L env)).set i Sl.bx)[j]? =some (.ow d1)->j≠i/\(ba L env)[j]? =some (.ow d1):=λ{j d1} e=>by
    by_cases hj:j=i
    ·subst hj
     by_cases hl:j < (pV (ba L env)).length
     ·rw[KH hl] at e;cases e
     ·rw[LZ (by rw[Lp];omega)] at e;cases e
    ·rw[KG (Ne.symm hj)] at e
     exact⟨hj,(zS e (λy=>by cases y)).1⟩
   obtain⟨n1,w1⟩:=back e1
   obtain⟨n2,w2⟩:=back e2
   rw[KG (Ne.symm n1)] at e3
   rw[KG (Ne.symm n2)] at e4
   exact I'.sep j j' c d1 d2 w1 w2 e3 e4
end
section
variable {P:Program}{w:World}{K:Frag}{mg:Str->Option Value}{base:Heap}{ca:Str->Addr}
def rF:SO->FB
 | .nx _ β=>.ok .none false β
 | .rt d fr β=>.ok d fr β
 |_=>.bad
def wg (n:Nat)(ds:List D):En:=.bx :: ds.map Sl.fz ++ List.replicate (n - 1 - ds.length) .no
def l6 (n p:Nat)(m:SF):List D->Int->FB:=λds β=>if ds.length=p then rF (m (wg n ds) β) else .bad
abbrev Fx.fb (K:Frag)(H G:Hp)(ca:Str->Addr)(b:Addr):Fx:=⟨K,H,G,[b],ca,λ_=>false,some b⟩
def SR.startB {H G:Hp}{N:List Str}{b:Addr}{vs:List V}{ds:List D}{β:Int}(s:au G H)(hb:H b=some (.lst [.int β]))(gb:G b=none)(r:cn K G vs ds)(hn:ds.length + 1<=N.length):SR (Fx.fb K H G ca b) (some b) G H (L2.start N (.ref b :: vs)) (wg N.length ds) β:=by
 have hl:=r.len
 refine⟨s,au.refl _,λc _ h=>h,λc o h _=>Kt.of h,λc h=>?_,λc h=>h,λc h=>?_,?_,λi t e=>?_,λi j a d e h=>?_⟩
 ·have:c=b:=by simpa using h
  subst this;exact Mx.lst hb
 ·cases h;exact⟨hb,gb,.inl (by simp)⟩
 ·unfold L2.start wg;simp;omega
 ·cases i with
  |zero=>
   unfold wg at e
   cases e
   exact⟨b,rfl,rfl⟩
  |succ i=>
   unfold wg at e
   have e:(ds.map Sl.fz ++ List.replicate (N.length - 1 - ds.length) Sl.no)[i]? =some t:=by simpa using e
   by_cases hi:i < ds.length
   ·rw[K4 (by simpa using hi),KD,Kh hi] at e
    cases e
    obtain⟨x,hx,rx⟩:=r.at (Kh hi)
    refine⟨x,?_,rx⟩
    unfold L2.start
    have hi':i < vs.length:=by rw[hl];exact hi
    rw[K4 (by simp;exact hi'),KD,List.getElem?_cons_succ,hx];rfl
   ·rw[Ld (by simpa using hi),LF] at e
    split at e
    ·cases e;trivial
    ·cases e
 ·unfold wg at h
  have hm:=KA h
  rcases Ks.mp hm with z |hm
  ·cases z
  rcases KI.mp hm with z |z
  ·obtain⟨_,_,z⟩:=KZ.mp z;cases z
  ·have:=LA z;cases this
def j9 {x qual:Str}{st:Stmt}{f:Addr}{fd:FuncData}{N:List Str}{ps:List Str}{k:Nat}{m:SF}(F:BJ K x qual st f fd)(S:aL N ps (av st))(hp:1<=ps.length)
  (hbody:∀(cdv:Value) (A:Around) (outer:List Env) (s:Shared) (H G:Hp) (b:Addr) (E:XK),fY k (A.deeper (envOfC qual (av st) s.heap.objs.size f cdv))->BI (kM (mS P w) P w K mg base N qual (av st) f cdv A outer s H E) (Fx.fb K H G ca b) E (dY st) m) :
  fL P w K mg base (mS P w) (k + 1) f fd ps (G6 K (ps.length - 1) (l6 N.length (ps.length - 1) m)):=by
 have hpn:ps.length<=N.length:=by have:=congrArg List.length S.pre;rw[KU] at this;omega
 refine F.D3 S (λvs H Q E h=>?_) (λcdv A outer s H vs Q E hr h=>?_)
 ·obtain⟨b,rest,G,ds,β,rfl,hb,gb,sG,hl,r,_⟩:=h
  rw[KW,r.len];omega
 ·obtain⟨b,rest,G,ds,β,rfl,hb,gb,sG,hl,r,h⟩:=h
  refine⟨_,hbody cdv A outer s H G b E hr,?_⟩
  have I:=SR.startB (ca:=ca) (N:=N) sG hb gb r (by omega)
  refine⟨_,G,some b,β,I,?_⟩
  unfold l6 at h
  rw[Kl hl] at h
  have fin':∀{B G' H' σ env β},SR (Fx.fb K H G ca b) B G' H' σ env β->iC (some b) H H'/\H' b=some (.lst [.int β]):=λJ=>by
   have e:=J.fix b rfl
   have k:∀c o,H c=some o->some b≠some c->Kt _ c o:=λc o ec n=>J.keep c o ec λz=>n (show some b=some c by rw[show c=b by simpa using z])
   exact⟨⟨k,λc o u ec=>k c _ ec λz=>by cases z;rw[hb] at ec;cases ec⟩,(J.box b e).1⟩
  cases q:m (wg N.length ds) β with
  |nx env β'=>rw[q] at h;exact λB G' H' σ J s'=>h .non G' H' (fin' J).1 (fin' J).2 s' J.sub (λc h1 h2=>J.new c h1 h2) Rp.non
  |bk env β'=>rw[q] at h;exact h.elim
  |ct env β'=>rw[q] at h;exact h.elim
  |rt d fr β'=>
   rw[q] at h
   refine λB G' H' σ env v J s' rv=>h v G' H' (fin' J).1 (fin' J).2 s' J.sub (λc h1 h2=>J.new c h1 h2) ?_
   cases fr with
   |true=>exact rv
   |false=>exact rv
  |exc c=>rw[q] at h;exact h.elim
  |bad=>rw[q] at h;exact h.elim
def kg {n p:Nat}{m:SF}(ds:List D)(β:Int)(h:l6 n p m ds β≠.bad):ds.length=p:=by
 unfold l6 at h
 by_cases hl:ds.length=p
 ·exact hl
 ·rw[Kw hl] at h;exact absurd rfl h
end
def ar (p:Pr):D:=.tuple [.int p.1,.int p.2]
def ot:D->Option Pr
 | .tuple [.int a,.int b]=>some (a,b)
 |_=>none
def um {d:D}{p:Pr}(h:ot d=some p):d=ar p:=by
 unfold ot at h
 split at h
 ·cases h;rfl
 ·cases h
def yx (p:Pr):ot (ar p)=some p:=rfl
def iq:List D->Option (List Pr)
 | []=>some []
 |d :: ds=>match ot d,iq ds with
  |some p,some ps=>some (p :: ps)
  |_,_=>none
theorem kE:∀{ds:List D} {ps:List Pr},iq ds=some ps->ds=ps.map ar
 | [],ps,h=>by cases h;rfl
 |d :: ds,ps,h=>by
  unfold iq at h
  split at h
  ·rename_i p qs h1 h2;cases h;rw[um h1,kE h2];rfl
  ·cases h
theorem ik:∀ps:List Pr,iq (ps.map ar)=some ps
 | []=>rfl
 |p :: ps=>by
  show (match ot (ar p),iq (ps.map ar) with
   |some p,some ps=>some (p :: ps)
   |_,_=>none)=_
  rw[yx,ik ps]
section
variable {K:Frag}{X:Cx}{G H:Hp}
theorem cn.pairs:∀{ps:List Pr} {xs:List V},cn K G xs (ps.map ar)->a9 K G xs ps
 | [],_,.nil=>.nil
 |p :: ps,_,.cons r t=>by
  cases r with
  |tup hq r=>
   cases r with
   |cons r1 r=>
    cases r with
    |cons r2 r=>cases r;cases r1;cases r2;exact .cons ⟨_,rfl,hq⟩ (cn.pairs t)
theorem a9.rps:∀{ps:List Pr} {xs:List V},a9 K G xs ps->cn K G xs (ps.map ar)
 | [],_,.nil=>.nil
 |p :: ps,_,.cons r t=>by
  obtain⟨a,rfl,q⟩:=r
  exact .cons (.tup q (.cons (.int _) (.cons (.int _) .nil))) (a9.rps t)
def Ga (p:Pr):Bool:=decide (0<=p.1) && decide (p.1 < 8) && decide (0<=p.2) && decide (p.2 < 8)
def EM {p:Pr}(h:Ga p=true):Sm p:=by
 unfold Ga at h
 simp only[Km,KQ] at h
 exact⟨⟨h.1.1.1,h.1.1.2⟩,h.1.2,h.2⟩
variable {Γ:Fx}{E:XK}{e a b c:Expr}{f fa fb fc:VF D}{L La Lb:List Nat}{md ma mb mc:Md}{pos:Pos}
end
section
variable {K:Frag}{X:Cx}{G H:Hp}{Γ:Fx}{E:XK}{e a b c:Expr}{f fa fb fc:VF D}{L La Lb:List Nat}{md ma mb mc:Md}{pos apos cpos np:Pos}
def gn:D->Option D
 | .int n=>if 0<=n/\n<=1000 then some (.list (cI 0 n.toNat)) else none
 |_=>none
def yc (n:Nat):cn K G ((List.range n).map λ(i:Nat)=>V.int (i:Int)) (cI 0 n):=by
 have key:∀l:List Nat,cn K G (l.map λ(i:Nat)=>V.int (i:Int)) (l.map λ(k:Nat)=>int (0 + k)):=by
  intro l
  induction l with
  |nil=>exact .nil
  |cons x l ih=>exact .cons (by show Rp K G (.int (x:Int)) (.int (0 + (x:Int)));rw[LB];exact .int _) ih
 exact key _
theorem o7 {p1 p2 pos2:Pos}(hc:X.calm=true)(hg:Gl X "list")(hm:X.mg "list"=none)(hg2:Gl X "range")(hm2:X.mg "range"=none)(ha:SE X Γ E a fa La ma)
  (he:starEach [a] X.env=(false,eval a X.env) :: starEach [] X.env:=by rfl)
  (he2:starEach [.Call (.Name "range" p2) [a] [] pos2] X.env=(false,eval (.Call (.Name "range" p2) [a] [] pos2) X.env) :: starEach [] X.env:=by rfl) :
  SE X Γ E (.Call (.Name "list" p1) [.Call (.Name "range" p2) [a] [] pos2] [] pos) (f1 fa gn) La .w:=by
 refine PE.post' (kG (p8 hc) hg hm (by decide +kernel) (bc (kG Ab hg2 hm2 (by decide +kernel) (bc ha cv he) (by decide) (by decide) he) cv he2) (by decide) (by decide) he2) λσ H Q ⟨env,G,B,β,I,o⟩=>?_
 refine kz (r:=λx H1 Q=>∃n:Int,[x]= [.int n]/\∀p,H1 p=none->(λ(y:V) (H2:Hp)=>∃(p:Addr) (n:Int),[y]= [V.ref p]/\H2 p=some (.jP 0 n)/\0<=n/\n<=1000/\∀l,H2 l=none->Q (.ref l) (upd H2 l (.lst ((List.range n.toNat).map λ(i:Nat)=>V.int (i:Int))))) (V.ref p) (upd H1 p (.jP 0 n))) ?_ I o
 intro B G H x dx d Q s hB bx e k
 cases dx with
 |int n=>
  obtain rfl:=bx.int
  simp only[gn] at e
  split at e
  ·rename_i hh
   cases e
   refine⟨n,rfl,λp hp=>⟨p,n,rfl,aB,hh.1,hh.2,λl hl=>?_⟩⟩
   have hlp:l≠p:=λz=>by subst z;rw[aB] at hl;cases hl
   have hlH:H l=none:=by rw[aC hlp] at hl;exact hl
   have x1:=Ext.own s (o:=.jP 0 n) hp
   have x2:=Ext.own x1.gh (o:=.lst ((List.range n.toNat).map λ(i:Nat)=>V.int (i:Int))) hl
   exact k _ _ _ (x1.trans x2) ⟨l,rfl,hlH,s.free hlH,_,aB,yc _⟩
  ·cases e
 |_=>cases e
noncomputable def o8 (d:D):Option D:=match d with
 | .list ds=>(match iq ds with
  |some ps=>if ps.all Ga=true/\ps.Nodup/\ps.length < 64 then some (.list ((OM.hX 8 (OM.Mem ps)).map ar)) else none
  |none=>none)
 |_=>none
theorem Ci:z8 K (λx=>wG K [x]) o8 .w:=by
 intro B G H x dx d Q s hB bx e k
 cases dx with
 |list ds=>
  simp only[o8] at e
  cases q2:iq ds with
  |none=>rw[q2] at e;cases e
  |some ps=>
   rw[q2] at e
   dsimp only at e
   split at e
   ·rename_i hh
    obtain⟨h1,h2,h3⟩:=hh
    cases e
    obtain⟨p,xs,rfl,hq,r⟩:=bx.list s
    rw[kE q2] at r
    have pv:=(r.mono s).pairs
    have sm:∀p,p∈ps->Sm p:=λp hp=>EM (Lf.mp h1 p hp)
    refine⟨p,xs,ps,rfl,.inl hq,pv,sm,h2,h3,λl ws rs hl hpw hr hmem=>?_⟩
    have ers:rs=OM.hX 8 (OM.Mem ps):=OM.iS hr (OM.ip _ _) λx=>by
     rw[hmem x,OM.dN]
     constructor
     ·intro hx;have hs:=sm x hx;exact⟨⟨⟨hs.1.1,hs.1.2⟩,hs.2.1,hs.2.2⟩,hx⟩
     ·intro hx;exact hx.2
    subst ers
    have hh:au H (upd H l (.lst ws)):=au.new hl
    refine k _ _ _ (Ext.tups s hh) ⟨l,rfl,hl,?_,ws,aB,?_⟩
    ·unfold mD
     rw[s.free hl,aB]
     exact Kw λy=>y
    ·refine a9.rps (Paired.mapP hpw λv p ⟨a,ea,qa⟩=>⟨a,ea,om (s.trans hh) ?_⟩)
     exact qa.grow (i3.new hl)
   ·cases e
 |_=>cases e
def yw (ds:List D)(k:D):Option (D×List D):=match k with
 | .int i=>if -(2 ^ 63)<=i/\i < 2 ^ 63 then (match seqIndex? i ds.length with
  |some n=>(match ds[n]? with
   |some d=>some (d,ds.eraseIdx n)
   |none=>none)
  |none=>none) else none
 |_=>none
def jC (i j:Nat)(L:List Nat)(f:VF D):SF:=λenv β=>if uV env[i]? =true/\uV env[j]? =true/\i≠j then toS (f (vl env) β) λk β'=>match (ba L env)[j]? with
 |some (.ow (.list es))=>(match yw es k with
  |some (d,es')=>Gg i ((ba L env).set j (.ow (.list es'))) β' λds=>if ds.length < sizeLine then some (ds ++ [d]) else none
  |none=>.bad)
 |_=>.bad else .bad
theorem cn.eraseIdx:∀{xs:List V} {ds:List D} (i:Nat),cn K G xs ds->cn K G (xs.eraseIdx i) (ds.eraseIdx i)
 |_,_,_,.nil=>.nil
 |_,_,0,.cons _ t=>t
 |_,_,i + 1,.cons r t=>.cons r (cn.eraseIdx i t)
theorem ym (i j:Nat){x y:Str}{np2 apos2 cpos2:Pos}(hb:∀j,Γ.br j=false)(he:SE X Γ E e f L md)(hN:X.N[i]? =some x:=by rfl)(hv:xO X.env.scope x:=by first |exact Or.inl rfl |exact Or.inr (Or.inl rfl) |exact Or.inr (Or.inr rfl))(hd:(x == ("__debug__":Str))=false:=by decide)
  (hcd:(x == ("__classdict__":Str))=false:=by decide)
  (hN2:X.N[j]? =some y:=by rfl) (hv2:xO X.env.scope y:=by first |exact Or.inl rfl |exact Or.inr (Or.inl rfl) |exact Or.inr (Or.inr rfl)) (hd2:(y == ("__debug__":Str))=false:=by decide)
  (hcd2:(y == ("__classdict__":Str))=false:=by decide)
  (hbase:attributeBase (.Name x np) "append" X.env (eval (.Name x np) X.env)=eval (.Name x np) X.env:=by rfl)
  (hfew:((backTo cpos (starEach [.Call (.Attribute (.Name y np2) "pop" apos2) [e] [] cpos2] X.env)).all (λx=> !x.1) && (backToKw cpos (keywordEach [] X.env)).all (λx=>x.1.isSome)
   && decide ([Expr.Call (.Attribute (.Name y np2) "pop" apos2) [e] [] cpos2].length + ([]:List Keyword).length + (if ([]:List Keyword).isEmpty then 0 else 1) < 30))=true:=by rfl)
  (hline:(apos.endLine == cpos.line)=true:=by rfl) (hs:starEach [.Call (.Attribute (.Name y np2) "pop" apos2) [e] [] cpos2] X.env=(false,eval (.Call (.Attribute (.Name y np2) "pop" apos2) [e] [] cpos2) X.env) :: starEach [] X.env:=by rfl)
  (hbase2:attributeBase (.Name y np2) "pop" X.env (eval (.Name y np2) X.env)=eval (.Name y np2) X.env:=by rfl)
  (hfew2:((backTo cpos2 (starEach [e] X.env)).all (λx=> !x.1) && (backToKw cpos2 (keywordEach [] X.env)).all (λx=>x.1.isSome)
   && decide ([e].length + ([]:List Keyword).length + (if ([]:List Keyword).isEmpty then 0 else 1) < 30))=true:=by rfl)
  (hline2:(apos2.endLine == cpos2.line)=true:=by rfl) (hs2:starEach [e] X.env=(false,eval e X.env) :: starEach [] X.env:=by rfl)
  (hsw:swapsWith (.Call (.Attribute (.Name x np) "append" apos) [.Call (.Attribute (.Name y np2) "pop" apos2) [e] [] cpos2] [] cpos) none pos.line X.env=pure false:=by rfl) :
  SS X Γ E (.Expr (.Call (.Attribute (.Name x np) "append" apos) [.Call (.Attribute (.Name y np2) "pop" apos2) [e] [] cpos2] [] cpos) pos) (jC i j L f):=by
 refine PS.post (rG (Bd PySem.F.plainAttrs_list PySem.F.slot_list_append PySem.F.type_list_append mI (kh hN hv hd hcd)
  (bc (Bd PySem.F.plainAttrs_list PySem.F.slot_list_pop PySem.F.type_list_pop zF (kh hN2 hv2 hd2 hcd2) (bc he cv hs2) hbase2 hfew2 hline2 hs2 rfl) cv hs) hbase hfew hline hs rfl) hsw) λN σ H ⟨env,G,B,β,I,o⟩=>?_
 unfold jC at o
 by_cases hO:uV env[i]? =true/\uV env[j]? =true/\i≠j
 case neg=>rw[Kw hO] at o;exact o.elim
 rw[Kl hO] at o
 obtain⟨hO1,hO2,hij⟩:=hO
 obtain⟨ds0,q0⟩:=sR hO1
 obtain⟨es0,w0⟩:=sR hO2
 obtain⟨p,h1,_,_,_,xs,h5,_⟩:=I.slot i _ q0
 obtain⟨q,k1,_,_,_,ys,k5,_⟩:=I.slot j _ w0
 refine⟨_,h1,.inl ⟨rfl,xs,.inl (.inl h5)⟩,?_⟩
 refine⟨_,k1,.inl ⟨rfl,ys,.inl (.inl k5)⟩,?_⟩
 refine⟨env,G,B,β,I,cX o λkd β' k v G' H' I' s' m' vo=>?_⟩
 cases ej:(ba L env)[j]? with
 |none=>rw[ej] at k;exact k.elim
 |some sj=>
  rw[ej] at k
  cases sj with
  |ow dj=>
   cases dj with
   |list es=>
    dsimp only at k
    cases ep:yw es kd with
    |none=>rw[ep] at k;exact k.elim
    |some pr=>
     obtain⟨d,es'⟩:=pr
     rw[ep] at k
     dsimp only at k
     unfold yw at ep
     cases kd <;> first | (cases ep;done) |skip
     rename_i ii
     dsimp only at ep
     split at ep
     ·rename_i hr
      cases eI:seqIndex? ii es.length with
      |none=>rw[eI] at ep;cases ep
      |some n=>
       rw[eI] at ep
       dsimp only at ep
       cases eD:es[n]? with
       |none=>rw[eD] at ep;cases ep
       |some d0=>
        rw[eD] at ep
        cases ep
        obtain rfl:=(vo.brw I.boxThere).int
        obtain⟨q',g1,_,_,_,zs,g5,g6⟩:=I'.slot j _ ej
        rw[k1] at g1;cases g1
        obtain⟨xv,ex,rx⟩:=g6.at eD
        refine⟨q,zs,ii,n,xv,rfl,rfl,g5,hr.1,hr.2,by rw[g6.len];exact eI,ex,?_⟩
        have I2:=I'.write hb ej k1 (o:=.lst (zs.eraseIdx n)) (d':=.list (es.eraseIdx n)) λH2 e2 s2=>⟨_,e2,g6.eraseIdx n⟩
        obtain⟨ds,fs,eq,eg,k⟩:=xx k
        by_cases hz:ds.length < sizeLine
        case neg=>rw[Kw hz] at eg;cases eg
        rw[Kl hz] at eg
        cases eg
        obtain⟨p',f1,_,_,_,us,f5,f6⟩:=I2.slot i _ eq
        rw[h1] at f1;cases f1
        refine⟨p,us,xv,rfl,rfl,f5,by rw[f6.len];exact hz,?_⟩
        exact k B G' _ σ (I2.write hb eq h1 λH2 e2 s2=>⟨_,e2,f6.snoc rx⟩) s'
     ·cases ep
   |_=>exact k.elim
  |_=>exact k.elim
end
def cj:List D->Int->FB
 | [.int m],β=>if 0 < m/\m < 1073741824 then .ok (.int (β % m)) false (β / m) else .bad
 |_,_=>.bad
def xA {ds:List D}{β:Int}(h:cj ds β≠.bad):∃m,ds= [.int m]/\0 < m/\m < 1073741824:=by
 unfold cj at h
 split at h
 ·rename_i m
  by_cases hh:0 < m/\m < 1073741824
  ·exact⟨m,rfl,hh.1,hh.2⟩
  ·rw[Kw hh] at h;exact absurd rfl h
 ·exact absurd rfl h
def qY {m β:Int}(h0:0 < m)(h1:m < 1073741824):cj [.int m] β=.ok (.int (β % m)) false (β / m):=Kl ⟨h0,h1⟩
section
variable {P:Program}{w:World}{K:Frag}{mg:Str->Option Value}{base:Heap}
def CK {X:Cx}{i j:Nat}{x y:Str}{px py pos:Pos}{k:Nat}(hN:X.N.Nodup)(hi:X.N[i]? =some x)(hj:X.N[j]? =some y)(hx:X.env.scope.names.lookup x=some .local)(hy:X.env.scope.names.lookup y=some .local)(hc:X.calm=true) :
  PG X (.Tuple [.Name x px,.Name y py] k pos) (Cd X.K 2 (oD (kQ i) (oD (kQ j) B4))):=
 mF hc (cH (cZ hN hi (Or.inl hx) (Or.inr hx)) (cH (cZ hN hj (Or.inl hy) (Or.inr hy)) ku))
def zE {b:Addr}{β m:Int}{H:Hp}{Q:VK}{G:Hp}(hb:H b=some (.lst [.int β]))(s:au G H){p:Addr}(hp:H p=none)
  (kk:∀v G' H',iC (some b) H H'->H' b=some (.lst [.int (β / m)])->au G G'->au G' H'->(∀c,Mx H c->G c=none->G' c=none)->FV K H G' H' false (.int (β % m)) v->Q v H') (gb:G b=none) :
  Q (.int (β % m)) (upd (upd H p (.tup [.int (β / m),.int (β % m)])) b (.lst [.int (β / m)])):=by
 have hbp:b≠p:=aJ hb hp
 refine kk _ G _ ⟨λc o e n=>Kt.of (by rw[aC (λz=>n (by rw[z])),aC (aJ e hp)];exact e),λc o u e=>by rw[aC (λz=>by rw[z,hb] at e;cases e),aC (aJ e hp)];exact e⟩ aB (au.refl _) (λc o e=>?_) (λc _ h=>h) (.int _)
 obtain⟨u,eu,_⟩:=(s c o e).some
 exact jY (jY (s c o e) (aJ eu hp) λx y w=>by rw[hp] at w;cases w) (λz=>by rw[z,gb] at e;cases e) λx y w=>by rw[aC hbp,hb] at w;cases w
end
end L2
namespace L2
open PySem PySem.SeqAt PySem.Spec PyProof.Rows
def sJ {M:Model}{A:Around}{E:Value->Shared->Prop}{s:Shared}{β:Type}{b:Nat}(f:Nat->β->Sem (ForInStep β))(I:List Nat->β->Shared->Prop)(Q:β->Shared->Prop)
  (turn:∀x rest b s,I (x :: rest) b s->wpAny M A (f x b) (λr s'=>match r with | .yield b'=>I rest b' s' | .done b'=>Q b' s') E s)
  (fin:∀b s,I [] b s->Q b s) (c:β) (h:I (List.range' 0 b) c s):wpAny M A (forIn [0:b] c f) Q E s:=by
 rw[Std.Legacy.Range.forIn_eq_forIn_range']
 simp only[Std.Legacy.Range.size,Nat.sub_zero,Nat.add_sub_cancel,Nat.div_one]
 exact wpAny_forIn_list f I Q turn fin _ c h
def pN (l:Addr)(items:Array Value)(n:Nat)(dd:Option Addr)(sl:Array (Option Value))(x:Value)(e:Value->Bool)(j:Nat)(hj:j < items.size)
  (hit:e items[j]=true) (hno:∀m (hm:m < items.size),m < j->e items[m]=false) :
  Meets (Builtin.«tuple.index» ⟨[.ref l,x],[]⟩)
   (λA R s=>s.heap.get? l=some {cls:=.type "tuple",dict:=dd,data:=.seq items n,slots:=sl}/\(∀y,y∈items->EqAt A.in1 s y x (e y))/\R (.ok (.ret (.int j s.toks))) {s with toks:=s.toks + 1}):=
 .of_wp λprog w A R s h=>by
  obtain⟨hp,g,d,tk,os⟩:=s;obtain⟨hl,he,h⟩:=h
  wp_walk using wpAny_loadPart' hl,sJ _ (λrest b s'=>b.1=none/\s'=⟨hp,g,d,tk,os⟩/\∃i,i<=j/\rest=List.range' i (items.size - i)) _
  case turn=>
   rintro y rest b s' ⟨hb,rfl,i,hi,hr⟩
   obtain⟨m,hm⟩:∃m,items.size - i=m + 1:=⟨items.size - i - 1,by omega⟩
   rw[hm,List.range'_succ] at hr
   obtain⟨rfl,rfl⟩:=List.cons.inj hr
   have hlt:y < items.size:=by omega
   have e1:items[y]? =some items[y]:=by simp[hlt]
   simp only[e1]
   refine Ki (he _ (Array.getElem_mem hlt) prog w _ _ ?_)
   by_cases z:y=j
   ·subst z
    rw[hit]
    wp_walk
    exact⟨_,rfl,h⟩
   ·rw[hno y hlt (by omega)]
    wp_walk
    exact⟨rfl,rfl,y + 1,by omega,by congr 1;omega⟩
  case fin=>
   rintro b s' ⟨hb,rfl,i,hi,hr⟩
   obtain⟨m,hm⟩:∃m,items.size - i=m + 1:=⟨items.size - i - 1,by omega⟩
   rw[hm,List.range'_succ] at hr
   cases hr
  case h=>
   exact⟨rfl,rfl,0,K6 _,by rw[Nat.min_self];rfl⟩
section
variable {K:Frag}{X:Cx}{G H:Hp}{Γ:Fx}{E:XK}{e a b c:Expr}{f fa fb fc:VF D}{L La Lb:List Nat}{md ma mb mc:Md}{pos apos cpos np:Pos}
def vj (k:Int):Value->Bool
 | .int i _=>i == k
 |_=>false
theorem k9 {k:Int}:∀{ns:List Int} {us:List Value} (i:Nat) (h:i < us.length) (h2:i < ns.length),Vals (ns.map V.int) us->vj k us[i]=(ns[i] == k)
 | [],_,_,_,h2,_=>absurd h2 (Nat.not_lt_zero _)
 |n :: ns,_,0,_,_,.cons r _=>by obtain⟨t,rfl⟩:=r;rfl
 |n :: ns,_,i + 1,h,h2,.cons _ rs=>k9 i (Nat.lt_of_succ_lt_succ h) (Nat.lt_of_succ_lt_succ h2) rs
theorem sX {k:Int}{t:Tok}(A:Around)(s:Shared):∀{ns:List Int} {us:List Value},Vals (ns.map V.int) us->∀y∈us,EqAt A s y (.int k t) (vj k y)
 | [],_,.nil,y,hy=>by cases hy
 |n :: ns,_,.cons r rs,y,hy=>by
  rcases Ks.mp hy with z |z
  ·subst z;obtain⟨t',rfl⟩:=r;exact EqAt.int_int n t' k t
  ·exact sX A s rs y z
def Cb (K:Frag):V->List V->Hp->VK->Prop:=λx vs H Q=>∃(a:Addr) (ns:List Int) (k:Int),x=.ref a/\vs= [.int k]/\fy K H a (ns.map V.int)/\k∈ns/\Q (.int (ns.idxOf k:Nat)) H
def yX:Ip X "tuple.index" (Cb X.K):=by
 intro pins s σ H x vs v us Q I rx rv h
 obtain⟨a,ns,k,rfl,rfl,hq,hk,q⟩:=h
 cases rx
 obtain⟨u,rfl,ru⟩:=vals1 rv
 obtain⟨t,rfl⟩:=ru
 obtain⟨its,rs,pl,hz⟩:=I.tuple hq
 obtain⟨⟨cls,dd,data,sl⟩,ho,hc,n,hd⟩:=id pl
 simp only at hc hd
 subst hc hd
 have hj:ns.idxOf k < ns.length:=List.idxOf_lt_length_iff.mpr hk
 have hlen:its.length=ns.length:=by rw[<-rs.length,Ko]
 refine call_meets PySem.F.slot_tuple_index ⟨_,ho,rfl⟩ PySem.F.entry_tuple_index (PySem.F.args_tuple_index_2 _ _)
  (pN a its.toArray n dd sl (.int k t) (vj k) (ns.idxOf k) (by simpa[hlen] using hj) ?_ ?_) ⟨ho,λy hy=>sX _ _ rs y (by simpa using hy),?_⟩
 ·have:=k9 (k:=k) (ns.idxOf k) (by omega) hj rs
  simpa[List.getElem_idxOf hj] using this
 ·intro m hm hlt
  have hm':m < ns.length:=by simpa[hlen] using hm
  have hne:ns[m]≠k:=λz=>by
   have:=List.not_of_lt_findIdx (p:=(· == k)) hlt
   simp[z] at this
  have:=k9 (k:=k) m (by omega) hm' rs
  rw[beq_eq_false_iff_ne.mpr hne] at this;simpa using this
 ·exact⟨.int (ns.idxOf k:Nat),H,I.tok _,⟨_,rfl⟩,q⟩
def Inv.tupleP {pins:List (Addr×Obj)}{σ:St}{s:Shared}{p:Addr}{xs:List V}(I:Inv X pins σ H s)(h:fy X.K H p xs):s.TypeIs (.ref p) "tuple"/\∀a,Value.ref p=.ref a->∃ob,s.heap.get? a=some ob/\ob.dict=none:=by
 rcases h with h | ⟨o,its,n,hk,hc,hs,hz,r,hd⟩
 ·obtain⟨_,_,_,o,e,c,n,d,hd⟩:=h.ok I.hok
  exact⟨⟨o,e,c⟩,λa z=>by cases z;exact⟨o,e,hd⟩⟩
 ·exact⟨⟨o,I.kIn p o hk,hc⟩,λa z=>by cases z;exact⟨o,I.kIn p o hk,hd⟩⟩
def IY (K:Frag)(r:V->List V->Hp->VK->Prop)(to:TE)(t:TA):TE:=λσ H Q=>to σ H λx H1=>(∃p xs,x=.ref p/\fy K H1 p xs)/\t σ H1 λxs H2=>r x xs H2 Q
def Fl {o e:Expr}{es:List Expr}{to:TE}{t:TA}{name:Str}{apos cpos:Pos}{id:String}{r:V->List V->Hp->VK->Prop}(slot:Slot "tuple" name id)(hty:typeOf (.builtin id)=pure (.type "method_descriptor"))(hm:Ip X id r)(ho:PE X o to)(ha:PA X (e :: es) t)
  (hbase:attributeBase o name X.env (eval o X.env)=eval o X.env:=by rfl)
  (hfew:((backTo cpos (starEach (e :: es) X.env)).all (λx=> !x.1) && (backToKw cpos (keywordEach [] X.env)).all (λx=>x.1.isSome)
   && decide ((e :: es).length + ([]:List Keyword).length + (if ([]:List Keyword).isEmpty then 0 else 1) < 30))=true:=by rfl)
  (hline:(apos.endLine == cpos.line)=true:=by rfl) (hs:starEach (e :: es) X.env=(false,eval e X.env) :: starEach es X.env:=by rfl) (hplain:(backTo cpos (starEach es X.env)).any (·.1)=false:=by rfl) :
  PE X (.Call (.Attribute o name apos) (e :: es) [] cpos) (IY X.K r to t):=by
 intro pins s σ H Q I h
 refine wpAny_Call_method_late hbase hfew hline rfl (cq (ho pins s σ H _ I h) λv s1 ⟨x,H1,I1,r1,⟨p,ys,ex,hr⟩,q1⟩=>?_)
 subst ex
 cases r1
 obtain⟨h1,h2⟩:=I1.tupleP hr
 refine⟨"tuple",id,PySem.F.plainAttrs_tuple,slot,hty,h1,h2,?_⟩
 have hA:=ha cpos pins s1 σ H1 _ I1 q1
 rw[hs] at hA ⊢
 refine Calls.callWith_builtin (by show (false || (backTo cpos (starEach es X.env)).any (·.1))=false;rw[hplain] <;> rfl) (Calls.evalArgs_plain ?_)
 exact cq hA λus s2 ⟨vs,H2,I2,r2,q2⟩=>hm pins s2 σ H2 (.ref p) vs (.ref p) us Q I2 rfl r2 q2
def kO:List D->Option (List Int)
 | []=>some []
 | .int i :: ds=>(kO ds).map (i :: ·)
 |_=>none
theorem ug:∀{ds:List D} {ns:List Int},kO ds=some ns->ds=ns.map int
 | [],ns,h=>by cases h;rfl
 | .int i :: ds,ns,h=>by
  unfold kO at h
  cases q:kO ds with
  |none=>rw[q] at h;cases h
  |some ms=>rw[q] at h;cases h;rw[ug q];rfl
 | .none :: _,_,h=>by cases h
 | .bool _ :: _,_,h=>by cases h
 | .str _ :: _,_,h=>by cases h
 | .list _ :: _,_,h=>by cases h
 | .tuple _ :: _,_,h=>by cases h
 | .dict _ :: _,_,h=>by cases h
theorem kx:∀ns:List Int,kO (ns.map int)=some ns
 | []=>rfl
 |n :: ns=>by show (kO (ns.map int)).map (n :: ·)=_;rw[kx ns];rfl
theorem pC:∀{ns:List Int} {xs:List V},cn K G xs (ns.map int)->xs=ns.map V.int
 | [],_,.nil=>rfl
 |n :: ns,_,.cons r t=>by cases r;rw[pC t];rfl
def Dl (d y:D):Option D:=match d,y with
 | .tuple ds,.int k=>(match kO ds with
  |some ns=>if k∈ns then some (.int (ns.idxOf k:Nat)) else none
  |none=>none)
 |_,_=>none
def xT:D->Bool
 | .tuple _=>true
 |_=>false
def mw (fa fb:VF D):VF D:=λvs β=>(fa vs β).bnd λx β1=>if xT x=true then (fb vs β1).bnd λy β2=>R.of (Dl x y) β2 else .bad
theorem tH (hK:X.K=Γ.K)(ha:SE X Γ E a fa La ma)(hb:SE X Γ E b fb Lb mb)
  (hbase:attributeBase a "index" X.env (eval a X.env)=eval a X.env:=by rfl)
  (hfew:((backTo cpos (starEach [b] X.env)).all (λx=> !x.1) && (backToKw cpos (keywordEach [] X.env)).all (λx=>x.1.isSome)
   && decide ([b].length + ([]:List Keyword).length + (if ([]:List Keyword).isEmpty then 0 else 1) < 30))=true:=by rfl)
  (hline:(apos.endLine == cpos.line)=true:=by rfl) (hs:starEach [b] X.env=(false,eval b X.env) :: starEach [] X.env:=by rfl) :
  SE X Γ E (.Call (.Attribute a "index" apos) [b] [] cpos) (mw fa fb) (La ++ Lb) .v:=by
 refine PE.post' (Fl PySem.F.slot_tuple_index PySem.F.type_tuple_index yX ha (bc hb cv hs) hbase hfew hline hs rfl) λσ H Q ⟨env,G,B,β,I,o⟩=>?_
 refine⟨env,G,B,β,I,o.bnd.imp λd1 β1 h x G1 H1 I1 s1 m1 vx=>?_⟩
 have vx:=vx.brw I.boxThere
 cases d1 with
 |tuple ds=>
  rw[Kl (show xT (.tuple ds)=true from rfl)] at h
  obtain⟨p,xs,rfl,hq,r⟩:=vx.tuple I1.sub
  refine⟨⟨p,xs,rfl,by rw[hK];exact hq⟩,?_⟩
  refine⟨ba La env,G1,B,β1,I1,?_⟩
  rw[eQ]
  refine h.bnd.imp λd2 β2 h y G2 H2 I2 s2 m2 vy=>?_
  obtain⟨d,e,k⟩:=h.of
  have vy:=vy.brw I1.boxThere
  cases d2 with
  |int kk=>
   obtain rfl:=vy.int
   simp only[Dl] at e
   cases q:kO ds with
   |none=>rw[q] at e;cases e
   |some ns=>
    rw[q] at e
    dsimp only at e
    split at e
    ·rename_i hk
     cases e
     have eds:=ug q
     subst eds
     have exs:=pC r
     subst exs
     have hq2:fy X.K H2 p (ns.map V.int):=by
      rw[hK]
      rcases hq with hq |hq
      ·rcases vx with vx | ⟨_,_,_,vx⟩
       ·cases vx with
        |tup g1 r9=>have z9:=pC r9;subst z9;exact (g1.grow (s2.trans I2.sub).grow)
       ·exact vx.elim
      ·exact .inr hq
     exact⟨p,ns,kk,rfl,rfl,hq2,hk,k _ G2 H2 (by rw[cm];exact I2) (s1.trans s2) (m1.trans m2) (.int _)⟩
    ·cases e
  |_=>simp only[Dl] at e;cases e
 |_=>exact h.elim
abbrev Fx.at (Γ:Fx)(H0:Hp):Fx:=⟨Γ.K,H0,Γ.G0,Γ.par,Γ.ca,Γ.br,Γ.bx⟩
end
end L2
namespace L2
open PySem PySem.Spec PyProof.Rows
section
variable {K:Frag}{X:Cx}{G H:Hp}
def uK (neg:Bool):D->D->Option D
 | .str x,.str y=>some (.bool (if neg then !decide (x=y) else decide (x=y)))
 |_,_=>none
def tJ (x y:Str):decide (V.str x=V.str y)=decide (x=y):=by
 rw[Lk];simp
def Hq:kY K JK (uK false) .v:=by
 intro B G H x y dx dy d Q s hB bx by' e k
 cases dx <;> cases dy <;> first | (cases e;done) |skip
 cases e
 obtain rfl:=bx.str
 obtain rfl:=by'.str
 refine⟨rfl,?_⟩
 rw[tJ]
 exact k _ G H (Ext.refl s) (.bl _)
def DL:kY K JJ (uK true) .v:=by
 intro B G H x y dx dy d Q s hB bx by' e k
 cases dx <;> cases dy <;> first | (cases e;done) |skip
 cases e
 obtain rfl:=bx.str
 obtain rfl:=by'.str
 refine⟨rfl,?_⟩
 rw[tJ]
 exact k _ G H (Ext.refl s) (.bl _)
end
end L2
namespace L2
open PySem
section
variable {α γ:Type}
@[simp] theorem me (a:α)(β:Int)(k:α->Int->R γ):(R.ok a β).bnd k=k a β:=rfl
@[simp] theorem Iv (c:Str)(k:α->Int->R γ):(R.exc c:R α).bnd k=.exc c:=rfl
@[simp] theorem Ij (k:α->Int->R γ):(R.bad:R α).bnd k=.bad:=rfl
@[simp] theorem Ju (a:α)(β:Int)(k:α->Int->R γ):(R.ok a β).okb k=k a β:=rfl
@[simp] theorem sS (a:α)(β:Int):R.of (some a) β=.ok a β:=rfl
@[simp] theorem of_none (β:Int):(R.of none β:R α)=.bad:=rfl
@[simp] theorem JD (a:α)(β:Int)(k:α->Int->SO):toS (.ok a β) k=k a β:=rfl
@[simp] theorem HZ (c:Str)(k:α->Int->SO):toS (.exc c:R α) k=.exc c:=rfl
@[simp] theorem HX (k:α->Int->SO):toS (.bad:R α) k=.bad:=rfl
end
section
variable (f fa fb fc:VF D)(t u:VF Bool)(m m':SF)(vs:List Nv)(β:Int)(env:En)(i j:Nat)(L:List Nat)
@[simp] theorem xm:gv i vs β=R.of (dat vs[i]?) β:=rfl
@[simp] theorem wb (d:D):dat (some (.da d))=some d:=rfl
@[simp] theorem Eh (d:D):cst d vs β=.ok d β:=rfl
@[simp] theorem JN (g:D->Option D):f1 fa g vs β=(fa vs β).bnd λx β1=>R.of (g x) β1:=rfl
@[simp] theorem JW (g:D->D->Option D):f2 fa fb g vs β=(fa vs β).bnd λx β1=>(fb vs β1).bnd λy β2=>R.of (g x y) β2:=rfl
@[simp] theorem xw:ah vs β=.ok [] β:=rfl
@[simp] theorem cJ (fr:VF (List D)):aa fa fr vs β=(fa vs β).bnd λx β1=>(fr vs β1).bnd λxs β2=>.ok (x :: xs) β2:=rfl
@[simp] theorem rW:fR fa vs β=(fa vs β).bnd λx β1=>R.of (ES x) β1:=rfl
@[simp] theorem qR:ly t vs β=(t vs β).bnd λc β1=>.ok (!c) β1:=rfl
@[simp] theorem jA:tT t u vs β=(t vs β).bnd λc β1=>if c=true then u vs β1 else .ok false β1:=rfl
@[simp] theorem nt:gB t u vs β=(t vs β).bnd λc β1=>if c=true then .ok true β1 else u vs β1:=rfl
@[simp] theorem JV (n:Bool):tN fa n vs β=(fa vs β).bnd λx β1=>.ok (if n then !yI x else yI x) β1:=rfl
@[simp] theorem IP:J5 t fa fb vs β=(t vs β).bnd λc β1=>if c=true then fa vs β1 else fb vs β1:=rfl
@[simp] theorem cw (c:Bool){β1:Int}(h:fa vs β=.ok (.bool c) β1):cL fa vs β=.ok c β1:=by unfold cL;rw[h];rfl
@[simp] theorem vp:vl []= []:=rfl
@[simp] theorem sF (s:Sl):vl (s :: env)=s.val :: vl env:=rfl
@[simp] theorem va (d:D):(Sl.fz d).val=.da d:=rfl
@[simp] theorem IK (d:D):(Sl.ow d).val=.da d:=rfl
@[simp] theorem Ja:Sl.no.val=.no:=rfl
@[simp] theorem IE:Sl.bx.val=.bx:=rfl
@[simp] theorem Iw:ba [] env=env:=rfl
@[simp] theorem HN:ba (i :: L) env=ba L (jd env i):=rfl
@[simp] theorem Ig:aM m m' env β=(match m env β with
 | .nx env' β'=>m' env' β'
 |r=>r):=rfl
@[simp] theorem Ji:iD L t m m' env β=toS (t (vl env) β) λc β'=>if c=true then m (ba L env) β' else m' (ba L env) β':=rfl
@[simp] theorem dS:bB f env β=toS (f (vl env) β) λd β'=>.rt d false β':=rfl
@[simp] theorem HU:mU f env β=toS (f (vl env) β) λd β'=>.rt d true β':=rfl
@[simp] theorem JG:jR env β=.nx env β:=rfl
@[simp] theorem fm:bS i L f env β=toS (f (vl env) β) λd β'=>.nx ((ba L env).set i (.fz d)) β':=rfl
@[simp] theorem Bu:mX i L f env β=toS (f (vl env) β) λd β'=>.nx ((ba L env).set i (.ow d)) β':=rfl
@[simp] theorem HA:qm L f env β=toS (f (vl env) β) λ_ β'=>.nx (ba L env) β':=rfl
end
def aX {m m':SF}{env env':En}{β β':Int}(h:m env β=.nx env' β'):aM m m' env β=m' env' β':=by unfold aM;rw[h]
def c9 {m m':SF}{env:En}{β β':Int}{d:D}{b:Bool}(h:m env β=.rt d b β'):aM m m' env β=.rt d b β':=by unfold aM;rw[h]
def gp {L:List Nat}{t:VF Bool}{m m':SF}{env:En}{β β':Int}(h:t (vl env) β=.ok true β'):iD L t m m' env β=m (ba L env) β':=by unfold iD;rw[h];rfl
def gL {L:List Nat}{t:VF Bool}{m m':SF}{env:En}{β β':Int}(h:t (vl env) β=.ok false β'):iD L t m m' env β=m' (ba L env) β':=by unfold iD;rw[h];rfl
def aG {F:List D->FR}{fr:VF (List D)}{vs:List Nv}{β β1:Int}{ds:List D}{d:D}{b:Bool}(h:fr vs β=.ok ds β1)(e:F ds=.ok d b):aF F fr vs β=.ok d β1:=by unfold aF;rw[h];dsimp only[R.bnd];rw[e]
def AQ {F:List D->FR}{fr:VF (List D)}{vs:List Nv}{β β1:Int}{ds:List D}{d:D}(h:fr vs β=.ok ds β1)(e:F ds=.ok d true):uO F fr vs β=.ok d β1:=by unfold uO;rw[h];dsimp only[R.bnd];rw[e]
def cF {fa:VF D}{g:D->Option D}{vs:List Nv}{β β1:Int}{x d:D}(h:fa vs β=.ok x β1)(e:g x=some d):f1 fa g vs β=.ok d β1:=by unfold f1;rw[h];dsimp only[R.bnd];rw[e];rfl
def az {fa fb:VF D}{g:D->D->Option D}{vs:List Nv}{β β1 β2:Int}{x y d:D}(h:fa vs β=.ok x β1)(h':fb vs β1=.ok y β2)(e:g x y=some d):f2 fa fb g vs β=.ok d β2:=by unfold f2;rw[h];dsimp only[R.bnd];rw[h'];dsimp only[R.bnd];rw[e];rfl
def cP {i:Nat}{F:List D->Int->FB}{fr:VF (List D)}{vs:List Nv}{β β1 β2:Int}{ds:List D}{d:D}{b:Bool}(hi:vd vs i=true)(h:fr vs β=.ok ds β1)(e:F ds β1=.ok d b β2):iY i F fr vs β=.ok d β2:=by unfold iY;rw[Kl hi,h];dsimp only[R.bnd];rw[e]
def sz (n:Nat)(h:n<=1000):n<=sizeLine:=by rw[K1];omega
def GO (n:Nat)(h:n<=1000):n < sizeLine:=by rw[K1];omega
def lI {fr:VF (List D)}{vs:List Nv}{β β1:Int}{ds:List D}(h:fr vs β=.ok ds β1)(hz:ds.length<=1000):aR fr vs β=.ok (.tuple ds) β1:=by unfold aR;rw[h];exact Kl (sz _ hz)
def iH {fr:VF (List D)}{vs:List Nv}{β β1:Int}{ds:List D}(h:fr vs β=.ok ds β1)(hz:ds.length<=1000):bH fr vs β=.ok (.list ds) β1:=by unfold bH;rw[h];exact Kl (sz _ hz)
def Bv {i:Nat}{env:En}{β:Int}{g:List D->Option (List D)}{ds es:List D}(h:env[i]? =some (.ow (.list ds)))(e:g ds=some es):Gg i env β g=.nx (env.set i (.ow (.list es))) β:=by unfold Gg;rw[h];dsimp only;rw[e]
def xU {i:Nat}{L:List Nat}{f:VF D}{env:En}{β β':Int}{ds:List D}{d:D}(hi:env[i]? =some (.ow (.list ds)))(hf:f (vl env) β=.ok d β')(hL:(ba L env)[i]? =some (.ow (.list ds)))(hz:ds.length<=1000):sH i L f env β=.nx ((ba L env).set i (.ow (.list (ds ++ [d])))) β':=by
 unfold sH
 rw[Kl (by rw[hi];rfl),hf]
 exact Bv hL (Kl (GO _ hz))
def vG {i j:Nat}{L:List Nat}{f:VF D}{env:En}{β β':Int}{ds es es':List D}{k d:D}(hi:env[i]? =some (.ow (.list ds)))(hj:env[j]? =some (.ow (.list es)))(hij:i≠j)(hf:f (vl env) β=.ok k β')(hL:ba L env=env)(hp:yw es k=some (d,es'))(hz:ds.length<=1000):jC i j L f env β=.nx ((env.set j (.ow (.list es'))).set i (.ow (.list (ds ++ [d])))) β':=by
 unfold jC
 rw[Kl ⟨by rw[hi];rfl,by rw[hj];rfl,hij⟩,hf,hL]
 dsimp only[toS]
 rw[hj]
 dsimp only
 rw[hp]
 exact Bv (by rw[KG (Ne.symm hij)];exact hi) (Kl (GO _ hz))
theorem pF {t:Tg}{ft:VF Bool}{fe:VF D}{vs:List Nv}(g:D->Bool)(h:D->D):∀{ds:List D} {β:Int},(∀d,d∈ds->∃vs1,kS t d vs=some vs1/\ft vs1 β=.ok (g d) β/\(g d=true->fe vs1 β=.ok (h d) β))->gu t ft fe vs ds β=.ok ((ds.filter g).map h) β
 | [],β,_=>rfl
 |d :: ds,β,hh=>by
  obtain⟨vs1,e1,e2,e3⟩:=hh d (Ku ..)
  have ih:=pF (t:=t) (ft:=ft) (fe:=fe) (vs:=vs) g h (ds:=ds) (β:=β) λd' hd=>hh d' (Kr _ hd)
  unfold gu
  rw[e1]
  dsimp only
  rw[e2]
  dsimp only[R.okb]
  cases q:g d with
  |true=>
   rw[Kl rfl,e3 q]
   dsimp only
   rw[ih,List.filter_cons_of_pos q];rfl
  |false=>
   rw[Kw Kx,ih,List.filter_cons_of_neg (by rw[q];exact Kx)]
def vS {own:Nat}{ixs:List Nat}{t:Tg}{fi:VF (List D)}{ft:VF Bool}{fe:VF D}{vs:List Nv}{β β1:Int}{ds:List D}(g:D->Bool)(h:D->D)(hi:fi vs β=.ok ds β1)(hz:ds.length<=1000)
  (hh:∀d,d∈ds->∃vs1,kS t d (c6 own ixs vs)=some vs1/\ft vs1 β1=.ok (g d) β1/\(g d=true->fe vs1 β1=.ok (h d) β1)):aQ own ixs t fi ft fe vs β=.ok (.list ((ds.filter g).map h)) β1:=by
 unfold aQ
 rw[hi]
 dsimp only[R.bnd]
 rw[Kl (sz _ hz),pF g h hh];rfl
def jq {own:Nat}{ixs:List Nat}{t:Tg}{fi:VF (List D)}{fe:VF D}{vs:List Nv}{β β1:Int}{ds:List D}(h:D->D)(hi:fi vs β=.ok ds β1)(hz:ds.length<=1000)
  (hh:∀d,d∈ds->∃vs1,kS t d (c6 own ixs vs)=some vs1/\fe vs1 β1=.ok (h d) β1):aQ own ixs t fi i7 fe vs β=.ok (.list (ds.map h)) β1:=by
 rw[vS (ft:=i7) (λ_=>true) h hi hz λd hd=>let ⟨vs1,e1,e2⟩:=hh d hd;⟨vs1,e1,rfl,λ_=>e2⟩]
 rw[List.filter_eq_self.mpr (λ_ _=>rfl)]
def eN {α:Type}{own:Nat}{ixs:List Nat}{t:Tg}{fi:VF (List D)}{fe:VF D}{vs:List Nv}{β β1:Int}{l:List α}{e:α->D}(h:α->D)(hi:fi vs β=.ok (l.map e) β1)(hz:l.length<=1000)
  (hh:∀x,x∈l->∃vs1,kS t (e x) (c6 own ixs vs)=some vs1/\fe vs1 β1=.ok (h x) β1):aQ own ixs t fi i7 fe vs β=.ok (.list (l.map h)) β1:=by
 unfold aQ
 rw[hi]
 dsimp only[R.bnd]
 rw[Kl (sz _ (by rw[Ko];exact hz))]
 have key:∀m:List α,(∀x,x∈m->x∈l)->gu t i7 fe (c6 own ixs vs) (m.map e) β1=.ok (m.map h) β1:=by
  intro m
  induction m with
  |nil=>intro _;rfl
  |cons x m ih=>
   intro hm
   obtain⟨vs1,e1,e2⟩:=hh x (hm x (Ku ..))
   rw[LD]
   unfold gu
   rw[e1]
   dsimp only
   show (R.ok true β1).okb _=_
   dsimp only[R.okb]
   rw[Kl rfl,e2]
   dsimp only
   rw[ih λy hy=>hm y (Kr _ hy)];rfl
 rw[key l λ_ h=>h];rfl
def lj {α:Type}{own:Nat}{ixs:List Nat}{t:Tg}{fi:VF (List D)}{ft:VF Bool}{fe:VF D}{vs:List Nv}{β β1:Int}{l:List α}{e:α->D}(g:α->Bool)(h:α->D)(hi:fi vs β=.ok (l.map e) β1)(hz:l.length<=1000)
  (hh:∀x,x∈l->∃vs1,kS t (e x) (c6 own ixs vs)=some vs1/\ft vs1 β1=.ok (g x) β1/\(g x=true->fe vs1 β1=.ok (h x) β1)):aQ own ixs t fi ft fe vs β=.ok (.list ((l.filter g).map h)) β1:=by
 unfold aQ
 rw[hi]
 dsimp only[R.bnd]
 rw[Kl (sz _ (by rw[Ko];exact hz))]
 have key:∀m:List α,(∀x,x∈m->x∈l)->gu t ft fe (c6 own ixs vs) (m.map e) β1=.ok ((m.filter g).map h) β1:=by
  intro m
  induction m with
  |nil=>intro _;rfl
  |cons x m ih=>
   intro hm
   obtain⟨vs1,e1,e2,e3⟩:=hh x (hm x (Ku ..))
   have ih:=ih λy hy=>hm y (Kr _ hy)
   rw[LD]
   unfold gu
   rw[e1]
   dsimp only
   rw[e2]
   dsimp only[R.okb]
   cases q:g x with
   |true=>
    rw[Kl rfl,e3 q]
    dsimp only
    rw[ih,List.filter_cons_of_pos q];rfl
   |false=>
    rw[Kw Kx,ih,List.filter_cons_of_neg (by rw[q];exact Kx)]
 rw[key l λ_ h=>h];rfl
theorem ig {t:Tg}{m:SF}(Pv:Nat->En->Int->Prop):∀{ds:List D} {k:Nat} {env:En} {β:Int},Pv k env β->
  (∀i d env β,ds[i]? =some d->Pv (k + i) env β->∃env1,gq t d env=some env1/\∃env2 β2,m env1 β=.nx env2 β2/\Pv (k + i + 1) env2 β2)->∃env' β',iW t m ds env β=.nx env' β'/\Pv (k + ds.length) env' β'
 | [],k,env,β,h0,_=>⟨env,β,rfl,h0⟩
 |d :: ds,k,env,β,h0,hs=>by
  obtain⟨env1,e1,env2,β2,e2,h1⟩:=hs 0 d env β rfl h0
  obtain⟨env',β',e3,h2⟩:=ig Pv (t:=t) (m:=m) (ds:=ds) (k:=k + 1) h1 λi d' en be hi hp=>by
   have:=hs (i + 1) d' en be (by simpa using hi) (by rw[show k + (i + 1)=k + 1 + i by omega];exact hp)
   rw[show k + (i + 1) + 1=k + 1 + i + 1 by omega] at this
   exact this
  refine⟨env',β',?_,by rw[KW,show k + (ds.length + 1)=k + 1 + ds.length by omega];exact h2⟩
  unfold iW
  rw[e1]
  dsimp only
  rw[e2]
  exact e3
theorem oh {L:List Nat}{t:VF Bool}{m:SF}(Pv:Nat->En->Int->Prop)(Dn:En->Int->Prop):∀{n k:Nat} {env:En} {β:Int},k < n->Pv k env β->
  (∀k env β,Pv k env β->∃c β1,t (vl env) β=.ok c β1/\((c=false/\Dn (ba L env) β1)\/(c=true/\∃env2 β2 k',m (ba L env) β1=.nx env2 β2/\k' < k/\Pv k' env2 β2)))->∃env' β',jV L t m n env β=.nx env' β'/\Dn env' β'
 | 0,k,env,β,hk,_,_=>by omega
 |n + 1,k,env,β,hk,h0,hs=>by
  obtain⟨c,β1,e1,hc⟩:=hs k env β h0
  unfold jV
  rw[e1]
  dsimp only[toS]
  rcases hc with⟨rfl,hd⟩ | ⟨rfl,env2,β2,k',e2,hl,h1⟩
  ·exact⟨_,_,rfl,hd⟩
  ·rw[Kl rfl,e2]
   exact oh Pv Dn (n:=n) (k:=k') (by omega) h1 hs
end L2
namespace RM
open PySem L2
def oS:SF:=(bB (c8 (f1 (gv 0) (dw "int")) (f1 (f1 (gv 0) (dw "bool")) yh)))
def oW (bt:List D->FR):SF:=(bB (c8 (aF bt (aa (gv 0) ah)) (fx (cst (.int 0)) (gv 0) (gv 1) tf sW)))
def qf (bt:List D->FR):SF:=(bB (c8 (aF bt (aa (gv 0) ah)) (fx (cst (.int 1)) (gv 0) (cst (.int 8)) tf tf)))
def jm (bZ:List D->FR):SF:=(aM (iD ([] ++ ([] ++ [])) (gB (ly (fR (f1 (gv 0) (dw "tuple")))) (cL (f2 (f1 (gv 0) bW) (cst (.int 2)) (cG true))))
 (bB (cst (.bool false)))
 jR)
 (bB (c8 (aF bZ (aa (f2 (gv 0) (cst (.int 0)) aW) (aa (gv 1) ah))) (aF bZ (aa (f2 (gv 0) (cst (.int 1)) aW) (aa (gv 1) ah))))))
def sQ:SF:=(mU (aQ 1 [0] (.nm 0) (bP (f2 (gv 0) (gv 0) dF)) i7 (aR (aa (f2 (gv 0) (gv 1) Gf) (aa (f2 (gv 0) (gv 1) jU) ah)))))
def pG:SF:=(bB (f1 (aQ 2 [] (.two 0 1) (fj (gv 0)) i7 (f2 (gv 0) (gv 1) (cG false))) (bN λbs=>bs.any id)))
def ij (ic cy jo fN:List D->FR):SF:=(aM (iD ([] ++ ([] ++ [])) (gB (ly (fR (f1 (gv 0) (dw "tuple")))) (cL (f2 (f1 (gv 0) bW) (cst (.int 2)) (cG true))))
 (bB (cst (.bool false)))
 jR)
 (aM (bS 1 ([] ++ []) (f2 (gv 0) (cst (.int 0)) aW))
 (aM (bS 2 ([] ++ []) (f2 (gv 0) (cst (.int 1)) aW))
 (aM (iD (([1] ++ []) ++ []) (gB (ly (fR (aF ic (aa (gv 1) ah)))) (ly (fR (f1 (gv 2) (dw "tuple")))))
 (bB (cst (.bool false)))
 jR)
 (aM (iD ([] ++ [1]) (ly (fR (f1 (aQ 1 [1] (.nm 0) (fj (gv 2)) i7 (aF cy (aa (gv 0) (aa (gv 1) ah)))) (bN λbs=>bs.all id))))
 (bB (cst (.bool false)))
 jR)
 (bB (c8 (f2 (gv 2) (aF jo (aa (gv 1) (aa (gv 2) ah))) (cG false)) (f1 (aF fN (aa (gv 2) ah)) yh))))))))
def hG (fU:List D->FR):SF:=(iD ([0] ++ []) (ly (fR (aF fU (aa (gv 0) ah))))
 (λenv β=>toS ((aa (cst (.str "this is no order")) ah) (vl env) β) λds _=>if ds.length<=sizeLine then .exc "NoOrder" else .bad)
 jR)
def m8:SF:=(bB (c8 (f2 (gv 1) (gv 2) (cG true)) (c8 (f2 (aR (aa (gv 1) (aa (gv 2) ah))) (f2 (gv 0) (cst (.int 1)) aW) (rz true)) (f2 (aR (aa (gv 2) (aa (gv 1) ah))) (f2 (gv 0) (cst (.int 1)) aW) (rz true)))))
def lX:SF:=(bB (c8 (f2 (gv 1) (gv 2) (cG true)) (c8 (f2 (aR (aa (gv 1) (aa (gv 2) ah))) (f2 (gv 0) (cst (.int 1)) aW) (rz true)) (f2 (aR (aa (gv 2) (aa (gv 1) ah))) (f2 (gv 0) (cst (.int 1)) aW) (rz true)))))
def lQ:D->Bool
 | .int _=>true
 |_=>false
def ir:List D->FR
 | [d]=>if b5 d=true then .bad else .ok (.bool (lQ d)) false
 |_=>.bad
def kJ {d:D}(h:b5 d=false):ir [d]=.ok (.bool (lQ d)) false:=Kw (by rw[h];exact Kx)
def wH (ds:List D)(h:ir ds≠.bad):bE 1 1 oS ds=ir ds:=by
 unfold ir at h
 split at h
 ·rename_i d
  cases q:b5 d with
  |true=>rw[q] at h;exact absurd rfl h
  |false=>
   rw[kJ q]
   have e1:dw "int" d=some (.bool (zd d "int")):=by unfold dw;rw[q];rfl
   have e2:dw "bool" d=some (.bool (zd d "bool")):=by unfold dw;rw[q];rfl
   show fin (bB (c8 (f1 (gv 0) (dw "int")) (f1 (f1 (gv 0) (dw "bool")) yh)) [.fz d] 0)=_
   unfold bB c8 f1 gv
   simp only[sF,vp,va,List.getElem?_cons_zero,wb,sS,me,e1,e2]
   cases d <;> rfl
 ·exact absurd rfl h
def iZ (d:D)(n:Int):Bool:=match d with
 | .int i=>decide (0<=i/\i < n)
 |_=>false
def dH:List D->FR
 | [d,.int n]=>if b5 d=true then .bad else .ok (.bool (iZ d n)) false
 |_=>.bad
def nQ {d:D}{n:Int}(h:b5 d=false):dH [d,.int n]=.ok (.bool (iZ d n)) false:=Kw (by rw[h];exact Kx)
def jb {i lo n:Int}{vs:List Nv}{β:Int}{fa fb fc:VF D}{g':D->D->Option D}{q:Bool}(ha:fa vs β=.ok (.int lo) β)(hb:fb vs β=.ok (.int i) β)(hc:fc vs β=.ok (.int n) β)(hq:g' (.int i) (.int n)=some (.bool q)):fx fa fb fc tf g' vs β=.ok (.bool (decide (lo<=i) && q)) β:=by
 unfold fx
 rw[ha];dsimp only[R.bnd];rw[hb];dsimp only[R.bnd]
 show (match (some (PyData.bool (decide (lo<=i))):Option D) with
  |some (.bool true)=>_
  |some (.bool false)=>_
  |_=>_)=_
 by_cases h:lo<=i
 ·rw[Kn h]
  dsimp only
  rw[hc]
  dsimp only[R.bnd]
  rw[hq];rfl
 ·rw[KC h];rfl
def Cp (ds:List D)(h:dH ds≠.bad):bE 2 2 (oW ir) ds=dH ds:=by
 unfold dH at h
 split at h
 ·rename_i d n
  cases q:b5 d with
  |true=>rw[q] at h;exact absurd rfl h
  |false=>
   rw[nQ q]
   show fin (bB (c8 (aF ir (aa (gv 0) ah)) (fx (cst (.int 0)) (gv 0) (gv 1) tf sW)) [.fz d,.fz (.int n)] 0)=_
   unfold bB c8 aF
   simp only[sF,vp,va,cJ,xw,xm,List.getElem?_cons_zero,wb,sS,me,kJ q]
   cases d with
   |int i=>
    show fin (toS (fx (cst (.int 0)) (gv 0) (gv 1) tf sW [.da (.int i),.da (.int n)] 0) _)=_
    rw[jb (lo:=0) (i:=i) (n:=n) rfl rfl rfl rfl]
    show FR.ok (.bool (decide (0<=i) && decide (i < n))) false=.ok (.bool (decide (0<=i/\i < n))) false
    rw[Me]
   |_=>rfl
 ·exact absurd rfl h
def DU (d:D):Bool:=match d with
 | .int i=>decide (1<=i/\i<=8)
 |_=>false
def kP:List D->FR
 | [d]=>if b5 d=true then .bad else .ok (.bool (DU d)) false
 |_=>.bad
def BB {d:D}(h:b5 d=false):kP [d]=.ok (.bool (DU d)) false:=Kw (by rw[h];exact Kx)
def Fy (ds:List D)(h:kP ds≠.bad):bE 1 1 (qf ir) ds=kP ds:=by
 unfold kP at h
 split at h
 ·rename_i d
  cases q:b5 d with
  |true=>rw[q] at h;exact absurd rfl h
  |false=>
   rw[BB q]
   show fin (bB (c8 (aF ir (aa (gv 0) ah)) (fx (cst (.int 1)) (gv 0) (cst (.int 8)) tf tf)) [.fz d] 0)=_
   unfold bB c8 aF
   simp only[sF,vp,va,cJ,xw,xm,List.getElem?_cons_zero,wb,sS,me,kJ q]
   cases d with
   |int i=>
    show fin (toS (fx (cst (.int 1)) (gv 0) (cst (.int 8)) tf tf [.da (.int i)] 0) _)=_
    rw[jb (lo:=1) (i:=i) (n:=8) rfl rfl rfl rfl]
    show FR.ok (.bool (decide (1<=i) && decide (i<=8))) false=.ok (.bool (decide (1<=i/\i<=8))) false
    rw[Me]
   |_=>rfl
 ·exact absurd rfl h
def pairF:List D->FR
 | [d,.int n]=>(match ot d with
  |some p=>.ok (.bool (decide ((0<=p.1/\p.1 < n)/\(0<=p.2/\p.2 < n)))) false
  |none=>.bad)
 |_=>.bad
def zy (p:Pr)(n:Int):pairF [ar p,.int n]=.ok (.bool (decide ((0<=p.1/\p.1 < n)/\(0<=p.2/\p.2 < n)))) false:=rfl
def Ej (ds:List D)(h:pairF ds≠.bad):bE 2 2 (jm dH) ds=pairF ds:=by
 unfold pairF at h
 split at h
 ·rename_i d n
  cases q:ot d with
  |none=>rw[q] at h;exact absurd rfl h
  |some p=>
   obtain rfl:=um q
   rw[zy]
   obtain⟨a,b⟩:=p
   show fin (toS (c8 (aF dH (aa (f2 (gv 0) (cst (.int 0)) aW) (aa (gv 1) ah))) (aF dH (aa (f2 (gv 0) (cst (.int 1)) aW) (aa (gv 1) ah))) [.da (.tuple [.int a,.int b]),.da (.int n)] 0) λd β'=>.rt d false β')=_
   have e1:aF dH (aa (f2 (gv 0) (cst (.int 0)) aW) (aa (gv 1) ah)) [.da (.tuple [.int a,.int b]),.da (.int n)] 0=.ok (.bool (decide (0<=a/\a < n))) 0:=rfl
   have e2:aF dH (aa (f2 (gv 0) (cst (.int 1)) aW) (aa (gv 1) ah)) [.da (.tuple [.int a,.int b]),.da (.int n)] 0=.ok (.bool (decide (0<=b/\b < n))) 0:=rfl
   unfold c8
   rw[e1]
   dsimp only[R.bnd]
   by_cases c:0<=a/\a < n
   ·rw[Kn c,e2]
    show FR.ok (.bool (decide (0<=b/\b < n))) false=.ok (.bool (decide ((0<=a/\a < n)/\(0<=b/\b < n)))) false
    simp[c]
   ·rw[KC c]
    show FR.ok (.bool false) false=.ok (.bool (decide ((0<=a/\a < n)/\(0<=b/\b < n)))) false
    simp[c]
 ·exact absurd rfl h
def ao (n:Nat)(l:List Pr):D:=.tuple [.int n,.tuple (l.map ar)]
open Classical in
noncomputable def qz (f:Nat->List Pr->FR):D->FR:=λd=>if h:∃nl:Nat×List Pr,d=ao nl.1 nl.2/\OM.Ord nl.1 nl.2 then f (Classical.choose h).1 (Classical.choose h).2 else .bad
def CJ {p q:Pr}(h:ar p=ar q):p=q:=by
 obtain⟨a,b⟩:=p
 obtain⟨c,d⟩:=q
 unfold ar at h
 simp at h
 rw[h.1,h.2]
theorem mP:∀{l m:List Pr},l.map ar=m.map ar->l=m
 | [],[],_=>rfl
 | [],_ :: _,h=>by cases h
 |_ :: _,[],h=>by cases h
 |p :: l,q :: m,h=>by
  simp only[LD,List.cons.injEq] at h
  rw[CJ h.1,mP h.2]
def Bk {n m:Nat}{l k:List Pr}(h:ao n l=ao m k):n=m/\l=k:=by
 unfold ao at h
 simp only[PyData.tuple.injEq,List.cons.injEq,int.injEq,and_true] at h
 exact⟨by omega,mP h.2⟩
def uH {f:Nat->List Pr->FR}{n:Nat}{l:List Pr}(O:OM.Ord n l):qz f (ao n l)=f n l:=by
 unfold qz
 have h:∃nl:Nat×List Pr,ao n l=ao nl.1 nl.2/\OM.Ord nl.1 nl.2:=⟨(n,l),rfl,O⟩
 rw[dif_pos h]
 obtain⟨e,_⟩:=Classical.choose_spec h
 obtain⟨e1,e2⟩:=Bk e
 rw[<-e1,<-e2]
def tR {f:Nat->List Pr->FR}{d:D}(h:qz f d≠.bad):∃n l,d=ao n l/\OM.Ord n l:=by
 unfold qz at h
 by_cases q:∃nl:Nat×List Pr,d=ao nl.1 nl.2/\OM.Ord nl.1 nl.2
 ·obtain⟨nl,e,O⟩:=q;exact⟨nl.1,nl.2,e,O⟩
 ·rw[dif_neg q] at h;exact absurd rfl h
noncomputable def de:List D->FR
 | [.int n,d]=>(match pf d with
  |some ds=>(match iq ds with
   |some ps=>(open Classical in if 1<=n/\n<=8/\OM.Wn n.toNat ps then .ok (.tuple ((OM.hX n.toNat (OM.Tr (OM.Mem ps))).map ar)) false else .bad)
   |none=>.bad)
  |none=>.bad)
 |_=>.bad
def A7 {n:Nat}{ps:List Pr}(h1:1<=n)(h8:n<=8)(w:OM.Wn n ps):de [.int n,.tuple (ps.map ar)]=.ok (.tuple ((OM.hX n (OM.Tr (OM.Mem ps))).map ar)) false:=by
 unfold de
 simp only[pf,ik]
 rw[Kl ⟨by omega,by omega,by rw[Lj];exact w⟩,Lj]
def jN:List D->FR
 | [.tuple ds]=>(match iq ds with
  |some ps=>if ps.length<=1000 then .ok (.bool (ps.any λp=>decide (p.1=p.2))) false else .bad
  |none=>.bad)
 |_=>.bad
theorem fZ {α:Type}(f:α->Bool):∀l:List α,j3 (l.map λx=>PyData.bool (f x))=some (l.map f)
 | []=>rfl
 |x :: l=>by
  show (j3 (l.map λx=>PyData.bool (f x))).map (f x :: ·)=_
  rw[fZ f l];rfl
def Fb (ds:List D)(h:jN ds≠.bad):bE 1 1 pG ds=jN ds:=by
 unfold jN at h
 split at h
 ·rename_i ds
  cases q:iq ds with
  |none=>rw[q] at h;exact absurd rfl h
  |some ps=>
   rw[q] at h
   dsimp only at h
   by_cases hz:ps.length<=1000
   case neg=>rw[Kw hz] at h;exact absurd rfl h
   obtain rfl:=kE q
   have e:jN [.tuple (ps.map ar)]=.ok (.bool (ps.any λp=>decide (p.1=p.2))) false:=by
    unfold jN;simp only[ik];rw[Kl hz]
   rw[e]
   have ec:aQ 2 [] (.two 0 1) (fj (gv 0)) i7 (f2 (gv 0) (gv 1) (cG false)) [.da (.tuple (ps.map ar))] 0=.ok (.list (ps.map λp=>PyData.bool (decide (p.1=p.2)))) 0:=by
    exact eN (l:=ps) (e:=ar) (λp=>PyData.bool (decide (p.1=p.2))) rfl hz λp hp=>⟨_,rfl,rfl⟩
   show fin (toS ((aQ 2 [] (.two 0 1) (fj (gv 0)) i7 (f2 (gv 0) (gv 1) (cG false)) [.da (.tuple (ps.map ar))] 0).bnd λx β1=>R.of (bN (λbs=>bs.any id) x) β1) λd β'=>.rt d false β')=_
   rw[ec]
   simp only[me,bN]
   rw[fZ]
   simp[fin,List.any_map]
 ·exact absurd rfl h
def mn (p:Pr):SeqAt.shaped (ar p)=true:=rfl
theorem su:∀l:List Pr,PyData.canLayAll0 (l.map ar)=true
 | []=>rfl
 |p :: l=>by
  show ((ar p).canLay0 && PyData.canLayAll0 (l.map ar))=true
  rw[su l];rfl
theorem sy:∀l:List Pr,PyData.depthAll (l.map ar)<=1
 | []=>by show (0:Nat)<=1;omega
 |p :: l=>by
  show max (ar p).depth (PyData.depthAll (l.map ar))<=1
  have h1:(ar p).depth=1:=by simp[ar,PyData.depth,PyData.depthAll]
  have h2:=sy l
  omega
def nY (l:List Pr):SeqAt.shaped (.tuple (l.map ar))=true:=by
 unfold SeqAt.shaped
 have h1:(PyData.tuple (l.map ar)).canLay0=true:=by simp only[PyData.canLay0];exact su l
 have h2:(PyData.tuple (l.map ar)).depth<=64:=by simp only[PyData.depth];have:=sy l;omega
 rw[h1,Kn h2];rfl
def o6 (l:List Pr):SeqAt.shaped (.list (l.map ar))=true:=by
 unfold SeqAt.shaped
 have h1:(PyData.list (l.map ar)).canLay0=true:=by simp only[PyData.canLay0];exact su l
 have h2:(PyData.list (l.map ar)).depth<=64:=by simp only[PyData.depth];have:=sy l;omega
 rw[h1,Kn h2];rfl
def AN (p q:Pr):PyData.eqv (ar p) (ar q)=decide (p=q):=by
 obtain⟨a,b⟩:=p
 obtain⟨c,d⟩:=q
 simp only[ar,PyData.eqv,PyData.eqvAll,Bool.and_true]
 rw[Lk]
 simp
theorem qW:∀l m:List Pr,PyData.eqvAll (l.map ar) (m.map ar)=decide (l=m)
 | [],[]=>rfl
 | [],_ :: _=>rfl
 |_ :: _,[]=>rfl
 |p :: l,q :: m=>by
  show (PyData.eqv (ar p) (ar q) && PyData.eqvAll (l.map ar) (m.map ar))=_
  rw[AN,qW l m,Lk]
  simp
def xS {n:Nat}{l:List Pr}(O:OM.Ord n l):l.length < 64:=by
 have h8:=O.hi
 have e:=O.closed
 by_cases h:l.length < 64
 ·exact h
 ·exfalso
  have h1:l.length<=n * n:=by rw[<-e];exact OM.AU _ _
  have h2:n * n<=64:=L7 h8 h8
  have hn:n=8:=by
   by_cases h7:n<=7
   ·have:n * n<=7 * 7:=L7 h7 h7
    omega
   ·omega
  have hlen:l.length=n * n:=by subst hn;omega
  have hg:l=OM.dO n:=by
   refine OM.sub_eq O.ris (OM.iB n) (λx hx=>OM.bR.mpr (O.wn x hx)) ?_
   rw[hlen];unfold OM.dO;simp
  have:((0:Int),(0:Int))∈l:=by rw[hg];exact OM.bR.mpr ⟨⟨by omega,by omega⟩,by omega,by omega⟩
  exact O.irr 0 this
def A9 {n:Nat}(h1:1<=n)(h8:n<=8):kP [.int n]=.ok (.bool true) false:=by
 rw[BB rfl]
 show FR.ok (.bool (decide (1<=(n:Int)/\(n:Int)<=8))) false=_
 rw[Kn (by omega)]
def BA (neg:Bool)(l m:List Pr):cG neg (.tuple (l.map ar)) (.tuple (m.map ar))=some (.bool (if neg then !decide (l=m) else decide (l=m))):=by
 unfold cG
 rw[nY,nY]
 simp only[Mq,Lz,PyData.eqv,qW]
def oz (neg:Bool)(l m:List Pr):cG neg (.list (l.map ar)) (.list (m.map ar))=some (.bool (if neg then !decide (l=m) else decide (l=m))):=by
 unfold cG
 rw[o6,o6]
 simp only[Mq,Lz,PyData.eqv,qW]
def CP {n:Nat}{l:List Pr}(O:OM.Ord n l):jN [.tuple (l.map ar)]=.ok (.bool false) false:=by
 have hl:=xS O
 unfold jN
 simp only[ik]
 rw[Kl (by omega)]
 have:(l.any λp=>decide (p.1=p.2))=false:=by
  rw[List.any_eq_false]
  intro p hp
  simp only[KQ]
  intro e
  obtain⟨a,b⟩:=p
  simp only at e
  subst e
  exact O.irr a hp
 rw[this]
def yN {n:Nat}{l:List Pr}(O:OM.Ord n l):bE 3 1 (ij kP pairF de jN) [ao n l]=.ok (.bool true) false:=by
 have hl:=xS O
 show fin (ij kP pairF de jN [.fz (ao n l),.no,.no] 0)=_
 unfold ij
 rw[aX (env':=[.fz (ao n l),.no,.no]) (β':=0) (by rfl)]
 rw[aX (env':=[.fz (ao n l),.fz (.int n),.no]) (β':=0) (by rfl)]
 rw[aX (env':=[.fz (ao n l),.fz (.int n),.fz (.tuple (l.map ar))]) (β':=0) (by rfl)]
 have e4:aF kP (aa (gv 1) ah) [.da (ao n l),.da (.int n),.da (.tuple (l.map ar))] 0=.ok (.bool true) 0:=aG rfl (A9 O.lo O.hi)
 rw[aX (env':=[.fz (ao n l),.fz (.int n),.fz (.tuple (l.map ar))]) (β':=0) ?h4]
 case h4=>
  refine gL ?_
  show gB (ly (fR (aF kP (aa (gv 1) ah)))) _ [.da (ao n l),.da (.int n),.da (.tuple (l.map ar))] 0=_
  rw[nt,qR,rW,e4]
  rfl
 have e5:aQ 1 [1] (.nm 0) (fj (gv 2)) i7 (aF pairF (aa (gv 0) (aa (gv 1) ah))) [.da (ao n l),.da (.int n),.da (.tuple (l.map ar))] 0=.ok (.list (l.map λ_=>PyData.bool true)) 0:=by
  refine eN (l:=l) (e:=ar) (λ_=>PyData.bool true) rfl (by omega) λp hp=>⟨_,rfl,?_⟩
  refine aG (b:=false) (ds:=[ar p,.int n]) rfl ?_
  rw[zy,Kn (by have:=O.wn p hp;exact this)]
 rw[aX (env':=[.fz (ao n l),.fz (.int n),.fz (.tuple (l.map ar))]) (β':=0) ?h5]
 case h5=>
  refine gL ?_
  show ly (fR (f1 (aQ 1 [1] (.nm 0) (fj (gv 2)) i7 (aF pairF (aa (gv 0) (aa (gv 1) ah)))) (bN λbs=>bs.all id))) [.da (ao n l),.da (.int n),.da (.tuple (l.map ar))] 0=_
  rw[qR,rW,cF (d:=.bool true) e5 (by simp only[bN];rw[fZ];simp)]
  rfl
 have e6:aF de (aa (gv 1) (aa (gv 2) ah)) [.da (ao n l),.da (.int n),.da (.tuple (l.map ar))] 0=.ok (.tuple (l.map ar)) 0:=aG rfl (by rw[A7 O.lo O.hi O.wn,O.closed])
 have e7:aF jN (aa (gv 2) ah) [.da (ao n l),.da (.int n),.da (.tuple (l.map ar))] 0=.ok (.bool false) 0:=aG rfl (CP O)
 show fin (toS (c8 (f2 (gv 2) (aF de (aa (gv 1) (aa (gv 2) ah))) (cG false)) (f1 (aF jN (aa (gv 2) ah)) yh) [.da (ao n l),.da (.int n),.da (.tuple (l.map ar))] 0) _)=_
 unfold c8
 rw[az (d:=.bool true) (x:=.tuple (l.map ar)) rfl e6 (by rw[BA];simp)]
 dsimp only[R.bnd]
 rw[cF (d:=.bool true) e7 rfl]
 rfl
noncomputable def fq:List D->FR
 | [d]=>qz (λ_ _=>.ok (.bool true) false) d
 |_=>.bad
def qk {n:Nat}{l:List Pr}(O:OM.Ord n l):fq [ao n l]=.ok (.bool true) false:=by simp only[fq];exact uH O
def vH (ds:List D)(h:fq ds≠.bad):bE 3 1 (ij kP pairF de jN) ds=fq ds:=by
 unfold fq at h
 split at h
 ·obtain⟨n,l,rfl,O⟩:=tR h
  rw[yN O,qk O]
 ·exact absurd rfl h
noncomputable def ph:List D->FR
 | [d]=>qz (λ_ _=>.ok .none false) d
 |_=>.bad
def AE {n:Nat}{l:List Pr}(O:OM.Ord n l):ph [ao n l]=.ok .none false:=by simp only[ph];exact uH O
def BN (ds:List D)(h:ph ds≠.bad):bE 1 1 (hG fq) ds=ph ds:=by
 unfold ph at h
 split at h
 ·obtain⟨n,l,rfl,O⟩:=tR h
  rw[AE O]
  have e:aF fq (aa (gv 0) ah) [.da (ao n l)] 0=.ok (.bool true) 0:=aG (ds:=[ao n l]) rfl (qk O)
  show fin (hG fq [.fz (ao n l)] 0)=_
  unfold hG
  rw[gL (β':=0)]
  ·rfl
  ·show ly (fR (aF fq (aa (gv 0) ah))) [.da (ao n l)] 0=_
   rw[qR,rW,e];rfl
 ·exact absurd rfl h
abbrev cS (ns:List Int):D:=.dict [(.none,.list (ns.map int))]
def rH {i j:Int}(h: -(2 ^ 64) < i/\i < 2 ^ 64):dF (.int i) (.int j)=some (.int (i * j)):=Kl (by dsimp only;rw[Kn h.1,Kn h.2];rfl)
def Aq {i j:Int}(h: -(2 ^ 64) < j/\j < 2 ^ 64):dF (.int i) (.int j)=some (.int (i * j)):=Kl (by dsimp only;rw[Kn h.1,Kn h.2,Mq,Bool.or_true])
def nU {i j:Int}(h:0 < j):jU (.int i) (.int j)=some (.int (i % j)):=Kl (Kn h)
def GJ {i j:Int}(h:0 < j)(h2:j < 1073741824):Gf (.int i) (.int j)=some (.int (i / j)):=Kl (by dsimp only;rw[Kn h,Kn h2];rfl)
theorem kl {α β:Type}(f:α->β)(l:List α)(i:Int):i9 (l.map f) i=(i9 l i).map f:=by
 unfold i9
 rw[Ko]
 cases sU l.length i with
 |none=>rfl
 |some j=>simp
def lE {α:Type}{l:List α}{k:Nat}(h:k < l.length):i9 l (k:Int)=some l[k]:=fE (Kh h)
def FY {fa fb:VF D}{vs:List Nv}{β β1 β2:Int}{i j:Int}(h:fa vs β=.ok (.int i) β1)(h':fb vs β1=.ok (.int j) β2):cL (f2 fa fb sW) vs β=.ok (decide (i < j)) β2:=cw _ _ _ _ (az h h' rfl)
def gj {neg:Bool}{fa fb:VF D}{vs:List Nv}{β β1 β2:Int}{i j:Int}(h:fa vs β=.ok (.int i) β1)(h':fb vs β1=.ok (.int j) β2):cL (f2 fa fb (cG neg)) vs β=.ok (if neg then !decide (i=j) else decide (i=j)) β2:=by
 refine cw _ _ _ _ (az h h' ?_)
 cases neg <;> rfl
theorem lay_ints:∀ns:List Int,PyData.canLayAll0 (ns.map int)=true
 | []=>rfl
 |n :: ns=>by
  show ((int n).canLay0 && PyData.canLayAll0 (ns.map int))=true
  rw[lay_ints ns];rfl
theorem tS:∀ns:List Int,PyData.depthAll (ns.map int)=0
 | []=>rfl
 |n :: ns=>by
  show max (int n).depth (PyData.depthAll (ns.map int))=0
  rw[tS ns];rfl
def shaped_ints (ns:List Int):SeqAt.shaped (.list (ns.map int))=true:=by
 unfold SeqAt.shaped
 have h1:(PyData.list (ns.map int)).canLay0=true:=by simp only[PyData.canLay0];exact lay_ints ns
 have h2:(PyData.list (ns.map int)).depth<=64:=by simp only[PyData.depth];rw[tS];omega
 rw[h1,Kn h2];rfl
theorem tj:∀l m:List Int,PyData.eqvAll (l.map int) (m.map int)=decide (l=m)
 | [],[]=>rfl
 | [],_ :: _=>rfl
 |_ :: _,[]=>rfl
 |p :: l,q :: m=>by
  show ((p == q) && PyData.eqvAll (l.map int) (m.map int))=_
  rw[tj l m,Lk]
  simp
def By (neg:Bool)(l m:List Int):cG neg (.list (l.map int)) (.list (m.map int))=some (.bool (if neg then !decide (l=m) else decide (l=m))):=by
 unfold cG
 rw[shaped_ints,shaped_ints]
 simp only[Mq,Lz,PyData.eqv,tj]
theorem oR {α:Type}:∀{l:List α} {k:Nat} {x:α},l[k]? =some x->(x :: l.eraseIdx k).Perm l
 | [],_,_,h=>by simp at h
 |y :: l,0,x,h=>by simp at h;subst h;exact List.Perm.refl _
 |y :: l,k + 1,x,h=>by
  have h:l[k]? =some x:=by simpa using h
  have ih:=oR h
  show (x :: y :: l.eraseIdx k).Perm (y :: l)
  exact (List.Perm.swap y x _).trans (ih.cons y)
theorem qx {α β:Type}(f:α->β):∀(l:List α) (k:Nat),(l.map f).eraseIdx k=(l.eraseIdx k).map f
 | [],_=>rfl
 |_ :: _,0=>rfl
 |x :: l,k + 1=>by simp[qx f l k]
def Gy {n:Nat}{l:List Pr}(h8:n<=8)(w:OM.Wn n l):OM.hX 8 (OM.Mem l)=OM.hX n (OM.Mem l):=by
 refine OM.iS (OM.ip _ _) (OM.ip _ _) λx=>?_
 rw[OM.dN,OM.dN]
 constructor
 ·rintro⟨_,h⟩;exact⟨w x h,h⟩
 ·rintro⟨h1,h⟩;exact⟨⟨⟨h1.1.1,by omega⟩,h1.2.1,by omega⟩,h⟩
def E6 {n:Nat}{l:List Pr}(h8:n<=8)(w:OM.Wn n l):l.all Ga=true:=by
 rw[Lf]
 intro p hp
 have:=w p hp
 unfold Ga
 rw[Kn this.1.1,Kn (by omega:p.1 < 8),Kn this.2.1,Kn (by omega:p.2 < 8)];rfl
def nJ {a b:List D}(h:a.length + b.length<=10000):eR (.list a) (.list b)=some (.list (a ++ b)):=Kl (by rw[K1];omega)
theorem ke {α:Type}:∀{l:List α} {i j:Nat} {x:α},l.Nodup->l[i]? =some x->l[j]? =some x->i=j
 | [],_,_,_,_,h,_=>by simp at h
 |y :: l,0,0,_,_,_,_=>rfl
 |y :: l,0,j + 1,x,nd,h1,h2=>by
  simp at h1
  subst h1
  exact absurd (KA (by simpa using h2)) (Lm.mp nd).1
 |y :: l,i + 1,0,x,nd,h1,h2=>by
  simp at h2
  subst h2
  exact absurd (KA (by simpa using h1)) (Lm.mp nd).1
 |y :: l,i + 1,j + 1,x,nd,h1,h2=>by
  rw[ke (l:=l) (i:=i) (j:=j) (Lm.mp nd).2 (by simpa using h1) (by simpa using h2)]
def jP (n:Nat):List Int:=(List.range n).map λ(k:Nat)=>(k:Int)
def nu (n:Nat):(jP n).length=n:=by unfold jP;simp
def gf {n:Nat}{x:Int}:x∈jP n↔0<=x/\x < n:=by
 unfold jP
 rw[KZ]
 constructor
 ·rintro⟨k,hk,rfl⟩
  have:=K2.mp hk
  omega
 ·intro h
  exact⟨x.toNat,K2.mpr (by omega),by omega⟩
def qB (n:Nat):(jP n).Nodup:=by
 unfold jP
 rw[Lx,LP]
 exact (Lx.mp List.nodup_range).imp λ{a b} h e=>h (by omega)
def ie (n:Nat):cI 0 n=(jP n).map int:=by
 unfold cI jP
 rw[map_map]
 refine LS λk _=>?_
 show int (0 + (k:Int))=_
 rw[LB];rfl
theorem jh {lo:Int}{n i:Nat}{d:D}(h:(cI lo n)[i]? =some d):i < n/\d=.int (lo + i):=by
 unfold cI at h
 rw[KD] at h
 cases q:(List.range n)[i]? with
 |none=>rw[q] at h;cases h
 |some j=>
  rw[q] at h
  cases h
  obtain⟨hi,ej⟩:=KJ.mp q
  rw[LH] at hi
  rw[List.getElem_range] at ej
  subst ej
  exact⟨hi,rfl⟩
def mT {n:Nat}(h:n<=1000):gn (.int n)=some (.list ((jP n).map int)):=by
 unfold gn
 dsimp only
 rw[Kl ⟨by omega,by omega⟩,Lj,ie]
def cC {fa:VF D}{vs:List Nv}{β β1:Int}{n:Nat}(h:fa vs β=.ok (.int n) β1)(hn:n<=1000):bP fa vs β=.ok (cI 0 n) β1:=by
 unfold bP
 rw[h]
 simp only[me]
 rw[Kl (yr (by omega) (by omega)),Lj]
def fo {t:Tg}{L:List Nat}{fi:VF (List D)}{m:SF}{env:En}{β β1:Int}{ds:List D}(h:fi (vl env) β=.ok ds β1):fg t L fi m env β=iW t m ds (ba L env) β1:=by unfold fg;rw[h];rfl
def dP {m:Nat}(h:1<=m)(h2:m<=1000)(β:Int):∃j:Nat,j < m/\cj [.int m] β=.ok (.int (j:Int)) false (β / m):=by
 refine⟨(β % m).toNat,?_,?_⟩
 ·have h0:=Mf β (b:=(m:Int)) (by omega)
  have h3:=Mg β (b:=(m:Int)) (by omega)
  omega
 ·rw[qY (by omega) (by omega)]
  have h0:=Mf β (b:=(m:Int)) (by omega)
  rw[show ((β % m).toNat:Int)=β % m by omega]
theorem qQ (p:Pr):∀l:List Pr,((l.map ar).any λe=>PyData.eqv e (ar p))=decide (p∈l)
 | []=>rfl
 |q :: l=>by
  rw[LD,Ma,qQ p l,AN,Lk]
  simp only[Mv,KQ,Ks]
  exact⟨λh=>h.imp Eq.symm id,λh=>h.imp Eq.symm id⟩
def wz (l:List Pr):(l.map ar).all SeqAt.shaped=true:=by
 rw[Lf]
 intro d hd
 obtain⟨p,_,rfl⟩:=KZ.mp hd
 exact mn p
def ny (neg:Bool)(p:Pr)(l:List Pr):rz neg (ar p) (.tuple (l.map ar))=some (.bool (if neg then !decide (p∈l) else decide (p∈l))):=by
 unfold rz
 simp only[pf,mn,wz,Mq,Lz,qQ]
def BU (neg:Bool)(p:Pr)(l:List Pr):rz neg (ar p) (.list (l.map ar))=some (.bool (if neg then !decide (p∈l) else decide (p∈l))):=by
 unfold rz
 simp only[pf,mn,wz,Mq,Lz,qQ]
def qP (neg:Bool)(i j:Int):cG neg (.int i) (.int j)=some (.bool (if neg then !decide (i=j) else decide (i=j))):=rfl
theorem nz {fa fb:VF D}{vs:List Nv}{β:Int}{a b:Bool}(h:fa vs β=.ok (.bool a) β)(h':fb vs β=.ok (.bool b) β):c8 fa fb vs β=.ok (.bool (a && b)) β:=by
 unfold c8
 rw[h]
 dsimp only[R.bnd]
 cases a with
 |true=>exact h'
 |false=>rfl
def jn {fa fb:VF D}{vs:List Nv}{β:Int}{a b:Int}(h:fa vs β=.ok (.int a) β)(h':fb vs β=.ok (.int b) β):aR (aa fa (aa fb ah)) vs β=.ok (ar (a,b)) β:=by
 refine lI (ds:=[.int a,.int b]) ?_ (by simp)
 rw[cJ,h]
 dsimp only[R.bnd]
 rw[cJ,h'];rfl
def u9 (l:List Pr)(p:Pr):Bool:= !decide (p.1=p.2) && (!decide ((p.1,p.2)∈l) && !decide ((p.2,p.1)∈l))
def Jq {n:Nat}{l:List Pr}{fa:VF D}{vs:List Nv}{β:Int}(h:fa vs β=.ok (ao n l) β):f2 fa (cst (.int 1)) aW vs β=.ok (.tuple (l.map ar)) β:=az h rfl rfl
def JQ {n:Nat}{l:List Pr}{fa:VF D}{vs:List Nv}{β:Int}(h:fa vs β=.ok (ao n l) β):f2 fa (cst (.int 0)) aW vs β=.ok (.int n) β:=az h rfl rfl
def JA:List D->FR:=bE 3 3 m8
def qS:List D->FR:=bE 3 3 lX
def HJ (n:Nat)(l:List Pr)(a b:Int):JA [ao n l,.int a,.int b]=.ok (.bool (u9 l (a,b))) false:=by
 show fin (toS (c8 (f2 (gv 1) (gv 2) (cG true)) (c8 (f2 (aR (aa (gv 1) (aa (gv 2) ah))) (f2 (gv 0) (cst (.int 1)) aW) (rz true)) (f2 (aR (aa (gv 2) (aa (gv 1) ah))) (f2 (gv 0) (cst (.int 1)) aW) (rz true))) [.da (ao n l),.da (.int a),.da (.int b)] 0) _)=_
 rw[nz (az (x:=.int a) (y:=.int b) rfl rfl (qP true a b)) (nz (az (jn (a:=a) (b:=b) rfl rfl) (Jq (n:=n) (l:=l) rfl) (ny true (a,b) l)) (az (jn (a:=b) (b:=a) rfl rfl) (Jq (n:=n) (l:=l) rfl) (ny true (b,a) l)))]
 rfl
def DT (n:Nat)(l:List Pr)(a b:Int):qS [ao n l,.int a,.int b]=.ok (.bool (u9 l (a,b))) false:=HJ n l a b
def lx (n:Nat)(l:List Pr):List Pr:=(OM.dO n).filter (u9 l)
def il (n:Nat):(OM.dO n).length=n * n:=by unfold OM.dO;simp
def c4 {fa:VF D}{vs:List Nv}{β:Int}{c:Bool}(h:fa vs β=.ok (.bool c) β):fR fa vs β=.ok c β:=by rw[rW,h];rfl
theorem AS {c:Nat}:∀(ts:List Str) (k:Nat) (acc:Str),(∀t∈ts,t.length + 2<=c)->(textFrom k acc ts).length<=acc.length + c * ts.length
 | [],k,acc,_=>by show acc.length<=_;omega
 |t :: r,k,acc,h=>by
  have ih:=AS r (k + 1) (acc ++ (if k > 0 then ", " else "":String) ++ t) λu hu=>h u (Kr _ hu)
  have e:(acc ++ (if k > 0 then ", " else "":String) ++ t).length=acc.length + (if k > 0 then 2 else 0) + t.length:=by
   rw[KO,KO]
   split <;> rfl
  rw[e] at ih
  have ht:=h t (Ku ..)
  show (textFrom (k + 1) _ r).length<=_
  have e2:c * (t :: r).length=c * r.length + c:=by rw[KW,Nat.mul_succ]
  rw[e2]
  have:(if k > 0 then 2 else 0:Nat)<=2:=by split <;> omega
  omega
end RM
namespace L2
open PySem PySem.Spec PyProof.Rows
section
variable {X:Cx}{pins:List (Addr×Obj)}{σ:St}{H:Hp}{s:Shared}
def Inv.turnedL {t':Nat}{ch:List Addr}{h':Heap}(I:Inv X pins σ H s)(k:∀b o,b∉ch->s.heap.get? b=some o->h'.get? b=some o)(hf:∀b∈ch,nr X pins H b):Inv X pins σ H {s with heap:=h',toks:=t'}:=by
 have nit:∀b u,H b=some u->b∉ch:=λb u e z=>by rw[(hf b z).1] at e;cases e
 have nL:X.env.locals∉ch:=λz=>(hf _ z).2.1 rfl
 refine I.step (g':=s.gens) (d':=s.drawn) (ch:=ch) (λb hb=>?_) (λb o _ _ hc e _=>k b o hc e) (λb o _ _ hc e _=>⟨o.slots,k b o hc e⟩) (λ_ _ _ _ n=>n)
  (λb o hc e=>⟨o,k b o hc e⟩) (λ_ _ e=>e) (λ_ _ _ e=>e) (λb ps e=>⟨#[],by rw[e];simp⟩) (λm hm=>?_) (λb u e=>?_) I.bare
 ·obtain⟨f0,f1,f2,f3,f4,f5⟩:=hf b hb
  exact⟨f3,f1,f4,f5⟩
 ·obtain⟨o,es,ep,ho,r⟩:=hm
  exact⟨o,es,ep,k _ o nL ho,r⟩
 ·refine (I.hok b u e).stay (λc v hc q=>k c v ?_ q) (λ_ q=>q) λ_ _ q=>q
  rcases hc with z |z
  ·rw[z];exact nit b u e
  ·exact nit c _ z
end
def Jr {n:Nat}(i j:Nat)(h:(i == j)=false):(n + i:Nat)≠n + j:=by
 have:i≠j:=by simpa using h
 omega
end L2
namespace RM
open PySem L2
def hW:SF:=(aM (bS 2 (([] ++ []) ++ []) (f2 (f2 (cst (.int 7919)) (gv 1) dF) (cst (.int 13)) b4))
 (aM (iD ([] ++ []) (cL (f2 (gv 1) (f1 (gv 0) bW) sW))
 (bS 2 ([] ++ []) (f2 (gv 0) (gv 1) aW))
 jR)
 (aM (iD (([] ++ []) ++ []) (cL (f2 (f2 (gv 2) (cst (.int 2)) jU) (cst (.int 0)) (cG false)))
 (mU (bH (aa (f2 (gv 2) (cst (.int 2)) Gf) ah)))
 jR)
 (aM (bS 3 [] (cst (.int 0)))
 (aM (fg (.nm 4) [] (bP (cst (.int 16)))
 (aM (bS 5 ((((([] ++ []) ++ []) ++ ([] ++ [])) ++ []) ++ []) (f2 (f2 (f2 (f2 (f2 (gv 2) (cst (.int 2147483647)) jU) (cst (.int 48271)) dF) (f2 (cst (.int 7919)) (gv 4) dF) b4) (cst (.int 1)) b4) (cst (.int 2147483647)) jU))
 (aM (bS 5 (([] ++ []) ++ []) (f2 (f2 (gv 5) (gv 5) dF) (cst (.int 2147483629)) jU))
 (bS 3 (([] ++ []) ++ (([] ++ ([] ++ [])) ++ [])) (f2 (f2 (gv 3) (cst (.int 2147483647)) dF) (f2 (f2 (gv 5) (f2 (gv 5) (cst (.int 13)) b4) dF) (cst (.int 2147483647)) jU) b4)))))
 (mU (bH (aa (gv 3) ah))))))))
def dZ (aw:List D->Int->FB):SF:=(aM (mX 2 [] (f1 (gv 1) uJ))
 (aM (mX 3 [] (bH ah))
 (aM (jV ([] ++ []) (cL (f2 (gv 2) (bH ah) (cG true)))
 (jC 3 2 ([] ++ []) (iY 0 aw (aa (f1 (gv 2) bW) ah))) 1000)
 (bB (f1 (gv 3) lu)))))
def iJ:SF:=(aM (mX 2 [] (bH ah))
 (aM (fg (.nm 3) [] (bP (gv 0))
 (fg (.nm 4) [] (bP (gv 0))
 (iD (([] ++ []) ++ ([] ++ [])) (tT (cL (f2 (gv 3) (gv 4) (cG true))) (fR (f1 (aQ 1 [3,4] (.nm 0) (fj (gv 1)) i7 (f2 (mw (gv 0) (gv 1)) (mw (gv 0) (gv 2)) sW)) (bN λbs=>bs.all id))))
 (sH 2 ([3] ++ ([4] ++ [])) (aR (aa (gv 3) (aa (gv 4) ah))))
 jR)))
 (bB (f1 (gv 2) lu))))
end RM
namespace L2
open PySem PySem.Spec PyProof.Rows
section
variable {κ:Type}[DecidableEq κ]
def Dr (kvs:List (κ×V))(k:κ):Option V:=(kvs.find? λkv=>decide (kv.1=k)).map (·.2)
def putK (kvs:List (κ×V))(k:κ)(v:V):List (κ×V):=
 if (kvs.any λkv=>decide (kv.1=k))=true then kvs.map (λkv=>if kv.1=k then (kv.1,v) else kv) else kvs ++ [(k,v)]
def uC (kvs:List (κ×V))(k:κ)(v:V):(putK kvs k v).length<=kvs.length + 1:=by
 unfold putK
 split
 ·rw[Ko];omega
 ·rw[KN,KW,List.length_nil];omega
theorem zw.getD {o:Option V}{u:Option Value}{d:V}{d':Value}(r:zw o u)(rd:RelV d d'):RelV (o.getD d) (u.getD d'):=by
 cases o with
 |none=>cases u with
  |none=>exact rd
  |some _=>exact (show False from r).elim
 |some _=>cases u with
  |none=>exact (show False from r).elim
  |some _=>exact r
theorem KV.any {kvs:List (κ×V)}{vs:List (κ×Value)}(r:KV kvs vs)(k:κ):(kvs.any λkv=>decide (kv.1=k))=vs.any λkv=>decide (kv.1=k):=by
 unfold KV at r
 induction r with
 |nil=>rfl
 |cons h t ih=>rw[Ma,Ma,ih,h.1]
theorem KV.repl {kvs:List (κ×V)}{vs:List (κ×Value)}(r:KV kvs vs)(k:κ){y:V}{u:Value}(ry:RelV y u) :
  KV (kvs.map λkv=>if kv.1=k then (kv.1,y) else kv) (vs.map λkv=>if kv.1=k then (kv.1,u) else kv):=by
 unfold KV at r ⊢
 induction r with
 |nil=>exact .nil
 | @cons p q ps qs h t ih=>
  rw[LD,LD]
  refine .cons ?_ ih
  obtain⟨h1,h2⟩:=h
  by_cases e:p.1=k
  ·rw[Kl e,Kl (h1.symm.trans e)];exact⟨h1,ry⟩
  ·rw[Kw e,Kw (λz=>e (h1.trans z))];exact⟨h1,h2⟩
def KV.put {kvs:List (κ×V)}{vs:List (κ×Value)}(r:KV kvs vs)(k:κ){y:V}{u:Value}(ry:RelV y u):KV (putK kvs k y) (stored vs k u):=by
 unfold putK stored
 rw[r.any k]
 by_cases e:(vs.any λkv=>decide (kv.1=k))=true
 ·rw[Kl e,Kl e];exact r.repl k ry
 ·rw[Kw e,Kw e];exact Paired.snoc r ⟨rfl,ry⟩
end
theorem HG {P:Program}{w:World}{k:Key}{u:Value}(r:RelV (kV k) u):(ey P w).is k u=true:=by
 cases k with
 |inl i=>obtain⟨t,e⟩:=(show ∃t,u=Value.int i t from r);subst e;exact uw P w i t
 |inr x=>obtain⟨t,e⟩:=(show ∃t,u=Value.str x t from r);subst e;exact sY P w x t
section
variable {P:Program}{w:World}{H:Hp}{h:Heap}{a:Addr}
def Gw {u:HO}(ok:ky P w H h)(e:Rd H a u):cB P w H h a u:=e.ok ok
def HM {kvs:List (Key×V)}(ok:ky P w H h)(e:Rd H a (.dK kvs)):kvs.length<=sizeLine/\(a == sysModules)=false/\∃vs,KV kvs vs/\h.DictOf (ey P w) a vs:=
 show cB P w H h a (.dK kvs) from Gw ok e
def DF {kvs:List (Key×V)}(ok:ky P w H h)(e:H a=some (.dK kvs)):kvs.length<=sizeLine/\(a == sysModules)=false/\∃vs,KV kvs vs/\h.DictOf (ey P w) a vs:=HM ok (.inl e)
end
def Dv (H:Hp)(a:Addr)(y:V)(r:Option V):Prop:=
 (∃kvs k,Rd H a (.dK kvs)/\y=kV k/\r=Dr kvs k)\/∃kvs k b,Rd H a (.dT kvs)/\y=.ref b/\Rd H b (.tup (k.map kV))/\r=Dr kvs k
def C9 (H:Hp)(a:Addr)(y v:V)(H':Hp):Prop:=
 (∃kvs k,H a=some (.dK kvs)/\y=kV k/\kvs.length < sizeLine/\H'=upd H a (.dK (putK kvs k v)))\/
 ∃kvs k b,H a=some (.dT kvs)/\y=.ref b/\Rd H b (.tup (k.map kV))/\kvs.length < sizeLine/\H'=upd H a (.dT (putK kvs k v))
def Dv.k {H:Hp}{a:Addr}{kvs:List (Key×V)}{k:Key}(e:H a=some (.dK kvs)):Dv H a (kV k) (Dr kvs k):=.inl ⟨kvs,k,.inl e,rfl,rfl⟩
def Dv.t {H:Hp}{a b:Addr}{kvs:List (List Key×V)}{k:List Key}(e:H a=some (.dT kvs))(eb:Rd H b (.tup (k.map kV))):Dv H a (.ref b) (Dr kvs k):=.inr ⟨kvs,k,b,.inl e,rfl,eb,rfl⟩
def C9.k {H:Hp}{a:Addr}{kvs:List (Key×V)}{k:Key}{v:V}(e:H a=some (.dK kvs))(hl:kvs.length < sizeLine):C9 H a (kV k) v (upd H a (.dK (putK kvs k v))):=.inl ⟨kvs,k,e,rfl,hl,rfl⟩
def C9.t {H:Hp}{a b:Addr}{kvs:List (List Key×V)}{k:List Key}{v:V}(e:H a=some (.dT kvs))(eb:Rd H b (.tup (k.map kV)))(hl:kvs.length < sizeLine) :
  C9 H a (.ref b) v (upd H a (.dT (putK kvs k v))):=.inr ⟨kvs,k,b,e,rfl,eb,hl,rfl⟩
section
variable {X:Cx}{pins:List (Addr×Obj)}{σ:St}{H:Hp}{s:Shared}{a:Addr}{y v:V}{u r:Value}{o:Option V}{A:Around}{E:Value->Shared->Prop}
def Inv.big (I:Inv X pins σ H s):sysModules < s.heap.objs.size:=by
 have h:mainGlobals < s.heap.objs.size:=(I.mod.glob.keeps I.bk).lt
 exact Nat.lt_trans (by decide) h
def C3 {h':Heap}{t':Nat}{ob:HO}(I:Inv X pins σ H s)(mu:Hv (H a))(hs:Heap.SameBut a s.heap h')(he:∃q,h'.get? a=some q)(new:cB X.prog X.w (upd H a ob) h' a ob) :
  Inv X pins σ (upd H a ob) {s with heap:=h',toks:=t'}:=
 I.write (x:=a) (e:=a) mu (.inl rfl) (λb q hb z=>(hs.2 b hb).trans z) he new
def Fe {P:Program}{w:World}{H':Hp}{h':Heap}{kvs:List (Key×V)}{vs:List (Key×Value)}(z:kvs.length<=sizeLine)(hd:(a == sysModules)=false)(rel:KV kvs vs)(dd:h'.DictOf (ey P w) a vs) :
  cB P w H' h' a (.dK kvs):=⟨z,hd,vs,rel,dd⟩
end
def AJ {P:Program}{w:World}{H:Hp}(h:Heap)(hb:sysModules < h.objs.size):cB P w H (h.push {cls:=.type "dict",data:=.dict #[]}) h.objs.size (.dK []):=
 ⟨K6 _,beq_eq_false_iff_ne.mpr (Ne.symm (K3 hb)),[],.nil,Heap.DictOf.new h⟩
def vV:List (TE×TE)->St->Hp->(List (V×V)->Hp->Prop)->Prop
 | [],_,H,Q=>Q [] H
 | (tk,tv) :: r,σ,H,Q=>tk σ H λx H1=>tv σ H1 λy H2=>vV r σ H2 λps H3=>Q ((x,y) :: ps) H3
abbrev VV:List (V×V)->List (Value×Value)->Prop:=Paired λp q=>RelV p.1 q.1/\RelV p.2 q.2
def Ir (X:Cx)(pos:Pos)(keys:List (Option Expr))(values:List Expr)(trs:List (TE×TE)):Prop:=
 ∀(pins:List (Addr×Obj)) (s:Shared) (σ:St) (H:Hp) (Q:List (V×V)->Hp->Prop),Inv X pins σ H s->vV trs σ H Q->
  wpAny (model X.prog X.w) X.A (evalPairs (pairTrees keys values X.env pos)) (λvs s'=>∃ps H',Inv X pins σ H' s'/\VV ps vs/\Q ps H') X.xe s
def B6 {X:Cx}{pos:Pos}:Ir X pos [] [] []:=λpins s σ H Q I h=>pairTrees_nil_walk ⟨[],H,I,.nil,h⟩
def AZ {X:Cx}{pos:Pos}{k v:Expr}{ks:List (Option Expr)}{vs:List Expr}{tk tv:TE}{trs:List (TE×TE)}(hk:PE X k tk)(hv:PE X v tv)(hr:Ir X pos ks vs trs) :
  Ir X pos (some k :: ks) (v :: vs) ((tk,tv) :: trs):=λpins s σ H Q I h=>
 pairTrees_cons_walk (cq (hk pins s σ H _ I h) λu s1 ⟨x,H1,I1,rx,q1⟩=>cq (hv pins s1 σ H1 _ I1 q1) λw2 s2 ⟨y,H2,I2,ry,q2⟩=>
  cq (hr pins s2 σ H2 _ I2 q2) λws s3 ⟨ps,H3,I3,rel,q3⟩=>⟨(x,y) :: ps,H3,I3,.cons ⟨rx,ry⟩ rel,q3⟩)
def oB (kvs more:List (Key×V)):List (Key×V):=more.foldl (λacc kv=>putK acc kv.1 kv.2) kvs
theorem KV.merge:∀{more:List (Key×V)} {rs:List (Key×Value)} {kvs:List (Key×V)} {vs:List (Key×Value)},KV more rs->KV kvs vs->KV (oB kvs more) (merged vs rs):=by
 intro more rs kvs vs r
 unfold KV at r
 induction r generalizing kvs vs with
 |nil=>intro q;exact q
 | @cons p q ps qs h t ih=>
  intro r0
  have e:KV (putK kvs p.1 p.2) (stored vs q.1 q.2):=by
   have:=r0.put p.1 h.2
   rw[<-h.1];exact this
  exact ih e
theorem kT:∀(more kvs:List (Key×V)),(oB kvs more).length<=kvs.length + more.length
 | [],kvs=>by show kvs.length<=kvs.length + 0;omega
 |p :: r,kvs=>by
  have h1:=kT r (putK kvs p.1 p.2)
  have h2:=uC kvs p.1 p.2
  show (oB (putK kvs p.1 p.2) r).length<=_
  rw[KW];omega
theorem pE {P:Program}{w:World}:∀{kvs:List (Key×V)} {ws:List (Value×Value)},VV (kvs.map λkv=>(kV kv.1,kv.2)) ws->∃rs,Carries (ey P w) ws rs/\KV kvs rs
 | [],_,r=>by rw[List.map_nil] at r;cases r;exact⟨[],True.intro,.nil⟩
 |p :: kvs,_,r=>by
  rw[LD] at r
  cases r with
  | @cons a b as bs h t=>
   obtain⟨rs,c,q⟩:=pE (P:=P) (w:=w) t
   obtain⟨b1,b2⟩:=b
   exact⟨(p.1,b2) :: rs,⟨HG h.1,rfl,c⟩,.cons ⟨rfl,h.2⟩ q⟩
def GG (trs:List (TE×TE)):TE:=λσ H Q=>∀p,H p=none->vV trs σ (upd H p (.dK [])) λps H2=>H2 p=some (.dK [])/\∃kvs:List (Key×V),ps=kvs.map (λkv=>(kV kv.1,kv.2))/\kvs.length<=15/\Q (.ref p) (upd H2 p (.dK (oB [] kvs)))
def Df {X:Cx}{pos:Pos}{keys:List (Option Expr)}{values:List Expr}{trs:List (TE×TE)}(h:Ir X pos keys values trs)(hall:keys.all (·.isSome)=true)(hl:keys.length=values.length)(h0:keys≠ [])
  (h15:keys.length<=15):PE X (.Dict keys values pos) (GG trs):=by
 intro pins s σ H Q I q
 have hn:=I.hok.fresh (Kj s.heap.objs.size)
 have I1:=I.laid (a:=s.heap.objs.size) (o:=.dK []) (h':=s.heap.push {cls:=.type "dict",data:=.dict #[]}) (t':=s.toks) (λ_ _ q=>Kk _ q) (Kj _) (AJ s.heap I.big)
 refine wpAny_Dict_walk (knd:=ey X.prog X.w) hall hl h0 h15 (cq (h pins _ σ _ _ I1 (q _ hn)) λws s2 ⟨ps,H2,I2,rel,e,kvs,ep,lk,q2⟩=>?_)
 subst ep
 obtain⟨rs,c,rk⟩:=pE (P:=X.prog) (w:=X.w) rel
 obtain⟨z,hd,vs0,r0,dd⟩:=DF I2.hok e
 cases r0
 refine⟨rs,c,dd,λh' dd' hs=>⟨.ref s.heap.objs.size,_,?_,rfl,q2⟩⟩
 have hz:(oB [] kvs).length<=sizeLine:=by
  have h1:=kT kvs []
  rw[List.length_nil] at h1
  rw[K1];omega
 have he:∃q,h'.get? s.heap.objs.size=some q:=let ⟨q,_,_,hq,_⟩:=dd';⟨q,hq⟩
 exact C3 I2 (by rw[e];exact True.intro) hs he (Fe hz hd (rk.merge .nil) dd')
section
variable {X:Cx}{Γ:Fx}{E:XK}{pos:Pos}
def BL {k:Str}{i:Int}{j j'}{p p':Pos}:SE X Γ E (.Dict [some (.Constant (.str k) j p)] [.Constant (.int i) j' p'] pos) (cst (.dict [(.str k,.int i)])) [] .v:=by
 refine PE.post' (Df (AZ Bl mG B6) rfl rfl (by simp) (by simp)) ?_
 rintro σ H Q ⟨env,G,B,β,I,o⟩ p hp
 have o:∀v G' H',SR Γ B G' H' σ (ba [] env) β->au G G'->iC B H H'->Rp Γ.K G' v (.dict [(.str k,.int i)])->Q v H':=o
 refine⟨aB,[(.inr k,.int i)],rfl,by simp,?_⟩
 rw[CU]
 have xn:=Ext.new I.sub (o:=.dK [((.inr k:Key),V.int i)]) hp
 exact o _ _ _ (I.ext xn) xn.gg (xn.hh.mov B) (.dK (kvs:=[((.inr k:Key),V.int i)]) aB (.cons (.int i) .nil))
end
mutual
def wJ:D->Bool
 | .list ds=>vY ds
 | .tuple ds=>vY ds
 | .dict kvs=> !kvs.isEmpty && kvs.all λkv=>match kv.1,kv.2 with
  | .str _,.int _=>true
  |_,_=>false
 |_=>true
def vY:List D->Bool
 | []=>true
 |d :: ds=>wJ d && vY ds
end
section
variable {X:Cx}{pins:List (Addr×Obj)}{σ:St}{H:Hp}{s:Shared}
theorem tL {P:Program}{w:World}{K:Frag}{h:Heap}:∀{kvs:List (Key×V)} {ds:List (D×D)} {vs:List (Key×Value)} {es:List DictEntry},yg K H kvs ds->KV kvs vs->Pairs (ey P w) es vs->
  (ds.all λkv=>match kv.1,kv.2 with
   | .str _,.int _=>true
   |_,_=>false)=true->ReadsAll h (es.map (·.key)) (ds.map (·.1)) []/\ReadsAll h (es.map (·.val)) (ds.map (·.2)) []
 | [],_,_,_,.nil,kv,ps,_=>by
  cases kv
  cases ps
  exact⟨.nil,.nil⟩
 | (k,x) :: kvs,_,_,_,.cons r rk,kv,ps,hd=>by
  cases kv with
  |cons h1 h2=>
   cases ps with
   |cons q1 q2 q3=>
    rw[all_cons,Km] at hd
    obtain⟨i1,i2⟩:=tL (P:=P) (w:=w) (h:=h) rk h2 q3 hd.2
    obtain⟨hd1,_⟩:=hd
    obtain⟨e1,rv⟩:=h1
    cases k with
    |inl i=>cases hd1
    |inr y=>
     rw[<-e1] at q1
     have q1:nZ (Sum.inr y) _=true:=q1
     rcases b7 q1 with⟨i,t,e,_⟩ | ⟨z,t,e,ek⟩
     ·cases e
     ·cases e
      cases r with
      |int i=>
       obtain⟨t',ev⟩:=rv
       refine⟨?_,?_⟩
       ·show ReadsAll h (_ :: _) (PyData.str y :: _) ([] ++ [])
        dsimp only
        rw[ek]
        exact .cons (.str y t) i1
       ·show ReadsAll h (_ :: _) (int i :: _) ([] ++ [])
        dsimp only
        rw[q2,ev]
        exact .cons (.int i t') i2
      |_=>cases hd1
def Inv.notSys (I:Inv X pins σ H s){a:Addr}{u:HO}(h:Rd H a u):a≠sysModules:=λe=>by
 obtain⟨mm,o,es,ep,ho,_⟩:=I.mod.sys
 have:=(I.bs _ o ho).2
 rw[<-e] at this
 rcases h with h | ⟨_,h⟩ <;> (rw[h] at this;cases this)
mutual
theorem Rp.readsL (I:Inv X pins σ H s):∀{x:V} {d:D} {u:Value},Rp X.K H x d->RelV x u->wJ d=true->∃as,Reads s.heap u d as/\sysModules∉as
 |_,_,_,.non,r,_=>by cases r;exact⟨_,.none,by simp⟩
 |_,_,_,.bl b,r,_=>by cases r;exact⟨_,.bool b,by simp⟩
 |_,_,_,.int i,r,_=>by obtain⟨t,rfl⟩:=r;exact⟨_,.int i t,by simp⟩
 |_,_,_,.str x,r,_=>by obtain⟨t,rfl⟩:=r;exact⟨_,.str x t,by simp⟩
 |_,_,_,.tup h hs,r,n=>by
  cases r
  obtain⟨its,rv,⟨o,ho,hc,k,hd⟩,_⟩:=I.tuple h
  obtain⟨as,q,m⟩:=cn.readsL I hs rv n
  exact⟨_,.tuple ho hc hd (by simpa using q),m⟩
 |_,_,_,.lst (a:=a) h hs,r,n=>by
  cases r
  obtain⟨_,its,k,rv,_,ho⟩:=I.lstR (.inl h)
  obtain⟨as,q,m⟩:=cn.readsL I hs rv n
  refine⟨_,.list ho rfl rfl (by simpa using q),λz=>?_⟩
  rcases Ks.mp z with e |z
  ·exact I.notSys (.inl h) e.symm
  ·exact m z
 |_,_,_,.scr h,r,n=>by cases n
 |_,_,_,.dK (a:=a) h hs,r,n=>by
  cases r
  obtain⟨_,hsy,vs,kv,o,es,ep,ho,hex,hdt,_,hp,_⟩:=DF I.hok h
  obtain⟨q1,q2⟩:=tL (h:=s.heap) hs kv hp (by
   have n:(!_ && _)=true:=n
   rw[Km] at n
   exact n.2)
  refine⟨_,.dict ho hex.1 hdt q1 q2,?_⟩
  have:a≠sysModules:=λz=>by rw[z] at hsy;simp at hsy
  simp only[Mt,K7]
  exact λz=>this z.symm
 |_,_,_,.dT h hs,r,n=>by
  cases hs with
  |nil=>cases n
  |cons _ _=>
   simp[wJ] at n
theorem cn.readsL (I:Inv X pins σ H s):∀{xs:List V} {ds:List D} {us:List Value},cn X.K H xs ds->Vals xs us->vY ds=true->∃as,ReadsAll s.heap us ds as/\sysModules∉as
 |_,_,_,.nil,r,_=>by cases r;exact⟨_,.nil,by simp⟩
 |_,_,_,.cons h hs,r,n=>by
  have n:(wJ _ && vY _)=true:=n
  rw[Km] at n
  cases r with
  |cons r1 r2=>
   obtain⟨as,q,m⟩:=Rp.readsL I h r1 n.1
   obtain⟨bs,q',m'⟩:=cn.readsL I hs r2 n.2
   exact⟨_,.cons q q',λz=>(KI.mp z).elim m m'⟩
end
end
def vU (d:D):Bool:=d.showable && decide (d.depth<=64) && decide (d.shown.length<=sizeLine) && ((y9 d && !d.hasDict) || wJ d)
def iX (d:D):Option D:=if vU d=true then some (.str d.shown) else none
def Bw (K:Frag):List V->Hp->VK->Prop:=λxs H Q=>∃x d,xs= [x]/\Rp K H x d/\vU d=true/\Q (.str d.shown) H
section
variable {X:Cx}
theorem jH (hg:X.A.guards=some [])(hu:X.A.units + 100 < cLine):fD X (.builtin "repr") (Bw X.K):=by
 intro pins s σ H xs us Q I r h
 obtain⟨x,d,rfl,hd,ok,q⟩:=h
 obtain⟨u,rfl,rx⟩:=vals1 r
 unfold vU at ok
 simp only[Km,Mv,KQ] at ok
 obtain⟨⟨⟨h1,h2⟩,h3⟩,h4⟩:=ok
 have key:∀{a:Addr},u=.ref a->wpAny (model X.prog X.w) X.A (call (.builtin "repr") [u]) (EP X pins σ Q) X.xe s:=λ{a} e=>by
  subst e
  rcases h4 with h4 |h4
  ·obtain⟨as,rd⟩:=(hd.rep h4.1).reads I rx
   exact repr_of_reads' rd h1 (PyData.noDict_hsm (by simpa using h4.2)) hg (by omega) (λb o e=>e) (λh' u tk k=>⟨.str _,H,I.kept (t':=tk) k,⟨u,rfl⟩,q⟩) h3
  ·obtain⟨as,rd,m⟩:=hd.readsL I rx h4
   exact repr_of_reads' rd h1 (λ_=>m) hg (by omega) (λb o e=>e) (λh' u tk k=>⟨.str _,H,I.kept (t':=tk) k,⟨u,rfl⟩,q⟩) h3
 cases hd with
 |non=>cases rx;exact P.repr_of_none ⟨.str _,H,I.tok _,⟨_,rfl⟩,q⟩
 |bl b=>cases rx;exact P.repr_of_bool ⟨.str _,H,I.tok _,⟨_,rfl⟩,q⟩
 |int i=>obtain⟨t,rfl⟩:=rx;exact P.repr_of_int (by simpa[PyData.showable] using h1) ⟨.str _,H,I.tok _,⟨_,rfl⟩,q⟩
 |str y=>obtain⟨t,rfl⟩:=rx;exact P.repr_of_str ⟨.str _,H,I.tok _,⟨_,rfl⟩,q⟩ h3
 |tup _ _=>cases rx;exact key rfl
 |lst _ _=>cases rx;exact key rfl
 |scr _=>cases rx;exact key rfl
 |dK _ _=>cases rx;exact key rfl
 |dT _ _=>cases rx;exact key rfl
end
def nH {K:Frag}:z8 K (λx=>Bw K [x]) iX .v:=by
 intro B G H x dx d Q s hB bx e k
 unfold iX at e
 split at e
 ·rename_i hh
  cases e
  exact⟨x,dx,rfl,bx.rpH s,hh,k _ G H (Ext.refl s) (.str _)⟩
 ·cases e
section
variable {prog:Program}{w:World}{A:Around}{E:Value->Shared->Prop}{s:Shared}{it t:Addr}{i:Nat}{xs:Array Value}{Q:Value->Shared->Prop}
theorem Jo (hi:s.heap.IsTupleIter it t i)(ht:s.heap.IsTuple t xs)
  (k1:∀x,xs[i]? =some x->∀h',h'.IsTupleIter it t (i + 1)->Heap.SameBut it s.heap h'->Q x {s with heap:=h'})
  (k2:xs[i]? =none->A.handled=none/\∀h' e,Heap.ExtBut it s.heap h'->(∃o,h'.get? e=some o/\o.cls=.type "StopIteration")->E (.ref e) {s with heap:=h'}) :
  wpAny (model prog w) A (Builtin.SmallTypes.nextOf (.ref it)) Q E s:=by
 obtain⟨o,ho,hc,hd⟩:=id hi
 obtain⟨ol,hol, -,nl,hdl⟩:=ht
 refine Ki (L9 (name:=Str.ofString "__next__") hi.typeIs F.slot_tuple_iterator_next (Mn F.slot_tuple_iterator_next hi.typeIs F.entry_tuple_iterator_next ?_ (F.args_tuple_iterator_next_1 _)))
 refine (show wpAny _ _ (field (.ref it) 0 >>= _) _ _ s from Ki (LJ ho hd (x:=.ref t) rfl ?_))
 refine (show wpAny _ _ (if (Value.ref t == Value.none)=true then _ else _) _ _ s from ?_)
 rw[Kw (by exact Kx)]
 refine (show wpAny _ _ (field (.ref it) 1 >>= _) _ _ s from Ki (LJ ho hd (x:=.int i 0) rfl ?_))
 refine (show wpAny _ _ (seqItems? (.ref t) >>= _) _ _ s from Ki (wpAny_seqItems hol hdl ?_))
 cases hx:xs[i]? with
 |some x=>
  simp only[Lj,hx]
  refine Ki (MB ho hd (by simp) (Kv ⟨x,rfl,Kv (k1 x hx _ ?_ (Heap.SameBut.update ..))⟩))
  refine⟨_,Mk _ ho (Obj.isFreed_of_fields (Mz hd _)),(Obj.cls_mapFields ..).trans hc,?_⟩
  rw[Mz hd]
  simp[rawInt]
 |none=>
  obtain⟨hh,hE⟩:=k2 hx
  simp only[Lj,hx]
  refine Ki (wpAny_rule (Ki (MB ho hd (by simp) (show wpAny _ _ (newExc (.type "StopIteration") [] >>= _) _ _ _ from Ki ?_))))
  simp only[newExc,newTuple]
  refine Ki (Lo (Ki (m:=firstArgMember _ _) (wpAny_of_eq (a:=Value.none) (by first |rfl | (simp only[firstArgMember];rfl)) (Lo ?_ (by size_fits)))) (by size_fits))
  simp only[raiseNew]
  refine Ki (wpAny_handled ?_)
  have hh':A.in1.handled=none:=hh
  first |rw[hh'] |rw[hh]
  exact Ki (Kv (wpAny_throw (hE _ _ (((Heap.SameBut.update ..).extBut.push _).push _) ⟨_,KL _ rfl,rfl⟩)))
def E3 (hh:A.handled=none)(hne:t≠it)(xs:Array Value):Draws prog w A it [it,t] xs.size (λi v=>xs[i]? =some v) (λi h=>h.IsTupleIter it t i/\h.IsTuple t xs) where
 live:=λ_ _ st=>let ⟨o,ho,_⟩:=st.1;⟨o,ho⟩
 frame:=λ_ _ _ st hk=>⟨st.1.at λo e=>hk it (by simp) o e,st.2.at λo e=>hk t (by simp) o e⟩
 item:=λi s Q E hi st k=>Jo st.1 st.2 (λx hx h' q1 q2=>k x h' s.toks hx ⟨q1,st.2.extBut q2.extBut hne⟩ q2) λz=>by simp at z;omega
 done:=λs Q E st k=>Jo st.1 st.2 (λx hx=>by simp at hx) λ_=>⟨hh,k⟩
end
abbrev EC (t:Addr):Obj:={cls:=.type "tuple_iterator",data:=.fields #[.ref t,.int 0 0]}
abbrev HY (it:Addr):Obj:={cls:=.type "enumerate",data:=.fields #[.none,.bool false,.ref it,rawInt 0,.none,.none]}
def A8 (t:Addr)(xs:Array Value)(n:Nat)(dc:Option Addr)(sl:Array (Option Value)) :
  Meets (Builtin.«enumerate.__new__» ⟨[.type "enumerate",.ref t],[]⟩) (λ_ R s=>s.heap.get? t=some ⟨.type "tuple",dc,.seq xs n,sl⟩/\
   R (.ok (.ret (.ref (s.heap.push (EC t)).objs.size))) {s with heap:=(s.heap.push (EC t)).push (HY s.heap.objs.size)}):=by
 refine .of_wp λprog w A R s h=>?_
 obtain⟨hp,g,d,tk,os⟩:=s
 obtain⟨hl,h⟩:=h
 have sb:=sub_enumerate
 have hT:Heap.IsTuple (Shared.heap ⟨hp,g,d,tk,os⟩) t xs:=⟨_,hl,rfl,n,rfl⟩
 wp_walk using MA hl
 refine wpAny_stack_any λst=>Kv ?_
 split
 ·rename_i c _ _ _ _ _
  cases (c == Value.type "enumerate") <;> (wp_walk using MA hl,Mc hT;exact⟨_,rfl,h⟩)
 ·wp_walk using MA hl,Mc hT
  exact⟨_,rfl,h⟩
section
variable {prog:Program}{w:World}{A:Around}{E:Value->Shared->Prop}{s:Shared}
def vv {t:Addr}{xs:Array Value}{Q:Value->Shared->Prop}(hT:s.heap.IsTuple t xs)
  (k:∀h',IsEnum h' (s.heap.objs.size + 1) s.heap.objs.size 0 .none->h'.IsTupleIter s.heap.objs.size t 0->(∀b o,s.heap.get? b=some o->h'.get? b=some o)->Q (.ref (s.heap.objs.size + 1)) {s with heap:=h'}) :
  wpAny (model prog w) A (call (.type "enumerate") [.ref t]) Q E s:=by
 obtain⟨⟨c,dc,dt,sl⟩,hl,hc,n,hd⟩:=hT
 have hc:c=.type "tuple":=hc
 have hd:dt=.seq xs n:=hd
 subst hc hd
 refine callType_new F.called_enumerate (by decide) (F.typeCall_enumerate_1 _) (F.newCall_enumerate_1 _) (λob=>F.args_object_init_2 ob _) F.entry_enumerate_new (A8 t xs n dc sl) ⟨hl,?_⟩
 have hz:(s.heap.push (EC t)).objs.size=s.heap.objs.size + 1:=Heap.size_push ..
 have g2:((s.heap.push (EC t)).push (HY s.heap.objs.size)).get? (s.heap.push (EC t)).objs.size=some (HY s.heap.objs.size):=KL _ rfl
 have g1:((s.heap.push (EC t)).push (HY s.heap.objs.size)).get? s.heap.objs.size=some (EC t):=Kk _ (KL _ rfl)
 rw[hz] at g2
 show _/\_
 rw[hz]
 exact⟨⟨_,g2,rfl⟩,k _ g2 ⟨_,g1,rfl,rfl⟩ λb o e=>Kk _ (Kk _ e)⟩
end
def FD {prog:Program}{w:World}{A:Around}{it t:Addr}{xs:Array Value}(hh:A.handled=none)(i:Nat)(hx:xs[i]? =none):Draws prog w A it [it,t] i (λ_ _=>False) (λj h=>j=i/\h.IsTupleIter it t i/\h.IsTuple t xs) where
 live:=λ_ _ st=>let ⟨o,ho,_⟩:=st.2.1;⟨o,ho⟩
 frame:=λ_ _ _ st hk=>⟨st.1,st.2.1.at λo e=>hk it (by simp) o e,st.2.2.at λo e=>hk t (by simp) o e⟩
 item:=λj s Q E hi st k=>absurd st.1 (by omega)
 done:=λs Q E st k=>Jo st.2.1 st.2.2 (λx h=>by rw[hx] at h;cases h) λ_=>⟨hh,k⟩
def JB (K:Frag)(a:Addr):It:=
 ⟨λi H=>∃xs x,fy K H a xs/\xs[i]? =some x,
  λi H v H'=>∃x t,H t=none/\(∀xs,fy K H a xs->xs[i]? =some x)/\v=.ref t/\H'=upd H t (.tup [.int i,x]),
  λi H=>∃xs,fy K H a xs/\xs.length<=i⟩
abbrev BH (n:Nat):List Nat:=[n + 1,n]
def yH {h:Heap}{a n:Addr}{i:Nat}{its:Array Value}{b:Addr}(p:h.IsTuple a its)(q:h.IsTupleIter n b i):a≠n:=λz=>by
 subst z
 obtain⟨o,e,c,_⟩:=p
 obtain⟨o',e',c',_⟩:=q
 rw[e] at e';cases e'
 rw[c] at c'
 simp at c'
def x8 {h:Heap}{a n it:Addr}{i:Int}{its:Array Value}{old:Value}(p:h.IsTuple a its)(q:IsEnum h n it i old):n≠a:=λz=>by
 subst z
 obtain⟨o,e,c,_⟩:=p
 rw[q] at e;cases e
 simp at c
def vX {P:Program}{w:World}{K:Frag}{elts:List Expr}{x1}{pos:Pos}(a:Addr)(n:Nat):Turn P w K (.Tuple elts x1 pos) (JB K a) (BH n) (n + 1)
  (λi h=>(∃old,IsEnum h (n + 1) n i old)/\h.IsTupleIter n a i) where
 mem:=by simp
 obj:=λi h st c hc=>by
  obtain⟨⟨old,z1⟩,⟨o2,z2,_,d2⟩⟩:=st
  simp only[BH,Ks,K0,LL] at hc
  rcases hc with rfl |rfl
  ·exact⟨_,z1,λv z=>by
    have z':Data.fields _=Data.cell v:=z
    cases z'⟩
  ·exact⟨o2,z2,λv z=>by rw[d2] at z;cases z⟩
 keep:=λi h h' st k=>by
  obtain⟨⟨old,z1⟩,z2⟩:=st
  exact⟨⟨old,k _ (by simp) _ z1⟩,z2.at λo e=>k _ (by simp) o e⟩
 item:=by
  intro X hP hw hK hc i pins s σ H E I hf st hg
  subst hP hw hK
  obtain⟨xs,x,ha,hx⟩:=hg
  obtain⟨its,rv,p,hz⟩:=I.tuple ha
  have p:s.heap.IsTuple a its.toArray:=p
  obtain⟨u0,hu0,ru0⟩:=rv.get hx
  obtain⟨⟨old,z1⟩,z2⟩:=st
  have hh:X.A.in1.handled=none:=I.ok.hd hc
  have hlt:i < its.toArray.size:=by
   have:=KJ.mp hu0
   simpa using this.1
  refine wpAny_pyNext_enum_itemD (E3 hh (yH p z2) its.toArray) z1 ⟨z2,p⟩ hlt (Jr 1 0 rfl) (by
   simp only[Ks,K0,LL,not_or]
   exact⟨Jr 1 0 rfl,x8 p z1⟩) λu h' tk hu q1 q2 q3 q4 q5=>?_
  have eu:u0=u:=by
   have hu:its.toArray[i]? =some u:=hu
   rw[List.getElem?_toArray,hu0] at hu
   exact Option.some.inj hu
  subst eu
  refine⟨_,rfl,wpAny_letOwnedTupleGo_enum (s:={s with heap:=h',toks:=tk + 1}) q1 λh2 r1 r2=>?_⟩
  have r2:∀c,c≠n + 1->h2.get? c=h'.get? c:=r2.2
  have lz:n + 1 < s.heap.objs.size:=Ky z1
  have hT:H s.heap.objs.size=none:=I.hok.fresh (Kj _)
  have I1:Inv X pins σ (upd H s.heap.objs.size (.tup [.int i,x])) {s with heap:=s.heap.push {cls:=.type "tuple",data:=.seq #[.int i tk,u0]},toks:=s.toks}:=
   I.laid (λb o e=>Kk _ e) (Kj _) ⟨by show 2<=sizeLine;rw[K1];omega,[.int i tk,u0],.cons ⟨tk,rfl⟩ (.cons ru0 .nil),oU.new _ _⟩
  have hf':∀c∈BH n,nr X pins (upd H s.heap.objs.size (.tup [.int i,x])) c:=λc hc=>⟨by
   rw[aC (λz=>?_)]
   ·exact (hf c hc).1
   ·subst z
    simp only[BH,Ks,K0,LL] at hc
    omega,(hf c hc).2⟩
  have I2:Inv X pins σ (upd H s.heap.objs.size (.tup [.int i,x])) {s with heap:=h2,toks:=tk + 1}:=by
   refine I1.turnedL (ch:=BH n) (λc o hc e=>?_) hf'
   have e:(s.heap.push {cls:=.type "tuple",data:=.seq #[.int i tk,u0]}).get? c=some o:=e
   simp only[BH,Ks,K0,LL,not_or] at hc
   rw[r2 c hc.1]
   by_cases z:c=s.heap.objs.size
   ·subst z
    rw[KL _ rfl] at e
    rw[<-e];exact q3
   ·refine q5 c o hc.1 hc.2 ?_
    rw[Heap.get?_push_ne _ _ _ z] at e
    exact e
  refine⟨.ref s.heap.objs.size,_,I2,rfl,⟨x,_,hT,λxs' h'=>?_,rfl,rfl⟩,⟨⟨u0,r1⟩,q2.1.at λo e=>(r2 _ (Jr 0 1 rfl)).trans e⟩,λc hc=>(hf' c hc).1⟩
  rw[I.tuple_inj h' ha];exact hx
 done:=by
  intro X hP hw hK hc i pins s σ H E I hf st hg
  subst hP hw hK
  obtain⟨xs,ha,hl⟩:=hg
  obtain⟨its,rv,p,hz⟩:=I.tuple ha
  obtain⟨⟨old,z1⟩,z2⟩:=st
  have hh:X.A.in1.handled=none:=I.ok.hd hc
  have l1:=rv.length
  refine wpAny_pyNext_enum_endD (FD hh i (xs:=its.toArray) (by simp;omega)) z1 ⟨rfl,z2,p⟩ λh' q=>⟨rfl,?_⟩
  refine I.turnedL (t':=s.toks) (ch:=BH n) (λc o hc e=>?_) hf
  simp only[BH,Ks,K0,LL,not_or] at hc
  exact q c o hc.2 e
 self:=λ_ _ _ _ _ st h=>by
  obtain⟨⟨old,z1⟩,_⟩:=st
  exact wpAny_pyIter_enum z1 h
def Kf (K:Frag)(ta:TA):TI:=λσ H R=>ta σ H λvs H2=>∃a xs,vs= [.ref a]/\fy K H2 a xs/\R (JB K a) H2
def yA:bootBuiltins "enumerate"=some (.type "enumerate"):=by decide +kernel
section
variable {X:Cx}
theorem EH {a:Expr}{ta:TA}{p pos pt:Pos}{elts:List Expr}{x1}(hg:Gl X "enumerate")(hm:X.mg "enumerate"=none)(ha:PA X [a] ta)(hs:starEach [a] X.env= [(false,eval a X.env)]:=by rfl) :
  PI X (.Tuple elts x1 pt) (.Call (.Name "enumerate" p) [a] [] pos) (Kf X.K ta):=by
 intro pins s σ H R I h
 refine Call_ (oO I hg hm yA (Ml (cq (ha pos pins s σ H _ I h) λus s1 ⟨vs,H1,I1,r1,q1⟩=>?_) hs rfl))
 obtain⟨a,xs,e,h1,q⟩:=q1
 subst e
 cases r1 with
 |cons r rr=>
  cases rr
  cases r
  obtain⟨its,rv,p1,hz⟩:=I1.tuple h1
  refine vv (show s1.heap.IsTuple a its.toArray from p1) λh' z1 z2 z3=>?_
  refine wpAny_pyIter_enum z1 ⟨_,BH s1.heap.objs.size,_,_,H1,rfl,I1.kept (t':=s1.toks) z3,vX a s1.heap.objs.size,⟨⟨_,z1⟩,z2⟩,λc hc=>?_,q⟩
  have:s1.heap.objs.size<=c:=by
   simp only[BH,Ks,K0,LL] at hc
   rcases hc with rfl |rfl <;> first |exact Kj _ |exact Nat.le_add_right _ _
  exact I1.fpOk this (I1.hok.fresh this)
end
section
variable {X:Cx}{Γ:Fx}{E:XK}{e a b c:Expr}{f fa fb:VF D}{L La Lb:List Nat}{md ma mb:Md}{pos:Pos}
def kU (ds:List D):List D:=ds.mapIdx λi d=>.tuple [.int i,d]
def wZ (fa:VF D):VF (List D):=λvs β=>(fa vs β).bnd λx β1=>match x with
 | .tuple ds=>.ok (kU ds) β1
 |_=>.bad
def Ba {K:Frag}{B:Option Addr}{G H1:Hp}{p:Addr}{xs:List V}{ds:List D}(hp:fy K G p xs)(r:cn K G xs ds):Walk K B G H1 (kU ds) (JB K p):=λGc H i s1 s2 m=>by
 have hp':=hp.grow (s1.trans s2).grow
 have l1:=r.len
 have lz:(kU ds).length=ds.length:=by unfold kU;rw[List.length_mapIdx]
 refine⟨λhi=>⟨?_,λx H' y=>?_⟩,λhi=>⟨xs,hp',by omega⟩⟩
 ·have h1:i < xs.length:=by omega
  exact⟨xs,xs[i],hp',by simp[h1]⟩
 ·obtain⟨x,t,ht,hx,rfl,rfl⟩:=y
  obtain⟨d,ed,rd⟩:=r.at' (hx xs hp')
  have xn:=Ext.new s2 (o:=.tup [.int i,x]) ht
  refine⟨upd Gc t (.tup [.int i,x]),.tuple [.int i,d],xn,?_,.tup (.inl (.inl aB)) (.cons (.int i) (.cons (rd.mono (s1.trans xn.gg)) .nil))⟩
  unfold kU
  rw[List.getElem?_mapIdx,ed];rfl
theorem zP {p pt:Pos}{elts:List Expr}{x1}(hK:X.K=Γ.K)(hg:Gl X "enumerate")(hm:X.mg "enumerate"=none)(ha:SE X Γ E a fa La ma)(hs:starEach [a] X.env= [(false,eval a X.env)]:=by rfl)(hs':starEach [a] X.env=(false,eval a X.env) :: starEach [] X.env:=by rfl) :
  SI X Γ E (.Tuple elts x1 pt) (.Call (.Name "enumerate" p) [a] [] pos) (wZ fa) La md:=by
 refine PI.post (EH hg hm (bc ha cv hs') hs) ?_
 rintro σ H Q ⟨env,G,B,β,I,o⟩
 refine⟨env,G,B,β,I,o.bnd.imp λd1 β1 h x G1 H1 I1 s1 m1 vx=>?_⟩
 have vx:=vx.brw I.boxThere
 rw[hK]
 cases d1 with
 |tuple ds=>
  rcases vx with vx | ⟨p,rfl,hb,q⟩
  ·cases vx with
   | @tup p xs _ hq r=>exact⟨p,xs,rfl,hq.grow I1.sub.grow,h _ G1 H1 I1 s1 m1 (Ba hq r)⟩
  ·exact q.elim
 |_=>exact h.elim
end
end L2
namespace L2
open PySem PySem.Spec PyProof.Rows PySem.MeetsSeq PySem.MeetsSeq2 PySem.MeetsSeq3
def DM (K:Frag):R2:=λx y H Q=>∃a b xs ys,x=.ref a/\y=.ref b/\fy K H a xs/\fy K H b ys/\xs.length + ys.length<=sizeLine/\
 (xs= []->Q (.ref b) H)/\(xs≠ []->ys= []->Q (.ref a) H)/\(xs≠ []->ys≠ []->∀p,H p=none->Q (.ref p) (upd H p (.tup (xs ++ ys))))
section
variable {X:Cx}
def j8:jT X (binaryOp .Add) (DM X.K):=by
 intro pins s σ H x y v u Q I rx ry h
 obtain⟨a,b,xs,ys,rfl,rfl,ha,hb,hz,q0,q1,q2⟩:=h
 by_cases hx:xs= []
 ·cases rx
  cases ry
  obtain⟨its,r1,p1,_⟩:=I.tuple ha
  obtain⟨its2,r2,p2,_⟩:=I.tuple hb
  obtain⟨⟨cls,dd,data,sl⟩,ho,hc,n,hd⟩:=id p1
  obtain⟨⟨cls2,dd2,data2,sl2⟩,ho2,hc2,n2,hd2⟩:=id p2
  simp only at hc hd hc2 hd2
  subst hc hd hc2 hd2
  have he:its= []:=r1.nil_iff.mpr hx
  exact concat_meets ⟨_,ho,rfl⟩ ⟨_,ho2,rfl⟩ noFill_tuple_add seq_tuple_add PySem.F.slot_tuple_add PySem.F.entry_tuple_add (Mw _ _)
   (tuple_addW0 a b its.toArray its2.toArray n n2 dd dd2 sl sl2 (by simp[he])) ⟨ho,ho2,.ref b,H,I,rfl,q0 hx⟩
 ·exact C5 pins s σ H _ _ v u Q I rx ry ⟨a,b,xs,ys,rfl,rfl,ha,hb,hx,hz,q1 hx,q2 hx⟩
end
def jO:D->D->Option D
 | .tuple a,.tuple b=>if a.length + b.length<=sizeLine then some (.tuple (a ++ b)) else none
 |_,_=>none
def oM {K:Frag}:kY K (DM K) jO .v:=by
 intro B G H x y dx dy d Q s hB bx by' e k
 cases dx <;> cases dy <;> first | (cases e;done) |skip
 rename_i a b
 simp only[jO] at e
 split at e
 ·rename_i hz
  cases e
  rcases bx with bx | ⟨_,_,_,q⟩
  case inr=>exact q.elim
  rcases by' with by' | ⟨_,_,_,q⟩
  case inr=>exact q.elim
  cases bx with
  | @tup p xs _ hp r1=>
   cases by' with
   | @tup q ys _ hq r2=>
    refine⟨p,q,xs,ys,rfl,rfl,hp.grow s.grow,hq.grow s.grow,by rw[r1.len,r2.len];exact hz,λz=>?_,λz z'=>?_,λ_ _ l hl=>?_⟩
    ·subst z
     cases r1
     exact k _ G H (Ext.refl s) (.tup hq r2)
    ·subst z'
     cases r2
     rw[Mt] at k
     exact k _ G H (Ext.refl s) (.tup hp r1)
    ·have xn:=Ext.new s (o:=.tup (xs ++ ys)) hl
     exact k _ _ _ xn (.tup (.inl (.inl aB)) ((r1.append r2).mono xn.gg))
 ·cases e
end L2
namespace L2
open PySem PySem.Spec PyProof.Rows
def isStar:Expr->Bool
 | .Starred _ _=>true
 |_=>false
def yB {a:Expr}{es:List Expr}{env:Env}(h:isStar a=false):starEach (a :: es) env=(false,eval a env) :: starEach es env:=by
 cases a <;> first |rfl |cases h
def Ek (sc:Scope)(x:Str):Bool:=match sc.names.lookup x with
 |some .local=>true
 |some .cell=>true
 |some .free=>true
 |_=>false
def Cc {sc:Scope}{x:Str}(h:Ek sc x=true):xO sc x:=by
 unfold Ek at h
 unfold xO
 split at h
 ·exact .inl (by assumption)
 ·exact .inr (.inl (by assumption))
 ·exact .inr (.inr (by assumption))
 ·cases h
def v7 (N:List Str)(sc:Scope):List (Str×Nat)->Bool
 | []=>true
 | (x,i) :: r=>decide (N[i]? =some x) && (Ek sc x && ((!(x == ("__debug__":Str))) && ((!(x == ("__classdict__":Str))) && v7 N sc r)))
theorem xf {N:List Str}{sc:Scope}:∀{l:List (Str×Nat)} {x:Str} {i:Nat},v7 N sc l=true->l.lookup x=some i->N[i]? =some x/\xO sc x/\(x == ("__debug__":Str))=false/\(x == ("__classdict__":Str))=false
 | [],_,_,_,h=>by cases h
 | (y,j) :: r,x,i,h,e=>by
  simp only[v7,Km,KQ,Mi] at h
  obtain⟨h1,h2,h3,h4,h5⟩:=h
  rw[Mo] at e
  split at e
  ·rename_i q
   have q:x=y:=by simpa using q
   subst q
   cases e
   exact⟨h1,Cc h2,h3,h4⟩
  ·exact xf h5 e
def yo:Expr->Option Int
 | .Constant (.int i) _ _=>some i
 |_=>none
theorem nK {e:Expr}{i:Int}(h:yo e=some i):∃j p,e=.Constant (.int i) j p:=by
 cases e with
 |Constant c j p=>cases c <;> first | (cases h;exact⟨_,_,rfl⟩) |cases h
 |_=>cases h
def Js (op:UnaryOp)(e:Expr):Option Int:=match op with
 | .USub=>yo e
 |_=>none
def DO:Operator->Bool
 | .Pow=>true
 |_=>false
def zQ {o:Operator}(h:DO o=true):o=.Pow:=by cases o <;> first |rfl |cases h
def Fs (ks:List (Option Expr))(vs:List Expr):Option (Str×Int):=match ks,vs with
 | [some (.Constant (.str k) _ _)],[v]=>(yo v).map λi=>(k,i)
 |_,_=>none
def BV {ks:List (Option Expr)}{vs:List Expr}{r:Str×Int}(h:Fs ks vs=some r):∃j p j' p',ks= [some (.Constant (.str r.1) j p)]/\vs= [.Constant (.int r.2) j' p']:=by
 unfold Fs at h
 split at h
 ·rename_i k j p v
  cases q:yo v with
  |none=>rw[q] at h;cases h
  |some i=>
   rw[q] at h
   cases h
   obtain⟨j',p',rfl⟩:=nK q
   exact⟨_,_,_,_,rfl,rfl⟩
 ·cases h
def IV:Const->Option D
 | .int i=>some (.int i)
 | .bool b=>some (.bool b)
 | .none=>some .none
 | .str x=>some (.str x)
 |_=>none
mutual
def rD (nm:List (Str×Nat)):Expr->Option (VF D×List Nat)
 | .Name x _=>(nm.lookup x).map λi=>(gv i,[i])
 | .Constant c _ _=>(IV c).map λd=>(cst d,[])
 | .UnaryOp op a _=>(Js op a).map λi=>(cst (.int (-i)),[])
 | .BinOp a o b _=>if DO o=true then (yo a).bind λi=>(yo b).map λj=>(f2 (cst (.int i)) (cst (.int j)) Bj,[]) else none
 | .Dict ks vs _=>(Fs ks vs).map λr=>(cst (.dict [(.str r.1,.int r.2)]),[])
 | .Tuple es _ _=>(Dy nm es).map λr=>(aR r.1,r.2)
 | .List es _=>(Dy nm es).map λr=>(bH r.1,r.2)
 | .BoolOp ..=>none
 | .NamedExpr ..=>none
 | .Lambda ..=>none
 | .IfExp ..=>none
 | .Set ..=>none
 | .ListComp ..=>none
 | .SetComp ..=>none
 | .DictComp ..=>none
 | .GeneratorExp ..=>none
 | .Await ..=>none
 | .Yield ..=>none
 | .YieldFrom ..=>none
 | .Compare ..=>none
 | .Call ..=>none
 | .FormattedValue ..=>none
 | .JoinedStr ..=>none
 | .Attribute ..=>none
 | .Subscript ..=>none
 | .Starred ..=>none
 | .Slice ..=>none
def Dy (nm:List (Str×Nat)):List Expr->Option (VF (List D)×List Nat)
 | []=>some (ah,[])
 |e :: es=>(rD nm e).bind λr=>(Dy nm es).map λq=>(aa r.1 q.1,r.2 ++ q.2)
end
section
variable {X:Cx}{Γ:Fx}{E:XK}{nm:List (Str×Nat)}
theorem jZ {α β:Type}{o:Option α}{f:α->β}{b:β}(h:o.map f=some b):∃a,o=some a/\f a=b:=by
 cases o with
 |none=>cases h
 |some a=>exact⟨a,rfl,Option.some.inj h⟩
theorem xE {α β:Type}{o:Option α}{f:α->Option β}{b:β}(h:o.bind f=some b):∃a,o=some a/\f a=some b:=by
 cases o with
 |none=>cases h
 |some a=>exact⟨a,rfl,h⟩
mutual
theorem Hf (hc:v7 X.N X.env.scope nm=true)(hb:∀i,Γ.br i=false):∀{e:Expr} {f:VF D} {L:List Nat},rD nm e=some (f,L)->SE X Γ E e f L .v/\isStar e=false
 | .Name x p,f,L,h=>by
  rw[rD] at h
  obtain⟨i,q,e⟩:=jZ h
  cases e
  obtain⟨h1,h2,h3,h4⟩:=xf hc q
  exact⟨ax i (hb i) h1 h2 h3 h4,rfl⟩
 | .Constant c j p,f,L,h=>by
  rw[rD] at h
  obtain⟨d,q,e⟩:=jZ h
  cases e
  cases c <;> first | (cases q;first |exact⟨ag,rfl⟩ |exact⟨dR,rfl⟩ |exact⟨Bb,rfl⟩ |exact⟨gG,rfl⟩) |cases q
 | .UnaryOp op a p,f,L,h=>by
  rw[rD] at h
  obtain⟨i,q,e⟩:=jZ h
  cases e
  cases op <;> first | (cases q;done) |skip
  obtain⟨j,p,rfl⟩:=nK q
  exact⟨wD mB wy ag,rfl⟩
 | .BinOp a op b p,f,L,h=>by
  rw[rD] at h
  split at h
  ·rename_i ho
   obtain rfl:=zQ ho
   obtain⟨i,q,h⟩:=xE h
   obtain⟨j,q2,e⟩:=jZ h
   cases e
   obtain⟨j1,p1,rfl⟩:=nK q
   obtain⟨j2,p2,rfl⟩:=nK q2
   exact⟨aS E1 Gz ag ag,rfl⟩
  ·cases h
 | .Dict ks vs p,f,L,h=>by
  rw[rD] at h
  obtain⟨r,q,e⟩:=jZ h
  cases e
  obtain⟨_,_,_,_,rfl,rfl⟩:=BV q
  exact⟨BL,rfl⟩
 | .Tuple es c p,f,L,h=>by
  rw[rD] at h
  obtain⟨r,q,e⟩:=jZ h
  cases e
  exact⟨bF (rg hc hb q),rfl⟩
 | .List es p,f,L,h=>by
  rw[rD] at h
  obtain⟨r,q,e⟩:=jZ h
  cases e
  exact⟨SE.wv (bI (rg hc hb q)),rfl⟩
 | .BoolOp ..,_,_,h=>by rw[rD] at h;cases h
 | .NamedExpr ..,_,_,h=>by rw[rD] at h;cases h
 | .Lambda ..,_,_,h=>by rw[rD] at h;cases h
 | .IfExp ..,_,_,h=>by rw[rD] at h;cases h
 | .Set ..,_,_,h=>by rw[rD] at h;cases h
 | .ListComp ..,_,_,h=>by rw[rD] at h;cases h
 | .SetComp ..,_,_,h=>by rw[rD] at h;cases h
 | .DictComp ..,_,_,h=>by rw[rD] at h;cases h
 | .GeneratorExp ..,_,_,h=>by rw[rD] at h;cases h
 | .Await ..,_,_,h=>by rw[rD] at h;cases h
 | .Yield ..,_,_,h=>by rw[rD] at h;cases h
 | .YieldFrom ..,_,_,h=>by rw[rD] at h;cases h
 | .Compare ..,_,_,h=>by rw[rD] at h;cases h
 | .Call ..,_,_,h=>by rw[rD] at h;cases h
 | .FormattedValue ..,_,_,h=>by rw[rD] at h;cases h
 | .JoinedStr ..,_,_,h=>by rw[rD] at h;cases h
 | .Attribute ..,_,_,h=>by rw[rD] at h;cases h
 | .Subscript ..,_,_,h=>by rw[rD] at h;cases h
 | .Starred ..,_,_,h=>by rw[rD] at h;cases h
 | .Slice ..,_,_,h=>by rw[rD] at h;cases h
theorem rg (hc:v7 X.N X.env.scope nm=true)(hb:∀i,Γ.br i=false):∀{es:List Expr} {f:VF (List D)} {L:List Nat},Dy nm es=some (f,L)->SA X Γ E es f L
 | [],f,L,h=>by rw[Dy] at h;cases h;exact ak
 |e :: es,f,L,h=>by
  rw[Dy] at h
  obtain⟨r,q,h⟩:=xE h
  obtain⟨r2,q2,e⟩:=jZ h
  cases e
  obtain⟨a,b⟩:=Hf hc hb q
  exact ae a (rg hc hb q2) (yB b)
end
def Ce {es:List Expr}{p:Pos}{t:Option Expr}{l:Nat}{env:Env}:swapsWith (.List es p) t l env=pure false:=rfl
def Hm {es:List Expr}{f:VF (List D)}{L:List Nat}{pos:Pos}(nm:List (Str×Nat))(hc:v7 X.N X.env.scope nm=true)(hb:∀i,Γ.br i=false)(h:Dy nm es=some (f,L)):SE X Γ E (.List es pos) (bH f) L .w:=bI (rg hc hb h)
def A2 {i:Nat}{x:Str}{es:List Expr}{f:VF (List D)}{L:List Nat}{pos' p pos:Pos}(nm:List (Str×Nat))(hc:v7 X.N X.env.scope nm=true)(hb:∀i,Γ.br i=false)(h:Dy nm es=some (f,L))(hN:X.N.Nodup)(hi:X.N[i]? =some x)(hx:Loc X.env.scope x)(hf:X.fn x=true\/X.env.scope.names.lookup x=some .local) :
  SS X Γ E (.Assign [.Name x pos'] (.List es p) pos) (bS i L (bH f)):=bg (SE.wv (Hm nm hc hb h)) hN hi hx Ce hf
end
end L2
section
namespace HT
open PySem PyProof.Rows PySem.Builtin PyProof
theorem oI {α β:Type}{f g:α->Option β}:∀{l:List α},(∀m,m∈l->f m=g m)->l.filterMap f=l.filterMap g
 | [],_=>rfl
 |x :: l,h=>by rw[L8,L8,h x (Ku ..),oI λm hm=>h m (Kr _ hm)]
def qG {α:Type}(xs:Array α):((List.range xs.size).filterMap λ(m:Nat)=>xs[(((xs.size:Int) - 1) + (m:Int) * (-1)).toNat]?)=xs.toList.reverse:=by
 have e:∀m,m∈List.range xs.size->xs[(((xs.size:Int) - 1) + (m:Int) * (-1)).toNat]? =xs.toList.reverse[m]?:=λm hm=>by
  have hm:=K2.mp hm
  rw[List.getElem?_reverse (by simpa using hm)]
  have:(((xs.size:Int) - 1) + (m:Int) * (-1)).toNat=xs.toList.length - 1 - m:=by simp;omega
  rw[this]
  simp
 have e2:((List.range xs.size).filterMap λ(m:Nat)=>xs[(((xs.size:Int) - 1) + (m:Int) * (-1)).toNat]?)=(List.range xs.toList.reverse.length).filterMap λm=>xs.toList.reverse[m]?:=by
  rw[Ms,Mr]
  exact oI e
 rw[e2]
 generalize xs.toList.reverse=l
 clear e e2
 apply List.ext_getElem?
 intro i
 have key:∀n,n<=l.length->(List.range n).filterMap (λm=>l[m]?)=l.take n:=by
  intro n
  induction n with
  |zero=>intro _;simp
  |succ n ih=>
   intro hn
   rw[List.range_succ,List.filterMap_append,ih (by omega),List.take_succ,Kh (by omega)]
   simp[Kh (show n < l.length by omega)]
 rw[key l.length (Kj _),List.take_length]
section
variable {prog:Program}{w:World}{A:Around}{E:Value->Shared->Prop}{s:Shared}
def rb {sl:Addr}{vs:Value}{n:Nat}{Q:Int×Int×Nat->Shared->Prop}(hs:s.heap.IsSliceOf sl .none .none vs)(ps:IsPart vs (some (-1)))(h:Q (((n:Int) - 1), -1,n) s):wpAny (model prog w) A (Builtin.Slice.sliceApplied (.ref sl) (pure (n:Int))) Q E s:=by
 obtain⟨os,hos,hcs,hds⟩:=id hs
 unfold Builtin.Slice.sliceApplied Builtin.Slice.sliceFields
 refine Ki (Ki (LJ hos hds (x:=.none) rfl (Ki (LJ hos hds (x:=.none) rfl (Ki (LJ hos hds (x:=vs) rfl (Kv ?_)))))))
 refine Ki (k6 ps ?_)
 show wpAny _ _ (if ((-1:Int) == 0)=true then _ else _) _ _ s
 rw[Kw (by decide)]
 refine Ki (slicePart_none (Ki (slicePart_none (Ki (Kv ?_)))))
 show wpAny _ _ (pure (((n:Int) - 1),(-1:Int),Builtin.Slice.slicePlaces ((n:Int) - 1) (-1) (-1))) _ _ s
 have e:Builtin.Slice.slicePlaces ((n:Int) - 1) (-1) (-1)=n:=by
  unfold Builtin.Slice.slicePlaces
  have h1:¬((-1:Int) > 0):=by omega
  simp only[h1,LG]
  rw[show (- (-1:Int))=1 by rfl,Int.ediv_one]
  split <;> omega
 rw[e]
 exact Kv h
def lb {t sl:Addr}{items:Array Value}{vs:Value}{Q:Value->Shared->Prop}(ht:IsTup s.heap t items)(hs:s.heap.IsSliceOf sl .none .none vs)(ps:IsPart vs (some (-1)))
  (h:Q (.ref s.heap.objs.size) {s with heap:=s.heap.push {cls:=.type "tuple",data:=.seq items.toList.reverse.toArray}})
  (hsz:items.size<=sizeLine):wpAny (model prog w) A (getItem (.ref t) (.ref sl)) Q E s:=by
 have htake:sizeOk (.seq items.toList.reverse.toArray):=by
  show items.toList.reverse.toArray.size<=sizeLine
  simpa using hsz
 obtain⟨os,hos,hcs,hds⟩:=id hs
 have hTs:s.TypeIs (.ref sl) "slice":=⟨os,hos,hcs⟩
 unfold getItem
 try with_reducible refine L0 ?_
 first |refine Ki (Kv ?_) |skip
 refine Ki (wpAny_sequenceKey ht.typeIs (by decide) ?_)
 refine Ki (L9 (name:=Str.ofString "__getitem__") ht.typeIs KY
  (Mn KY ht.typeIs entry_tuple_getitem ?_ (args_tuple_getitem _ _)))
 show wpAny _ _ (Builtin.Tuple.tupleItemsOf (.ref t) >>= _) _ _ s
 refine Ki (tupleItemsOf_ ht ?_)
 refine Ki (wpAny_typeOf hTs ?_)
 rw[Kl (by decide)]
 refine Ki (rb hs ps ?_)
 have hno:¬(((((items.size:Nat):Int) - 1) == 0 && (-1:Int) == 1 && items.size == items.size)=true):=by
  intro q
  rw[Km,Km] at q
  exact absurd q.1.2 (by decide)
 show wpAny _ _ (if ((((items.size:Nat):Int) - 1) == 0 && (-1:Int) == 1 && items.size == items.size)=true then _ else _) _ _ s
 rw[Kw hno,qG]
 first
  |exact Ki (m:=Builtin.Tuple.tupleExact _) (Lo (Kv ⟨_,rfl,Kv h⟩) htake)
  |exact Ki (m:=Builtin.Tuple.tupleExact _) (Lo (Ki (Kv (Kv ⟨_,rfl,Kv h⟩))) htake)
  |exact Ki (Ki (m:=Builtin.Tuple.tupleExact _) (Lo (Kv (Kv ⟨_,rfl,Kv h⟩)) htake))
  |exact Ki (Ki (m:=Builtin.Tuple.tupleExact _) (Lo (Kv ⟨_,rfl,Kv h⟩) htake))
end
end HT
namespace L2
open PySem PySem.Spec PyProof.Rows
section
variable {X:Cx}{Γ:Fx}{E:XK}{e a:Expr}{te:TE}{fa:VF D}{La:List Nat}{ma:Md}{pos p2 p3 p4:Pos}{j:Nat}
def BY (he:PE X e te):PE X (.Subscript e (.Slice none none (some (.UnaryOp .USub (.Constant (.int 1) j p3) p4)) p2) pos) (λσ H Q=>te σ H λx H1=>∃a xs,x=.ref a/\fy X.K H1 a xs/\∀l,H1 l=none->Q (.ref l) (upd H1 l (.tup xs.reverse))):=by
 intro pins s σ H Q I h
 refine Subscript_ (cq (he pins s σ H _ I h) λv s1 ⟨x,H1,I1,r1,q1⟩=>?_)
 obtain⟨a,xs,rfl,hx,q⟩:=q1
 cases r1
 refine wpAny_Slice ?_
 rw[evalPart_none]
 refine Kv (Kv ?_)
 refine cq (q8 (zT mB mG) pins s1 σ H1 (λo H2=>o=some (-1)/\H2=H1) I1 ⟨1,rfl, -1,rfl,rfl,rfl⟩) λvs s2 ⟨o,H2,I2,ps,q2,q3⟩=>?_
 subst q2 q3
 have I3:Inv X pins σ H2 {s2 with heap:=s2.heap.push {cls:=.type "slice",data:=.fields #[.none,.none,vs]}}:=I2.kept (t':=s2.toks) λb ob q=>Kk _ q
 obtain⟨its,r,ht,hz⟩:=I3.tuple hx
 have hlen:its.toArray.size=xs.length:=by rw[Kz];exact r.length.symm
 show wpAny (model X.prog X.w) X.A (subscriptTail e (.Slice none none (some (.UnaryOp .USub (.Constant (.int 1) j p3) p4)) p2) (.ref a) (.ref s2.heap.objs.size)) (EP X pins σ Q) X.xe {s2 with heap:=s2.heap.push {cls:=.type "slice",data:=.fields #[.none,.none,vs]}}
 refine tail_any (ops:=[.ref a,.ref s2.heap.objs.size]) ht.typeIs KY.lookup ?_ (by with_unfolding_all rfl)
 refine HT.lb ht (Heap.IsSliceOf.new ..) ps ?_ (by rw[hlen];exact hz)
 refine⟨.ref _,_,I3.laid (t':=s2.toks) (o:=.tup xs.reverse) (λb ob q=>Kk _ q) (Kj _) ?_,rfl,q _ (I3.hok.fresh (Kj _))⟩
 exact⟨by rw[Ms];exact hz,_,r.reverse,oU.new _ _⟩
theorem cn.reverse {K:Frag}{G:Hp}:∀{xs:List V} {ds:List D},cn K G xs ds->cn K G xs.reverse ds.reverse
 |_,_,.nil=>.nil
 |_,_,.cons h hs=>by rw[MD,MD];exact (cn.reverse hs).snoc h
def B3:D->Option D
 | .tuple ds=>some (.tuple ds.reverse)
 |_=>none
theorem xR (hK:X.K=Γ.K)(ha:SE X Γ E a fa La ma):SE X Γ E (.Subscript a (.Slice none none (some (.UnaryOp .USub (.Constant (.int 1) j p3) p4)) p2) pos) (f1 fa B3) La .v:=by
 refine PE.post' (BY ha) ?_
 rintro σ H Q ⟨env,G,B,β,I,o⟩
 refine⟨env,G,B,β,I,o.bnd.imp λd1 β1 h x G1 H1 I1 s1 m1 vx=>?_⟩
 have bx:=vx.brw I.boxThere
 obtain⟨d,e,k⟩:=h.of
 cases d1 with
 |tuple ds=>
  cases e
  obtain⟨p,xs,rfl,hq,r⟩:=bx.tuple I1.sub
  rw[hK]
  refine⟨p,xs,rfl,hq,λl hl=>?_⟩
  have x:=Ext.new I1.sub (o:=.tup xs.reverse) hl
  exact k _ _ _ (I1.ext x) (s1.trans x.gg) (m1.trans (x.hh.mov B)) (.tup (.inl (.inl aB)) ((r.reverse).mono x.gg))
 |_=>cases e
end
end L2
end
namespace L2
open PySem PySem.Spec PyProof.Rows
def zu (items:Array Value):slicePick items none none (some (-1))=items.toList.reverse.toArray:=by
 have e:slicePick items none none (some (-1))=(((List.range (if ((items.size:Int) - 1) > -1 then (((items.size:Int) - 1) - (-1) - (-1) - 1) / (-(-1)) else 0).toNat).map λ(k:Nat)=>(((items.size:Int) - 1) + (-1) * (k:Int)).toNat).filterMap (items[·]?)).toArray:=rfl
 rw[e]
 have ec:(if ((items.size:Int) - 1) > -1 then (((items.size:Int) - 1) - (-1) - (-1) - 1) / (-(-1)) else 0).toNat=items.size:=by
  rw[show (-(-1:Int))=1 by rfl,Int.ediv_one]
  split <;> omega
 rw[ec,List.filterMap_map]
 congr 1
 rw[<-HT.qG]
 refine HT.oI λm _=>?_
 show items[(((items.size:Int) - 1) + (-1) * (m:Int)).toNat]? =items[(((items.size:Int) - 1) + (m:Int) * (-1)).toNat]?
 rw[Int.mul_comm]
section
variable {X:Cx}{Γ:Fx}{E:XK}{e a:Expr}{te:TE}{fa:VF D}{La:List Nat}{ma:Md}{pos p2 p3 p4:Pos}{j:Nat}
def A1 (he:PE X e te):PE X (.Subscript e (.Slice none none (some (.UnaryOp .USub (.Constant (.int 1) j p3) p4)) p2) pos) (λσ H Q=>te σ H λx H1=>∃a xs,x=.ref a/\iw X.K H1 a xs/\∀l,H1 l=none->Q (.ref l) (upd H1 l (.lst xs.reverse))):=by
 intro pins s σ H Q I h
 refine Subscript_ (cq (he pins s σ H _ I h) λv s1 ⟨x,H1,I1,r1,q1⟩=>?_)
 obtain⟨a,xs,rfl,hx,q⟩:=q1
 cases r1
 refine wpAny_Slice ?_
 rw[evalPart_none]
 refine Kv (Kv ?_)
 refine cq (q8 (zT mB mG) pins s1 σ H1 (λo H2=>o=some (-1)/\H2=H1) I1 ⟨1,rfl, -1,rfl,rfl,rfl⟩) λvs s2 ⟨o,H2,I2,ps,q2,q3⟩=>?_
 subst q2 q3
 have I3:Inv X pins σ H2 {s2 with heap:=s2.heap.push {cls:=.type "slice",data:=.fields #[.none,.none,vs]}}:=I2.kept (t':=s2.toks) λb ob q=>Kk _ q
 obtain⟨its,r,ht,hz⟩:=I3.list hx
 have hlen:=r.length
 show wpAny (model X.prog X.w) X.A (subscriptTail e (.Slice none none (some (.UnaryOp .USub (.Constant (.int 1) j p3) p4)) p2) (.ref a) (.ref s2.heap.objs.size)) (EP X pins σ Q) X.xe {s2 with heap:=s2.heap.push {cls:=.type "slice",data:=.fields #[.none,.none,vs]}}
 refine tail_any (ops:=[.ref a,.ref s2.heap.objs.size]) ht.isList.typeIs slot_list_getitem.lookup ?_ (by with_unfolding_all rfl)
 refine wpAny_getItem_list_slice ht.isList (Heap.IsSliceOf.new ..) .none .none ps (by simp) ?_ (by rw[Kz] <;> omega)
 rw[zu]
 refine⟨.ref _,_,I3.laid (t':=s2.toks) (o:=.lst xs.reverse) (λb ob q=>Kk _ q) (Kj _) ?_,rfl,q _ (I3.hok.fresh (Kj _))⟩
 exact⟨by rw[Ms];exact hz,_,0,r.reverse,KL _ rfl⟩
def Aw:D->Option D
 | .list ds=>some (.list ds.reverse)
 |_=>none
theorem z5 (hK:X.K=Γ.K)(ha:SE X Γ E a fa La ma):SE X Γ E (.Subscript a (.Slice none none (some (.UnaryOp .USub (.Constant (.int 1) j p3) p4)) p2) pos) (f1 fa Aw) La .w:=by
 refine PE.post' (A1 ha) ?_
 rintro σ H Q ⟨env,G,B,β,I,o⟩
 refine⟨env,G,B,β,I,o.bnd.imp λd1 β1 h x G1 H1 I1 s1 m1 vx=>?_⟩
 have bx:=vx.brw I.boxThere
 obtain⟨d,e,k⟩:=h.of
 cases d1 with
 |list ds=>
  cases e
  obtain⟨p,xs,rfl,hq,r⟩:=bx.list I1.sub
  rw[hK]
  refine⟨p,xs,rfl,.inl hq,λl hl=>?_⟩
  have x:=Ext.own I1.sub (o:=.lst xs.reverse) hl
  exact k _ _ _ (I1.ext x) s1 (m1.trans (x.hh.mov B)) ⟨l,rfl,e9 m1 I1.boxThere hl,I1.sub.free hl,xs.reverse,aB,r.reverse⟩
 |_=>cases e
end
def GI (K:Frag):R2:=λx y H Q=>∃a b xs,x=.ref a/\y=.ref b/\iw K H a xs/\iw K H b []/\Q (.bl xs.isEmpty) H
theorem Ax {X:Cx}(hu:X.A.units + 64 < cLine):jT X (compareOp .Eq) (GI X.K):=by
 intro pins s σ H x y v u Q I rx ry h
 obtain⟨a,b,xs,rfl,rfl,ha,hb,q⟩:=h
 cases rx
 cases ry
 obtain⟨its,r,ht,hz⟩:=I.list ha
 obtain⟨its2,r2,ht2,hz2⟩:=I.list hb
 cases r2
 cases r with
 |nil=>exact PySem.SeqAt.eq_listAt (e:=λ_=>true) ht.isList ht2.isList rfl (by omega) (λj h1 _=>absurd h1 (by simp)) ⟨.bl true,H,I,rfl,q⟩
 |cons _ _=>exact PySem.SeqAt.eq_list_lengthsAt ht.isList ht2.isList (by simp) (by omega) ⟨.bl false,H,I,rfl,q⟩
def v9:D->D->Option D
 | .list ds,.list []=>some (.bool ds.isEmpty)
 |_,_=>none
theorem BZ {K:Frag}:kY K (GI K) v9 .v:=by
 intro B G H x y dx dy d Q s hB bx by' e k
 cases dx with
 |list ds=>
  cases dy with
  |list es=>
   cases es with
   |nil=>
    cases e
    obtain⟨p,xs,rfl,hq,r⟩:=bx.list s
    obtain⟨p2,ys,rfl,hq2,r2⟩:=by'.list s
    cases r2
    refine⟨p,p2,xs,rfl,rfl,.inl hq,.inl hq2,?_⟩
    have:xs.isEmpty=ds.isEmpty:=by cases r <;> rfl
    rw[this]
    exact k _ G H (Ext.refl s) (.bl _)
   |cons _ _=>cases e
  |_=>cases e
 |_=>cases e
end L2
namespace L2
open PySem
section
variable {K:Frag}{h:Heap}{mg:Str->Option Value}
theorem zU {α:Type}{P:List α->Prop}(q:∀a,P [a]):∀us:List α,us.length=1->P us
 | [a],_=>q a
theorem ln2 {α:Type}{P:List α->Prop}(q:∀a b,P [a,b]):∀us:List α,us.length=2->P us
 | [a,b],_=>q a b
theorem Dx {α:Type}{P:List α->Prop}(q:∀a b c,P [a,b,c]):∀us:List α,us.length=3->P us
 | [a,b,c],_=>q a b c
theorem Kd {α:Type}{P:List α->Prop}(q:∀a b c d,P [a,b,c,d]):∀us:List α,us.length=4->P us
 | [a,b,c,d],_=>q a b c d
def bh (x:Str)(st:Stmt)(ps:List Str):Prop:=∀(kV doc pm:Value) (an:Option Addr) (cdv ct:Value) (us:List Value),us.length=ps.length->bindArgs (PySem.W.fnOf x x (iP st) (dY st) (av st) .none kV doc pm an cdv ct) ⟨us,[]⟩=pure (ps.zip us)
structure Fo (K:Frag)(mg:Str->Option Value)(x:Str)(st:Stmt)(ps:List Str):Prop where
 ex:∃f fd,jg K mg x st ps f fd
def bV {x:Str}{st:Stmt}{ps:List Str}{f:Addr}{oc:Value}{od an:Option Addr}{sl:Array (Option Value)}{kV doc pm cdv ct:Value}(X:K.In h)(G:h.Ns mainGlobals mg)(b:bh x st ps)(a:PySem.W.nsIn K mainGlobals x=some (some (.ref f)))
  (l:K.lookup f=some ⟨oc,od,.func (PySem.W.fnOf x x (iP st) (dY st) (av st) .none kV doc pm an cdv ct),sl⟩) (c:PySem.W.codeIn K cdv x=true) (k:PySem.W.keepIn K (.ref f)=true):Fo K mg x st ps:=
 ⟨⟨f,_,Mb X G a,uZ l c k,(uZ l c k).binds b⟩⟩
def IH:List Str:=["len","range","enumerate","zip","min","max","sum","abs","sorted","reversed","int","str","bool","list","tuple","dict","set","isinstance","repr","any","all","divmod"]
def Jg (K:Frag):Bool:=IH.all λx=>match PySem.W.nsIn K mainGlobals x with
 |some none=>true
 |_=>false
def Ex (q:Jg K=true){x:Str}(hx:x∈IH):PySem.W.nsIn K mainGlobals x=some none:=by
 have:=Lf.mp q x hx
 split at this
 ·assumption
 ·cases this
def Hn (X:K.In h)(G:h.Ns mainGlobals mg)(q:Jg K=true):jQ mg:=by
 have key:∀{x:Str},x∈IH->mg x=none:=λhx=>PySem.W.mg_none_of X G (Ex q hx)
 constructor <;> exact key (by decide)
end
section
variable {X:Cx}{P:Program}{w:World}{K:Frag}{mg:Str->Option Value}{base:Heap}{ca:Str->Addr}
def jW (step:(List D->FR)->List D->FR):Nat->List D->FR
 | 0=>λ_=>.bad
 |n + 1=>step (jW step n)
theorem rS {x:Str}{st:Stmt}{ps:List Str}{f:Addr}{fd:FuncData}{j:Nat}{step:(List D->FR)->List D->FR}(F:jg K mg x st ps f fd)
  (h:∀(k:Nat) (F':List D->FR),j<=k->cW P w K mg base ca x ps k F'->cW P w K mg base ca x ps (k + 1) (step F')):∀n,cW P w K mg base ca x ps (j + n) (jW step n)
 | 0=>⟨⟨f,fd,F.mg,F.F.kp,F.b,uQ⟩,λds hn=>(hn rfl).elim⟩
 |n + 1=>h (j + n) _ (Nat.le_add_right _ _) (rS F h n)
end
end L2
section
namespace HT
open PySem PySem.Spec PyProof.Rows
section
variable {prog:Program}{w:World}{A:Around}{E:Value->Shared->Prop}{s:Shared}
def kL {t sl:Addr}{items:Array Value}{vl vu:Value}{lo hi:Option Int}{Q:Value->Shared->Prop}(ht:IsTup s.heap t items)(hs:s.heap.IsSliceOf sl vl vu .none)(pl:IsPart vl lo)(pu:IsPart vu hi)
  (hw:dM items.size 0 lo=0/\dM items.size items.size hi=items.size) (h:Q (.ref t) s):wpAny (model prog w) A (getItem (.ref t) (.ref sl)) Q E s:=by
 obtain⟨os,hos,hcs,hds⟩:=id hs
 have hTs:s.TypeIs (.ref sl) "slice":=⟨os,hos,hcs⟩
 unfold getItem
 try with_reducible refine L0 ?_
 first |refine Ki (Kv ?_) |skip
 refine Ki (wpAny_sequenceKey ht.typeIs (by decide) ?_)
 refine Ki (L9 (name:=Str.ofString "__getitem__") ht.typeIs KY
  (Mn KY ht.typeIs entry_tuple_getitem ?_ (args_tuple_getitem _ _)))
 show wpAny _ _ (Builtin.Tuple.tupleItemsOf (.ref t) >>= _) _ _ s
 refine Ki (tupleItemsOf_ ht ?_)
 refine Ki (wpAny_typeOf hTs ?_)
 rw[Kl (by decide)]
 refine Ki (je hs pl pu ?_)
 rw[hw.1,hw.2]
 show wpAny _ _ (if (((0:Nat):Int) == 0 && (1:Int) == 1 && (items.size - 0) == items.size)=true then _ else _) _ _ s
 rw[Kl (by simp)]
 refine Ki ?_
 unfold Builtin.Tuple.tupleIsExact
 first
  |refine Ki (wpAny_typeOf ht.typeIs (Kv ?_))
  |refine Ki (wpAny_typeOf ht.typeIs ?_)
 first |rw[Kl (by decide)] |skip
 first
  |exact Ki (wpAny_rule (Kv ⟨_,rfl,Kv h⟩))
  |exact Ki (Ki (wpAny_rule (Kv ⟨_,rfl,Kv h⟩)))
end
end HT
namespace L2
open PySem PySem.Spec PyProof.Rows
section
variable {X:Cx}{Γ:Fx}{E:XK}{e a b c:Expr}{f fa fb fc:VF D}{L La Lb:List Nat}{md ma mb mc:Md}{pos:Pos}
def JE (K:Frag):V->Option Int->Option Int->Hp->VK->Prop:=λx lo hi H Q=>∃a xs,x=.ref a/\fy K H a xs/\
 ((HT.dM xs.length 0 lo=0/\HT.dM xs.length xs.length hi=xs.length)->Q (.ref a) H)/\
 (¬(HT.dM xs.length 0 lo=0/\HT.dM xs.length xs.length hi=xs.length)->∀p,H p=none->Q (.ref p) (upd H p (.tup (oK xs lo hi))))
def Cf:Ia X (JE X.K):=by
 intro pins s σ H x v vl vu lo hi sl Q I rx hs pl pu h
 obtain⟨a,xs,rfl,hx,hw,q⟩:=h
 by_cases z:HT.dM xs.length 0 lo=0/\HT.dM xs.length xs.length hi=xs.length
 ·have hw:=hw z
  cases rx
  obtain⟨its,r,ht,hz⟩:=I.tuple hx
  have hlen:its.toArray.size=xs.length:=by rw[Kz];exact r.length.symm
  refine⟨"tuple",_,KY.lookup,ht.typeIs,?_⟩
  exact HT.kL ht hs pl pu (by rw[hlen];exact z) ⟨.ref a,H,I,rfl,hw⟩
 ·exact EV pins s σ H (.ref a) v vl vu lo hi sl Q I rx hs pl pu ⟨a,xs,rfl,hx,z,q z⟩
def lL (fa:VF D)(fl fh:VF (Option Int)):VF D:=λvs β=>(fa vs β).bnd λx β1=>(fl vs β1).bnd λl β2=>(fh vs β2).bnd λh β3=>match x with
 | .tuple ds=>.ok (.tuple (cutD ds l h)) β3
 |_=>.bad
def vO {ds:List D}{lo hi:Option Int}(h:HT.dM ds.length 0 lo=0/\HT.dM ds.length ds.length hi=ds.length):cutD ds lo hi=ds:=by
 unfold cutD;rw[h.1,h.2];simp
theorem jk {lo hi:Option Expr}{fl fh:VF (Option Int)}{Ll Lh:List Nat}{p2:Pos}(hK:X.K=Γ.K)(ha:SE X Γ E a fa La ma)(hl:Gb X Γ E lo fl Ll)(hh:Gb X Γ E hi fh Lh):SE X Γ E (.Subscript a (.Slice lo hi none p2) pos) (lL fa fl fh) (La ++ Ll ++ Lh) .v:=by
 refine PE.post' (tI Cf ha hl hh) ?_
 rintro σ H Q ⟨env,G,B,β,I,o⟩
 refine⟨env,G,B,β,I,o.bnd.imp λd1 β1 h x G1 H1 I1 s1 m1 vx=>⟨ba La env,G1,B,β1,I1,?_⟩⟩
 rw[eQ]
 refine h.bnd.imp λl β2 h G2 H2 I2 s2 m2=>⟨ba Ll (ba La env),G2,B,β2,I2,?_⟩
 rw[eQ,eQ]
 refine h.bnd.imp λu β3 h G3 H3 I3 s3 m3=>?_
 rw[<-cm,<-cm,<-Mh] at I3
 have bx:=((vx.brw I.boxThere).mono s2 m2).mono s3 m3
 cases d1 with
 |tuple ds=>
  obtain⟨p,xs,rfl,hq,r⟩:=bx.tuple I3.sub
  rw[hK]
  dsimp only at h
  refine⟨p,xs,rfl,hq,λz=>?_,λhw q hn=>?_⟩
  ·rw[r.len] at z
   rw[vO z] at h
   refine h _ _ _ I3 ((s1.trans s2).trans s3) ((m1.trans m2).trans m3) ?_
   rcases bx with bx | ⟨_,_,_,bx⟩
   ·exact bx
   ·exact bx.elim
  ·have x:=Ext.new I3.sub (o:=.tup (oK xs l u)) hn
   exact h _ _ _ (I3.ext x) (((s1.trans s2).trans s3).trans x.gg) (((m1.trans m2).trans m3).trans (x.mov B)) (.tup (.inl (.inl aB)) ((xI r l u).mono x.gg))
 |_=>exact h.elim
end
end L2
end
namespace RM
open PySem L2
def lM:SF:=(bB (c8 (f1 (gv 0) (dw "int")) (f1 (f1 (gv 0) (dw "bool")) yh)))
def gS (bJ:List D->FR):SF:=(aM (bS 1 [] (bH ah))
 (aM (fg (.nm 2) ([] ++ []) (bP (f2 (gv 0) (cst (.int 0)) aW))
 (bS 1 ([] ++ (([] ++ []) ++ [0,2])) (f2 (gv 1) (aQ 1 [0,2] (.nm 0) (bP (f2 (gv 0) (cst (.int 0)) aW)) (fR (aF bJ (aa (gv 1) (aa (gv 2) (aa (gv 0) ah))))) (aR (aa (gv 2) (aa (gv 0) ah)))) eR)))
 (Ar 1)))
end RM
namespace L2
open PySem
section
variable {P:Program}{w:World}{K:Frag}{mg:Str->Option Value}{base:Heap}{ca:Str->Addr}
def nk (step:(List D->Int->FB)->List D->Int->FB):Nat->List D->Int->FB
 | 0=>λ_ _=>.bad
 |n + 1=>step (nk step n)
theorem oZ {x:Str}{st:Stmt}{ps:List Str}{f:Addr}{fd:FuncData}{j:Nat}{step:(List D->Int->FB)->List D->Int->FB}(F:jg K mg x st ps f fd)
  (h:∀(k:Nat) (F':List D->Int->FB),j<=k->iy P w K mg base x ps k F'->iy P w K mg base x ps (k + 1) (step F')):∀n,iy P w K mg base x ps (j + n) (nk step n)
 | 0=>⟨⟨f,fd,F.mg,F.F.kp,F.b,(uQ (ca:=λ_=>0)).imp λvs H Q E ⟨b,rest,G,ds,β,e,hb,gb,s,hl,r,q⟩=>q.elim⟩,λds β hn=>(hn rfl).elim⟩
 |n + 1=>h (j + n) _ (Nat.le_add_right _ _) (oZ F h n)
end
section
variable {X:Cx}{Γ:Fx}{E:XK}{e a b c:Expr}{f g:VF D}{L:List Nat}{pos:Pos}
def jX (f g:VF D):VF D:=λvs β=>match f vs β with
 | .bad=>g vs β
 |r=>r
theorem oy (h1:SE X Γ E e f L .v)(h2:SE X Γ E e g L .v):SE X Γ E e (jX f g) L .v:=by
 intro pins s σ H Q I q
 obtain⟨env,G,B,β,J,o⟩:=q
 cases c:f (vl env) β with
 |bad=>
  refine h2 pins s σ H Q I ⟨env,G,B,β,J,?_⟩
  unfold jX at o
  rw[c] at o
  exact o
 |ok d β'=>
  refine h1 pins s σ H Q I ⟨env,G,B,β,J,?_⟩
  unfold jX at o
  rw[c] at o
  rw[c]
  exact o
 |exc x=>
  refine h1 pins s σ H Q I ⟨env,G,B,β,J,?_⟩
  unfold jX at o
  rw[c] at o
  rw[c]
  exact o
def BD {vs:List Nv}{β β':Int}{d:D}(h:f vs β=.ok d β'):jX f g vs β=.ok d β':=by unfold jX;rw[h]
def AY {vs:List Nv}{β β':Int}{d:D}(h:f vs β=.bad)(h':g vs β=.ok d β'):jX f g vs β=.ok d β':=by unfold jX;rw[h];exact h'
def zK (i j k:Nat)(d:D)(env:En):Option En:=match d with
 | .tuple [x,y,z]=>some (((env.set i (.fz x)).set j (.fz y)).set k (.fz z))
 |_=>none
def zN (i j k:Nat)(L:List Nat)(f:VF D):SF:=λenv β=>toS (f (vl env) β) λd β'=>match zK i j k d (ba L env) with
 |some env'=>.nx env' β'
 |none=>.bad
theorem BO {i j k:Nat}{t1 t2 t3:Expr}{n:Nat}{pt:Pos}(he:SE X Γ E e f L .v)(g1:SG X Γ t1 (.nm i))(g2:SG X Γ t2 (.nm j))(g3:SG X Γ t3 (.nm k))(ha1:(assignEach [t1,t2,t3] X.env).map (·.2)=assign t1 X.env :: (assignEach [t2,t3] X.env).map (·.2):=by rfl)(ha2:(assignEach [t2,t3] X.env).map (·.2)=assign t2 X.env :: (assignEach [t3] X.env).map (·.2):=by rfl)(ha3:(assignEach [t3] X.env).map (·.2)=assign t3 X.env :: (assignEach [] X.env).map (·.2):=by rfl)(hn2:(assignEach [t1,t2,t3] X.env).length=3:=by rfl)(hst:(assignEach [t1,t2,t3] X.env).findIdx? (·.1)=none:=by rfl)(hc:X.calm=true:=by rfl)(hK:X.K=Γ.K:=by rfl)(hs:swapsWithSole [.Tuple [t1,t2,t3] n pt] e pos.line X.env=pure false:=by rfl)(hw:swappedStores [.Tuple [t1,t2,t3] n pt] e X.env=pure none:=by rfl)
  (h1:(assignEach [.Tuple [t1,t2,t3] n pt] X.env).map (·.2)= [assign (.Tuple [t1,t2,t3] n pt) X.env]:=by rfl):SS X Γ E (.Assign [.Tuple [t1,t2,t3] n pt] e pos) (zN i j k L f):=by
 refine PS.post (o5 he (mF (n:=3) hc (cH g1 (cH g2 (cH g3 ku ha3) ha2) ha1) hn2 hst) hs hw h1) λN σ H ⟨env,G,B,β,I,o⟩=>?_
 refine⟨env,G,B,β,I,cX o λd β' kk v G' H' I' s' m' vo=>?_⟩
 rw[hK]
 have vo:Rp Γ.K G' v d:=vo
 cases q:zK i j k d (ba L env) with
 |none=>rw[q] at kk;exact kk.elim
 |some env'=>
  rw[q] at kk
  obtain⟨x,y,z,rfl⟩:∃x y z,d=.tuple [x,y,z]:=by
   unfold zK at q
   split at q
   ·exact⟨_,_,_,rfl⟩
   ·cases q
  cases q
  cases vo with
  | @tup p xs _ hq r=>
   cases r with
   |cons r1 r=>
    cases r with
    |cons r2 r=>
     cases r with
     |cons r3 r=>
      cases r
      exact⟨p,_,rfl,hq.grow I'.sub.grow,rfl,_,_,rfl,ba L env,G',B,β',x,_,I',r1,rfl,λσ1 J1=>⟨_,_,rfl,_,G',B,β',y,_,J1,r2,rfl,λσ2 J2=>⟨_,_,rfl,_,G',B,β',z,_,J2,r3,rfl,λσ3 J3=>⟨rfl,kk B G' H' σ3 J3 s'⟩⟩⟩⟩
end
end L2
namespace RM
open PySem L2
def km (cy eT:List D->FR):SF:=(bB (c8 (aF cy (aa (gv 0) (aa (f2 (gv 1) (cst (.int 0)) aW) ah))) (aF eT (aa (gv 1) (aa (f2 (gv 0) (cst (.int 0)) aW) (aa (f2 (gv 0) (cst (.int 1)) aW) ah))))))
def iG (cK:List D->FR):SF:=(bB (c8 (f1 (gv 0) (dw "list")) (f1 (aQ 1 [1] (.nm 0) (fj (gv 0)) i7 (aF cK (aa (gv 0) (aa (gv 1) ah)))) (bN λbs=>bs.all id))))
def ju:SF:=(bB (EO (f2 (f2 (gv 1) (cst (.int 0)) aW) (f2 (gv 2) (cst (.int 1)) aW) (cG false)) (f2 (aR (aa (f2 (gv 1) (cst (.int 0)) aW) (aa (f2 (gv 2) (cst (.int 1)) aW) ah))) (f2 (gv 0) (cst (.int 1)) aW) (rz false))))
def df (e8 fK:List D->FR):SF:=(aM (iD (([0] ++ ([1] ++ [])) ++ ([] ++ [])) (gB (ly (fR (aF e8 (aa (gv 0) (aa (gv 1) ah))))) (cL (f2 (f1 (gv 0) bW) (cst (.int 0)) (cG false))))
 (bB (cst (.bool false)))
 jR)
 (bB (f1 (aQ 1 [1,0] (.nm 0) (bP (f1 (gv 0) bW)) i7 (aF fK (aa (gv 1) (aa (f2 (gv 2) (f2 (gv 0) (cst (.int 1)) ji) aW) (aa (f2 (gv 2) (gv 0) aW) ah))))) (bN λbs=>bs.all id))))
def gV (bt:List D->FR):SF:=(iD (([0] ++ []) ++ []) (gB (ly (fR (aF bt (aa (gv 0) ah)))) (ly (cL (fx (cst (.int 1)) (gv 0) (cst (.int 8)) tf tf))))
 (λenv β=>toS ((aa (cst (.str "this is no number of rows")) ah) (vl env) β) λds _=>if ds.length<=sizeLine then .exc "NoNumber" else .bad)
 jR)
def dA (dv:List D->FR):SF:=(bB (c8 (aF dv (aa (gv 0) (aa (gv 1) ah))) (f1 (aQ 1 [2] (.nm 0) (fj (gv 0)) i7 (f2 (gv 0) (gv 1) (rz false))) (bN λbs=>bs.all id))))
def qZ (gF bZ di cK:List D->FR):SF:=(aM (iD ([] ++ ([] ++ [])) (gB (ly (fR (f1 (gv 0) (dw "tuple")))) (cL (f2 (f1 (gv 0) bW) (cst (.int 3)) (cG true))))
 (bB (cst (.bool false)))
 jR)
 (aM (iD (([] ++ []) ++ []) (cL (f2 (f2 (gv 0) (cst (.int 0)) aW) (cst (.str "ring")) (cG false)))
 (bB (c8 (aF bZ (aa (f2 (gv 0) (cst (.int 1)) aW) (aa (f1 (gv 2) bW) ah))) (aF di (aa (f2 (gv 0) (cst (.int 2)) aW) (aa (gv 1) (aa (f2 (gv 2) (f2 (gv 0) (cst (.int 1)) aW) aW) ah))))))
 jR)
 (aM (iD ((([] ++ []) ++ []) ++ (([] ++ []) ++ ([1] ++ []))) (gB (cL (f2 (f2 (gv 0) (cst (.int 0)) aW) (cst (.str "turn")) (cG true))) (ly (fR (aF cK (aa (f2 (gv 0) (cst (.int 1)) aW) (aa (gv 1) ah))))))
 (bB (cst (.bool false)))
 jR)
 (aM (iD (([] ++ []) ++ (([] ++ []) ++ [])) (gB (ly (fR (f1 (f2 (gv 0) (cst (.int 2)) aW) (dw "tuple")))) (cL (f2 (f1 (f2 (gv 0) (cst (.int 2)) aW) bW) (f1 (gv 2) bW) (cG true))))
 (bB (cst (.bool false)))
 jR)
 (aM (fg (.two 3 4) ([] ++ []) (wZ (f2 (gv 0) (cst (.int 2)) aW))
 (iD ([4] ++ ([1] ++ ((((([] ++ []) ++ []) ++ ((([] ++ []) ++ (([] ++ []) ++ [])) ++ [])) ++ (([] ++ ([] ++ [])) ++ [])) ++ []))) (ly (fR (aF gF (aa (gv 4) (aa (gv 1) (aa (f2 (f2 (p9 (gv 2) (λ_ β=>.ok none β) (kK (gv 3))) (bH (aa (f2 (f2 (gv 2) (gv 3) aW) (aR (aa (f2 (gv 0) (cst (.int 1)) aW) ah)) jO) ah)) eR) (p9 (gv 2) (kK (f2 (gv 3) (cst (.int 1)) b4)) (λ_ β=>.ok none β)) eR) ah))))))
 (bB (cst (.bool false)))
 jR))
 (bB (cst (.bool true))))))))
def dU (dq dk gF:List D->FR):SF:=(aM (qm ([1] ++ []) (aF dq (aa (gv 1) ah)))
 (aM (qm ([2] ++ []) (aF dk (aa (gv 2) ah)))
 (bB (aF gF (aa (gv 0) (aa (gv 1) (aa (f2 (bH (aa (aR ah) ah)) (gv 2) B0) ah)))))))
def gk (aw:List D->Int->FB):SF:=(aM (bS 1 ([] ++ ([] ++ ([] ++ ([] ++ ([] ++ ([] ++ ([] ++ (([] ++ []) ++ (([] ++ []) ++ ([] ++ ([] ++ ([] ++ (([] ++ ((([] ++ ([] ++ [])) ++ []) ++ [])) ++ (([] ++ ((([] ++ ([] ++ [])) ++ []) ++ [])) ++ [])))))))))))))) (bH (aa (cst .none) (aa (cst (.bool true)) (aa (cst (.bool false)) (aa (cst (.int 9)) (aa (cst (.int (-1))) (aa (cst (.str "1")) (aa (cst (.str "")) (aa (aR (aa (cst (.int 1)) ah)) (aa (bH (aa (cst (.int 1)) ah)) (aa (cst (.dict [(.str "a",.int 1)])) (aa (aR ah) (aa (f2 (cst (.int 10)) (cst (.int 39)) Bj) (aa (aR (aa (cst (.int 1)) (aa (aR (aa (aR (aa (cst (.int 0)) (aa (cst (.int 0)) ah))) ah)) ah))) (aa (aR (aa (cst (.int 2)) (aa (bH (aa (aR (aa (cst (.int 0)) (aa (cst (.int 1)) ah))) ah)) ah))) ah))))))))))))))))
 (bB (f2 (f2 (gv 1) (bH (aa (bH (aa (aR ah) ah)) (aa (cst (.int 0)) ah))) eR) (iY 0 aw (aa (cst (.int 16)) ah)) aW)))
noncomputable def eh (eZ:List D->FR)(aw bY:List D->Int->FB):SF:=(aM (bS 2 ([] ++ ([1] ++ [])) (f2 (cst (.int 1)) (iY 0 aw (aa (gv 1) ah)) b4))
 (aM (bS 3 (([] ++ ([] ++ [])) ++ []) (aQ 1 [0,2] (.nm 0) (bP (f2 (cst (.int 1)) (iY 0 aw (aa (cst (.int 3)) ah)) b4)) i7 (iY 1 bY (aa (f1 (gv 2) gn) ah))))
 (aM (iD (([] ++ []) ++ (([] ++ []) ++ [])) (tT (cL (f2 (gv 2) (cst (.int 6)) (cG false))) (cL (f2 (iY 0 aw (aa (cst (.int 3)) ah)) (cst (.int 2)) (cG false))))
 (aM (bS 4 ([] ++ []) (iY 0 bY (aa (f1 (cst (.int 6)) gn) ah)))
 (aM (bS 5 [] (bH ah))
 (aM (fg (.nm 6) [] (bP (cst (.int 3)))
 (bS 5 ([] ++ ([] ++ [])) (f2 (gv 5) (aQ 1 [6,4] (.nm 0) (bP (cst (.int 3))) (cL (f2 (gv 0) (gv 1) (cG true))) (aR (aa (f2 (gv 2) (gv 1) aW) (aa (f2 (gv 2) (f2 (cst (.int 3)) (gv 0) b4) aW) ah)))) eR)))
 (bB (aR (aa (cst (.int 6)) (aa (f1 (f1 (gv 5) o8) lu) ah)))))))
 jR)
 (bB (aR (aa (gv 2) (aa (aF eZ (aa (gv 2) (aa (gv 3) ah))) ah)))))))
def qr:SF:=(bB (EO (f2 (f2 (gv 1) (cst (.int 0)) aW) (f2 (gv 2) (cst (.int 1)) aW) (cG false)) (f2 (aR (aa (f2 (gv 1) (cst (.int 0)) aW) (aa (f2 (gv 2) (cst (.int 1)) aW) ah))) (f2 (gv 0) (cst (.int 1)) aW) (rz false))))
def du (bK bJ:List D->FR):SF:=(aM (iD ([] ++ (([] ++ []) ++ ([] ++ []))) (gB (ly (fR (f1 (gv 1) (dw "tuple")))) (gB (cL (f2 (f1 (gv 1) bW) (cst (.int 2)) (cG true))) (ly (fR (f1 (aQ 1 [] (.nm 0) (fj (gv 1)) i7 (aF bK (aa (gv 0) ah))) (bN λbs=>bs.all id))))))
 (bB (cst (.bool false)))
 jR)
 (bB (c8 (f1 (aQ 1 [0] (.nm 0) (fj (gv 1)) i7 (fx (cst (.int 0)) (gv 0) (f2 (gv 1) (cst (.int 0)) aW) tf sW)) (bN λbs=>bs.all id)) (aF bJ (aa (gv 0) (aa (f2 (gv 1) (cst (.int 0)) aW) (aa (f2 (gv 1) (cst (.int 1)) aW) ah)))))))
def eS (aV cx:List D->FR):SF:=(aM (iD ([] ++ (([] ++ []) ++ ([] ++ [0]))) (gB (ly (fR (f1 (gv 1) (dw "list")))) (gB (cL (f2 (gv 1) (bH ah) v9)) (ly (fR (f1 (aQ 1 [0] (.nm 0) (fj (gv 1)) i7 (aF aV (aa (gv 1) (aa (gv 0) ah)))) (bN λbs=>bs.all id))))))
 (bB (cst (.bool false)))
 jR)
 (bB (f1 (aQ 1 [0,1] (.nm 0) (bP (f1 (gv 1) bW)) i7 (aF cx (aa (gv 1) (aa (f2 (gv 2) (f2 (gv 0) (cst (.int 1)) ji) aW) (aa (f2 (gv 2) (gv 0) aW) ah))))) (bN λbs=>bs.all id))))
def hU (bu bK eY aV:List D->FR):SF:=(aM (iD ([] ++ ([] ++ [])) (gB (ly (fR (f1 (gv 0) (dw "tuple")))) (cL (f2 (f1 (gv 0) bW) (cst (.int 3)) (cG true))))
 (bB (cst (.bool false)))
 jR)
 (aM (iD (([] ++ []) ++ []) (cL (f2 (f1 (f2 (gv 0) (cst (.int 0)) aW) iX) (cst (.str "'ring'")) (uK false)))
 (aM (iD ((([] ++ []) ++ []) ++ ([] ++ ([1] ++ (([] ++ []) ++ [])))) (gB (ly (fR (aF bK (aa (f2 (gv 0) (cst (.int 1)) aW) ah)))) (gB (ly (cL (fx (cst (.int 0)) (f2 (gv 0) (cst (.int 1)) aW) (f1 (gv 2) bW) tf sW))) (ly (fR (aF eY (aa (gv 1) (aa (f2 (gv 0) (cst (.int 2)) aW) ah)))))))
 (bB (cst (.bool false)))
 jR)
 (bB (f2 (aQ 1 [2,0] (.nm 0) (fj (f2 (gv 0) (cst (.int 2)) aW)) (cL (f2 (gv 0) (f2 (gv 1) (f2 (gv 2) (cst (.int 1)) aW) aW) (rz true))) (gv 0)) (bH ah) (cG false))))
 jR)
 (aM (iD ((([] ++ []) ++ []) ++ ([1] ++ (([] ++ []) ++ []))) (gB (cL (f2 (f1 (f2 (gv 0) (cst (.int 0)) aW) iX) (cst (.str "'turn'")) (uK true))) (ly (fR (aF aV (aa (gv 1) (aa (f2 (gv 0) (cst (.int 1)) aW) ah))))))
 (bB (cst (.bool false)))
 jR)
 (aM (iD (([] ++ []) ++ (([] ++ []) ++ [])) (gB (ly (fR (f1 (f2 (gv 0) (cst (.int 2)) aW) (dw "tuple")))) (cL (f2 (f1 (f2 (gv 0) (cst (.int 2)) aW) bW) (f1 (gv 2) bW) (cG true))))
 (bB (cst (.bool false)))
 jR)
 (aM (fg (.nm 3) [] (bP (f1 (gv 2) bW))
 (aM (bS 4 (((([] ++ []) ++ []) ++ ((([] ++ []) ++ (([] ++ []) ++ [])) ++ [])) ++ (([] ++ ([] ++ [])) ++ [])) (f2 (f2 (p9 (gv 2) (λ_ β=>.ok none β) (kK (gv 3))) (bH (aa (f2 (f2 (gv 2) (gv 3) aW) (bH (aa (f2 (gv 0) (cst (.int 1)) aW) ah)) eR) ah)) eR) (p9 (gv 2) (kK (f2 (gv 3) (cst (.int 1)) b4)) (λ_ β=>.ok none β)) eR))
 (iD ((([] ++ []) ++ []) ++ ([1] ++ ([4] ++ []))) (ly (fR (aF bu (aa (f2 (f2 (gv 0) (cst (.int 2)) aW) (gv 3) aW) (aa (gv 1) (aa (gv 4) ah))))))
 (bB (cst (.bool false)))
 jR)))
 (bB (cst (.bool true))))))))
def eH (cx:List D->FR):SF:=(aM (fg (.nm 2) [1] (fj (gv 1))
 (fg (.nm 3) [1] (fj (gv 1))
 (iD (([0] ++ ([2] ++ ([3] ++ []))) ++ ([0] ++ ([3] ++ ([2] ++ [])))) (tT (fR (aF cx (aa (gv 0) (aa (gv 2) (aa (gv 3) ah))))) (fR (aF cx (aa (gv 0) (aa (gv 3) (aa (gv 2) ah))))))
 (mU (bH (aa (gv 2) (aa (gv 3) ah))))
 jR)))
 (bB (cst .none)))
def g7 (cA dh:List D->FR)(bw aw:List D->Int->FB):SF:=(aM (fg (.nm 4) [] (bP (f1 (gv 2) bW))
 (aM (bS 5 ([1] ++ (([] ++ []) ++ [])) (aF cA (aa (gv 1) (aa (f2 (gv 2) (gv 4) aW) ah))))
 (iD [] (tN (gv 5) true)
 (bB (aR (aa (cst (.str "ring")) (aa (gv 4) (aa (gv 5) ah)))))
 jR)))
 (aM (bS 6 ([1] ++ []) (aF dh (aa (gv 1) ah)))
 (aM (iD (([] ++ []) ++ ([] ++ [])) (gB (cL (f2 (gv 3) (cst (.int 0)) (cG false))) (cL (f2 (gv 6) (bH ah) (cG false))))
 (bB (aR (aa (cst (.str "ring")) (aa (cst (.int 0)) (aa (p9 (f2 (gv 2) (cst (.int 0)) aW) (λ_ β=>.ok none β) (kK (cst (.int 1)))) ah)))))
 jR)
 (aM (bS 7 ([] ++ ([] ++ [])) (f2 (gv 6) (iY 0 aw (aa (f1 (gv 6) bW) ah)) aW))
 (aM (iD ((([] ++ []) ++ []) ++ (([] ++ []) ++ [])) (tT (cL (f2 (f2 (gv 2) (cst (.int 0)) aW) (bH ah) (cG true))) (cL (f2 (iY 0 aw (aa (cst (.int 3)) ah)) (cst (.int 0)) Ef)))
 (bS 7 (([] ++ []) ++ []) (f1 (f2 (f2 (gv 2) (cst (.int 0)) aW) (f1 (cst (.int 1)) Dg) aW) B3))
 jR)
 (aM (mX 8 [] (bH ah))
 (aM (fg (.nm 4) [] (bP (f1 (gv 2) bW))
 (aM (bS 9 (((([] ++ []) ++ []) ++ ((([] ++ []) ++ ([7] ++ [])) ++ [])) ++ (([] ++ ([] ++ [])) ++ [])) (f2 (f2 (p9 (gv 2) (λ_ β=>.ok none β) (kK (gv 4))) (bH (aa (f2 (f2 (gv 2) (gv 4) aW) (bH (aa (gv 7) ah)) eR) ah)) eR) (p9 (gv 2) (kK (f2 (gv 4) (cst (.int 1)) b4)) (λ_ β=>.ok none β)) eR))
 (sH 8 ([1] ++ ([9] ++ (([] ++ []) ++ []))) (iY 0 bw (aa (gv 1) (aa (gv 9) (aa (f2 (gv 3) (cst (.int 1)) ji) ah)))))))
 (bB (aR (aa (cst (.str "turn")) (aa (gv 7) (aa (f1 (gv 8) lu) ah))))))))))))
def iI (bM aw:List D->Int->FB):SF:=(aM (iD ((([] ++ []) ++ []) ++ ((([] ++ []) ++ []) ++ (([] ++ []) ++ []))) (tT (cL (f2 (f2 (gv 1) (cst (.int 0)) aW) (cst (.str "turn")) (cG false))) (tT (cL (f2 (f2 (gv 1) (cst (.int 2)) aW) (aR ah) (cG true))) (cL (f2 (iY 0 aw (aa (cst (.int 4)) ah)) (cst (.int 0)) Ef))))
 (aM (bS 3 (([] ++ []) ++ []) (iY 0 aw (aa (f1 (f2 (gv 1) (cst (.int 2)) aW) bW) ah)))
 (aM (bS 4 ([] ++ []) (f2 (gv 1) (cst (.int 2)) aW))
 (aM (bS 5 (((([] ++ []) ++ []) ++ ((([] ++ []) ++ ([2] ++ [])) ++ [])) ++ (([] ++ ([] ++ [])) ++ [])) (f2 (f2 (lL (gv 4) (λ_ β=>.ok none β) (kK (gv 3))) (aR (aa (iY 0 bM (aa (f2 (gv 4) (gv 3) aW) (aa (gv 2) ah))) ah)) jO) (lL (gv 4) (kK (f2 (gv 3) (cst (.int 1)) b4)) (λ_ β=>.ok none β)) jO))
 (bB (aR (aa (cst (.str "turn")) (aa (f2 (gv 1) (cst (.int 1)) aW) (aa (gv 5) ah))))))))
 jR)
 (aM (zN 6 7 8 [1] (gv 1))
 (aM (bS 9 (([6] ++ ([2] ++ ([8] ++ []))) ++ (([6] ++ ([7] ++ ([2] ++ []))) ++ (([] ++ ([7] ++ ([8] ++ []))) ++ (([6] ++ ([7] ++ [])) ++ [])))) (bH (aa (aR (aa (gv 6) (aa (gv 2) (aa (gv 8) ah)))) (aa (aR (aa (gv 6) (aa (gv 7) (aa (gv 2) ah)))) (aa (aR (aa (cst (.str "turns")) (aa (gv 7) (aa (gv 8) ah)))) (aa (aR (aa (gv 6) (aa (gv 7) ah))) ah))))))
 (aM (bS 9 ([] ++ (([] ++ ([] ++ [])) ++ ([] ++ ([2] ++ [])))) (f2 (gv 9) (bH (aa (f2 (gv 1) (aR (aa (cst (.int 0)) ah)) jO) (aa (f1 (gv 1) uJ) (aa (gv 2) ah)))) eR))
 (aM (bS 9 ([] ++ (([6] ++ (([] ++ []) ++ ([8] ++ []))) ++ (([6] ++ ([] ++ ([8] ++ []))) ++ []))) (f2 (gv 9) (bH (aa (aR (aa (gv 6) (aa (f2 (gv 7) (cst (.int 1)) (cG false)) (aa (gv 8) ah)))) (aa (aR (aa (gv 6) (aa (cst (.int 1)) (aa (gv 8) ah)))) ah))) eR))
 (aM (bS 9 ([] ++ (([6] ++ ([7] ++ ((([] ++ []) ++ []) ++ []))) ++ (([6] ++ ([7] ++ (([] ++ (([] ++ []) ++ [])) ++ []))) ++ []))) (f2 (gv 9) (bH (aa (aR (aa (gv 6) (aa (gv 7) (aa (jX (p9 (gv 8) (λ_ β=>.ok none β) (kK (f1 (cst (.int 1)) Dg))) (lL (gv 8) (λ_ β=>.ok none β) (kK (f1 (cst (.int 1)) Dg)))) ah)))) (aa (aR (aa (gv 6) (aa (gv 7) (aa (jX (f2 (gv 8) (jX (p9 (gv 8) (λ_ β=>.ok none β) (kK (cst (.int 1)))) (lL (gv 8) (λ_ β=>.ok none β) (kK (cst (.int 1))))) eR) (f2 (gv 8) (jX (p9 (gv 8) (λ_ β=>.ok none β) (kK (cst (.int 1)))) (lL (gv 8) (λ_ β=>.ok none β) (kK (cst (.int 1))))) jO)) ah)))) ah))) eR))
 (aM (bS 9 ([] ++ (([6] ++ ([7] ++ ([] ++ []))) ++ (([6] ++ ([7] ++ ([] ++ []))) ++ (([6] ++ ([7] ++ ([] ++ []))) ++ [])))) (f2 (gv 9) (bH (aa (aR (aa (gv 6) (aa (gv 7) (aa (f1 (gv 8) lu) ah)))) (aa (aR (aa (gv 6) (aa (gv 7) (aa (f1 (gv 8) uJ) ah)))) (aa (aR (aa (gv 6) (aa (gv 7) (aa (jX (f1 (gv 8) Aw) (f1 (gv 8) B3)) ah)))) ah)))) eR))
 (bB (f2 (gv 9) (iY 0 aw (aa (cst (.int 14)) ah)) aW)))))))))
def xX (fW cz bu:List D->FR)(dD aw bw fP bM:List D->Int->FB):SF:=(aM (fg (.nm 1) ([] ++ ([] ++ [])) (bP (f2 (cst (.int 1)) (f2 (f1 (gv 0) bW) (cst (.int 3)) (wd λi j=>.int (if j < i then j else i))) (wd λi j=>.int (if j > i then j else i))))
 (aM (xc 2 ([0] ++ ([1] ++ [])) (uO fW (aa (gv 0) (aa (gv 1) ah))))
 (aM (bS 3 ([] ++ []) (iY 2 dD (aa (cst (.int 6)) ah)))
 (aM (bS 4 ([] ++ ([] ++ [])) (f2 (cst (.int 1)) (iY 2 aw (aa (cst (.int 3)) ah)) b4))
 (aM (bS 5 ([] ++ []) (aQ 1 [] (.nm 0) (bP (gv 4)) i7 (bH ah)))
 (aM (bS 6 ([3] ++ ([5] ++ ((([] ++ ([] ++ ([] ++ []))) ++ ([] ++ [])) ++ []))) (iY 2 bw (aa (gv 3) (aa (gv 5) (aa (f2 (bH (aa (cst (.int 3)) (aa (cst (.int 3)) (aa (cst (.int 2)) ah)))) (f2 (gv 4) (cst (.int 1)) ji) aW) ah)))))
 (aM (bS 7 [] (iY 2 fP ah))
 (aM (bS 8 ([6] ++ ([7] ++ (([] ++ ([] ++ ([] ++ []))) ++ (([] ++ (([] ++ ([] ++ [])) ++ ([] ++ []))) ++ [])))) (bH (aa (gv 6) (aa (gv 7) (aa (aR (aa (cst (.str "ring")) (aa (cst (.int 0)) (aa (bH ah) ah)))) (aa (aR (aa (cst (.str "turn")) (aa (aR (aa (cst (.int 0)) (aa (cst (.int 1)) ah))) (aa (aR ah) ah)))) ah))))))
 (fg (.nm 9) ([] ++ ([] ++ [6,7])) (fj (f2 (gv 8) (aQ 1 [2,6,7] (.nm 0) (bP (cst (.int 5))) i7 (iY 1 bM (aa (gv 2) (aa (gv 3) ah)))) eR))
 (aM (bS 10 [] (f1 (gv 9) iX))
 (aM (bS 11 ([9] ++ ([3] ++ ([4] ++ []))) (aF cz (aa (gv 9) (aa (gv 3) (aa (gv 4) ah)))))
 (aM (bS 12 ([9] ++ ([3] ++ ([5] ++ []))) (aF bu (aa (gv 9) (aa (gv 3) (aa (gv 5) ah)))))
 (iD ([] ++ (([] ++ []) ++ ([] ++ []))) (gB (ly (fR (f1 (gv 11) (dw "bool")))) (gB (cL (f2 (gv 11) (gv 12) (cG true))) (cL (f2 (f1 (gv 9) iX) (gv 10) (uK true)))))
 (bB (cst (.bool false)))
 jR)))))))))))))
 (bB (cst (.bool true))))
end RM
namespace RQ
open PySem L2 RM
def top (i:Nat):Stmt:=PySem.Challenge.pw_rowsorder_k42_case_papers_looked_at.main.body.getD i (.Pass ⟨0,0,0,0⟩)
section
variable {P:Program}{w:World}{K:Frag}{mg:Str->Option Value}{base:Heap}{ca:Str->Addr}
abbrev jM:Stmt:=top 2
def tw:aL ["thing"] ["thing"] (av jM):=⟨rfl,rfl,rfl,by decide +kernel,rfl,by decide +kernel,by decide +kernel⟩
def rO {f:Addr}{fd:FuncData}(F:jg K mg "is_whole" jM ["thing"] f fd)(B:jQ mg):cW P w K mg base ca "is_whole" ["thing"] 1 (bE 1 1 (oS)):=
 ⟨⟨f,fd,F.mg,F.F.kp,F.b,bb (N:=["thing"]) (k:=0) F.F tw λcdv A outer s H G E hr=>
  (ay (aN (eM (eJ "int" (by decide) rfl rfl B.isinstance rfl B.int (by decide +kernel) (af 0)) (eO (vP (eJ "bool" (by decide) rfl rfl B.isinstance rfl B.bool (by decide +kernel) (af 0)))) (λ_ _=>rfl))))⟩,λds h=>aU ds h⟩
abbrev jI:Stmt:=top 3
def uM:aL ["thing","bound"] ["thing","bound"] (av jI):=⟨rfl,rfl,rfl,by decide +kernel,rfl,by decide +kernel,by decide +kernel⟩
def sL {f:Addr}{fd:FuncData}{bt:List D->FR}(F:jg K mg "is_below" jI ["thing","bound"] f fd)(B:jQ mg)(cN:cW P w K mg base ca "is_whole" ["thing"] 1 bt):cW P w K mg base ca "is_below" ["thing","bound"] 2 (bE 2 2 (oW bt)):=
 ⟨⟨f,fd,F.mg,F.F.kp,F.b,bb (N:=["thing","bound"]) (k:=1) F.F uM λcdv A outer s H G E hr=>
  (ay (aN (eM (aO cN (hr.mono (by decide)) a8 rfl rfl (ae (ax 0 rfl) ak)) (eO (oQ oE ui uY z7 ag (af 0) (af 1))) (λ_ _=>rfl))))⟩,λds h=>aU ds h⟩
abbrev kC:Stmt:=top 4
def vR:aL ["thing"] ["thing"] (av kC):=⟨rfl,rfl,rfl,by decide +kernel,rfl,by decide +kernel,by decide +kernel⟩
def ub {f:Addr}{fd:FuncData}{bt:List D->FR}(F:jg K mg "is_many" kC ["thing"] f fd)(B:jQ mg)(cN:cW P w K mg base ca "is_whole" ["thing"] 1 bt){pH:Tok}(iV:mg "MOST_THINGS"=some (.int 8 pH)):cW P w K mg base ca "is_many" ["thing"] 2 (bE 1 1 (qf bt)):=
 ⟨⟨f,fd,F.mg,F.F.kp,F.b,bb (N:=["thing"]) (k:=1) F.F vR λcdv A outer s H G E hr=>
  (ay (aN (eM (aO cN (hr.mono (by decide)) a8 rfl rfl (ae (ax 0 rfl) ak)) (eO (oQ oE oE uY uY ag (af 0) (w9 (by rfl) iV))) (λ_ _=>rfl))))⟩,λds h=>aU ds h⟩
abbrev kn:Stmt:=top 5
def vf:aL ["thing","many"] ["thing","many"] (av kn):=⟨rfl,rfl,rfl,by decide +kernel,rfl,by decide +kernel,by decide +kernel⟩
def mQ {f:Addr}{fd:FuncData}{bZ:List D->FR}(F:jg K mg "is_pair" kn ["thing","many"] f fd)(B:jQ mg)(c7:cW P w K mg base ca "is_below" ["thing","bound"] 2 bZ):cW P w K mg base ca "is_pair" ["thing","many"] 3 (bE 2 2 (jm bZ)):=
 ⟨⟨f,fd,F.mg,F.F.kp,F.b,bb (N:=["thing","many"]) (k:=2) F.F vf λcdv A outer s H G E hr=>
  (aq (cp (lV.t (eV (bX (bO rfl (eJ "tuple" (by decide) rfl rfl B.isinstance rfl B.tuple (by decide +kernel) (af 0)))) (dJ (bG (dI hr.units) fk (aI bo dE rfl B.len KR (af 0)) ag (aZ _))) (λ_ _=>rfl)))
  (ay (aN dR))
  bC)
  (ay (aN (eM (aO c7 (hr.mono (by decide)) a8 rfl rfl (ae (aH aA a7 (af 0) ag (λ_ _=>rfl)) (ae (ax 1 rfl) ak))) (eO (aO c7 (hr.mono (by decide)) a8 rfl rfl (ae (aH aA a7 (af 0) ag (λ_ _=>rfl)) (ae (ax 1 rfl) ak)))) (λ_ _=>rfl)))))⟩,λds h=>aU ds h⟩
abbrev fu:Stmt:=top 6
def pL:aL ["many"] ["many"] (av fu):=⟨rfl,rfl,rfl,by decide +kernel,rfl,by decide +kernel,by decide +kernel⟩
def nW {f:Addr}{fd:FuncData}(F:jg K mg "every_pair" fu ["many"] f fd)(B:jQ mg):cW P w K mg base ca "every_pair" ["many"] 1 (bE 1 1 (sQ)):=
 ⟨⟨f,fd,F.mg,F.F.kp,F.b,bb (N:=["many"]) (k:=0) F.F pL λcdv A outer s H G E hr=>
  (ay (nO (cO (NB:=["number","many"]) (own:=1) (ixs:=[0]) [] rfl (c5 (by kernel_rfl)) (λ_ _=>rfl) (gx rfl B.range (aS kf lg (af 0) (af 0))) (λH0 G0 par br bx C ex s3 H3 pn=>(cf (i:=0) (show (["number","many"]:List Str).Nodup by decide +kernel))) (λH0 G0 par br bx C ex s3 H3 pn hB1=>cY) (λH0 G0 par br bx C ex s3 H3 pn hB1=>(bF (ae (aS rq Hz (af 0) (af 1)) (ae (aS la qF (af 0) (af 1)) ak)))))))⟩,λds h=>aU ds h⟩
abbrev jD:Stmt:=top 14
def uh:aL ["pairs"] ["pairs"] (av jD):=⟨rfl,rfl,rfl,by decide +kernel,rfl,by decide +kernel,by decide +kernel⟩
def rh {f:Addr}{fd:FuncData}(F:jg K mg "has_ring" jD ["pairs"] f fd)(B:jQ mg):cW P w K mg base ca "has_ring" ["pairs"] 1 (bE 1 1 (pG)):=
 ⟨⟨f,fd,F.mg,F.F.kp,F.b,bb (N:=["pairs"]) (k:=0) F.F uh λcdv A outer s H G E hr=>
  (ay (aN (aI (zZ rfl) gi rfl B.any (by decide +kernel) (cO (NB:=["a","b"]) (own:=2) (ixs:=[]) [] rfl (c5 (by kernel_rfl)) (λ_ _=>rfl) (rJ rfl (af 0)) (λH0 G0 par br bx C ex s3 H3 pn=>(zz (i:=0) (j:=1) (show (["a","b"]:List Str).Nodup by decide +kernel))) (λH0 G0 par br bx C ex s3 H3 pn hB1=>cY) (λH0 G0 par br bx C ex s3 H3 pn hB1=>(dG (fF hr.units) fk (af 0) (af 1) (aZ _)))))))⟩,λds h=>aU ds h⟩
abbrev jF:Stmt:=top 12
def j4:aL ["thing","many","pairs"] ["thing"] (av jF):=⟨rfl,rfl,rfl,by decide +kernel,rfl,by decide +kernel,by decide +kernel⟩
def rj {f:Addr}{fd:FuncData}{ic cy jo fN:List D->FR}(F:jg K mg "is_order" jF ["thing"] f fd)(B:jQ mg)(mH:cW P w K mg base ca "is_many" ["thing"] 2 ic)(jj:cW P w K mg base ca "is_pair" ["thing","many"] 3 cy)(oC:cW P w K mg base ca "closed" ["many","pairs"] 3 jo)(kZ:cW P w K mg base ca "has_ring" ["pairs"] 1 fN):cW P w K mg base ca "is_order" ["thing"] 4 (bE 3 1 (ij ic cy jo fN)):=
 ⟨⟨f,fd,F.mg,F.F.kp,F.b,bb (N:=["thing","many","pairs"]) (k:=3) F.F j4 λcdv A outer s H G E hr=>
  (aq (cp (lV.t (eV (bX (bO rfl (eJ "tuple" (by decide) rfl rfl B.isinstance rfl B.tuple (by decide +kernel) (af 0)))) (dJ (bG (dI hr.units) fk (aI bo dE rfl B.len KR (af 0)) ag (aZ _))) (λ_ _=>rfl)))
  (ay (aN dR))
  bC)
  (aq (bg (i:=1) (aH aA a7 (af 0) ag (λ_ _=>rfl)) j4.nd)
  (aq (bg (i:=2) (aH aA a7 (af 0) ag (λ_ _=>rfl)) j4.nd)
  (aq (cp (lV.t (eV (bX (bO rfl (aO mH (hr.mono (by decide)) a8 rfl rfl (ae (ax 1 rfl) ak)))) (dJ (bX (bO rfl (eJ "tuple" (by decide) rfl rfl B.isinstance rfl B.tuple (by decide +kernel) (af 2))))) (λ_ _=>rfl)))
  (ay (aN dR))
  bC)
  (aq (cp (bX (bO rfl (aI (fC rfl) gi rfl B.all (by decide +kernel) (cO (NB:=["pair","many"]) (own:=1) (ixs:=[1]) [1] rfl (c5 (by kernel_rfl)) (λ_ _=>rfl) (rJ rfl (af 2)) (λH0 G0 par br bx C ex s3 H3 pn=>(cf (i:=0) (show (["pair","many"]:List Str).Nodup by decide +kernel))) (λH0 G0 par br bx C ex s3 H3 pn hB1=>cY) (λH0 G0 par br bx C ex s3 H3 pn hB1=>(aO jj (hr.mono (by decide)) l7 rfl rfl (ae (ax 0 (hB1 0 (by decide))) (ae (ax 1 (hB1 1 (by decide))) ak))))))))
  (ay (aN dR))
  bC)
  (ay (aN (eM (dG (fF hr.units) fk (af 2) (aO oC (hr.mono (by decide)) a8 rfl rfl (ae (ax 1 rfl) (ae (ax 2 rfl) ak))) (aZ _)) (eO (vP (aO kZ (hr.mono (by decide)) a8 rfl rfl (ae (ax 2 rfl) ak)))) (λ_ _=>rfl)))))))))⟩,λds h=>aU ds h⟩
abbrev hJ:Stmt:=top 15
def qb:aL ["thing"] ["thing"] (av hJ):=⟨rfl,rfl,rfl,by decide +kernel,rfl,by decide +kernel,by decide +kernel⟩
def pw {f:Addr}{fd:FuncData}{fU:List D->FR}(F:jg K mg "need_order" hJ ["thing"] f fd)(B:jQ mg)(lC:cW P w K mg base ca "is_order" ["thing"] 4 fU)(jf:Exc K mg ca "NoOrder"):cW P w K mg base ca "need_order" ["thing"] 5 (bE 1 1 (hG fU)):=
 ⟨⟨f,fd,F.mg,F.F.kp,F.b,bb (N:=["thing"]) (k:=4) F.F qb λcdv A outer s H G E hr=>
  (ay (cp (bX (bO rfl (aO lC (hr.mono (by decide)) a8 rfl rfl (ae (ax 0 rfl) ak))))
  (ay (tD jf.ex jf.ca rfl jf.mg (ae gG ak)))
  bC))⟩,λds h=>aU ds h⟩
abbrev iF:Stmt:=top 16
def sI:aL ["order","a","b"] ["order","a","b"] (av iF):=⟨rfl,rfl,rfl,by decide +kernel,rfl,by decide +kernel,by decide +kernel⟩
def pM {f:Addr}{fd:FuncData}(F:jg K mg "are_apart" iF ["order","a","b"] f fd)(B:jQ mg):cW P w K mg base ca "are_apart" ["order","a","b"] 1 (bE 3 3 (m8)):=
 ⟨⟨f,fd,F.mg,F.F.kp,F.b,bb (N:=["order","a","b"]) (k:=0) F.F sI λcdv A outer s H G E hr=>
  (ay (aN (eM (dG (dI hr.units) fk (af 1) (af 2) (aZ _)) (eM (dG (jl hr.u1) tu (bF (ae (ax 1 rfl) (ae (ax 2 rfl) ak))) (aH aA a7 (af 0) ag (λ_ _=>rfl)) (by with_unfolding_all rfl)) (eO (dG (jl hr.u1) tu (bF (ae (ax 2 rfl) (ae (ax 1 rfl) ak))) (aH aA a7 (af 0) ag (λ_ _=>rfl)) (by with_unfolding_all rfl))) (λ_ _=>rfl)) (λ_ _=>rfl))))⟩,λds h=>aU ds h⟩
abbrev kI:Stmt:=top 18
def wu:aL ["thing","order"] ["thing","order"] (av kI):=⟨rfl,rfl,rfl,by decide +kernel,rfl,by decide +kernel,by decide +kernel⟩
def uy {f:Addr}{fd:FuncData}{cy eT:List D->FR}(F:jg K mg "is_turn" kI ["thing","order"] f fd)(B:jQ mg)(jj:cW P w K mg base ca "is_pair" ["thing","many"] 3 cy)(kb:cW P w K mg base ca "are_apart" ["order","a","b"] 1 eT):cW P w K mg base ca "is_turn" ["thing","order"] 4 (bE 2 2 (km cy eT)):=
 ⟨⟨f,fd,F.mg,F.F.kp,F.b,bb (N:=["thing","order"]) (k:=3) F.F wu λcdv A outer s H G E hr=>
  (ay (aN (eM (aO jj (hr.mono (by decide)) a8 rfl rfl (ae (ax 0 rfl) (ae (aH aA a7 (af 1) ag (λ_ _=>rfl)) ak))) (eO (aO kb (hr.mono (by decide)) a8 rfl rfl (ae (ax 1 rfl) (ae (aH aA a7 (af 0) ag (λ_ _=>rfl)) (ae (aH aA a7 (af 0) ag (λ_ _=>rfl)) ak))))) (λ_ _=>rfl))))⟩,λds h=>aU ds h⟩
abbrev iN:Stmt:=top 19
def sD:aL ["thing","order"] ["thing","order"] (av iN):=⟨rfl,rfl,rfl,by decide +kernel,rfl,by decide +kernel,by decide +kernel⟩
def pQ {f:Addr}{fd:FuncData}{cK:List D->FR}(F:jg K mg "are_turns" iN ["thing","order"] f fd)(B:jQ mg)(h9:cW P w K mg base ca "is_turn" ["thing","order"] 4 cK):cW P w K mg base ca "are_turns" ["thing","order"] 5 (bE 2 2 (iG cK)):=
 ⟨⟨f,fd,F.mg,F.F.kp,F.b,bb (N:=["thing","order"]) (k:=4) F.F sD λcdv A outer s H G E hr=>
  (ay (aN (eM (eJ "list" (by decide) rfl rfl B.isinstance rfl B.list (by decide +kernel) (af 0)) (eO (aI (fC rfl) gi rfl B.all (by decide +kernel) (cO (NB:=["turn","order"]) (own:=1) (ixs:=[1]) [1] rfl (c5 (by kernel_rfl)) (λ_ _=>rfl) (rJ rfl (af 0)) (λH0 G0 par br bx C ex s3 H3 pn=>(cf (i:=0) (show (["turn","order"]:List Str).Nodup by decide +kernel))) (λH0 G0 par br bx C ex s3 H3 pn hB1=>cY) (λH0 G0 par br bx C ex s3 H3 pn hB1=>(aO h9 (hr.mono (by decide)) l7 rfl rfl (ae (ax 0 (hB1 0 (by decide))) (ae (ax 1 (hB1 1 (by decide))) ak))))))) (λ_ _=>rfl))))⟩,λds h=>aU ds h⟩
abbrev jG:Stmt:=top 20
def ux:aL ["order","turn","other"] ["order","turn","other"] (av jG):=⟨rfl,rfl,rfl,by decide +kernel,rfl,by decide +kernel,by decide +kernel⟩
def sf {f:Addr}{fd:FuncData}(F:jg K mg "leads_on" jG ["order","turn","other"] f fd)(B:jQ mg):cW P w K mg base ca "leads_on" ["order","turn","other"] 1 (bE 3 3 (ju)):=
 ⟨⟨f,fd,F.mg,F.F.kp,F.b,bb (N:=["order","turn","other"]) (k:=0) F.F ux λcdv A outer s H G E hr=>
  (ay (aN (D9 (dG (fF hr.units) fk (aH aA a7 (af 1) ag (λ_ _=>rfl)) (aH aA a7 (af 2) ag (λ_ _=>rfl)) (aZ _)) (eO (dG (wo hr.u1) tu (bF (ae (aH aA a7 (af 1) ag (λ_ _=>rfl)) (ae (aH aA a7 (af 2) ag (λ_ _=>rfl)) ak))) (aH aA a7 (af 0) ag (λ_ _=>rfl)) (by with_unfolding_all rfl))) (λ_ _=>rfl))))⟩,λds h=>aU ds h⟩
abbrev gR:Stmt:=top 21
def pZ:aL ["thing","order"] ["thing","order"] (av gR):=⟨rfl,rfl,rfl,by decide +kernel,rfl,by decide +kernel,by decide +kernel⟩
def n9 {f:Addr}{fd:FuncData}{e8 fK:List D->FR}(F:jg K mg "goes_round" gR ["thing","order"] f fd)(B:jQ mg)(j5:cW P w K mg base ca "are_turns" ["thing","order"] 5 e8)(kX:cW P w K mg base ca "leads_on" ["order","turn","other"] 1 fK):cW P w K mg base ca "goes_round" ["thing","order"] 6 (bE 2 2 (df e8 fK)):=
 ⟨⟨f,fd,F.mg,F.F.kp,F.b,bb (N:=["thing","order"]) (k:=5) F.F pZ λcdv A outer s H G E hr=>
  (aq (cp (lV.t (eV (bX (bO rfl (aO j5 (hr.mono (by decide)) a8 rfl rfl (ae (ax 0 rfl) (ae (ax 1 rfl) ak))))) (dJ (bG (fF hr.units) fk (aI bo dE rfl B.len KR (af 0)) ag (aZ _))) (λ_ _=>rfl)))
  (ay (aN dR))
  bC)
  (ay (aN (aI (fC rfl) gi rfl B.all (by decide +kernel) (cO (NB:=["at","order","thing"]) (own:=1) (ixs:=[1,0]) [1] rfl (c5 (by kernel_rfl)) (λ_ _=>rfl) (gx rfl B.range (aI bo dE rfl B.len KR (af 0))) (λH0 G0 par br bx C ex s3 H3 pn=>(cf (i:=0) (show (["at","order","thing"]:List Str).Nodup by decide +kernel))) (λH0 G0 par br bx C ex s3 H3 pn hB1=>cY) (λH0 G0 par br bx C ex s3 H3 pn hB1=>(aO kX (hr.mono (by decide)) l7 rfl rfl (ae (ax 1 (hB1 1 (by decide))) (ae (aH aA a7 (af 2) (aS sM xF (af 0) ag) (λ_ _=>rfl)) (ae (aH aA a7 (af 2) (af 0) (λ_ _=>rfl)) ak))))))))))⟩,λds h=>aU ds h⟩
abbrev gM:Stmt:=top 24
def pS:aL ["thing"] ["thing"] (av gM):=⟨rfl,rfl,rfl,by decide +kernel,rfl,by decide +kernel,by decide +kernel⟩
def ox {f:Addr}{fd:FuncData}{bt:List D->FR}(F:jg K mg "need_count" gM ["thing"] f fd)(B:jQ mg)(cN:cW P w K mg base ca "is_whole" ["thing"] 1 bt)(iu:Exc K mg ca "NoNumber"){td:Tok}(kc:mg "MOST_ROWS"=some (.int 8 td)):cW P w K mg base ca "need_count" ["thing"] 2 (bE 1 1 (gV bt)):=
 ⟨⟨f,fd,F.mg,F.F.kp,F.b,bb (N:=["thing"]) (k:=1) F.F pS λcdv A outer s H G E hr=>
  (ay (cp (lV.t (eV (bX (bO rfl (aO cN (hr.mono (by decide)) a8 rfl rfl (ae (ax 0 rfl) ak)))) (dJ (bX (ud oE oE uY uY ag (af 0) (w9 (by rfl) kc)))) (λ_ _=>rfl)))
  (ay (tD iu.ex iu.ca rfl iu.mg (ae gG ak)))
  bC))⟩,λds h=>aU ds h⟩
abbrev gO:Stmt:=top 27
def pY:aL ["thing","order","put"] ["thing","order","put"] (av gO):=⟨rfl,rfl,rfl,by decide +kernel,rfl,by decide +kernel,by decide +kernel⟩
def nV {f:Addr}{fd:FuncData}{dv:List D->FR}(F:jg K mg "is_ring_of" gO ["thing","order","put"] f fd)(B:jQ mg)(jv:cW P w K mg base ca "goes_round" ["thing","order"] 6 dv):cW P w K mg base ca "is_ring_of" ["thing","order","put"] 7 (bE 3 3 (dA dv)):=
 ⟨⟨f,fd,F.mg,F.F.kp,F.b,bb (N:=["thing","order","put"]) (k:=6) F.F pY λcdv A outer s H G E hr=>
  (ay (aN (eM (aO jv (hr.mono (by decide)) a8 rfl rfl (ae (ax 0 rfl) (ae (ax 1 rfl) ak))) (eO (aI (fC rfl) gi rfl B.all (by decide +kernel) (cO (NB:=["turn","put"]) (own:=1) (ixs:=[2]) [] rfl (c5 (by kernel_rfl)) (λ_ _=>rfl) (rJ rfl (af 0)) (λH0 G0 par br bx C ex s3 H3 pn=>(cf (i:=0) (show (["turn","put"]:List Str).Nodup by decide +kernel))) (λH0 G0 par br bx C ex s3 H3 pn hB1=>cY) (λH0 G0 par br bx C ex s3 H3 pn hB1=>(dG (wo hr.u1) tu (af 0) (af 1) (by with_unfolding_all rfl)))))) (λ_ _=>rfl))))⟩,λds h=>aU ds h⟩
abbrev sO:Stmt:=top 26
def xV:aL ["thing","order","puts","number","paper"] ["thing","order","puts"] (av sO):=⟨rfl,rfl,rfl,by decide +kernel,rfl,by decide +kernel,by decide +kernel⟩
def zo {f:Addr}{fd:FuncData}{gF bZ di cK:List D->FR}{k:Nat}(hk:7<=k)(F:jg K mg "bars" sO ["thing","order","puts"] f fd)(B:jQ mg)(nX:cW P w K mg base ca "bars" ["thing","order","puts"] k gF)(c7:cW P w K mg base ca "is_below" ["thing","bound"] 2 bZ)(jw:cW P w K mg base ca "is_ring_of" ["thing","order","put"] 7 di)(h9:cW P w K mg base ca "is_turn" ["thing","order"] 4 cK):cW P w K mg base ca "bars" ["thing","order","puts"] (k + 1) (bE 5 3 (qZ gF bZ di cK)):=
 ⟨⟨f,fd,F.mg,F.F.kp,F.b,bb (N:=["thing","order","puts","number","paper"]) (k:=k) F.F xV λcdv A outer s H G E hr=>
  (aq (cp (lV.t (eV (bX (bO rfl (eJ "tuple" (by decide) rfl rfl B.isinstance rfl B.tuple (by decide +kernel) (af 0)))) (dJ (bG (dI hr.units) fk (aI bo dE rfl B.len KR (af 0)) ag (aZ _))) (λ_ _=>rfl)))
  (ay (aN dR))
  bC)
  (aq (cp (bG (fF hr.units) fk (aH aA a7 (af 0) ag (λ_ _=>rfl)) gG (aZ _))
  (ay (aN (eM (aO c7 (hr.mono (by omega)) a8 rfl rfl (ae (aH aA a7 (af 0) ag (λ_ _=>rfl)) (ae (aI bo dE rfl B.len KR (af 2)) ak))) (eO (aO jw (hr.mono (by omega)) a8 rfl rfl (ae (aH aA a7 (af 0) ag (λ_ _=>rfl)) (ae (ax 1 rfl) (ae (aH aA a7 (af 2) (aH aA a7 (af 0) ag (λ_ _=>rfl)) (λ_ _=>rfl)) ak))))) (λ_ _=>rfl))))
  bC)
  (aq (cp (lV.t (eV (bG (dI hr.units) fk (aH aA a7 (af 0) ag (λ_ _=>rfl)) gG (aZ _)) (dJ (bX (bO rfl (aO h9 (hr.mono (by omega)) a8 rfl rfl (ae (aH aA a7 (af 0) ag (λ_ _=>rfl)) (ae (ax 1 rfl) ak)))))) (λ_ _=>rfl)))
  (ay (aN dR))
  bC)
  (aq (cp (lV.t (eV (bX (bO rfl (eJ "tuple" (by decide) rfl rfl B.isinstance rfl B.tuple (by decide +kernel) (aH aA a7 (af 0) ag (λ_ _=>rfl))))) (dJ (bG (dI hr.units) fk (aI bo dE rfl B.len KR (aH aA a7 (af 0) ag (λ_ _=>rfl))) (aI bo dE rfl B.len KR (af 2)) (aZ _))) (λ_ _=>rfl)))
  (ay (aN dR))
  bC)
  (aq (fQ PassesOwn.leaving rfl (zP rfl rfl B.enumerate (aH aA a7 (af 0) ag (λ_ _=>rfl))) (zz (i:=3) (j:=4) xV.nd)
  (ay (cp (bX (bO rfl (aO nX (hr.mono (by omega)) a8 rfl rfl (ae (ax 4 rfl) (ae (ax 1 rfl) (ae (SE.wv (aS cD gA (aS cD gA (dQ rfl (af 2) cR (cQ (af 3))) (bI (ae (aS j8 oM (aH aA a7 (af 2) (af 3) (λ_ _=>rfl)) (bF (ae (aH aA a7 (af 0) ag (λ_ _=>rfl)) ak))) ak))) (dQ rfl (af 2) (cQ (aS gc fV (af 3) ag)) cR))) ak))))))
  (ay (aN dR))
  bC)))
  (ay (aN dR)))))))⟩,λds h=>aU ds h⟩
abbrev eG:Stmt:=top 25
def mr:aL ["thing","order","count"] ["thing","order","count"] (av eG):=⟨rfl,rfl,rfl,by decide +kernel,rfl,by decide +kernel,by decide +kernel⟩
def lZ {f:Addr}{fd:FuncData}{dq dk gF:List D->FR}(F:jg K mg "is_case_paper" eG ["thing","order","count"] f fd)(B:jQ mg)(jB:cW P w K mg base ca "need_order" ["thing"] 5 dq)(jJ:cW P w K mg base ca "need_count" ["thing"] 2 dk)(nX:cW P w K mg base ca "bars" ["thing","order","puts"] 47 gF):cW P w K mg base ca "is_case_paper" ["thing","order","count"] 48 (bE 3 3 (dU dq dk gF)):=
 ⟨⟨f,fd,F.mg,F.F.kp,F.b,bb (N:=["thing","order","count"]) (k:=47) F.F mr λcdv A outer s H G E hr=>
  (aq (xg (aO jB (hr.mono (by decide)) a8 rfl rfl (ae (ax 1 rfl) ak)))
  (aq (xg (aO jJ (hr.mono (by decide)) a8 rfl rfl (ae (ax 2 rfl) ak)))
  (ay (aN (aO nX (hr.mono (by decide)) a8 rfl rfl (ae (ax 0 rfl) (ae (ax 1 rfl) (ae (SE.wv (Ez (bI (ae (bF ak) ak)) (af 2))) ak))))))))⟩,λds h=>aU ds h⟩
abbrev jE:Stmt:=top 29
def cM:aL ["script","k","here","number","j","part"] ["script","k"] (av jE):=⟨rfl,rfl,rfl,by decide +kernel,rfl,by decide +kernel,by decide +kernel⟩
def rB {f:Addr}{fd:FuncData}(F:jg K mg "_law_box" jE ["script","k"] f fd)(B:jQ mg):cW P w K mg base ca "_law_box" ["script","k"] 1 (bE 6 2 (hW)):=
 ⟨⟨f,fd,F.mg,F.F.kp,F.b,bb (N:=["script","k","here","number","j","part"]) (k:=0) F.F cM λcdv A outer s H G E hr=>
  (aq (bg (i:=2) (aS gc fV (aS kf lg ag (af 1)) ag) cM.nd)
  (aq (cp (bG ui z7 (af 1) (aI bo dE rfl B.len KR (af 0)) (aZ _))
  (ay (bg (i:=2) (aH aA a7 (af 0) (af 1) (λ_ _=>rfl)) cM.nd))
  bC)
  (aq (cp (bG (fF hr.units) fk (aS la qF (af 2) ag) ag (aZ _))
  (ay (nO (bI (ae (aS rq Hz (af 2) ag) ak))))
  bC)
  (aq (bg (i:=3) ag cM.nd)
  (aq (fQ PassesOwn.leaving rfl (gx rfl B.range ag) (cf (i:=4) cM.nd)
  (aq (bg (i:=5) (aS la qF (aS gc fV (aS gc fV (aS kf lg (aS la qF (af 2) ag) ag) (aS kf lg ag (af 4))) ag) ag) cM.nd)
  (aq (bg (i:=5) (aS la qF (aS kf lg (af 5) (af 5)) ag) cM.nd)
  (ay (bg (i:=3) (aS gc fV (aS kf lg (af 3) ag) (aS la qF (aS kf lg (af 5) (aS gc fV (af 5) ag)) ag)) cM.nd)))))
  (ay (nO (bI (ae (ax 3 rfl) ak)))))))))⟩,λds h=>aU ds h⟩
abbrev iQ:Stmt:=top 30
def lO:aL ["box","many","left","digit"] ["box","many"] (av iQ):=⟨rfl,rfl,rfl,by decide +kernel,rfl,by decide +kernel,by decide +kernel⟩
def p5 {f:Addr}{fd:FuncData}(F:jg K mg "_law_take" iQ ["box","many"] f fd)(B:jQ mg):iy P w K mg base "_law_take" ["box","many"] 1 cj:=by
 refine⟨⟨f,fd,F.mg,F.F.kp,F.b,?_⟩,λds β h=>?_⟩
 ·refine F.F.D3 lO (λvs H Q E h=>?_) (λcdv A outer s H vs Q E hr h=>?_)
  ·obtain⟨b,rest,G,ds,β,rfl,hb,gb,sG,hl,r,_⟩:=h
   rw[KW,r.len,hl];rfl
  ·obtain⟨b,rest,G,ds,β,rfl,hb,gb,sG,hl,r,h⟩:=h
   obtain⟨m,rfl,h0,h1⟩:=xA (λz=>by rw[z] at h;exact h)
   rw[qY h0 h1] at h
   have kk:∀v G' H',iC (some b) H H'->H' b=some (.lst [.int (β / m)])->au G G'->au G' H'->(∀c,Mx H c->G c=none->G' c=none)->FV K H G' H' false (.int (β % m)) v->Q v H':=h
   cases r with
   |cons r1 r2=>
    cases r1
    cases r2
    refine⟨_,iz (o5 (lS uq rfl B.divmod (by decide +kernel) (bc (kN hV (pv 0) mG (λ_ _=>rfl)) (bc (pv 1) cv))) (CK (i:=2) (j:=3) lO.nd rfl rfl rfl rfl rfl))
     (iz (o5 (pv 2) (vh (pv 0) mG set_list)) (iM (mj (pv 3)))),?_⟩
    refine⟨_,rfl,b,_,0,.int β,rfl,rfl,.inl (.inl hb),rfl,_,rfl,β,m,rfl,⟨h0,h1⟩,λp hp=>⟨p,_,rfl,.inl (.inl aB),rfl,_,_,rfl,_,_,rfl,rfl,?_⟩⟩
    have hbp:b≠p:=aJ hb hp
    exact⟨_,rfl,_,rfl,b,[.int β],0,0,rfl,rfl,by rw[aC hbp];exact hb,rfl,_,rfl,zE hb sG hp kk gb⟩
 ·obtain⟨m,rfl,_⟩:=xA h
  rfl
abbrev gZ:Stmt:=top 31
def pP:aL ["thing"] ["thing"] (av gZ):=⟨rfl,rfl,rfl,by decide +kernel,rfl,by decide +kernel,by decide +kernel⟩
def o9 {f:Addr}{fd:FuncData}(F:jg K mg "_law_whole" gZ ["thing"] f fd)(B:jQ mg):cW P w K mg base ca "_law_whole" ["thing"] 1 (bE 1 1 (lM)):=
 ⟨⟨f,fd,F.mg,F.F.kp,F.b,bb (N:=["thing"]) (k:=0) F.F pP λcdv A outer s H G E hr=>
  (ay (aN (eM (eJ "int" (by decide) rfl rfl B.isinstance rfl B.int (by decide +kernel) (af 0)) (eO (vP (eJ "bool" (by decide) rfl rfl B.isinstance rfl B.bool (by decide +kernel) (af 0)))) (λ_ _=>rfl))))⟩,λds h=>aU ds h⟩
abbrev jr:Stmt:=top 32
def mZ:aL ["box","some"] ["box"] (av jr):=⟨rfl,rfl,rfl,by decide +kernel,rfl,by decide +kernel,by decide +kernel⟩
def rP {f:Addr}{fd:FuncData}{aw:List D->Int->FB}(F:jg K mg "_law_odd" jr ["box"] f fd)(B:jQ mg)(aK:iy P w K mg base "_law_take" ["box","many"] 1 aw):iy P w K mg base "_law_odd" ["box"] 2 (l6 2 0 (gk aw)):=
 ⟨⟨f,fd,F.mg,F.F.kp,F.b,j9 (ca:=λ_=>0) (N:=["box","some"]) (k:=1) F.F mZ (by decide) λcdv A outer s H G b E hr=>
  (@aq _ _ _ _ _ _ _ (@A2 _ _ _ 1 _ _ (aa (cst .none) (aa (cst (.bool true)) (aa (cst (.bool false)) (aa (cst (.int 9)) (aa (cst (.int (-1))) (aa (cst (.str "1")) (aa (cst (.str "")) (aa (aR (aa (cst (.int 1)) ah)) (aa (bH (aa (cst (.int 1)) ah)) (aa (cst (.dict [(.str "a",.int 1)])) (aa (aR ah) (aa (f2 (cst (.int 10)) (cst (.int 39)) Bj) (aa (aR (aa (cst (.int 1)) (aa (aR (aa (aR (aa (cst (.int 0)) (aa (cst (.int 0)) ah))) ah)) ah))) (aa (aR (aa (cst (.int 2)) (aa (bH (aa (aR (aa (cst (.int 0)) (aa (cst (.int 1)) ah))) ah)) ah))) ah)))))))))))))) ([] ++ ([] ++ ([] ++ ([] ++ ([] ++ ([] ++ ([] ++ (([] ++ []) ++ (([] ++ []) ++ ([] ++ ([] ++ ([] ++ (([] ++ ((([] ++ ([] ++ [])) ++ []) ++ [])) ++ (([] ++ ((([] ++ ([] ++ [])) ++ []) ++ [])) ++ [])))))))))))))) _ _ _ [] (by kernel_rfl) (λ_=>rfl) (by kernel_rfl) mZ.nd rfl (by first |exact Or.inl rfl |exact Or.inr rfl) (by first |exact .inl rfl |exact .inr rfl))
  (ay (aN (aH aA a7 (aS cD gA (af 1) (bI (ae (SE.wv (bI (ae (bF ak) ak))) (ae ag ak)))) (fB 0 aK (hr.mono (by decide)) a8 rfl rfl (ae ag ak)) (λ_ _=>rfl)))))⟩,λds β h=>kg ds β h⟩
abbrev eB:Stmt:=top 33
def fT:aL ["box","some","left","found"] ["box","some"] (av eB):=⟨rfl,rfl,rfl,by decide +kernel,rfl,by decide +kernel,by decide +kernel⟩
def l0 {f:Addr}{fd:FuncData}{aw:List D->Int->FB}(F:jg K mg "_law_shuffled" eB ["box","some"] f fd)(B:jQ mg)(aK:iy P w K mg base "_law_take" ["box","many"] 1 aw):iy P w K mg base "_law_shuffled" ["box","some"] 2 (l6 4 1 (dZ aw)):=
 ⟨⟨f,fd,F.mg,F.F.kp,F.b,j9 (ca:=λ_=>0) (N:=["box","some","left","found"]) (k:=1) F.F fT (by decide) λcdv A outer s H G b E hr=>
  (aq (nI (i:=2) (gr jL vn rfl B.list (by decide +kernel) (af 1)) fT.nd)
  (aq (nI (i:=3) (bI ak) fT.nd)
  (aq (Af 1000 PassesOwn.leaving (bG (dI hr.units) fk (af 2) (bI ak) (aZ _))
  (ay (ym 3 2 (λ_=>rfl) (fB 0 aK (hr.mono (by decide)) a8 rfl rfl (ae (aI bo dE rfl B.len KR (af 2)) ak)))))
  (ay (aN (gr cV lK rfl B.tuple (by decide +kernel) (af 3)))))))⟩,λds β h=>kg ds β h⟩
abbrev iK:Stmt:=top 34
def gX:aL ["many","rows","found","a","b"] ["many","rows"] (av iK):=⟨rfl,rfl,rfl,by decide +kernel,rfl,by decide +kernel,by decide +kernel⟩
def pR {f:Addr}{fd:FuncData}(F:jg K mg "_law_told" iK ["many","rows"] f fd)(B:jQ mg):cW P w K mg base ca "_law_told" ["many","rows"] 1 (bE 5 2 (iJ)):=
 ⟨⟨f,fd,F.mg,F.F.kp,F.b,bb (N:=["many","rows","found","a","b"]) (k:=0) F.F gX λcdv A outer s H G E hr=>
  (aq (nI (i:=2) (bI ak) gX.nd)
  (aq (fQ PassesOwn.leaving rfl (gx rfl B.range (af 0)) (cf (i:=3) gX.nd)
  (ay (fQ PassesOwn.leaving rfl (gx rfl B.range (af 0)) (cf (i:=4) gX.nd)
  (ay (cp (lV.t (mO (bG (dI hr.units) fk (af 3) (af 4) (aZ _)) (lR (bO rfl (aI (fC rfl) gi rfl B.all (by decide +kernel) (cO (NB:=["row","a","b"]) (own:=1) (ixs:=[3,4]) [] rfl (c5 (by kernel_rfl)) (λ_ _=>rfl) (rJ rfl (af 1)) (λH0 G0 par br bx C ex s3 H3 pn=>(cf (i:=0) (show (["row","a","b"]:List Str).Nodup by decide +kernel))) (λH0 G0 par br bx C ex s3 H3 pn hB1=>cY) (λH0 G0 par br bx C ex s3 H3 pn hB1=>(dG ui z7 (tH rfl (af 0) (af 1)) (tH rfl (af 0) (af 2)) (aZ _))))))) (λ_ _=>rfl)))
  (ay (qM 2 (λ_=>rfl) (bF (ae (ax 3 rfl) (ae (ax 4 rfl) ak)))))
  bC)))))
  (ay (aN (gr cV lK rfl B.tuple (by decide +kernel) (af 2))))))⟩,λds h=>aU ds h⟩
abbrev gQ:Stmt:=top 35
def cE:aL ["box","most","many","rows","lows","pairs","k"] ["box","most"] (av gQ):=⟨rfl,rfl,rfl,by decide +kernel,rfl,by decide +kernel,by decide +kernel⟩
def nS {f:Addr}{fd:FuncData}{eZ:List D->FR}{aw bY:List D->Int->FB}(F:jg K mg "_law_order" gQ ["box","most"] f fd)(B:jQ mg)(ki:cW P w K mg base ca "_law_told" ["many","rows"] 1 eZ)(aK:iy P w K mg base "_law_take" ["box","many"] 1 aw)(dW:iy P w K mg base "_law_shuffled" ["box","some"] 2 bY):iy P w K mg base "_law_order" ["box","most"] 3 (l6 7 1 (eh eZ aw bY)):=
 ⟨⟨f,fd,F.mg,F.F.kp,F.b,j9 (ca:=ca) (N:=["box","most","many","rows","lows","pairs","k"]) (k:=2) F.F cE (by decide) λcdv A outer s H G b E hr=>
  (aq (bg (i:=2) (aS gc fV ag (fB 0 aK (hr.mono (by decide)) a8 rfl rfl (ae (ax 1 rfl) ak))) cE.nd)
  (aq (wF (i:=3) (NB:=["turn","box","many"]) (own:=1) (ixs:=[0,2]) [] rfl (c5 (by kernel_rfl)) (λ_ _=>rfl) (gx rfl B.range (aS gc fV ag (fB 0 aK (hr.mono (by decide)) a8 rfl rfl (ae ag ak)))) (λH0 G0 par br bx C ex s3 H3 pn=>(cf (i:=0) (show (["turn","box","many"]:List Str).Nodup by decide +kernel))) (λH0 G0 par br bx C ex s3 H3 pn hB1=>cY) (λH0 G0 par br bx C ex s3 H3 pn hB1=>(fB 1 dW (hr.mono (by decide)) l7 rfl rfl (ae (SE.wv (o7 rfl rfl B.list rfl B.range (af 2))) ak))) cE.nd)
  (aq (cp (lV.t (mO (bG (fF hr.units) fk (af 2) ag (aZ _)) (lR (bG (fF hr.units) fk (fB 0 aK (hr.mono (by decide)) a8 rfl rfl (ae ag ak)) ag (aZ _))) (λ_ _=>rfl)))
  (aq (bg (i:=4) (fB 0 dW (hr.mono (by decide)) a8 rfl rfl (ae (SE.wv (o7 rfl rfl B.list rfl B.range ag)) ak)) cE.nd)
  (aq (bg (i:=5) (SE.wv (bI ak)) cE.nd)
  (aq (fQ PassesOwn.leaving rfl (gx rfl B.range ag) (cf (i:=6) cE.nd)
  (ay (bg (i:=5) (SE.wv (aS cD gA (af 5) (cO (NB:=["j","k","lows"]) (own:=1) (ixs:=[6,4]) [] rfl (c5 (by kernel_rfl)) (λ_ _=>rfl) (gx rfl B.range ag) (λH0 G0 par br bx C ex s3 H3 pn=>(cf (i:=0) (show (["j","k","lows"]:List Str).Nodup by decide +kernel))) (λH0 G0 par br bx C ex s3 H3 pn hB2=>(ra (bG (dI hr.units) fk (af 0) (af 1) (aZ _)))) (λH0 G0 par br bx C ex s3 H3 pn hB2=>(bF (ae (aH aA a7 (af 2) (af 1) (λ_ _=>rfl)) (ae (aH aA a7 (af 2) (aS gc fV ag (af 0)) (λ_ _=>rfl)) ak))))))) cE.nd)))
  (ay (aN (bF (ae ag (ae (gr cV lK rfl B.tuple (by decide +kernel) (aI ua Ci rfl B.sorted (by decide +kernel) (af 5))) ak))))))))
  bC)
  (ay (aN (bF (ae (ax 2 rfl) (ae (aO ki (hr.mono (by decide)) a8 rfl rfl (ae (ax 2 rfl) (ae (ax 3 rfl) ak))) ak))))))))⟩,λds β h=>kg ds β h⟩
abbrev gW:Stmt:=top 36
def pX:aL ["order","a","b"] ["order","a","b"] (av gW):=⟨rfl,rfl,rfl,by decide +kernel,rfl,by decide +kernel,by decide +kernel⟩
def ou {f:Addr}{fd:FuncData}(F:jg K mg "_law_apart" gW ["order","a","b"] f fd)(B:jQ mg):cW P w K mg base ca "_law_apart" ["order","a","b"] 1 (bE 3 3 (lX)):=
 ⟨⟨f,fd,F.mg,F.F.kp,F.b,bb (N:=["order","a","b"]) (k:=0) F.F pX λcdv A outer s H G E hr=>
  (ay (aN (eM (dG (dI hr.units) fk (af 1) (af 2) (aZ _)) (eM (dG (jl hr.u1) tu (bF (ae (ax 1 rfl) (ae (ax 2 rfl) ak))) (aH aA a7 (af 0) ag (λ_ _=>rfl)) (by with_unfolding_all rfl)) (eO (dG (jl hr.u1) tu (bF (ae (ax 2 rfl) (ae (ax 1 rfl) ak))) (aH aA a7 (af 0) ag (λ_ _=>rfl)) (by with_unfolding_all rfl))) (λ_ _=>rfl)) (λ_ _=>rfl))))⟩,λds h=>aU ds h⟩
abbrev gN:Stmt:=top 37
def gm:aL ["order","found","a"] ["order"] (av gN):=⟨rfl,rfl,rfl,by decide +kernel,rfl,by decide +kernel,by decide +kernel⟩
def n5 {f:Addr}{fd:FuncData}{bJ:List D->FR}(F:jg K mg "_law_turns" gN ["order"] f fd)(B:jQ mg)(dC:cW P w K mg base ca "_law_apart" ["order","a","b"] 1 bJ):cW P w K mg base ca "_law_turns" ["order"] 2 (bE 3 1 (gS bJ)):=
 ⟨⟨f,fd,F.mg,F.F.kp,F.b,bb (N:=["order","found","a"]) (k:=1) F.F gm λcdv A outer s H G E hr=>
  (aq (bg (i:=1) (SE.wv (bI ak)) gm.nd)
  (aq (fQ PassesOwn.leaving rfl (gx rfl B.range (aH aA a7 (af 0) ag (λ_ _=>rfl))) (cf (i:=2) gm.nd)
  (ay (bg (i:=1) (SE.wv (aS cD gA (af 1) (cO (NB:=["b","order","a"]) (own:=1) (ixs:=[0,2]) [0,2] rfl (c5 (by kernel_rfl)) (λ_ _=>rfl) (gx rfl B.range (aH aA a7 (af 0) ag (λ_ _=>rfl))) (λH0 G0 par br bx C ex s3 H3 pn=>(cf (i:=0) (show (["b","order","a"]:List Str).Nodup by decide +kernel))) (λH0 G0 par br bx C ex s3 H3 pn hB1=>(ra (bO rfl (aO dC (hr.mono (by decide)) l7 rfl rfl (ae (ax 1 (hB1 1 (by decide))) (ae (ax 2 (hB1 2 (by decide))) (ae (ax 0 (hB1 0 (by decide))) ak))))))) (λH0 G0 par br bx C ex s3 H3 pn hB1=>(bF (ae (ax 2 (hB1 2 (by decide))) (ae (ax 0 (hB1 0 (by decide))) ak))))))) gm.nd)))
  (ay (Cg 1))))⟩,λds h=>aU ds h⟩
abbrev ko:Stmt:=top 38
def uX:aL ["order","one","other"] ["order","one","other"] (av ko):=⟨rfl,rfl,rfl,by decide +kernel,rfl,by decide +kernel,by decide +kernel⟩
def tY {f:Addr}{fd:FuncData}(F:jg K mg "_law_on" ko ["order","one","other"] f fd)(B:jQ mg):cW P w K mg base ca "_law_on" ["order","one","other"] 1 (bE 3 3 (qr)):=
 ⟨⟨f,fd,F.mg,F.F.kp,F.b,bb (N:=["order","one","other"]) (k:=0) F.F uX λcdv A outer s H G E hr=>
  (ay (aN (D9 (dG (fF hr.units) fk (aH aA a7 (af 1) ag (λ_ _=>rfl)) (aH aA a7 (af 2) ag (λ_ _=>rfl)) (aZ _)) (eO (dG (wo hr.u1) tu (bF (ae (aH aA a7 (af 1) ag (λ_ _=>rfl)) (ae (aH aA a7 (af 2) ag (λ_ _=>rfl)) ak))) (aH aA a7 (af 0) ag (λ_ _=>rfl)) (by with_unfolding_all rfl))) (λ_ _=>rfl))))⟩,λds h=>aU ds h⟩
abbrev dg:Stmt:=top 39
def lT:aL ["order","thing"] ["order","thing"] (av dg):=⟨rfl,rfl,rfl,by decide +kernel,rfl,by decide +kernel,by decide +kernel⟩
def lD {f:Addr}{fd:FuncData}{bK bJ:List D->FR}(F:jg K mg "_law_turn_good" dg ["order","thing"] f fd)(B:jQ mg)(dz:cW P w K mg base ca "_law_whole" ["thing"] 1 bK)(dC:cW P w K mg base ca "_law_apart" ["order","a","b"] 1 bJ):cW P w K mg base ca "_law_turn_good" ["order","thing"] 2 (bE 2 2 (du bK bJ)):=
 ⟨⟨f,fd,F.mg,F.F.kp,F.b,bb (N:=["order","thing"]) (k:=1) F.F lT λcdv A outer s H G E hr=>
  (aq (cp (lV.t (eV (bX (bO rfl (eJ "tuple" (by decide) rfl rfl B.isinstance rfl B.tuple (by decide +kernel) (af 1)))) (eV (bG (dI hr.units) fk (aI bo dE rfl B.len KR (af 1)) ag (aZ _)) (dJ (bX (bO rfl (aI (fC rfl) gi rfl B.all (by decide +kernel) (cO (NB:=["one"]) (own:=1) (ixs:=[]) [] rfl (c5 (by kernel_rfl)) (λ_ _=>rfl) (rJ rfl (af 1)) (λH0 G0 par br bx C ex s3 H3 pn=>(cf (i:=0) (show (["one"]:List Str).Nodup by decide +kernel))) (λH0 G0 par br bx C ex s3 H3 pn hB1=>cY) (λH0 G0 par br bx C ex s3 H3 pn hB1=>(aO dz (hr.mono (by decide)) l7 rfl rfl (ae (ax 0 (hB1 0 (by decide))) ak)))))))) (λ_ _=>rfl)) (λ_ _=>rfl)))
  (ay (aN dR))
  bC)
  (ay (aN (eM (aI (fC rfl) gi rfl B.all (by decide +kernel) (cO (NB:=["one","order"]) (own:=1) (ixs:=[0]) [] rfl (c5 (by kernel_rfl)) (λ_ _=>rfl) (rJ rfl (af 1)) (λH0 G0 par br bx C ex s3 H3 pn=>(cf (i:=0) (show (["one","order"]:List Str).Nodup by decide +kernel))) (λH0 G0 par br bx C ex s3 H3 pn hB2=>cY) (λH0 G0 par br bx C ex s3 H3 pn hB2=>(oQ oE ui uY z7 ag (af 0) (aH aA a7 (af 1) ag (λ_ _=>rfl)))))) (eO (aO dC (hr.mono (by decide)) a8 rfl rfl (ae (ax 0 rfl) (ae (aH aA a7 (af 1) ag (λ_ _=>rfl)) (ae (aH aA a7 (af 1) ag (λ_ _=>rfl)) ak))))) (λ_ _=>rfl)))))⟩,λds h=>aU ds h⟩
abbrev iE:Stmt:=top 40
def rQ:aL ["order","thing"] ["order","thing"] (av iE):=⟨rfl,rfl,rfl,by decide +kernel,rfl,by decide +kernel,by decide +kernel⟩
def p6 {f:Addr}{fd:FuncData}{aV cx:List D->FR}(F:jg K mg "_law_ring" iE ["order","thing"] f fd)(B:jQ mg)(b8:cW P w K mg base ca "_law_turn_good" ["order","thing"] 2 aV)(fO:cW P w K mg base ca "_law_on" ["order","one","other"] 1 cx):cW P w K mg base ca "_law_ring" ["order","thing"] 3 (bE 2 2 (eS aV cx)):=
 ⟨⟨f,fd,F.mg,F.F.kp,F.b,bb (N:=["order","thing"]) (k:=2) F.F rQ λcdv A outer s H G E hr=>
  (aq (cp (lV.t (eV (bX (bO rfl (eJ "list" (by decide) rfl rfl B.isinstance rfl B.list (by decide +kernel) (af 1)))) (eV (bG (Ax hr.units) BZ (af 1) (bI ak) (aZ _)) (dJ (bX (bO rfl (aI (fC rfl) gi rfl B.all (by decide +kernel) (cO (NB:=["one","order"]) (own:=1) (ixs:=[0]) [0] rfl (c5 (by kernel_rfl)) (λ_ _=>rfl) (rJ rfl (af 1)) (λH0 G0 par br bx C ex s3 H3 pn=>(cf (i:=0) (show (["one","order"]:List Str).Nodup by decide +kernel))) (λH0 G0 par br bx C ex s3 H3 pn hB1=>cY) (λH0 G0 par br bx C ex s3 H3 pn hB1=>(aO b8 (hr.mono (by decide)) l7 rfl rfl (ae (ax 1 (hB1 1 (by decide))) (ae (ax 0 (hB1 0 (by decide))) ak))))))))) (λ_ _=>rfl)) (λ_ _=>rfl)))
  (ay (aN dR))
  bC)
  (ay (aN (aI (fC rfl) gi rfl B.all (by decide +kernel) (cO (NB:=["at","order","thing"]) (own:=1) (ixs:=[0,1]) [0] rfl (c5 (by kernel_rfl)) (λ_ _=>rfl) (gx rfl B.range (aI bo dE rfl B.len KR (af 1))) (λH0 G0 par br bx C ex s3 H3 pn=>(cf (i:=0) (show (["at","order","thing"]:List Str).Nodup by decide +kernel))) (λH0 G0 par br bx C ex s3 H3 pn hB2=>cY) (λH0 G0 par br bx C ex s3 H3 pn hB2=>(aO fO (hr.mono (by decide)) l7 rfl rfl (ae (ax 1 (hB2 1 (by decide))) (ae (aH aA a7 (af 2) (aS sM xF (af 0) ag) (λ_ _=>rfl)) (ae (aH aA a7 (af 2) (af 0) (λ_ _=>rfl)) ak))))))))))⟩,λds h=>aU ds h⟩
abbrev gP:Stmt:=top 41
def i6:aL ["thing","order","put","place","more"] ["thing","order","put"] (av gP):=⟨rfl,rfl,rfl,by decide +kernel,rfl,by decide +kernel,by decide +kernel⟩
def pj {f:Addr}{fd:FuncData}{bu bK eY aV:List D->FR}{k:Nat}(hk:3<=k)(F:jg K mg "_law_shows" gP ["thing","order","put"] f fd)(B:jQ mg)(fH:cW P w K mg base ca "_law_shows" ["thing","order","put"] k bu)(dz:cW P w K mg base ca "_law_whole" ["thing"] 1 bK)(j7:cW P w K mg base ca "_law_ring" ["order","thing"] 3 eY)(b8:cW P w K mg base ca "_law_turn_good" ["order","thing"] 2 aV):cW P w K mg base ca "_law_shows" ["thing","order","put"] (k + 1) (bE 5 3 (hU bu bK eY aV)):=
 ⟨⟨f,fd,F.mg,F.F.kp,F.b,bb (N:=["thing","order","put","place","more"]) (k:=k) F.F i6 λcdv A outer s H G E hr=>
  (aq (cp (lV.t (eV (bX (bO rfl (eJ "tuple" (by decide) rfl rfl B.isinstance rfl B.tuple (by decide +kernel) (af 0)))) (dJ (bG (dI hr.units) fk (aI bo dE rfl B.len KR (af 0)) ag (aZ _))) (λ_ _=>rfl)))
  (ay (aN dR))
  bC)
  (aq (cp (bG GD Hq (aI (jH hr.gd hr.u1) nH rfl B.repr (by decide +kernel) (aH aA a7 (af 0) ag (λ_ _=>rfl))) gG (aZ _))
  (aq (cp (lV.t (eV (bX (bO rfl (aO dz (hr.mono (by omega)) a8 rfl rfl (ae (aH aA a7 (af 0) ag (λ_ _=>rfl)) ak)))) (eV (bX (ud oE ui uY z7 ag (aH aA a7 (af 0) ag (λ_ _=>rfl)) (aI bo dE rfl B.len KR (af 2)))) (dJ (bX (bO rfl (aO j7 (hr.mono (by omega)) a8 rfl rfl (ae (ax 1 rfl) (ae (aH aA a7 (af 0) ag (λ_ _=>rfl)) ak)))))) (λ_ _=>rfl)) (λ_ _=>rfl)))
  (ay (aN dR))
  bC)
  (ay (aN (dG (fF hr.units) fk (cO (NB:=["one","put","thing"]) (own:=1) (ixs:=[2,0]) [] rfl (c5 (by kernel_rfl)) (λ_ _=>rfl) (rJ rfl (aH aA a7 (af 0) ag (λ_ _=>rfl))) (λH0 G0 par br bx C ex s3 H3 pn=>(cf (i:=0) (show (["one","put","thing"]:List Str).Nodup by decide +kernel))) (λH0 G0 par br bx C ex s3 H3 pn hB1=>(ra (bG (jl hr.u1) tu (af 0) (aH aA a7 (af 1) (aH aA a7 (af 2) ag (λ_ _=>rfl)) (λ_ _=>rfl)) (by with_unfolding_all rfl)))) (λH0 G0 par br bx C ex s3 H3 pn hB1=>(ax 0 (hB1 0 (by decide))))) (bI ak) (aZ _)))))
  bC)
  (aq (cp (lV.t (eV (bG D4 DL (aI (jH hr.gd hr.u1) nH rfl B.repr (by decide +kernel) (aH aA a7 (af 0) ag (λ_ _=>rfl))) gG (aZ _)) (dJ (bX (bO rfl (aO b8 (hr.mono (by omega)) a8 rfl rfl (ae (ax 1 rfl) (ae (aH aA a7 (af 0) ag (λ_ _=>rfl)) ak)))))) (λ_ _=>rfl)))
  (ay (aN dR))
  bC)
  (aq (cp (lV.t (eV (bX (bO rfl (eJ "tuple" (by decide) rfl rfl B.isinstance rfl B.tuple (by decide +kernel) (aH aA a7 (af 0) ag (λ_ _=>rfl))))) (dJ (bG (dI hr.units) fk (aI bo dE rfl B.len KR (aH aA a7 (af 0) ag (λ_ _=>rfl))) (aI bo dE rfl B.len KR (af 2)) (aZ _))) (λ_ _=>rfl)))
  (ay (aN dR))
  bC)
  (aq (fQ PassesOwn.leaving rfl (gx rfl B.range (aI bo dE rfl B.len KR (af 2))) (cf (i:=3) i6.nd)
  (aq (bg (i:=4) (SE.wv (aS cD gA (aS cD gA (dQ rfl (af 2) cR (cQ (af 3))) (bI (ae (SE.wv (aS cD gA (aH aA a7 (af 2) (af 3) (λ_ _=>rfl)) (bI (ae (aH aA a7 (af 0) ag (λ_ _=>rfl)) ak)))) ak))) (dQ rfl (af 2) (cQ (aS gc fV (af 3) ag)) cR))) i6.nd)
  (ay (cp (bX (bO rfl (aO fH (hr.mono (by omega)) a8 rfl rfl (ae (aH aA a7 (aH aA a7 (af 0) ag (λ_ _=>rfl)) (af 3) (λ_ _=>rfl)) (ae (ax 1 rfl) (ae (ax 4 rfl) ak))))))
  (ay (aN dR))
  bC))))
  (ay (aN dR)))))))⟩,λds h=>aU ds h⟩
abbrev dX:Stmt:=top 42
def fX:aL ["order","some","one","other"] ["order","some"] (av dX):=⟨rfl,rfl,rfl,by decide +kernel,rfl,by decide +kernel,by decide +kernel⟩
def lU {f:Addr}{fd:FuncData}{cx:List D->FR}(F:jg K mg "_law_two_ring" dX ["order","some"] f fd)(B:jQ mg)(fO:cW P w K mg base ca "_law_on" ["order","one","other"] 1 cx):cW P w K mg base ca "_law_two_ring" ["order","some"] 2 (bE 4 2 (eH cx)):=
 ⟨⟨f,fd,F.mg,F.F.kp,F.b,bb (N:=["order","some","one","other"]) (k:=1) F.F fX λcdv A outer s H G E hr=>
  (aq (fQ PassesOwn.leaving rfl (EE rfl (ax 1 rfl)) (cf (i:=2) fX.nd)
  (ay (fQ PassesOwn.leaving rfl (EE rfl (ax 1 rfl)) (cf (i:=3) fX.nd)
  (ay (cp (lV.t (mO (bO rfl (aO fO (hr.mono (by decide)) a8 rfl rfl (ae (ax 0 rfl) (ae (ax 2 rfl) (ae (ax 3 rfl) ak))))) (lR (bO rfl (aO fO (hr.mono (by decide)) a8 rfl rfl (ae (ax 0 rfl) (ae (ax 3 rfl) (ae (ax 2 rfl) ak)))))) (λ_ _=>rfl)))
  (ay (nO (bI (ae (ax 2 rfl) (ae (ax 3 rfl) ak)))))
  bC)))))
  (ay (aN Bb)))⟩,λds h=>aU ds h⟩
abbrev gY:Stmt:=top 43
def bQ:aL ["box","order","put","deep","place","found","every_turn","turn","papers","more"] ["box","order","put","deep"] (av gY):=⟨rfl,rfl,rfl,by decide +kernel,rfl,by decide +kernel,by decide +kernel⟩
def pd {f:Addr}{fd:FuncData}{cA dh:List D->FR}{bw aw:List D->Int->FB}{k:Nat}(hk:2<=k)(F:jg K mg "_law_paper" gY ["box","order","put","deep"] f fd)(B:jQ mg)(gK:cW P w K mg base ca "_law_two_ring" ["order","some"] 2 cA)(jx:cW P w K mg base ca "_law_turns" ["order"] 2 dh)(fA:iy P w K mg base "_law_paper" ["box","order","put","deep"] k bw)(aK:iy P w K mg base "_law_take" ["box","many"] 1 aw):iy P w K mg base "_law_paper" ["box","order","put","deep"] (k + 1) (l6 10 3 (g7 cA dh bw aw)):=
 ⟨⟨f,fd,F.mg,F.F.kp,F.b,j9 (ca:=ca) (N:=["box","order","put","deep","place","found","every_turn","turn","papers","more"]) (k:=k) F.F bQ (by decide) λcdv A outer s H G b E hr=>
  (aq (fQ PassesOwn.leaving rfl (gx rfl B.range (aI bo dE rfl B.len KR (af 2))) (cf (i:=4) bQ.nd)
  (aq (bg (i:=5) (aO gK (hr.mono (by omega)) a8 rfl rfl (ae (ax 1 rfl) (ae (aH aA a7 (af 2) (af 4) (λ_ _=>rfl)) ak))) bQ.nd)
  (ay (cp (Ck (af 5))
  (ay (aN (bF (ae gG (ae (ax 4 rfl) (ae (ax 5 rfl) ak))))))
  bC))))
  (aq (bg (i:=6) (aO jx (hr.mono (by omega)) a8 rfl rfl (ae (ax 1 rfl) ak)) bQ.nd)
  (aq (cp (lV.t (eV (bG (fF hr.units) fk (af 3) ag (aZ _)) (dJ (bG (fF hr.units) fk (af 6) (bI ak) (aZ _))) (λ_ _=>rfl)))
  (ay (aN (bF (ae gG (ae ag (ae (SE.wv (dQ rfl (aH aA a7 (af 2) ag (λ_ _=>rfl)) cR (cQ ag))) ak))))))
  bC)
  (aq (bg (i:=7) (aH aA a7 (af 6) (fB 0 aK (hr.mono (by omega)) a8 rfl rfl (ae (aI bo dE rfl B.len KR (af 6)) ak)) (λ_ _=>rfl)) bQ.nd)
  (aq (cp (lV.t (mO (bG (dI hr.units) fk (aH aA a7 (af 2) ag (λ_ _=>rfl)) (bI ak) (aZ _)) (lR (bG DQ HK (fB 0 aK (hr.mono (by omega)) a8 rfl rfl (ae ag ak)) ag (aZ _))) (λ_ _=>rfl)))
  (ay (bg (i:=7) (xR rfl (aH aA a7 (aH aA a7 (af 2) ag (λ_ _=>rfl)) (wD mB wy ag) (λ_ _=>rfl))) bQ.nd))
  bC)
  (aq (nI (i:=8) (bI ak) bQ.nd)
  (aq (fQ PassesOwn.leaving rfl (gx rfl B.range (aI bo dE rfl B.len KR (af 2))) (cf (i:=4) bQ.nd)
  (aq (bg (i:=9) (SE.wv (aS cD gA (aS cD gA (dQ rfl (af 2) cR (cQ (af 4))) (bI (ae (SE.wv (aS cD gA (aH aA a7 (af 2) (af 4) (λ_ _=>rfl)) (bI (ae (ax 7 rfl) ak)))) ak))) (dQ rfl (af 2) (cQ (aS gc fV (af 4) ag)) cR))) bQ.nd)
  (ay (qM 8 (λ_=>rfl) (fB 0 fA (hr.mono (by omega)) a8 rfl rfl (ae (ax 1 rfl) (ae (ax 9 rfl) (ae (aS sM xF (af 3) ag) ak))))))))
  (ay (aN (bF (ae gG (ae (ax 7 rfl) (ae (gr cV lK rfl B.tuple (by decide +kernel) (af 8)) ak)))))))))))))⟩,λds β h=>kg ds β h⟩
abbrev iL:Stmt:=top 44
def bz:aL ["box","paper","odd","at","inner","papers","word","one","some","news"] ["box","paper","odd"] (av iL):=⟨rfl,rfl,rfl,by decide +kernel,rfl,by decide +kernel,by decide +kernel⟩
def pJ {f:Addr}{fd:FuncData}{bM aw:List D->Int->FB}{k:Nat}(hk:1<=k)(F:jg K mg "_law_bent" iL ["box","paper","odd"] f fd)(B:jQ mg)(gy:iy P w K mg base "_law_bent" ["box","paper","odd"] k bM)(aK:iy P w K mg base "_law_take" ["box","many"] 1 aw):iy P w K mg base "_law_bent" ["box","paper","odd"] (k + 1) (l6 10 2 (iI bM aw)):=
 ⟨⟨f,fd,F.mg,F.F.kp,F.b,j9 (ca:=λ_=>0) (N:=["box","paper","odd","at","inner","papers","word","one","some","news"]) (k:=k) F.F bz (by decide) λcdv A outer s H G b E hr=>
  (aq (cp (lV.t (mO (bG (fF hr.units) fk (aH aA a7 (af 1) ag (λ_ _=>rfl)) gG (aZ _)) (mO (bG (dI hr.units) fk (aH aA a7 (af 1) ag (λ_ _=>rfl)) (bF ak) (aZ _)) (lR (bG DQ HK (fB 0 aK (hr.mono (by omega)) a8 rfl rfl (ae ag ak)) ag (aZ _))) (λ_ _=>rfl)) (λ_ _=>rfl)))
  (aq (bg (i:=3) (fB 0 aK (hr.mono (by omega)) a8 rfl rfl (ae (aI bo dE rfl B.len KR (aH aA a7 (af 1) ag (λ_ _=>rfl))) ak)) bz.nd)
  (aq (bg (i:=4) (aH aA a7 (af 1) ag (λ_ _=>rfl)) bz.nd)
  (aq (bg (i:=5) (aS j8 oM (aS j8 oM (jk rfl (af 4) cR (cQ (af 3))) (bF (ae (fB 0 gy (hr.mono (by omega)) a8 rfl rfl (ae (aH aA a7 (af 4) (af 3) (λ_ _=>rfl)) (ae (ax 2 rfl) ak))) ak))) (jk rfl (af 4) (cQ (aS gc fV (af 3) ag)) cR)) bz.nd)
  (ay (aN (bF (ae gG (ae (aH aA a7 (af 1) ag (λ_ _=>rfl)) (ae (ax 5 rfl) ak)))))))))
  bC)
  (aq (BO (ax 1 rfl) (cf (i:=6) bz.nd) (cf (i:=7) bz.nd) (cf (i:=8) bz.nd))
  (@aq _ _ _ _ _ _ _ (@A2 _ _ _ 9 _ _ (aa (aR (aa (gv 6) (aa (gv 2) (aa (gv 8) ah)))) (aa (aR (aa (gv 6) (aa (gv 7) (aa (gv 2) ah)))) (aa (aR (aa (cst (.str "turns")) (aa (gv 7) (aa (gv 8) ah)))) (aa (aR (aa (gv 6) (aa (gv 7) ah))) ah)))) (([6] ++ ([2] ++ ([8] ++ []))) ++ (([6] ++ ([7] ++ ([2] ++ []))) ++ (([] ++ ([7] ++ ([8] ++ []))) ++ (([6] ++ ([7] ++ [])) ++ [])))) _ _ _ [("word",6),("odd",2),("some",8),("one",7)] (by kernel_rfl) (λ_=>rfl) (by kernel_rfl) bz.nd rfl (by first |exact Or.inl rfl |exact Or.inr rfl) (by first |exact .inl rfl |exact .inr rfl))
  (aq (bg (i:=9) (SE.wv (aS cD gA (af 9) (bI (ae (aS j8 oM (af 1) (bF (ae ag ak))) (ae (SE.wv (gr jL vn rfl B.list (by decide +kernel) (af 1))) (ae (ax 2 rfl) ak)))))) bz.nd)
  (aq (bg (i:=9) (SE.wv (aS cD gA (af 9) (bI (ae (bF (ae (ax 6 rfl) (ae (dG (fF hr.units) fk (af 7) ag (aZ _)) (ae (ax 8 rfl) ak)))) (ae (bF (ae (ax 6 rfl) (ae ag (ae (ax 8 rfl) ak)))) ak))))) bz.nd)
  (aq (bg (i:=9) (SE.wv (aS cD gA (af 9) (bI (ae (bF (ae (ax 6 rfl) (ae (ax 7 rfl) (ae (oy (SE.wv (dQ rfl (af 8) cR (cQ (wD mB wy ag)))) (jk rfl (af 8) cR (cQ (wD mB wy ag)))) ak)))) (ae (bF (ae (ax 6 rfl) (ae (ax 7 rfl) (ae (oy (SE.wv (aS cD gA (af 8) (oy (SE.wv (dQ rfl (af 8) cR (cQ ag))) (jk rfl (af 8) cR (cQ ag))))) (aS j8 oM (af 8) (oy (SE.wv (dQ rfl (af 8) cR (cQ ag))) (jk rfl (af 8) cR (cQ ag))))) ak)))) ak))))) bz.nd)
  (aq (bg (i:=9) (SE.wv (aS cD gA (af 9) (bI (ae (bF (ae (ax 6 rfl) (ae (ax 7 rfl) (ae (gr cV lK rfl B.tuple (by decide +kernel) (af 8)) ak)))) (ae (bF (ae (ax 6 rfl) (ae (ax 7 rfl) (ae (SE.wv (gr jL vn rfl B.list (by decide +kernel) (af 8))) ak)))) (ae (bF (ae (ax 6 rfl) (ae (ax 7 rfl) (ae (oy (SE.wv (z5 rfl (af 8))) (xR rfl (af 8))) ak)))) ak)))))) bz.nd)
  (ay (aN (aH aA a7 (af 9) (fB 0 aK (hr.mono (by omega)) a8 rfl rfl (ae ag ak)) (λ_ _=>rfl)))))))))))⟩,λds β h=>kg ds β h⟩
abbrev kR:Stmt:=top 45
def fS:aL ["script","k","box","order","count","put","paper","odd","things","thing","kept","found","due"] ["script"] (av kR):=⟨rfl,rfl,rfl,by decide +kernel,rfl,by decide +kernel,by decide +kernel⟩
def B9 {f:Addr}{fd:FuncData}{fW cz bu:List D->FR}{dD aw bw fP bM:List D->Int->FB}(F:jg K mg "law" kR ["script"] f fd)(B:jQ mg)(lF:cW P w K mg base ca "_law_box" ["script","k"] 1 fW)(gJ:cW P w K mg base ca "is_case_paper" ["thing","order","count"] 48 cz)(fH:cW P w K mg base ca "_law_shows" ["thing","order","put"] 43 bu)(jz:iy P w K mg base "_law_order" ["box","most"] 3 dD)(aK:iy P w K mg base "_law_take" ["box","many"] 1 aw)(fA:iy P w K mg base "_law_paper" ["box","order","put","deep"] 42 bw)(k8:iy P w K mg base "_law_odd" ["box"] 2 fP)(gy:iy P w K mg base "_law_bent" ["box","paper","odd"] 41 bM):fL P w K mg base (mS P w) 49 f fd ["script"] (zO K ca 1 (bE 13 1 (xX fW cz bu dD aw bw fP bM))):=
 bb (N:=["script","k","box","order","count","put","paper","odd","things","thing","kept","found","due"]) (k:=48) F.F fS λcdv A outer s H G E hr=>
  (aq (fQ PassesOwn.leaving rfl (gx rfl B.range (uI (yS rfl) Fv rfl B.max (by decide +kernel) ag (uI (yD rfl) Ed rfl B.min (by decide +kernel) (aI bo dE rfl B.len KR (af 0)) ag))) (cf (i:=1) fS.nd)
  (aq (Cu (i:=2) rfl (zm lF (hr.mono (by decide)) a8 rfl rfl (ae (ax 0 rfl) (ae (ax 1 rfl) ak))) fS.nd)
  (aq (bg (i:=3) (fB 2 jz (hr.mono (by decide)) a8 rfl rfl (ae ag ak)) fS.nd)
  (aq (bg (i:=4) (aS gc fV ag (fB 2 aK (hr.mono (by decide)) a8 rfl rfl (ae ag ak))) fS.nd)
  (aq (wF (i:=5) (NB:=["place"]) (own:=1) (ixs:=[]) [] rfl (c5 (by kernel_rfl)) (λ_ _=>rfl) (gx rfl B.range (af 4)) (λH0 G0 par br bx C ex s3 H3 pn=>(cf (i:=0) (show (["place"]:List Str).Nodup by decide +kernel))) (λH0 G0 par br bx C ex s3 H3 pn hB1=>cY) (λH0 G0 par br bx C ex s3 H3 pn hB1=>(SE.wv (bI ak))) fS.nd)
  (aq (bg (i:=6) (fB 2 fA (hr.mono (by decide)) a8 rfl rfl (ae (ax 3 rfl) (ae (ax 5 rfl) (ae (aH aA a7 (bI (ae ag (ae ag (ae ag ak)))) (aS sM xF (af 4) ag) (λ_ _=>rfl)) ak)))) fS.nd)
  (aq (bg (i:=7) (fB 2 k8 (hr.mono (by decide)) a8 rfl rfl ak) fS.nd)
  (@aq _ _ _ _ _ _ _ (@A2 _ _ _ 8 _ _ (aa (gv 6) (aa (gv 7) (aa (aR (aa (cst (.str "ring")) (aa (cst (.int 0)) (aa (bH ah) ah)))) (aa (aR (aa (cst (.str "turn")) (aa (aR (aa (cst (.int 0)) (aa (cst (.int 1)) ah))) (aa (aR ah) ah)))) ah)))) ([6] ++ ([7] ++ (([] ++ ([] ++ ([] ++ []))) ++ (([] ++ (([] ++ ([] ++ [])) ++ ([] ++ []))) ++ [])))) _ _ _ [("paper",6),("odd",7)] (by kernel_rfl) (λ_=>rfl) (by kernel_rfl) fS.nd rfl (by first |exact Or.inl rfl |exact Or.inr rfl) (by first |exact .inl rfl |exact .inr rfl))
  (ay (fQ PassesOwn.leaving rfl (EE rfl (SE.wv (aS cD gA (af 8) (cO (NB:=["turn","box","paper","odd"]) (own:=1) (ixs:=[2,6,7]) [6,7] rfl (c5 (by kernel_rfl)) (λ_ _=>rfl) (gx rfl B.range ag) (λH0 G0 par br bx C ex s3 H3 pn=>(cf (i:=0) (show (["turn","box","paper","odd"]:List Str).Nodup by decide +kernel))) (λH0 G0 par br bx C ex s3 H3 pn hB2=>cY) (λH0 G0 par br bx C ex s3 H3 pn hB2=>(fB 1 gy (hr.mono (by decide)) l7 rfl rfl (ae (ax 2 (hB2 2 (by decide))) (ae (ax 3 (hB2 3 (by decide))) ak)))))))) (cf (i:=9) fS.nd)
  (aq (bg (i:=10) (aI (jH hr.gd hr.u1) nH rfl B.repr (by decide +kernel) (af 9)) fS.nd)
  (aq (bg (i:=11) (aO gJ (hr.mono (by decide)) a8 rfl rfl (ae (ax 9 rfl) (ae (ax 3 rfl) (ae (ax 4 rfl) ak)))) fS.nd)
  (aq (bg (i:=12) (aO fH (hr.mono (by decide)) a8 rfl rfl (ae (ax 9 rfl) (ae (ax 3 rfl) (ae (ax 5 rfl) ak)))) fS.nd)
  (ay (cp (lV.t (eV (bX (bO rfl (eJ "bool" (by decide) rfl rfl B.isinstance rfl B.bool (by decide +kernel) (af 11)))) (eV (bG (dI hr.units) fk (af 11) (af 12) (aZ _)) (dJ (bG D4 DL (aI (jH hr.gd hr.u1) nH rfl B.repr (by decide +kernel) (af 9)) (af 10) (aZ _))) (λ_ _=>rfl)) (λ_ _=>rfl)))
  (ay (aN dR))
  bC)))))))))))))))
  (ay (aN dR)))
end
end RQ
namespace RM
open PySem L2
theorem Aa {t u:VF Bool}{vs:List Nv}{β:Int}{a b:Bool}(h:t vs β=.ok a β)(h':u vs β=.ok b β):tT t u vs β=.ok (a && b) β:=by
 rw[jA,h];dsimp only[R.bnd]
 cases a with
 |true=>rw[Kl rfl,h'];rfl
 |false=>rfl
theorem CG {t u:VF Bool}{vs:List Nv}{β:Int}{a b:Bool}(h:t vs β=.ok a β)(h':u vs β=.ok b β):gB t u vs β=.ok (a || b) β:=by
 rw[nt,h];dsimp only[R.bnd]
 cases a with
 |true=>rfl
 |false=>rw[Kw Kx,h'];rfl
def aE {t:VF Bool}{vs:List Nv}{β:Int}{a:Bool}(h:t vs β=.ok a β):ly t vs β=.ok (!a) β:=by rw[qR,h];rfl
def EU (n:Nat):(jP n).Pairwise (· < ·):=by
 unfold jP
 rw[LP]
 exact List.pairwise_lt_range.imp λ{a b} h=>by omega
def upTo (n:Nat)(f:Pr->Bool)(i k:Nat):List Pr:=(OM.dO n).filter λp=>(decide (p.1 < i) || (decide (p.1=i) && decide (p.2 < k))) && f p
def Bp {n:Nat}(f:Pr->Bool)(i k:Nat)(h8:n<=8):(upTo n f i k).length<=64:=by
 have h1:(upTo n f i k).length<=(OM.dO n).length:=LM _ _
 rw[il] at h1
 have:n * n<=64:=L7 h8 h8
 omega
def yp (n:Nat)(f:Pr->Bool):upTo n f 0 0= []:=by
 unfold upTo
 rw[List.filter_eq_nil_iff]
 intro p hp
 have:=OM.bR.mp hp
 rw[KC (by omega),KC (p:=p.2 < ((0:Nat):Int)) (by omega)];simp
def zg (n:Nat)(f:Pr->Bool):upTo n f n 0=(OM.dO n).filter f:=by
 unfold upTo
 refine ME λp hp=>?_
 have:=(OM.bR.mp hp).1.2
 rw[Kn this];simp
def zY (n:Nat)(f:Pr->Bool)(i:Nat):upTo n f i n=upTo n f (i + 1) 0:=by
 unfold upTo
 refine ME λp hp=>?_
 have h:=OM.bR.mp hp
 congr 1
 rw[Lk]
 simp only[Mv,Km,KQ]
 omega
def qi {n i k:Nat}(f:Pr->Bool)(hi:i < n)(hk:k < n):upTo n f i (k + 1)=upTo n f i k ++ if f ((i:Int),(k:Int))=true then [((i:Int),(k:Int))] else []:=by
 refine OM.iS (OM.fJ _ (OM.iB n)) ?_ λx=>?_
 ·show List.Pairwise OM.BG _
  rw[List.pairwise_append]
  refine⟨OM.fJ _ (OM.iB n),?_,λp hp q hq=>?_⟩
  ·split <;> simp
  ·unfold upTo at hp
   have h1:=(KP.mp hp).2
   simp only[Mv,Km,KQ] at h1
   split at hq
   ·have:q=((i:Int),(k:Int)):=by simpa using hq
    subst this
    show p.1 < (i:Int)\/(p.1=(i:Int)/\p.2 < (k:Int))
    exact h1.1
   ·cases hq
 ·rw[KI]
  unfold upTo
  rw[KP,KP,OM.bR]
  simp only[Mv,Km,KQ]
  constructor
  ·rintro⟨h1,h2,h3⟩
   by_cases z:x.1=i/\x.2=k
   ·obtain⟨xa,xb⟩:=x
    simp only at z h3
    obtain⟨rfl,rfl⟩:=z
    rw[Kl h3]
    exact .inr (K7.mpr rfl)
   ·exact .inl ⟨h1,by omega,h3⟩
  ·rintro (⟨h1,h2,h3⟩ |h)
   ·exact⟨h1,by omega,h3⟩
   ·split at h
    ·rename_i hf
     have:x=((i:Int),(k:Int)):=by simpa using h
     subst this
     exact⟨⟨⟨by show (0:Int)<=(i:Int);omega,by show (i:Int) < n;omega⟩,by show (0:Int)<=(k:Int);omega,by show (k:Int) < n;omega⟩,.inr ⟨rfl,by show (k:Int) < ((k + 1:Nat):Int);omega⟩,hf⟩
    ·cases h
def tupI (r:List Int):D:=.tuple (r.map int)
def xK {fa fb:VF D}{vs:List Nv}{β:Int}{r:List Int}{k:Int}(h:fa vs β=.ok (tupI r) β)(h':fb vs β=.ok (.int k) β)(hk:k∈r):mw fa fb vs β=.ok (.int (r.idxOf k:Nat)) β:=by
 unfold mw
 rw[h]
 dsimp only[R.bnd]
 rw[Kl (by rfl),h']
 dsimp only[R.bnd,Dl,tupI]
 rw[kx]
 dsimp only
 rw[Kl hk];rfl
noncomputable def zl:List D->FR:=bE 6 2 hW
def F0 (ns:List Int)(k:Nat):∃z,zl [cS ns,.int k]=.ok (.list [.int z]) true:=by
 show ∃z,fin (hW [.fz (cS ns),.fz (.int k),.no,.no,.no,.no] 0)=.ok (.list [.int z]) true
 unfold hW
 have e0:f2 (f2 (cst (.int 7919)) (gv 1) dF) (cst (.int 13)) b4 [Nv.da (cS ns),.da (.int k),.no,.no,.no,.no] 0=.ok (.int (7919 * k + 13)) 0:=az (az (x:=.int 7919) (y:=.int k) rfl rfl (rH ⟨by omega,by omega⟩)) rfl rfl
 rw[aX (env':=[.fz (cS ns),.fz (.int k),.fz (.int (7919 * k + 13)),.no,.no,.no]) (β':=0) ?h0]
 case h0=>
  show toS (f2 (f2 (cst (.int 7919)) (gv 1) dF) (cst (.int 13)) b4 [Nv.da (cS ns),.da (.int k),.no,.no,.no,.no] 0) _=_
  rw[e0];rfl
 obtain⟨c,hc⟩:∃c:Int,iD ([] ++ []) (cL (f2 (gv 1) (f1 (gv 0) bW) sW)) (bS 2 ([] ++ []) (f2 (gv 0) (gv 1) aW)) jR [.fz (cS ns),.fz (.int k),.fz (.int (7919 * k + 13)),.no,.no,.no] 0=.nx [.fz (cS ns),.fz (.int k),.fz (.int c),.no,.no,.no] 0:=by
  have e:cL (f2 (gv 1) (f1 (gv 0) bW) sW) (vl [.fz (cS ns),.fz (.int k),.fz (.int (7919 * k + 13)),.no,.no,.no]) 0=.ok (decide ((k:Int) < (ns.map int).length)) 0:=FY rfl rfl
  by_cases h:k < ns.length
  ·rw[Kn (by simp;exact h)] at e
   refine⟨ns[k],?_⟩
   rw[gp e]
   show toS (f2 (gv 0) (gv 1) aW [Nv.da (cS ns),.da (.int k),.da (.int (7919 * k + 13)),.no,.no,.no] 0) _=_
   rw[az (x:=cS ns) (y:=.int k) (d:=.int ns[k]) (β1:=0) (β2:=0) rfl rfl]
   ·rfl
   ·show i9 (ns.map int) (k:Int)=_
    rw[kl,lE h];rfl
  ·rw[KC (by simp;omega)] at e
   exact⟨_,by rw[gL e];rfl⟩
 rw[aX hc]
 have e1:cL (f2 (f2 (gv 2) (cst (.int 2)) jU) (cst (.int 0)) (cG false)) (vl [.fz (cS ns),.fz (.int k),.fz (.int c),.no,.no,.no]) 0=.ok (decide (c % 2=0)) 0:=gj (neg:=false) (az rfl rfl (nU (by omega))) rfl
 by_cases h:c % 2=0
 ·rw[Kn h] at e1
  refine⟨c / 2,?_⟩
  rw[c9 (d:=.list [.int (c / 2)]) (b:=true) (β':=0)]
  ·rfl
  ·rw[gp e1]
   show toS (bH (aa (f2 (gv 2) (cst (.int 2)) Gf) ah) [Nv.da (cS ns),.da (.int k),.da (.int c),.no,.no,.no] 0) _=_
   rw[iH (ds:=[.int (c / 2)]) (β1:=0)]
   ·rfl
   ·have e2:f2 (gv 2) (cst (.int 2)) Gf [Nv.da (cS ns),.da (.int k),.da (.int c),.no,.no,.no] 0=.ok (.int (c / 2)) 0:=az (x:=.int c) rfl rfl (GJ (by omega) (by omega))
    rw[cJ,e2];rfl
   ·simp
 ·rw[KC h] at e1
  rw[aX (env':=[.fz (cS ns),.fz (.int k),.fz (.int c),.no,.no,.no]) (β':=0) (by rw[gL e1];rfl)]
  rw[aX (env':=[.fz (cS ns),.fz (.int k),.fz (.int c),.fz (.int 0),.no,.no]) (β':=0) (by rfl)]
  obtain⟨env',β',el,z,x,y,rfl,rfl⟩:=ig (t:=.nm 4) (m:=aM (bS 5 ((((([] ++ []) ++ []) ++ ([] ++ [])) ++ []) ++ []) (f2 (f2 (f2 (f2 (f2 (gv 2) (cst (.int 2147483647)) jU) (cst (.int 48271)) dF) (f2 (cst (.int 7919)) (gv 4) dF) b4) (cst (.int 1)) b4) (cst (.int 2147483647)) jU))
    (aM (bS 5 (([] ++ []) ++ []) (f2 (f2 (gv 5) (gv 5) dF) (cst (.int 2147483629)) jU))
    (bS 3 (([] ++ []) ++ (([] ++ ([] ++ [])) ++ [])) (f2 (f2 (gv 3) (cst (.int 2147483647)) dF) (f2 (f2 (gv 5) (f2 (gv 5) (cst (.int 13)) b4) dF) (cst (.int 2147483647)) jU) b4)))) (ds:=cI 0 16) (k:=0)
   (λ_ env β=>∃(z:Int) (x y:Sl),env= [.fz (cS ns),.fz (.int k),.fz (.int c),.fz (.int z),x,y]/\β=0) (env:=[.fz (cS ns),.fz (.int k),.fz (.int c),.fz (.int 0),.no,.no]) (β:=0) ⟨0,.no,.no,rfl,rfl⟩ (by
    rintro i d env β hi ⟨z,x,y,rfl,rfl⟩
    obtain⟨_,rfl⟩:=jh hi
    generalize (0 + (i:Int))=j
    refine⟨[.fz (cS ns),.fz (.int k),.fz (.int c),.fz (.int z),.fz (.int j),y],rfl,?_⟩
    have b1:0<=c % 2147483647/\c % 2147483647 < 2147483647:=⟨Mf _ (by omega),Mg _ (by omega)⟩
    have a1:f2 (f2 (f2 (f2 (f2 (gv 2) (cst (.int 2147483647)) jU) (cst (.int 48271)) dF) (f2 (cst (.int 7919)) (gv 4) dF) b4) (cst (.int 1)) b4) (cst (.int 2147483647)) jU (vl [.fz (cS ns),.fz (.int k),.fz (.int c),.fz (.int z),.fz (.int j),y]) 0=.ok (.int ((c % 2147483647 * 48271 + 7919 * j + 1) % 2147483647)) 0:=
     az (az (az (az (az (x:=.int c) rfl rfl (nU (by omega))) rfl (Aq ⟨by omega,by omega⟩)) (az (x:=.int 7919) (y:=.int j) rfl rfl (rH ⟨by omega,by omega⟩)) rfl) rfl rfl) rfl (nU (by omega))
    generalize hp:(c % 2147483647 * 48271 + 7919 * j + 1) % 2147483647=p at a1
    have bp:0<=p/\p < 2147483647:=by rw[<-hp];exact⟨Mf _ (by omega),Mg _ (by omega)⟩
    rw[aX (env':=[.fz (cS ns),.fz (.int k),.fz (.int c),.fz (.int z),.fz (.int j),.fz (.int p)]) (β':=0) ?k1]
    case k1=>rw[fm,a1];rfl
    have a2:f2 (f2 (gv 5) (gv 5) dF) (cst (.int 2147483629)) jU (vl [.fz (cS ns),.fz (.int k),.fz (.int c),.fz (.int z),.fz (.int j),.fz (.int p)]) 0=.ok (.int (p * p % 2147483629)) 0:=
     az (az (x:=.int p) (y:=.int p) rfl rfl (rH ⟨by omega,by omega⟩)) rfl (nU (by omega))
    generalize hq:p * p % 2147483629=q at a2
    have bq:0<=q/\q < 2147483629:=by rw[<-hq];exact⟨Mf _ (by omega),Mg _ (by omega)⟩
    rw[aX (env':=[.fz (cS ns),.fz (.int k),.fz (.int c),.fz (.int z),.fz (.int j),.fz (.int q)]) (β':=0) ?k2]
    case k2=>rw[fm,a2];rfl
    have a3:f2 (f2 (gv 3) (cst (.int 2147483647)) dF) (f2 (f2 (gv 5) (f2 (gv 5) (cst (.int 13)) b4) dF) (cst (.int 2147483647)) jU) b4 (vl [.fz (cS ns),.fz (.int k),.fz (.int c),.fz (.int z),.fz (.int j),.fz (.int q)]) 0=.ok (.int (z * 2147483647 + q * (q + 13) % 2147483647)) 0:=
     az (az (x:=.int z) rfl rfl (Aq ⟨by omega,by omega⟩)) (az (az (x:=.int q) (y:=.int (q + 13)) rfl rfl (rH ⟨by omega,by omega⟩)) rfl (nU (by omega))) rfl
    refine⟨[.fz (cS ns),.fz (.int k),.fz (.int c),.fz (.int (z * 2147483647 + q * (q + 13) % 2147483647)),.fz (.int j),.fz (.int q)],0,?_,_,_,_,rfl,rfl⟩
    rw[fm,a3];rfl)
  refine⟨z,?_⟩
  rw[aX (env':=[.fz (cS ns),.fz (.int k),.fz (.int c),.fz (.int z),x,y]) (β':=0) ?h2]
  case h2=>exact el
  show fin (toS (bH (aa (gv 3) ah) [.da (cS ns),.da (.int k),.da (.int c),.da (.int z),x.val,y.val] 0) _)=_
  rw[iH (ds:=[.int z]) (β1:=0) rfl (by simp)]
  rfl
noncomputable def qc:List D->Int->FB:=l6 4 1 (dZ cj)
def EL (ns:List Int)(hz:ns.length<=100)(β:Int):∃(ms:List Int) (β':Int),qc [.list (ns.map int)] β=.ok (tupI ms) false β'/\ms.Perm ns:=by
 show ∃(ms:List Int) (β':Int),rF (dZ cj [.bx,.fz (.list (ns.map int)),.no,.no] β)=.ok (tupI ms) false β'/\ms.Perm ns
 unfold dZ
 rw[aX (env':=[.bx,.fz (.list (ns.map int)),.ow (.list (ns.map int)),.no]) (β':=β) (by rfl)]
 have ez:bH ah [Nv.bx,.da (.list (ns.map int)),.da (.list (ns.map int)),.no] β=.ok (.list []) β:=iH rfl (by simp)
 rw[aX (env':=[.bx,.fz (.list (ns.map int)),.ow (.list (ns.map int)),.ow (.list [])]) (β':=β) ?h]
 case h=>
  show toS (bH ah [Nv.bx,.da (.list (ns.map int)),.da (.list (ns.map int)),.no] β) _=_
  rw[ez];rfl
 obtain⟨env',β',ew,ms,rfl,hp⟩:=oh (L:=[] ++ []) (t:=cL (f2 (gv 2) (bH ah) (cG true))) (m:=jC 3 2 ([] ++ []) (iY 0 cj (aa (f1 (gv 2) bW) ah)))
  (λk env β=>∃ls ms:List Int,env= [.bx,.fz (.list (ns.map int)),.ow (.list (ls.map int)),.ow (.list (ms.map int))]/\(ms ++ ls).Perm ns/\k=ls.length)
  (λenv β=>∃ms:List Int,env= [.bx,.fz (.list (ns.map int)),.ow (.list []),.ow (.list (ms.map int))]/\ms.Perm ns) (n:=1000) (k:=ns.length) (env:=[.bx,.fz (.list (ns.map int)),.ow (.list (ns.map int)),.ow (.list [])]) (β:=β) (by omega) ⟨ns,[],rfl,by simp,rfl⟩ (by
   rintro k env β ⟨ls,ms,rfl,hp,rfl⟩
   have e1:bH ah [Nv.bx,.da (.list (ns.map int)),.da (.list (ls.map int)),.da (.list (ms.map int))] β=.ok (.list (([]:List Int).map int)) β:=iH rfl (by simp)
   have et:cL (f2 (gv 2) (bH ah) (cG true)) [Nv.bx,.da (.list (ns.map int)),.da (.list (ls.map int)),.da (.list (ms.map int))] β=.ok (!decide (ls= [])) β:=
    cw _ _ _ _ (az (x:=.list (ls.map int)) rfl e1 (by rw[By];rfl))
   refine⟨_,_,et,?_⟩
   have hlen:=hp.length_eq
   rw[KN] at hlen
   cases ls with
   |nil=>exact .inl ⟨rfl,ms,rfl,by simpa using hp⟩
   |cons y ys=>
    refine .inr ⟨rfl,?_⟩
    have hm:(0:Int) < ((y :: ys).length:Nat)/\(((y :: ys).length:Nat):Int) < 1073741824:=by
     have:(y :: ys).length<=100:=by omega
     constructor
     ·simp
     ·omega
    obtain⟨j,hj⟩:∃j:Nat,β % (((y :: ys).length:Nat):Int)=j:=⟨(β % (((y :: ys).length:Nat):Int)).toNat,by have:=Mf β (b:=(((y :: ys).length:Nat):Int)) (by omega);omega⟩
    have hj2:j < (y :: ys).length:=by have:=Mg β hm.1;omega
    have ef:iY 0 cj (aa (f1 (gv 2) bW) ah) [Nv.bx,.da (.list (ns.map int)),.da (.list ((y :: ys).map int)),.da (.list (ms.map int))] β=.ok (.int (j:Int)) (β / (((y :: ys).length:Nat):Int)):=by
     refine cP (ds:=[.int (((y :: ys).length:Nat):Int)]) (b:=false) (by rfl) ?_ (by rw[qY hm.1 hm.2,hj])
     show R.ok [int ((((y :: ys).map int).length:Nat):Int)] β=_
     rw[Ko]
    have hpop:yw ((y :: ys).map int) (.int (j:Int))=some (.int (y :: ys)[j],((y :: ys).eraseIdx j).map int):=by
     unfold yw
     dsimp only
     rw[Kl ⟨by omega,by omega⟩]
     have es:seqIndex? (j:Int) ((y :: ys).map int).length=some j:=by
      rw[Ko]
      exact PySem.StrLaws.seqIndex_nonneg (by omega) (by omega)
     rw[es]
     dsimp only
     rw[KD,Kh hj2,qx];rfl
    refine⟨[.bx,.fz (.list (ns.map int)),.ow (.list (((y :: ys).eraseIdx j).map int)),.ow (.list ((ms ++ [(y :: ys)[j]]).map int))],β / (((y :: ys).length:Nat):Int),((y :: ys).eraseIdx j).length,?_,?_,(y :: ys).eraseIdx j,ms ++ [(y :: ys)[j]],rfl,?_,rfl⟩
    ·show jC 3 2 ([] ++ []) (iY 0 cj (aa (f1 (gv 2) bW) ah)) [.bx,.fz (.list (ns.map int)),.ow (.list ((y :: ys).map int)),.ow (.list (ms.map int))] β=_
     rw[vG (ds:=ms.map int) (es:=(y :: ys).map int) (by rfl) (by rfl) (by decide) ef (by rfl) hpop (by rw[Ko];omega),Lu]
     rfl
    ·rw[List.length_eraseIdx]
     rw[Kl hj2]
     show (y :: ys).length - 1 < (y :: ys).length
     simp
    ·rw[Mh]
     exact (List.Perm.append_left ms (oR (Kh hj2))).trans hp)
 refine⟨ms,β',?_,hp⟩
 rw[aX ew]
 rfl
def m9 (rows:List (List Int))(p:Pr):Bool:= !decide (p.1=p.2) && rows.all λr=>decide (r.idxOf p.1 < r.idxOf p.2)
def sE {α:Type}{fa:VF D}{vs:List Nv}{β:Int}{l:List α}{f:α->Bool}(h:fa vs β=.ok (.list (l.map λq=>PyData.bool (f q))) β):f1 fa (bN λbs=>bs.all id) vs β=.ok (.bool (l.all f)) β:=by
 refine cF h ?_
 simp only[bN]
 rw[fZ]
 simp[all_map]
def oY:List D->FR:=bE 5 2 iJ
def CD {n:Nat}{rows:List (List Int)}(h8:n<=8)(hr:rows.length<=100)(hp:∀r,r∈rows->r.Perm (jP n)):oY [.int n,.list (rows.map tupI)]=.ok (.tuple (((OM.dO n).filter (m9 rows)).map ar)) false:=by
 show fin (iJ [.fz (.int n),.fz (.list (rows.map tupI)),.no,.no,.no] 0)=_
 unfold iJ
 rw[aX (env':=[.fz (.int n),.fz (.list (rows.map tupI)),.ow (.list []),.no,.no]) (β':=0) ?g1]
 case g1=>rw[Bu,iH (ds:=[]) rfl (by simp)];rfl
 obtain⟨env',β',ef,s,t,rfl,rfl⟩:=ig (t:=.nm 3) (m:=fg (.nm 4) [] (bP (gv 0))
   (iD (([] ++ []) ++ ([] ++ [])) (tT (cL (f2 (gv 3) (gv 4) (cG true))) (fR (f1 (aQ 1 [3,4] (.nm 0) (fj (gv 1)) i7 (f2 (mw (gv 0) (gv 1)) (mw (gv 0) (gv 2)) sW)) (bN λbs=>bs.all id))))
   (sH 2 ([3] ++ ([4] ++ [])) (aR (aa (gv 3) (aa (gv 4) ah))))
   jR)) (ds:=cI 0 n) (k:=0)
  (λi env β=>∃s t:Sl,env= [.fz (.int n),.fz (.list (rows.map tupI)),.ow (.list ((upTo n (m9 rows) i 0).map ar)),s,t]/\β=0)
  (env:=[.fz (.int n),.fz (.list (rows.map tupI)),.ow (.list []),.no,.no]) (β:=0) ⟨.no,.no,by rw[yp];rfl,rfl⟩ (by
   rintro i d env β hi ⟨s,t,rfl,rfl⟩
   obtain⟨hin,rfl⟩:=jh hi
   refine⟨[.fz (.int n),.fz (.list (rows.map tupI)),.ow (.list ((upTo n (m9 rows) (0 + i) 0).map ar)),.fz (.int (0 + (i:Int))),t],rfl,?_⟩
   rw[LC,LB]
   obtain⟨env',β',ef,t2,rfl,rfl⟩:=ig (t:=.nm 4) (m:=iD (([] ++ []) ++ ([] ++ [])) (tT (cL (f2 (gv 3) (gv 4) (cG true))) (fR (f1 (aQ 1 [3,4] (.nm 0) (fj (gv 1)) i7 (f2 (mw (gv 0) (gv 1)) (mw (gv 0) (gv 2)) sW)) (bN λbs=>bs.all id))))
     (sH 2 ([3] ++ ([4] ++ [])) (aR (aa (gv 3) (aa (gv 4) ah))))
     jR) (ds:=cI 0 n) (k:=0)
    (λk env β=>∃t:Sl,env= [.fz (.int n),.fz (.list (rows.map tupI)),.ow (.list ((upTo n (m9 rows) i k).map ar)),.fz (.int i),t]/\β=0)
    (env:=[.fz (.int n),.fz (.list (rows.map tupI)),.ow (.list ((upTo n (m9 rows) i 0).map ar)),.fz (.int i),t]) (β:=0) ⟨t,rfl,rfl⟩ (by
     rintro k d env β hk ⟨t,rfl,rfl⟩
     obtain⟨hkn,rfl⟩:=jh hk
     refine⟨[.fz (.int n),.fz (.list (rows.map tupI)),.ow (.list ((upTo n (m9 rows) i (0 + k)).map ar)),.fz (.int i),.fz (.int (0 + (k:Int)))],rfl,?_⟩
     rw[LC,LB]
     have ec:aQ 1 [3,4] (.nm 0) (fj (gv 1)) i7 (f2 (mw (gv 0) (gv 1)) (mw (gv 0) (gv 2)) sW) (vl [.fz (.int n),.fz (.list (rows.map tupI)),.ow (.list ((upTo n (m9 rows) i k).map ar)),.fz (.int i),.fz (.int k)]) 0=.ok (.list (rows.map λr=>PyData.bool (decide (r.idxOf (i:Int) < r.idxOf (k:Int))))) 0:=by
      refine eN (l:=rows) (e:=tupI) (λr=>PyData.bool (decide (r.idxOf (i:Int) < r.idxOf (k:Int)))) rfl (by omega) λr hr=>⟨_,rfl,?_⟩
      have hp:=hp r hr
      refine az (xK (r:=r) (k:=i) rfl rfl (hp.mem_iff.mpr (gf.mpr ⟨by omega,by omega⟩))) (xK (r:=r) (k:=k) rfl rfl (hp.mem_iff.mpr (gf.mpr ⟨by omega,by omega⟩))) ?_
      show some (PyData.bool (decide (((r.idxOf (i:Int):Nat):Int) < ((r.idxOf (k:Int):Nat):Int))))=_
      congr 2
      rw[Lk,KQ,KQ]
      omega
     have et:tT (cL (f2 (gv 3) (gv 4) (cG true))) (fR (f1 (aQ 1 [3,4] (.nm 0) (fj (gv 1)) i7 (f2 (mw (gv 0) (gv 1)) (mw (gv 0) (gv 2)) sW)) (bN λbs=>bs.all id))) (vl [.fz (.int n),.fz (.list (rows.map tupI)),.ow (.list ((upTo n (m9 rows) i k).map ar)),.fz (.int i),.fz (.int k)]) 0=.ok (m9 rows ((i:Int),(k:Int))) 0:=
      Aa (gj (neg:=true) (i:=i) (j:=k) rfl rfl) (c4 (sE ec))
     have hl:=Bp (m9 rows) i k h8
     by_cases c:m9 rows ((i:Int),(k:Int))=true
     ·rw[c] at et
      refine⟨[.fz (.int n),.fz (.list (rows.map tupI)),.ow (.list ((upTo n (m9 rows) i (k + 1)).map ar)),.fz (.int i),.fz (.int k)],0,?_,_,rfl,rfl⟩
      rw[gp et,qi (m9 rows) hin hkn,Kl c,Lu]
      exact xU (i:=2) (L:=[3] ++ ([4] ++ [])) (env:=[.fz (.int n),.fz (.list (rows.map tupI)),.ow (.list ((upTo n (m9 rows) i k).map ar)),.fz (.int i),.fz (.int k)]) (ds:=(upTo n (m9 rows) i k).map ar) (by rfl) (jn rfl rfl) (by rfl) (by rw[Ko];omega)
     ·rw[Bool.not_eq_true] at c
      rw[c] at et
      refine⟨[.fz (.int n),.fz (.list (rows.map tupI)),.ow (.list ((upTo n (m9 rows) i (k + 1)).map ar)),.fz (.int i),.fz (.int k)],0,?_,_,rfl,rfl⟩
      rw[gL et,qi (m9 rows) hin hkn,c]
      simp)
   rw[b9,LC,zY] at ef
   refine⟨[.fz (.int n),.fz (.list (rows.map tupI)),.ow (.list ((upTo n (m9 rows) (i + 1) 0).map ar)),.fz (.int i),t2],0,?_,_,_,rfl,rfl⟩
   rw[fo (env:=[.fz (.int n),.fz (.list (rows.map tupI)),.ow (.list ((upTo n (m9 rows) i 0).map ar)),.fz (.int i),t]) (cC (n:=n) (β1:=0) rfl (by omega))]
   exact ef)
 rw[b9,LC,zg] at ef
 rw[aX (env':=[.fz (.int n),.fz (.list (rows.map tupI)),.ow (.list (((OM.dO n).filter (m9 rows)).map ar)),s,t]) (β':=0) ?g2]
 case g2=>
  rw[fo (env:=[.fz (.int n),.fz (.list (rows.map tupI)),.ow (.list []),.no,.no]) (cC (n:=n) (β1:=0) rfl (by omega))]
  exact ef
 rfl
def nv {rows:List (List Int)}{p:Pr}:m9 rows p=true↔p.1≠p.2/\∀r,r∈rows->r.idxOf p.1 < r.idxOf p.2:=by
 unfold m9
 rw[Km,Mi,LQ,Lf]
 simp only[KQ]
def yQ {n:Nat}{rows:List (List Int)}(h1:1<=n)(h8:n<=8)(hne:rows≠ []):OM.Ord n ((OM.dO n).filter (m9 rows)):=by
 refine⟨h1,h8,λp hm=>OM.bR.mp (KP.mp hm).1,OM.fJ _ (OM.iB n),λa h=>?_,λa b c hab hbc=>?_⟩
 ·exact (nv.mp (KP.mp h).2).1 rfl
 ·obtain⟨g1,t1⟩:=KP.mp hab
  obtain⟨g2,t2⟩:=KP.mp hbc
  have g1:=OM.bR.mp g1
  have g2:=OM.bR.mp g2
  obtain⟨n1,q1⟩:=nv.mp t1
  obtain⟨n2,q2⟩:=nv.mp t2
  refine KP.mpr ⟨OM.bR.mpr ⟨g1.1,g2.2⟩,nv.mpr ⟨λe=>?_,λr hr=>Nat.lt_trans (q1 r hr) (q2 r hr)⟩⟩
  simp only at e q1 q2
  subst e
  cases rows with
  |nil=>exact hne rfl
  |cons r rest=>
   have hr:r∈r :: rest:=Ku ..
   exact absurd (Nat.lt_trans (q1 r hr) (q2 r hr)) (K5 _)
theorem lh {α:Type}{t:Tg}{fe:VF D}{vs:List Nv}(e:α->D)(P:α->Prop):∀{ds:List D} {β:Int},(∀d,d∈ds->∃vs1,kS t d vs=some vs1/\∀β,∃a β',fe vs1 β=.ok (e a) β'/\P a)->
  ∃(as:List α) (β':Int),gu t i7 fe vs ds β=.ok (as.map e) β'/\as.length=ds.length/\∀a,a∈as->P a
 | [],β,_=>⟨[],β,rfl,rfl,λa h=>(by cases h)⟩
 |d :: ds,β,h=>by
  obtain⟨vs1,hb,hf⟩:=h d (Ku ..)
  obtain⟨a,β1,ef,pa⟩:=hf β
  obtain⟨as,β2,ec,hl,hP⟩:=lh e P (ds:=ds) (β:=β1) λd' hd=>h d' (Kr _ hd)
  refine⟨a :: as,β2,?_,by rw[KW,KW,hl],λx hx=>?_⟩
  ·unfold gu
   rw[hb]
   dsimp only[i7,R.okb]
   rw[Kl rfl,ef]
   dsimp only
   rw[ec];rfl
  ·rcases Ks.mp hx with z |z
   ·rw[z];exact pa
   ·exact hP x z
def og:D->Bool
 | .tuple _=>true
 |_=>false
theorem nD {d:D}(h:og d=true):∃ds,d=.tuple ds:=by
 cases d with
 |tuple ds=>exact⟨ds,rfl⟩
 |_=>cases h
def AB {d:D}(h:b5 d=false):dw "tuple" d=some (.bool (og d)):=by
 unfold dw;rw[h];cases d <;> rfl
section
variable {fa fb:VF D}{vs:List Nv}{β:Int}
def qh {d:D}(ha:fa vs β=.ok d β)(h:b5 d=false):fR (f1 fa (dw "tuple")) vs β=.ok (og d) β:=c4 (cF ha (AB h))
def nP {l:List D}{f:D->Bool}(h:fa vs β=.ok (.list (l.map λq=>PyData.bool (f q))) β):f1 fa (bN λbs=>bs.all id) vs β=.ok (.bool (l.all f)) β:=by
 refine cF h ?_
 simp only[bN]
 rw[fZ]
 simp[all_map]
def xy {ds:List D}(ha:fa vs β=.ok (.tuple ds) β):f1 fa bW vs β=.ok (.int ds.length) β:=cF ha rfl
def si {ds:List D}{k:Int}(ha:fa vs β=.ok (.tuple ds) β):cL (f2 (f1 fa bW) (cst (.int k)) (cG true)) vs β=.ok (!decide ((ds.length:Int)=k)) β:=gj (neg:=true) (xy ha) rfl
def iU {t u:VF Bool}(h:t vs β=.ok true β):gB t u vs β=.ok true β:=by rw[nt,h];rfl
def aY {t u:VF Bool}{c:Bool}(h:t vs β=.ok false β)(h':u vs β=.ok c β):gB t u vs β=.ok c β:=by rw[nt,h];exact h'
def xG (h:fa vs β=.ok (.bool false) β):c8 fa fb vs β=.ok (.bool false) β:=by unfold c8;rw[h];rfl
def uj {d:D}(h:fa vs β=.ok (.bool true) β)(h':fb vs β=.ok d β):c8 fa fb vs β=.ok d β:=by unfold c8;rw[h];exact h'
def IW (h:fa vs β=.ok (.bool true) β):EO fa fb vs β=.ok (.bool true) β:=by unfold EO;rw[h];rfl
def Jt {d:D}(h:fa vs β=.ok (.bool false) β)(h':fb vs β=.ok d β):EO fa fb vs β=.ok d β:=by unfold EO;rw[h];exact h'
end
def Sq (c k:Nat)(d:D):Prop:=d.showable=true/\d.depth<=k/\d.shown.length<=c
def Sq.mono {c k c' k':Nat}{d:D}(h:Sq c k d)(h1:c<=c')(h2:k<=k'):Sq c' k' d:=⟨h.1,Lg h.2.1 h2,Lg h.2.2 h1⟩
theorem vB {c k:Nat}:∀{ds:List D},(∀d,d∈ds->Sq c k d)->PyData.showableAll ds=true/\PyData.depthAll ds<=k/\(∀t,t∈PyData.shownAll ds->t.length<=c)/\(PyData.shownAll ds).length=ds.length
 | [],_=>⟨by simp[PyData.showableAll],by simp[PyData.depthAll],λt h=>by simp[PyData.shownAll] at h,by simp[PyData.shownAll]⟩
 |d :: ds,h=>by
  obtain⟨h1,h2,h3,h4⟩:=vB λx hx=>h x (Kr _ hx)
  obtain⟨q1,q2,q3⟩:=h d (Ku ..)
  refine⟨?_,?_,λt ht=>?_,?_⟩
  ·rw[PyData.showableAll,q1,h1];rfl
  ·rw[PyData.depthAll];omega
  ·rw[PyData.shownAll] at ht
   rcases Ks.mp ht with rfl |ht
   ·exact q3
   ·exact h3 t ht
  ·rw[PyData.shownAll,KW,KW,h4]
theorem uP {c:Nat}:∀{ts:List Str},(∀t,t∈ts->t.length<=c)->(Str.join ", " ts).length<=(c + 2) * ts.length
 | [],_=>by show (Str.join ", " []).length<=_;exact K6 _
 | [x],h=>by
  have:=h x (Ku ..)
  show x.length<=(c + 2) * 1
  omega
 |x :: y :: r,h=>by
  have ih:=uP (ts:=y :: r) λt ht=>h t (Kr _ ht)
  have:=h x (Ku ..)
  show (x ++ ", " ++ Str.join ", " (y :: r)).length<=_
  rw[KO,KO]
  have e2:((", ":String):Str).length=2:=rfl
  rw[e2]
  have e:(c + 2) * (x :: y :: r).length=(c + 2) * (y :: r).length + (c + 2):=by rw[KW,Nat.mul_succ]
  omega
def oF {c k:Nat}{ds:List D}(h:∀d,d∈ds->Sq c k d):Sq (3 + (c + 2) * ds.length) (k + 1) (.tuple ds):=by
 obtain⟨h1,h2,h3,h4⟩:=vB h
 refine⟨by rw[PyData.showable];exact h1,by rw[PyData.depth];omega,?_⟩
 rw[PyData.shown]
 unfold tupleText
 rw[KO,KO]
 have j:=uP h3
 rw[h4] at j
 have e1:((("(":String):Str)).length=1:=rfl
 have e3:((if (PyData.shownAll ds).length == 1 then ",)" else ")":String):Str).length<=2:=by split <;> exact by decide
 rw[e1]
 omega
def Fq {c k:Nat}{ds:List D}(h:∀d,d∈ds->Sq c k d):Sq (2 + (c + 2) * ds.length) (k + 1) (.list ds):=by
 obtain⟨h1,h2,h3,h4⟩:=vB h
 refine⟨by rw[PyData.showable];exact h1,by rw[PyData.depth];omega,?_⟩
 rw[PyData.shown]
 unfold listText
 rw[KO]
 have:=AS (c:=c + 2) (PyData.shownAll ds) 0 "[" λt ht=>by have:=h3 t ht;omega
 rw[h4] at this
 have e1:((("[":String):Str)).length=1:=rfl
 have e2:((("]":String):Str)).length=1:=rfl
 rw[e1] at this
 rw[e2];omega
def Bf (d:D):Prop:=wJ d=true
theorem vZ:∀{ds:List D},(∀d,d∈ds->Bf d)->vY ds=true
 | [],_=>rfl
 |d :: ds,h=>by
  have h1:=vZ λx hx=>h x (Kr _ hx)
  have q1:wJ d=true:=h d (Ku ..)
  rw[vY,q1,h1];rfl
def mz {ds:List D}(h:∀d,d∈ds->Bf d):Bf (.tuple ds):=by show wJ (.tuple ds)=true;rw[wJ];exact vZ h
def Ai {ds:List D}(h:∀d,d∈ds->Bf d):Bf (.list ds):=by show wJ (.list ds)=true;rw[wJ];exact vZ h
def Hb {c k:Nat}{d:D}(h:Sq c k d)(hc:c<=100000)(hk:k<=64)(hf:Bf d):vU d=true:=by
 unfold vU
 have h1:d.depth<=64:=Lg h.2.1 hk
 have h2:d.shown.length<=sizeLine:=Lg (Lg h.2.2 hc) (by rw[K1];omega)
 rw[h.1,Kn h1,Kn h2]
 have b:wJ d=true:=hf
 rw[b,Bool.or_true];rfl
def Je:List Int:=[-1,0,1,2,3,4,5,6,7,8,9]
def A6:∀i∈Je,(int i).showable=true/\(int i).shown.length<=20:=by decide +kernel
def xq {i:Int}(h: -1<=i/\i<=9):i∈Je:=by
 simp only[Je,Ks,K0,LL]
 omega
def y6 (d:D):Prop:=d=.none\/(∃b,d=.bool b)\/∃i:Int,d=.int i/\ -1<=i/\i<=9
def y6.sq {d:D}(h:y6 d):Sq 20 0 d:=by
 rcases h with rfl | ⟨b,rfl⟩ | ⟨i,rfl,h⟩
 ·exact⟨by simp[PyData.showable],by simp[PyData.depth],by rw[PyData.shown];decide⟩
 ·exact⟨by simp[PyData.showable],by simp[PyData.depth],by rw[PyData.shown];cases b <;> decide⟩
 ·exact⟨(A6 i (xq h)).1,by simp[PyData.depth],(A6 i (xq h)).2⟩
def y6.bf {d:D}(h:y6 d):Bf d:=by
 rcases h with rfl | ⟨b,rfl⟩ | ⟨i,rfl,h⟩ <;> exact by simp[Bf,wJ]
def y6.scr {d:D}(h:y6 d):b5 d=false:=by
 rcases h with rfl | ⟨b,rfl⟩ | ⟨i,rfl,h⟩ <;> rfl
def jc:List D:=[.none,.bool true,.bool false,.int 9,.int (-1),.str "1",.str "",.tuple [.int 1],.list [.int 1],.dict [(.str "a",.int 1)],.tuple [],.int 1000000000000000000000000000000000000000,.tuple [.int 1,.tuple [.tuple [.int 0,.int 0]]],.tuple [.int 2,.list [.tuple [.int 0,.int 1]]],.list [.tuple []],.int 0]
def sC:∀x∈jc,(x.showable=true/\x.depth<=5/\x.shown.length<=60)/\wJ x=true/\b5 x=false:=by decide +kernel
def wt {x:D}(h:x∈jc):Sq 60 5 x:=(sC x h).1
def wc {x:D}(h:x∈jc):Bf x:=(sC x h).2.1
def BR {x:D}(h:x∈jc):b5 x=false:=(sC x h).2.2
section
variable {vs:List Nv}{β β1 β2:Int}{fa:VF D}{fr:VF (List D)}{d:D}{ds:List D}
def ac {fa:VF D}{fr:VF (List D)}(h:fa vs β=.ok d β)(h':fr vs β=.ok ds β):aa fa fr vs β=.ok (d :: ds) β:=by rw[cJ,h];dsimp only[R.bnd];rw[h']
def an:ah vs β=.ok [] β:=rfl
def tp (h:fr vs β=.ok ds β)(hz:ds.length<=1000:=by simp):aR fr vs β=.ok (.tuple ds) β:=lI h hz
def lp (h:fr vs β=.ok ds β)(hz:ds.length<=1000:=by simp):bH fr vs β=.ok (.list ds) β:=iH h hz
def ck (d:D):cst d vs β=.ok d β:=rfl
end
def Hx {vs:List Nv}{β:Int}:f2 (cst (.int 10)) (cst (.int 39)) Bj vs β=.ok (.int 1000000000000000000000000000000000000000) β:=az (x:=.int 10) (y:=.int 39) rfl rfl (by rfl)
def nM {P:D->Prop}{x y:D}(hx:P x)(hy:P y):∀d,d∈ [x,y]->P d:=λd hd=>by
 rcases Ks.mp hd with rfl |hd
 ·exact hx
 ·rw[K7] at hd;subst hd;exact hy
def kH {i:Int}(h: -1<=i/\i<=9):y6 (.int i):=.inr (.inr ⟨i,rfl,h⟩)
def Ah {d:D}(h:b5 d=false):dw "list" d=some (.bool (match d with | .list _=>true |_=>false)):=by
 unfold dw;rw[h];cases d <;> rfl
def Dk:D->Bool
 | .list _=>true
 |_=>false
theorem xH {d:D}(h:Dk d=true):∃ds,d=.list ds:=by
 cases d with
 |list ds=>exact⟨ds,rfl⟩
 |_=>cases h
def Ad {fa:VF D}{vs:List Nv}{β:Int}{d:D}(ha:fa vs β=.ok d β)(h:b5 d=false):f1 fa (dw "list") vs β=.ok (.bool (Dk d)) β:=cF ha (by rw[Ah h];cases d <;> rfl)
def ll {fa:VF D}{vs:List Nv}{β:Int}{ds:List D}(ha:fa vs β=.ok (.list ds) β):f1 fa bW vs β=.ok (.int ds.length) β:=cF ha rfl
def fI (n:Nat)(l:List Pr)(i:Nat):List Pr:=(OM.dO n).filter λp=>decide (p.1 < i) && u9 l p
def qy (n:Nat)(l:List Pr):fI n l n=lx n l:=by
 unfold fI lx
 refine ME λp hp=>?_
 have:=(OM.bR.mp hp).1.2
 rw[Kn this,Bool.true_and]
def AK {n i:Nat}(l:List Pr)(hi:i < n):fI n l (i + 1)=fI n l i ++ ((jP n).filter λb=>u9 l ((i:Int),b)).map λb=>((i:Int),b):=by
 refine OM.iS (OM.fJ _ (OM.iB n)) ?_ λx=>?_
 ·show List.Pairwise OM.BG _
  rw[List.pairwise_append]
  refine⟨OM.fJ _ (OM.iB n),?_,λp hp q hq=>?_⟩
  ·rw[LP]
   exact ((EU n).filter _).imp λ{a b} h=>.inr ⟨rfl,h⟩
  ·unfold fI at hp
   have h1:=(KP.mp hp).2
   rw[Km,KQ] at h1
   obtain⟨b,_,rfl⟩:=KZ.mp hq
   exact .inl h1.1
 ·rw[KI]
  unfold fI
  rw[KP,KP,KZ,OM.bR]
  simp only[Km,KQ]
  constructor
  ·rintro⟨h1,h2,h3⟩
   by_cases z:x.1 < i
   ·exact .inl ⟨h1,z,h3⟩
   ·have e:x.1=i:=by omega
    obtain⟨xa,xb⟩:=x
    simp only at e h1 h3
    subst e
    exact .inr ⟨xb,KP.mpr ⟨gf.mpr h1.2,h3⟩,rfl⟩
  ·rintro (⟨h1,h2,h3⟩ | ⟨b,hb,rfl⟩)
   ·exact⟨h1,by omega,h3⟩
   ·obtain⟨hb1,hb2⟩:=KP.mp hb
    have:=gf.mp hb1
    exact⟨⟨⟨by omega,by omega⟩,this⟩,by omega,hb2⟩
def qH {n:Nat}(l:List Pr)(i:Nat)(h8:n<=8):(fI n l i).length<=64:=by
 have h1:(fI n l i).length<=(OM.dO n).length:=LM _ _
 rw[il] at h1
 have:n * n<=64:=L7 h8 h8
 omega
def sv:List D->FR:=bE 3 1 (gS qS)
def An {n:Nat}{l:List Pr}(O:OM.Ord n l):sv [ao n l]=.ok (.list ((lx n l).map ar)) false:=by
 have h8:=O.hi
 show fin (gS qS [.fz (ao n l),.no,.no] 0)=_
 unfold gS
 rw[aX (env':=[.fz (ao n l),.fz (.list []),.no]) (β':=0) ?g1]
 case g1=>rw[fm,iH (ds:=[]) rfl (by simp)];rfl
 have er:∀(s t:Sl),bP (f2 (gv 0) (cst (.int 0)) aW) [.da (ao n l),s.val,t.val] 0=.ok (cI 0 n) 0:=λs t=>cC (n:=n) (JQ (n:=n) (l:=l) rfl) (by omega)
 obtain⟨env',β',ef,s,rfl,rfl⟩:=ig (t:=.nm 2) (m:=bS 1 ([] ++ (([] ++ []) ++ [0,2])) (f2 (gv 1) (aQ 1 [0,2] (.nm 0) (bP (f2 (gv 0) (cst (.int 0)) aW)) (fR (aF qS (aa (gv 1) (aa (gv 2) (aa (gv 0) ah))))) (aR (aa (gv 2) (aa (gv 0) ah)))) eR)) (ds:=cI 0 n) (k:=0)
  (λi env β=>∃s:Sl,env= [.fz (ao n l),.fz (.list ((fI n l i).map ar)),s]/\β=0)
  (env:=[.fz (ao n l),.fz (.list []),.no]) (β:=0) ⟨.no,by
   have:fI n l 0= []:=by
    unfold fI
    rw[List.filter_eq_nil_iff]
    intro p hp
    have:=(OM.bR.mp hp).1.1
    rw[KC (by omega)];simp
   rw[this];rfl,rfl⟩ (by
   rintro i d env β hi ⟨s,rfl,rfl⟩
   obtain⟨hin,rfl⟩:=jh hi
   refine⟨[.fz (ao n l),.fz (.list ((fI n l (0 + i)).map ar)),.fz (.int (0 + (i:Int)))],rfl,?_⟩
   rw[LC,LB]
   have ec:aQ 1 [0,2] (.nm 0) (bP (f2 (gv 0) (cst (.int 0)) aW)) (fR (aF qS (aa (gv 1) (aa (gv 2) (aa (gv 0) ah))))) (aR (aa (gv 2) (aa (gv 0) ah))) [.da (ao n l),.da (.list ((fI n l i).map ar)),.da (.int i)] 0=.ok (.list (((jP n).filter λb=>u9 l ((i:Int),b)).map λb=>ar ((i:Int),b))) 0:=by
    refine lj (l:=jP n) (e:=int) (λb=>u9 l ((i:Int),b)) (λb=>ar ((i:Int),b)) ?_ (by rw[nu];omega) λb hb=>⟨_,rfl,c4 (aG (ds:=[ao n l,.int i,.int b]) rfl (DT n l i b)),λ_=>jn rfl rfl⟩
    rw[<-ie]
    exact er (.fz _) (.fz _)
   have ew:f2 (gv 1) (aQ 1 [0,2] (.nm 0) (bP (f2 (gv 0) (cst (.int 0)) aW)) (fR (aF qS (aa (gv 1) (aa (gv 2) (aa (gv 0) ah))))) (aR (aa (gv 2) (aa (gv 0) ah)))) eR [.da (ao n l),.da (.list ((fI n l i).map ar)),.da (.int i)] 0=.ok (.list ((fI n l (i + 1)).map ar)) 0:=by
    refine az (x:=.list ((fI n l i).map ar)) rfl ec ?_
    rw[nJ]
    ·rw[AK l hin,Lu,map_map];rfl
    ·rw[Ko,Ko]
     have h1:=qH l i h8
     have h2:((jP n).filter λb=>u9 l ((i:Int),b)).length<=(jP n).length:=LM _ _
     rw[nu] at h2
     omega
   refine⟨[.fz (ao n l),.fz (.list ((fI n l (i + 1)).map ar)),.fz (.int i)],0,?_,_,rfl,rfl⟩
   rw[fm]
   show toS (f2 (gv 1) (aQ 1 [0,2] (.nm 0) (bP (f2 (gv 0) (cst (.int 0)) aW)) (fR (aF qS (aa (gv 1) (aa (gv 2) (aa (gv 0) ah))))) (aR (aa (gv 2) (aa (gv 0) ah)))) eR [.da (ao n l),.da (.list ((fI n l i).map ar)),.da (.int i)] 0) _=_
   rw[ew];rfl)
 rw[b9,LC,qy] at ef
 rw[aX (env':=[.fz (ao n l),.fz (.list ((lx n l).map ar)),s]) (β':=0) ?g2]
 case g2=>
  rw[fo (env:=[.fz (ao n l),.fz (.list []),.no]) (er (.fz (.list [])) .no)]
  exact ef
 rfl
def Ge (e:D):Prop:=b5 e=false/\∀es,e=.tuple es->es.length<=100/\∀x,x∈es->b5 x=false
def DW (n:Int):D->Bool
 | .tuple [x,y]=>iZ x n && iZ y n
 |_=>false
def Bs {n:Int}{d:D}(h:DW n d=true):∃p:Pr,d=ar p/\(0<=p.1/\p.1 < n)/\(0<=p.2/\p.2 < n):=by
 unfold DW at h
 split at h
 ·rename_i x y
  rw[Km] at h
  cases x with
  |int a=>
   cases y with
   |int b=>exact⟨(a,b),rfl,Mj h.1,Mj h.2⟩
   |_=>cases h.2
  |_=>cases h.1
 ·cases h
def Iu:List D->FR:=bE 2 2 (jm dH)
theorem nR {es:List D}:(decide ((es.length:Int)=2)=false/\∀n,DW n (.tuple es)=false)\/∃x y,es= [x,y]:=by
 match es with
 | []=>exact .inl ⟨rfl,λ_=>rfl⟩
 | [_]=>exact .inl ⟨rfl,λ_=>rfl⟩
 | [x,y]=>exact .inr ⟨x,y,rfl⟩
 |_ :: _ :: _ :: _=>exact .inl ⟨KC (by simp;omega),λ_=>rfl⟩
theorem Jj {d:D}{n:Int}(h:Ge d):Iu [d,.int n]=.ok (.bool (DW n d)) false:=by
 show fin (jm dH [.fz d,.fz (.int n)] 0)=_
 unfold jm
 have g0:gv 0 (vl [.fz d,.fz (.int n)]) 0=.ok d 0:=rfl
 have t1:=qh g0 h.1
 cases hy:og d with
 |false=>
  rw[hy] at t1
  rw[c9 (d:=.bool false) (b:=false) (β':=0) ?a]
  ·cases d <;> first |rfl |cases hy
  case a=>rw[gp (iU (aE t1))];rfl
 |true=>
  obtain⟨es,rfl⟩:=nD hy
  rw[hy] at t1
  have t2:=si (k:=2) g0
  rcases nR (es:=es) with⟨q,z⟩ | ⟨x,y,rfl⟩
  ·rw[q] at t2
   rw[z n,c9 (d:=.bool false) (b:=false) (β':=0) (by rw[gp (aY (aE t1) t2)];rfl)];rfl
  ·rw[aX (env':=[.fz (.tuple [x,y]),.fz (.int n)]) (β':=0) (by rw[gL (aY (aE t1) t2)];rfl)]
   have hx:=(h.2 _ rfl).2 x (Ku ..)
   have hy':=(h.2 _ rfl).2 y (Kr _ (Ku ..))
   have e1:aF dH (aa (f2 (gv 0) (cst (.int 0)) aW) (aa (gv 1) ah)) (vl [.fz (.tuple [x,y]),.fz (.int n)]) 0=.ok (.bool (iZ x n)) 0:=aG (ds:=[x,.int n]) rfl (nQ hx)
   have e2:aF dH (aa (f2 (gv 0) (cst (.int 1)) aW) (aa (gv 1) ah)) (vl [.fz (.tuple [x,y]),.fz (.int n)]) 0=.ok (.bool (iZ y n)) 0:=aG (ds:=[y,.int n]) rfl (nQ hy')
   rw[dS,nz e1 e2];rfl
def EB:List D->FR:=bE 1 1 lM
def Hy {d:D}(h:b5 d=false):EB [d]=.ok (.bool (lQ d)) false:=by
 have:=wH [d] (by rw[kJ h];exact λz=>by cases z)
 rw[kJ h] at this
 exact this
def Sp (p:Pr):Prop:=(0<=p.1/\p.1<=8)/\(0<=p.2/\p.2<=8)
def El (e:D):Prop:=Ge e/\Sq 100 8 e/\Bf e
def n0 {es:List D}(hl:es.length<=100)(h:∀x,x∈es->b5 x=false):Ge (.tuple es):=⟨rfl,λes' e=>by cases e;exact⟨hl,h⟩⟩
def FK {es:List D}(hl:es.length<=3)(h:∀x,x∈es->y6 x):El (.tuple es):=by
 refine⟨n0 (by omega) λx hx=>(h x hx).scr,(oF (c:=20) (k:=0) λd hd=>(h d hd).sq).mono ?_ (by omega),mz λd hd=>(h d hd).bf⟩
 omega
def m6 {p:Pr}(h:Sp p):El (ar p):=FK (es:=[.int p.1,.int p.2]) (by simp) (nM (kH (by have:=h.1;omega)) (kH (by have:=h.2;omega)))
def Iy:D->Bool
 | .tuple es=>decide (es.length<=100) && es.all λx=> !b5 x
 |_=>true
def rR {fa fb:VF D}{vs:List Nv}{β:Int}{ds:List D}{i:Nat}(ha:fa vs β=.ok (.list ds) β)(hb:fb vs β=.ok (.int ((i:Nat):Int)) β):p9 fa (kK fb) (λ_ β=>.ok none β) vs β=.ok (.list (ds.drop i)) β:=by
 unfold p9 kK
 rw[ha];dsimp only[R.bnd]
 rw[hb];dsimp only[R.bnd]
 congr 2
 unfold cutD
 rw[HT.ka,HT.l8]
 by_cases h:i<=ds.length
 ·rw[Nat.min_eq_left h];exact LV (by rw[Lw];omega)
 ·rw[Nat.min_eq_right (by omega),drop_length,List.drop_of_length_le (by omega)];simp
def lY {fa fb:VF D}{vs:List Nv}{β:Int}{ds:List D}{i:Nat}(ha:fa vs β=.ok (.list ds) β)(hb:fb vs β=.ok (.int ((i:Nat):Int)) β):p9 fa (λ_ β=>.ok none β) (kK fb) vs β=.ok (.list (ds.take i)) β:=by
 unfold p9 kK
 rw[ha];dsimp only[R.bnd]
 rw[hb];dsimp only[R.bnd]
 congr 2
 unfold cutD
 rw[HT.ka,HT.l8]
 by_cases h:i<=ds.length
 ·rw[Nat.min_eq_left h];rfl
 ·rw[Nat.min_eq_right (by omega),LV (show ds.length<=i by omega)];simp
end RM
namespace RM
open PySem PySem.Spec L2 PyProof.Rows
theorem kx:∀r:List Int,kO (r.map int)=some r
 | []=>rfl
 |x :: r=>by
  have:=kx r
  simp only[LD,kO,this]
  try rfl
end RM
namespace RM
open PySem L2
def Gt (d:D):Prop:=b5 d=false/\∀ds,d=.list ds->ds.length<=100/\∀e,e∈ds->Ge e
def zv {a b:List D}(h:a.length + b.length<=1000):jO (.tuple a) (.tuple b)=some (.tuple (a ++ b)):=Kl (by rw[K1];omega)
def zR (l:List Pr)(r:List Int)(x:Int):List Int:=(l.filter λp=>decide (p.2=x) && !decide (p.1∈r)).map (·.1)
def lJ {l:List Pr}{r:List Int}{x a:Int}:a∈zR l r x↔(a,x)∈l/\a∉r:=by
 unfold zR
 rw[KZ]
 constructor
 ·rintro⟨p,hp,rfl⟩
  have:=KP.mp hp
  simp only[Km,KQ,Mi,LQ] at this
  obtain⟨pa,pb⟩:=p
  obtain⟨h1,h2,h3⟩:=this
  simp only at h2 h3
  subst h2
  exact⟨h1,h3⟩
 ·rintro⟨h1,h2⟩
  exact⟨(a,x),KP.mpr ⟨h1,by simp[h2]⟩,rfl⟩
def yj {n:Nat}{l:List Pr}(O:OM.Ord n l)(r:List Int)(x:Int):(zR l r x).Nodup:=by
 unfold zR
 rw[Lx,LP]
 refine My (λ{a b} ha hb h e=>h ?_) (Lx.mp ((OM.mK O.ris).filter _))
 have h1:=(KP.mp ha).2
 have h2:=(KP.mp hb).2
 simp only[Km,KQ] at h1 h2
 exact Prod.ext e (h1.1.trans h2.1.symm)
theorem least {n:Nat}{l:List Pr}(O:OM.Ord n l)(r:List Int):∀(k:Nat) (x:Int),(0<=x/\x < n)->x∉r->(zR l r x).length<=k->∃y:Int,(0<=y/\y < n)/\y∉r/\zR l r y= []
 | 0,x,hx,hr,hk=>⟨x,hx,hr,List.length_eq_zero_iff.mp (by omega)⟩
 |k + 1,x,hx,hr,hk=>by
  by_cases he:zR l r x= []
  ·exact⟨x,hx,hr,he⟩
  ·obtain⟨a,ha⟩:=List.exists_mem_of_ne_nil _ he
   obtain⟨h1,h2⟩:=lJ.mp ha
   refine least O r k a (O.wn _ h1).1 h2 ?_
   have nd:(a :: zR l r a).Nodup:=Lm.mpr ⟨λq=>O.irr a (lJ.mp q).1,yj O r a⟩
   have:=L2.ST.mi nd (m:=zR l r x) λy hy=>by
    rcases Ks.mp hy with rfl |hy
    ·exact ha
    ·obtain⟨q1,q2⟩:=lJ.mp hy
     exact lJ.mpr ⟨O.tr _ _ _ q1 h1,q2⟩
   rw[KW] at this
   omega
structure Jv (n:Nat)(l:List Pr)(r:List Int):Prop where
 nd:r.Nodup
 inn:∀x,x∈r->0<=x/\x < (n:Int)
 fit:∀p,p∈l->p.2∈r->p.1∈r/\r.idxOf p.1 < r.idxOf p.2
def D5 (l:List Pr)(r:List Int)(x:Int):Bool:= !decide (x∈r) && decide (zR l r x= [])
def Jv.more {n:Nat}{l:List Pr}{r:List Int}{x:Int}(B:Jv n l r)(hx:0<=x/\x < (n:Int))(hf:D5 l r x=true):Jv n l (r ++ [x]):=by
 unfold D5 at hf
 rw[Km,Mi,LQ,KQ] at hf
 obtain⟨h1,h2⟩:=hf
 refine⟨?_,λy hy=>?_,λp hp hm=>?_⟩
 ·rw[List.nodup_append]
  refine⟨B.nd,Lm.mpr ⟨by simp,List.nodup_nil⟩,λa ha b hb=>?_⟩
  rw[K7] at hb
  subst hb
  exact λq=>h1 (q▸ha)
 ·rcases KI.mp hy with hy |hy
  ·exact B.inn y hy
  ·rw[K7] at hy;subst hy;exact hx
 ·rcases KI.mp hm with hm |hm
  ·obtain⟨q1,q2⟩:=B.fit p hp hm
   refine⟨Mm _ q1,?_⟩
   rw[MF,MF,Kl q1,Kl hm]
   exact q2
  ·rw[K7] at hm
   have hp1:p.1∈r:=by
    by_cases z:p.1∈r
    ·exact z
    ·have:p.1∈zR l r x:=lJ.mpr ⟨by rw[<-hm];exact hp,z⟩
     rw[h2] at this;cases this
   refine⟨Mm _ hp1,?_⟩
   rw[MF,MF,Kl hp1,Kw (by rw[hm];exact h1)]
   have:=List.idxOf_lt_length_iff.mpr hp1
   omega
def Ac {fa fb:VF D}{vs:List Nv}{β:Int}{ds:List D}{i:Nat}(ha:fa vs β=.ok (.tuple ds) β)(hb:fb vs β=.ok (.int ((i:Nat):Int)) β):lL fa (kK fb) (λ_ β=>.ok none β) vs β=.ok (.tuple (ds.drop i)) β:=by
 unfold lL kK
 rw[ha];dsimp only[R.bnd]
 rw[hb];dsimp only[R.bnd]
 congr 2
 unfold cutD
 rw[HT.ka,HT.l8]
 by_cases h:i<=ds.length
 ·rw[Nat.min_eq_left h];exact LV (by rw[Lw];omega)
 ·rw[Nat.min_eq_right (by omega),drop_length,List.drop_of_length_le (by omega)];simp
def Aj {fa fb:VF D}{vs:List Nv}{β:Int}{ds:List D}{i:Nat}(ha:fa vs β=.ok (.tuple ds) β)(hb:fb vs β=.ok (.int ((i:Nat):Int)) β):lL fa (λ_ β=>.ok none β) (kK fb) vs β=.ok (.tuple (ds.take i)) β:=by
 unfold lL kK
 rw[ha];dsimp only[R.bnd]
 rw[hb];dsimp only[R.bnd]
 congr 2
 unfold cutD
 rw[HT.ka,HT.l8]
 by_cases h:i<=ds.length
 ·rw[Nat.min_eq_left h];rfl
 ·rw[Nat.min_eq_right (by omega),LV (show ds.length<=i by omega)];simp
structure WP (r:SO)(Q:SO->Prop):Prop where
 out:Q r
section
variable {m m' m1 m2:SF}{env env1:En}{β β1 β2 z:Int}{Q:SO->Prop}{f fa fb:VF D}{t:VF Bool}{d e:D}{L La Lb:List Nat}{i j:Nat}{c:Bool}
def wp_at (env1:En)(e:env=env1)(k:WP (m env1 β) Q):WP (m env β) Q:=by rw[e];exact k
def wp_seq (h:m env β=.nx env1 β1)(k:WP (m' env1 β1) Q):WP (aM m m' env β) Q:=by rw[aX h];exact k
theorem qO (h:WP (aM m jR env β) Q):WP (m env β) Q:=by
 obtain⟨h⟩:=h
 unfold aM at h
 cases e:m env β with
 |_=>rw[e] at h;exact⟨h⟩
def kj (q:Q (.nx env β)):WP (jR env β) Q:=⟨q⟩
def cg (h:f (vl env) β=.ok d β1)(k:WP (m' ((ba L env).set i (.fz d)) β1) Q):WP (aM (bS i L f) m' env β) Q:=wp_seq (by unfold bS;rw[h];rfl) k
def CV (h:f (vl env) β=.ok d β1)(k:WP (m' ((ba L env).set i (.ow d)) β1) Q):WP (aM (mX i L f) m' env β) Q:=wp_seq (by unfold mX;rw[h];rfl) k
def C0 (h:f (vl env) β=.ok (.list [.int z]) β1)(k:WP (m' ((pV (ba L env)).set i .bx) z) Q):WP (aM (xc i L f) m' env β) Q:=wp_seq (by unfold xc;rw[h];rfl) k
def wY (h:f (vl env) β=.ok d β1)(k:WP (m' (ba L env) β1) Q):WP (aM (qm L f) m' env β) Q:=wp_seq (by unfold qm;rw[h];rfl) k
def Et {ds:List D}(hi:env[i]? =some (.ow (.list ds)))(h:f (vl env) β=.ok d β1)(hL:(ba L env)[i]? =some (.ow (.list ds)))(hz:ds.length<=1000)(k:WP (m' ((ba L env).set i (.ow (.list (ds ++ [d])))) β1) Q):WP (aM (sH i L f) m' env β) Q:=wp_seq (xU hi h hL hz) k
def aP (h:t (vl env) β=.ok false β1)(k:WP (m' (ba L env) β1) Q):WP (aM (iD L t m1 jR) m' env β) Q:=wp_seq (by rw[gL h];rfl) k
def bL (h:t (vl env) β=.ok true β1)(k:WP (aM m1 m' (ba L env) β1) Q):WP (aM (iD L t m1 m2) m' env β) Q:=by
 have:aM (iD L t m1 m2) m' env β=aM m1 m' (ba L env) β1:=by unfold aM;rw[gp h]
 rw[this];exact k
def Dj (h:t (vl env) β=.ok true β1)(k:WP (m1 (ba L env) β1) Q):WP (iD L t m1 m2 env β) Q:=by rw[gp h];exact k
def zc (h:t (vl env) β=.ok false β1)(k:WP (m2 (ba L env) β1) Q):WP (iD L t m1 m2 env β) Q:=by rw[gL h];exact k
def gH (h:f (vl env) β=.ok d β1)(q:Q (.rt d false β1)):WP (bB f env β) Q:=⟨by unfold bB;rw[h];exact q⟩
def b6 (h:f (vl env) β=.ok d β1)(q:Q (.rt d false β1)):WP (aM (bB f) m' env β) Q:=⟨by unfold aM bB;rw[h];exact q⟩
def Dp (h:f (vl env) β=.ok d β1)(q:Q (.rt d true β1)):WP (mU f env β) Q:=⟨by unfold mU;rw[h];exact q⟩
def cu {R:FR}(h:WP (m env β) λr=>fin r=R):fin (m env β)=R:=h.out
def vJ {t:Tg}{fi:VF (List D)}{ds:List D}(I:Nat->En->Int->Prop)(hi:fi (vl env) β=.ok ds β1)(h0:I 0 (ba L env) β1)
  (hs:∀i d env β,ds[i]? =some d->I i env β->∃env1,gq t d env=some env1/\WP (m env1 β) λr=>∃env2 β2,r=.nx env2 β2/\I (i + 1) env2 β2)
  (k:∀env β,I ds.length env β->WP (m' env β) Q):WP (aM (fg t L fi m) m' env β) Q:=by
 obtain⟨env',β',e,h⟩:=ig (t:=t) (m:=m) I (ds:=ds) (k:=0) h0 λi d env β hd h=>by
  rw[LC] at h
  obtain⟨env1,e1,⟨env2,β2,e2,h2⟩⟩:=hs i d env β hd h
  exact⟨env1,e1,env2,β2,e2,by rw[LC];exact h2⟩
 rw[LC] at h
 exact wp_seq ((fo hi).trans e) (k _ _ h)
end
def ze (c:Int)(hc:0<=c/\c<=100)(ns:List Int)(vs:List Nv)(β:Int)(h:gv 0 vs β=.ok (cS ns) β):∃m:Nat,m<=101/\bP (f2 (cst (.int 1)) (f2 (f1 (gv 0) bW) (cst (.int c)) (wd λi j=>.int (if j < i then j else i))) (wd λi j=>.int (if j > i then j else i))) vs β=.ok (cI 0 m) β:=by
 have e1:f2 (cst (.int 1)) (f2 (f1 (gv 0) bW) (cst (.int c)) (wd λi j=>.int (if j < i then j else i))) (wd λi j=>.int (if j > i then j else i)) vs β=.ok (.int (if (if c < ((ns.map int).length:Int) then c else ((ns.map int).length:Int)) > 1 then (if c < ((ns.map int).length:Int) then c else ((ns.map int).length:Int)) else 1)) β:=
  az (x:=.int 1) rfl (az (x:=.int (ns.map int).length) (y:=.int c) (cF h rfl) rfl rfl) rfl
 generalize ((ns.map int).length:Nat)=k at e1
 refine⟨(if (if c < (k:Int) then c else (k:Int)) > 1 then (if c < (k:Int) then c else (k:Int)) else 1).toNat,?_,cC (e1.trans ?_) ?_⟩
 ·split <;> split <;> omega
 ·congr 2
  split <;> split <;> omega
 ·split <;> split <;> omega
def It (d:D):Prop:=b5 d=false/\Sq 400 8 d/\Bf d
def Th (d:D):Prop:=Ge d/\Sq 10000 9 d/\Bf d
def Ap (P:D->Prop)(k:Nat)(es:List D):Prop:=es.length<=k/\∀x,x∈es->P x
abbrev Al:Nat->List D->Prop:=Ap It
def y6.it {d:D}(h:y6 d):It d:=⟨h.scr,h.sq.mono (by omega) (by omega),h.bf⟩
def Ap.set {P:D->Prop}{k:Nat}{a:List D}(h:Ap P k a)(n:Nat){d:D}(hd:P d):Ap P k (a.set n d):=⟨by rw[Lp];exact h.1,λx hx=>(List.mem_or_eq_of_mem_set hx).elim (h.2 x) λe=>e▸hd⟩
def Ap.tup {k:Nat}{a:List D}(h:Al k a)(hk:k<=24):Th (.tuple a):=by
 have:=h.1
 refine⟨n0 (by omega) λx hx=>(h.2 x hx).1,(oF (c:=400) (k:=8) λd hd=>(h.2 d hd).2.1).mono ?_ (by omega),mz λd hd=>(h.2 d hd).2.2⟩
 have:(400 + 2) * a.length<=402 * 24:=L7 (by omega) (by omega)
 omega
def zx {ds:List D}{k:Nat}(h:k < ds.length):∃d,ds[k]? =some d/\d∈ds/\i9 ds (k:Int)=some d:=⟨ds[k],Kh h,Lr h,fE (Kh h)⟩
def GB {fa fb:VF D}{vs:List Nv}{β:Int}{ds:List D}{i:Nat}(ha:fa vs β=.ok (.tuple ds) β)(hb:fb vs β=.ok (.int (i:Nat)) β):lL fa (λ_ β=>.ok none β) (kK fb) vs β=.ok (.tuple (ds.take i)) β:=Aj ha hb
def HH {fa fb:VF D}{vs:List Nv}{β:Int}{ds:List D}{i:Nat}(ha:fa vs β=.ok (.tuple ds) β)(hb:fb vs β=.ok (.int (i:Nat)) β):lL fa (kK fb) (λ_ β=>.ok none β) vs β=.ok (.tuple (ds.drop i)) β:=Ac ha hb
def tW {fa fb:VF D}{vs:List Nv}{β β1 β2:Int}{a b:List D}(h1:fa vs β=.ok (.tuple a) β1)(h2:fb vs β1=.ok (.tuple b) β2)(hz:a.length + b.length<=1000):f2 fa fb jO vs β=.ok (.tuple (a ++ b)) β2:=az h1 h2 (zv hz)
def iO {fa fb:VF D}{vs:List Nv}{β β1 β2:Int}{a b:List D}(h1:fa vs β=.ok (.list a) β1)(h2:fb vs β1=.ok (.list b) β2)(hz:a.length + b.length<=1000):f2 fa fb eR vs β=.ok (.list (a ++ b)) β2:=az h1 h2 (nJ (by omega))
def Il {fa:VF D}{vs:List Nv}{β:Int}{i:Nat}(h:fa vs β=.ok (.int (i:Nat)) β):f2 fa (cst (.int 1)) b4 vs β=.ok (.int ((i + 1:Nat):Int)) β:=az h rfl (by show some (int ((i:Int) + 1))=_;rw[show ((i + 1:Nat):Int)=(i:Int) + 1 by omega])
section
variable {m m' m1 m2:SF}{env env1:En}{β β1 β2 z:Int}{Q:SO->Prop}{f fa fb:VF D}{t:VF Bool}{d e:D}{L La Lb:List Nat}{i j:Nat}{c:Bool}
theorem nE (h:WP (m env β) λr=>(∀a b,r≠.nx a b)/\Q r):WP (aM m m' env β) Q:=by
 obtain⟨h1,h2⟩:=h.out
 refine⟨?_⟩
 unfold aM
 cases e:m env β with
 |nx a b=>exact absurd e (h1 a b)
 |_=>rw[e] at h2;exact h2
theorem FA (J:En->Int->Prop)(h:∃c β1,t (vl env) β=.ok c β1/\(c=true->WP (m1 (ba L env) β1) λs=>∃env2 β2,s=.nx env2 β2/\J env2 β2)/\(c=false->WP (m2 (ba L env) β1) λs=>∃env2 β2,s=.nx env2 β2/\J env2 β2))(k:∀env β,J env β->WP (m' env β) Q):WP (aM (iD L t m1 m2) m' env β) Q:=by
 obtain⟨c,β1,e,h1,h2⟩:=h
 cases c with
 |true=>obtain⟨env2,β2,e2,hj⟩:=(h1 rfl).out;exact wp_seq ((gp e).trans e2) (k _ _ hj)
 |false=>obtain⟨env2,β2,e2,hj⟩:=(h2 rfl).out;exact wp_seq ((gL e).trans e2) (k _ _ hj)
def wR {t:Tg}{fi:VF (List D)}{ds:List D}(g:D->Bool)(r:D)(I:En->Int->Prop)(hi:fi (vl env) β=.ok ds β1)(h0:I (ba L env) β1)
  (hs:∀d,d∈ds->∀env β,I env β->∃env1,gq t d env=some env1/\WP (m env1 β) λs=>(g d=true/\∃β2,s=.rt r false β2)\/(g d=false/\∃env2 β2,s=.nx env2 β2/\I env2 β2))
  (kr:∀d β,d∈ds->g d=true->Q (.rt r false β)) (k:(∀d,d∈ds->g d=false)->∀env β,I env β->WP (m' env β) Q):WP (aM (fg t L fi m) m' env β) Q:=by
 have key:∀(es:List D),(∀d,d∈es->d∈ds)->∀env β,I env β->(∃d β2,d∈es/\g d=true/\iW t m es env β=.rt r false β2)\/((∀d,d∈es->g d=false)/\∃env2 β2,iW t m es env β=.nx env2 β2/\I env2 β2):=by
  intro es
  induction es with
  |nil=>exact λ_ env β h=>.inr ⟨(λd hd=>by cases hd),env,β,rfl,h⟩
  |cons d es ih=>
   intro hd env β h
   obtain⟨env1,e1,⟨h1⟩⟩:=hs d (hd d (Ku ..)) env β h
   rcases h1 with⟨hg,β2,e2⟩ | ⟨hg,env2,β2,e2,h2⟩
   ·exact .inl ⟨d,β2,Ku ..,hg,by unfold iW;rw[e1];dsimp only;rw[e2]⟩
   ·have e3:iW t m (d :: es) env β=iW t m es env2 β2:=by conv=>lhs;unfold iW;rw[e1];dsimp only;rw[e2]
    rw[e3]
    rcases ih (λd h=>hd d (Kr _ h)) env2 β2 h2 with⟨d',β3,hm,hg',e4⟩ | ⟨hn,env3,β3,e4,h3⟩
    ·exact .inl ⟨d',β3,Kr _ hm,hg',e4⟩
    ·exact .inr ⟨λd' hd'=>(Ks.mp hd').elim (λe=>e▸hg) (hn d'),env3,β3,e4,h3⟩
 rcases key ds (λ_ h=>h) _ _ h0 with⟨d,β2,hm,hg,e⟩ | ⟨hn,env2,β2,e,h2⟩
 ·exact⟨by rw[c9 ((fo hi).trans e)];exact kr d β2 hm hg⟩
 ·exact wp_seq ((fo hi).trans e) (k hn _ _ h2)
end
def xY {α:Type}{own:Nat}{ixs:List Nat}{t:Tg}{fi:VF (List D)}{fe:VF D}{vs:List Nv}{β β1:Int}{ds:List D}(e:α->D)(P:α->Prop)(hi:fi vs β=.ok ds β1)(hz:ds.length<=1000)
  (h:∀d,d∈ds->∃vs1,kS t d (c6 own ixs vs)=some vs1/\∀β,∃a β',fe vs1 β=.ok (e a) β'/\P a):∃(as:List α) (β':Int),aQ own ixs t fi i7 fe vs β=.ok (.list (as.map e)) β'/\as.length=ds.length/\∀a,a∈as->P a:=by
 obtain⟨as,β',ec,hl,hP⟩:=lh (t:=t) (fe:=fe) (vs:=c6 own ixs vs) e P (ds:=ds) (β:=β1) h
 refine⟨as,β',?_,hl,hP⟩
 unfold aQ
 rw[hi]
 dsimp only[R.bnd]
 rw[Kl (sz _ hz),ec];rfl
def JL (ms:List Int)(m i:Nat)(ps:List Pr):Prop:=ps.Nodup/\ps.length<=4 * i/\∀p,p∈ps->∃i' j:Nat,i' < i/\j < m/\ms[i']? =some p.1/\ms[m + j]? =some p.2
def CC {ms:List Int}{m i:Nat}{ps:List Pr}(h3:3<=m)(h4:m<=4)(hi:i<=m)(hp:ms.Perm (jP (2 * m)))(h:JL ms m i ps):OM.Ord (2 * m) (OM.hX 8 (OM.Mem ps))/\ps.all Ga=true/\ps.length < 64:=by
 obtain⟨nd,hl,hc⟩:=h
 have ndm:ms.Nodup:=hp.nodup_iff.mpr (qB _)
 have wn:OM.Wn (2 * m) ps:=λp hm=>by
  obtain⟨i',j,_,_,e1,e2⟩:=hc p hm
  exact⟨gf.mp (hp.mem_iff.mp (KA e1)),gf.mp (hp.mem_iff.mp (KA e2))⟩
 rw[Gy (by omega) wn]
 refine⟨⟨by omega,by omega,OM.Ca _ _,OM.ip _ _,λa h=>?_,λa b c h k=>?_⟩,E6 (by omega) wn,by omega⟩
 ·obtain⟨i',j,hi',_,e1,e2⟩:=hc _ (OM.dN.mp h).2
  have:=ke ndm e1 e2
  omega
 ·obtain⟨i',j,hi',_,e1,e2⟩:=hc _ (OM.dN.mp h).2
  obtain⟨i2,j2,hi2,_,e3,e4⟩:=hc _ (OM.dN.mp k).2
  have:=ke ndm e2 e3
  omega
noncomputable def Er:List D->Int->FB:=l6 7 1 (eh oY cj qc)
abbrev oe (n:Nat)(rows:D)(ms:List Int)(ps:List Pr)(s6:Sl):En:=[.bx,.fz (.int 6),.fz (.int n),.fz rows,.fz (tupI ms),.fz (.list (ps.map ar)),s6]
def Cj (β:Int):∃(n:Nat) (l:List Pr) (β':Int),Er [.int ((6:Nat):Int)] β=.ok (ao n l) false β'/\OM.Ord n l/\n<=6:=by
 obtain⟨j,hj,ej⟩:=dP (m:=6) (by omega) (by omega) β
 show ∃(n:Nat) (l:List Pr) (β':Int),rF (eh oY cj qc [.bx,.fz (.int ((6:Nat):Int)),.no,.no,.no,.no,.no] β)=.ok (ao n l) false β'/\OM.Ord n l/\n<=6
 unfold eh
 generalize hβ1:β / ((6:Nat):Int)=β1 at ej
 have e1:f2 (cst (.int 1)) (iY 0 cj (aa (gv 1) ah)) b4 (vl [.bx,.fz (.int ((6:Nat):Int)),.no,.no,.no,.no,.no]) β=.ok (.int ((1 + j:Nat):Int)) β1:=by
  refine az (x:=.int 1) rfl (cP (by rfl) rfl ej) ?_
  show some (int (1 + (j:Int)))=_
  rw[show ((1 + j:Nat):Int)=1 + (j:Int) by omega]
 rw[aX (env':=[.bx,.fz (.int 6),.fz (.int ((1 + j:Nat):Int)),.no,.no,.no,.no]) (β':=β1) ?g1]
 case g1=>rw[fm,e1];rfl
 have n6:1 + j<=6:=by omega
 generalize hn:1 + j=n at n6
 have n1:1<=n:=by omega
 obtain⟨q,hq,eq⟩:=dP (m:=3) (by omega) (by omega) β1
 generalize hβ2:β1 / ((3:Nat):Int)=β2 at eq
 have e2:f2 (cst (.int 1)) (iY 0 cj (aa (cst (.int 3)) ah)) b4 (vl [.bx,.fz (.int 6),.fz (.int n),.no,.no,.no,.no]) β1=.ok (.int ((1 + q:Nat):Int)) β2:=by
  refine az (x:=.int 1) rfl (cP (ds:=[.int 3]) (by rfl) rfl eq) ?_
  show some (int (1 + (q:Int)))=_
  rw[show ((1 + q:Nat):Int)=1 + (q:Int) by omega]
 have shuf:∀(k:Nat),k<=6->∀b,∃(ms:List Int) (b':Int),qc [.list ((jP k).map int)] b=.ok (tupI ms) false b'/\ms.Perm (jP k):=λk hk b=>EL (jP k) (by rw[nu];omega) b
 obtain⟨rows,β3,ec,hl,hP⟩:=lh (t:=.nm 0) (fe:=iY 1 qc (aa (f1 (gv 2) gn) ah)) (vs:=c6 1 [0,2] (vl [.bx,.fz (.int 6),.fz (.int n),.no,.no,.no,.no])) tupI (λr:List Int=>r.Perm (jP n)) (ds:=cI 0 (1 + q)) (β:=β2) (by
  intro d hd
  refine⟨[.da d,.bx,.da (.int n)],rfl,λb=>?_⟩
  obtain⟨ms,b',em,pm⟩:=shuf n n6 b
  refine⟨ms,b',cP (ds:=[.list ((jP n).map int)]) (β1:=b) (by rfl) ?_ em,pm⟩
  rw[cJ,cF (x:=.int n) (d:=.list ((jP n).map int)) (β1:=b) rfl (mT (by omega))];rfl)
 rw[b9] at hl
 have ef:aQ 1 [0,2] (.nm 0) (bP (f2 (cst (.int 1)) (iY 0 cj (aa (cst (.int 3)) ah)) b4)) i7 (iY 1 qc (aa (f1 (gv 2) gn) ah)) (vl [.bx,.fz (.int 6),.fz (.int n),.no,.no,.no,.no]) β1=.ok (.list (rows.map tupI)) β3:=by
  unfold aQ
  rw[cC (n:=1 + q) e2 (by omega)]
  dsimp only[R.bnd]
  rw[Kl (sz _ (by rw[b9];omega)),ec];rfl
 rw[aX (env':=[.bx,.fz (.int 6),.fz (.int n),.fz (.list (rows.map tupI)),.no,.no,.no]) (β':=β3) ?g2]
 case g2=>rw[fm,ef];rfl
 have hne:rows≠ []:=λz=>by rw[z] at hl;simp at hl;omega
 have told:∀β4,∃(n':Nat) (l:List Pr) (β':Int),rF (bB (aR (aa (gv 2) (aa (aF oY (aa (gv 2) (aa (gv 3) ah))) ah))) [.bx,.fz (.int 6),.fz (.int n),.fz (.list (rows.map tupI)),.no,.no,.no] β4)=.ok (ao n' l) false β'/\OM.Ord n' l/\n'<=6:=λβ4=>by
  refine⟨n,(OM.dO n).filter (m9 rows),β4,?_,yQ n1 (by omega) hne,n6⟩
  have a1:aF oY (aa (gv 2) (aa (gv 3) ah)) (vl [.bx,.fz (.int 6),.fz (.int n),.fz (.list (rows.map tupI)),.no,.no,.no]) β4=.ok (.tuple (((OM.dO n).filter (m9 rows)).map ar)) β4:=aG rfl (CD (by omega) (by omega) hP)
  rw[dS,lI (ds:=[.int n,.tuple (((OM.dO n).filter (m9 rows)).map ar)]) (β1:=β4) ?k3 (by simp)]
  case k3=>
   rw[cJ]
   show (R.ok (int n) β4).bnd _=_
   dsimp only[R.bnd]
   rw[cJ,a1];rfl
  rfl
 have t1:cL (f2 (gv 2) (cst (.int 6)) (cG false)) (vl [.bx,.fz (.int 6),.fz (.int n),.fz (.list (rows.map tupI)),.no,.no,.no]) β3=.ok (decide ((n:Int)=6)) β3:=gj (neg:=false) (i:=n) (j:=6) rfl rfl
 by_cases qn:(n:Int)=6
 case neg=>
  rw[KC qn] at t1
  have t:tT (cL (f2 (gv 2) (cst (.int 6)) (cG false))) (cL (f2 (iY 0 cj (aa (cst (.int 3)) ah)) (cst (.int 2)) (cG false))) (vl [.bx,.fz (.int 6),.fz (.int n),.fz (.list (rows.map tupI)),.no,.no,.no]) β3=.ok false β3:=by rw[jA,t1];rfl
  rw[aX (env':=[.bx,.fz (.int 6),.fz (.int n),.fz (.list (rows.map tupI)),.no,.no,.no]) (β':=β3) (by rw[gL t];rfl)]
  exact told β3
 rw[Kn qn] at t1
 obtain⟨g,hg,eg⟩:=dP (m:=3) (by omega) (by omega) β3
 generalize hβ4:β3 / ((3:Nat):Int)=β4 at eg
 have t:tT (cL (f2 (gv 2) (cst (.int 6)) (cG false))) (cL (f2 (iY 0 cj (aa (cst (.int 3)) ah)) (cst (.int 2)) (cG false))) (vl [.bx,.fz (.int 6),.fz (.int n),.fz (.list (rows.map tupI)),.no,.no,.no]) β3=.ok (decide ((g:Int)=2)) β4:=by
  have t2:cL (f2 (iY 0 cj (aa (cst (.int 3)) ah)) (cst (.int 2)) (cG false)) (vl [.bx,.fz (.int 6),.fz (.int n),.fz (.list (rows.map tupI)),.no,.no,.no]) β3=.ok (decide ((g:Int)=2)) β4:=gj (neg:=false) (i:=g) (j:=2) (cP (ds:=[.int 3]) (by rfl) rfl eg) rfl
  rw[jA,t1]
  exact t2
 by_cases qg:(g:Int)=2
 case neg=>
  rw[KC qg] at t
  rw[aX (env':=[.bx,.fz (.int 6),.fz (.int n),.fz (.list (rows.map tupI)),.no,.no,.no]) (β':=β4) (by rw[gL t];rfl)]
  exact told β4
 rw[Kn qg] at t
 obtain⟨ms,β5,em,hp⟩:=shuf 6 (by omega) β4
 have hml:ms.length=6:=by rw[hp.length_eq,nu]
 have ndm:ms.Nodup:=hp.nodup_iff.mpr (qB _)
 generalize hR:PyData.list (rows.map tupI)=R3 at t ⊢
 obtain⟨env',β',ef6,ps,s6,rfl,rfl,hC⟩:=ig (t:=.nm 6) (m:=bS 5 ([] ++ ([] ++ [])) (f2 (gv 5) (aQ 1 [6,4] (.nm 0) (bP (cst (.int 3))) (cL (f2 (gv 0) (gv 1) (cG true))) (aR (aa (f2 (gv 2) (gv 1) aW) (aa (f2 (gv 2) (f2 (cst (.int 3)) (gv 0) b4) aW) ah)))) eR)) (ds:=cI 0 3) (k:=0)
  (λi env β=>∃(ps:List Pr) (s6:Sl),env=oe n R3 ms ps s6/\β=β5/\JL ms 3 i ps)
  (env:=oe n R3 ms [] .no) (β:=β5) ⟨[],.no,rfl,rfl,List.nodup_nil,by simp,λp hp=>by cases hp⟩ (by
   rintro i d env β hi ⟨ps,s6,rfl,rfl,nd,hl,hc⟩
   obtain⟨hin,rfl⟩:=jh hi
   rw[LC] at hl hc
   rw[LC,LB]
   refine⟨oe n R3 ms ps (.fz (.int i)),rfl,?_⟩
   have him:i < ms.length:=by omega
   generalize hO:((List.range 3).filter λ(j:Nat)=> !decide ((j:Int)=(i:Int)))=js
   have hjs:∀j,j∈js->j < 3:=λj hj=>by rw[<-hO] at hj;exact K2.mp (KP.mp hj).1
   have hjn:js.Nodup:=by rw[<-hO];exact List.nodup_range.filter _
   have hjl:js.length<=3:=by rw[<-hO];have:=LM (λ(j:Nat)=> !decide ((j:Int)=(i:Int))) (List.range 3);rw[LH] at this;exact this
   have at_:∀k:Nat,k < ms.length->aW (tupI ms) (.int (k:Int))=some (.int (ms.getD k 0)):=λk hk=>by
    show i9 (ms.map int) (k:Int)=_
    rw[kl,lE hk,Kq,Kh hk];rfl
   have ed:aQ 1 [6,4] (.nm 0) (bP (cst (.int 3))) (cL (f2 (gv 0) (gv 1) (cG true))) (aR (aa (f2 (gv 2) (gv 1) aW) (aa (f2 (gv 2) (f2 (cst (.int 3)) (gv 0) b4) aW) ah))) (vl (oe n R3 ms ps (.fz (.int i)))) β=.ok (.list ((js.map λ(j:Nat)=>((ms.getD i 0,ms.getD (3 + j) 0):Pr)).map ar)) β:=by
    rw[<-hO,map_map]
    refine lj (l:=List.range 3) (e:=λ(k:Nat)=>int (0 + (k:Int))) (λ(j:Nat)=> !decide ((j:Int)=(i:Int))) (λj=>ar (ms.getD i 0,ms.getD (3 + j) 0)) (cC (n:=3) rfl (by omega)) (by rw[LH];omega) λj hj=>⟨_,rfl,?_,λ_=>?_⟩
    ·rw[LB];exact gj (neg:=true) (i:=j) (j:=i) rfl rfl
    ·have hj:=K2.mp hj
     refine jn (az (x:=tupI ms) (y:=.int i) rfl rfl (at_ i him)) (az (x:=tupI ms) (y:=.int ((3 + j:Nat):Int)) rfl (az (x:=.int 3) (y:=.int (0 + (j:Int))) rfl rfl ?_) (at_ (3 + j) (by omega)))
     show some (int (3 + (0 + (j:Int))))=_
     congr 2;omega
   refine⟨oe n R3 ms (ps ++ js.map λ(j:Nat)=>((ms.getD i 0,ms.getD (3 + j) 0):Pr)) (.fz (.int i)),β,?_,_,_,rfl,rfl,?_,?_,?_⟩
   ·rw[fm,az (x:=.list (ps.map ar)) (β1:=β) rfl ed (nJ (by rw[Ko,Ko,Ko];omega)),<-Lu];rfl
   ·have hd:∀j,j < 3->ms[3 + j]? =some (ms.getD (3 + j) 0):=λj hj=>by rw[Kq,Kh (by omega)];rfl
    have hdi:ms[i]? =some (ms.getD i 0):=by rw[Kq,Kh him];rfl
    refine List.nodup_append.mpr ⟨nd,?_,λp hp q hq e=>?_⟩
    ·rw[Lx,LP]
     refine My (λ{a b} ha hb h e=>?_) (Lx.mp hjn)
     have e2:=(Prod.mk.inj e).2
     have:=ke ndm (hd a (hjs a ha)) (by rw[e2];exact hd b (hjs b hb))
     omega
    ·subst e
     obtain⟨j,hj,rfl⟩:=KZ.mp hq
     obtain⟨i',j',h1,h2,h3,h4⟩:=hc _ hp
     have:=ke ndm h3 hdi
     omega
   ·rw[KN,Ko];omega
   ·intro p hp
    rcases KI.mp hp with hp |hp
    ·obtain⟨i',j',h1,h2,h3,h4⟩:=hc _ hp
     exact⟨i',j',by omega,h2,h3,h4⟩
    ·obtain⟨j,hj,rfl⟩:=KZ.mp hp
     refine⟨i,j,by omega,hjs j hj,?_,?_⟩
     ·show ms[i]? =some (ms.getD i 0)
      rw[Kq,Kh him];rfl
     ·have:=hjs j hj
      show ms[3 + j]? =some (ms.getD (3 + j) 0)
      rw[Kq,Kh (by omega)];rfl)
 rw[b9,LC] at hC
 obtain⟨O,hsm,hl64⟩:=CC (by omega) (by omega) (Kj 3) hp hC
 have g9:o8 (.list (ps.map ar))=some (.list ((OM.hX 8 (OM.Mem ps)).map ar)):=by
  unfold o8
  dsimp only
  rw[ik]
  dsimp only
  rw[Kl ⟨hsm,hC.1,hl64⟩]
 rw[c9 (d:=ao 6 (OM.hX 8 (OM.Mem ps))) (b:=false) (β':=β') ?z]
 ·exact⟨6,_,_,rfl,O,by omega⟩
 case z=>
  rw[gp t]
  rw[aX (env':=[.bx,.fz (.int 6),.fz (.int n),.fz R3,.fz (tupI ms),.no,.no]) (β':=β') ?y1]
  case y1=>
   show bS 4 _ _ [.bx,.fz (.int 6),.fz (.int n),.fz R3,.no,.no,.no] β4=_
   rw[fm,cP (ds:=[.list ((jP 6).map int)]) (β1:=β4) (by rfl) ?hu1 em]
   ·rfl
   case hu1=>rw[cJ,cF (x:=.int ((6:Nat):Int)) (d:=.list ((jP 6).map int)) (β1:=β4) rfl (mT (by omega))];rfl
  rw[aX (env':=oe n R3 ms [] .no) (β':=β') ?y2]
  case y2=>rw[fm,iH (ds:=[]) (β1:=β') rfl (by simp)];rfl
  rw[aX (env':=oe n R3 ms ps s6) (β':=β') ?y3]
  case y3=>
   rw[fo (env:=oe n R3 ms [] .no) (ds:=cI 0 3) (β1:=β') (cC (n:=3) rfl (by omega))]
   exact ef6
  rw[dS,lI (ds:=[.int 6,.tuple ((OM.hX 8 (OM.Mem ps)).map ar)]) (β1:=β') ?y4 (by simp)]
  ·rfl
  case y4=>
   rw[cJ,Eh,me,cJ,cF (cF (x:=.list (ps.map ar)) rfl g9) (by rfl)];rfl
noncomputable def zV:List D->Int->FB:=l6 2 0 (gk cj)
def FU (β:Int):∃o β',zV [] β=.ok o false β'/\o∈jc:=by
 show ∃o β',rF (gk cj [.bx,.no] β)=.ok o false β'/\o∈jc
 unfold gk
 rw[aX (env':=[.bx,.fz (.list (jc.take 14))]) (β':=β) ?a]
 case a=>
  rw[fm,lp (ds:=jc.take 14) (ac (ck _) (ac (ck _) (ac (ck _) (ac (ck _) (ac (ck _) (ac (ck _) (ac (ck _) (ac (tp (ac (ck _) an)) (ac (lp (ac (ck _) an)) (ac (ck _) (ac (tp an) (ac Hx (ac (tp (ac (ck _) (ac (tp (ac (tp (ac (ck _) (ac (ck _) an))) an)) an))) (ac (tp (ac (ck _) (ac (lp (ac (tp (ac (ck _) (ac (ck _) an))) an)) an))) an))))))))))))))
   (by show (14:Nat)<=1000;omega)]
  rfl
 obtain⟨j,hj,ej⟩:=dP (m:=16) (by omega) (by omega) β
 have hlen:jc.length=16:=rfl
 obtain⟨o,ho⟩:∃o,jc[j]? =some o:=⟨_,Kh (by omega)⟩
 have e:f2 (f2 (gv 1) (bH (aa (bH (aa (aR ah) ah)) (aa (cst (.int 0)) ah))) eR) (iY 0 cj (aa (cst (.int 16)) ah)) aW (vl [.bx,.fz (.list (jc.take 14))]) β=.ok o (β / 16):=by
  refine az (x:=.list jc) (y:=.int j) (β1:=β) (az (x:=.list (jc.take 14)) (y:=.list [.list [.tuple []],.int 0]) rfl (lp (ac (lp (ac (tp an) an)) (ac (ck _) an))) ?_) (cP (ds:=[.int 16]) (by rfl) rfl ej) ?_
  ·rw[nJ (by show (14 + 2:Nat)<=10000;omega)];rfl
  ·show i9 jc (j:Int)=some o
   exact fE ho
 rw[dS,e]
 exact⟨o,_,rfl,KA ho⟩
def pk (n:Int)(l:List Pr)(d:D):Bool:=DW n d && match d with
 | .tuple [.int a,.int b]=>u9 l (a,b)
 |_=>false
def Hi {n:Int}{l:List Pr}{p:Pr}(h:(0<=p.1/\p.1 < n)/\(0<=p.2/\p.2 < n)):pk n l (ar p)=u9 l p:=by
 show ((decide (0<=p.1/\p.1 < n) && decide (0<=p.2/\p.2 < n)) && u9 l (p.1,p.2))=u9 l p
 rw[Kn h.1,Kn h.2];rfl
noncomputable def FC:List D->FR:=bE 2 2 (km Iu JA)
theorem GQ {n:Nat}{l:List Pr}{d:D}(h:Ge d):FC [d,ao n l]=.ok (.bool (pk n l d)) false:=by
 show fin (km Iu JA [.fz d,.fz (ao n l)] 0)=_
 unfold km
 have e1:aF Iu (aa (gv 0) (aa (f2 (gv 1) (cst (.int 0)) aW) ah)) (vl [.fz d,.fz (ao n l)]) 0=.ok (.bool (DW n d)) 0:=aG (ds:=[d,.int n]) rfl (Jj h)
 rw[dS]
 cases q:DW n d with
 |false=>rw[q] at e1;rw[xG e1];unfold pk;rw[q];rfl
 |true=>
  rw[q] at e1
  obtain⟨p,rfl,hp⟩:=Bs q
  rw[Hi hp,uj e1 (aG (ds:=[ao n l,.int p.1,.int p.2]) rfl (HJ n l p.1 p.2))];rfl
def DN (n:Int)(l:List Pr):D->Bool
 | .list ds=>ds.all (pk n l)
 |_=>false
noncomputable def Gj:List D->FR:=bE 2 2 (iG FC)
theorem G7 {n:Nat}{l:List Pr}{d:D}(h:Gt d):Gj [d,ao n l]=.ok (.bool (DN n l d)) false:=by
 show fin (iG FC [.fz d,.fz (ao n l)] 0)=_
 unfold iG
 have e1:=Ad (fa:=gv 0) (vs:=vl [.fz d,.fz (ao n l)]) (β:=0) rfl h.1
 rw[dS]
 cases q:Dk d with
 |false=>rw[q] at e1;rw[xG e1];cases d <;> first |rfl |cases q
 |true=>
  rw[q] at e1
  obtain⟨ds,rfl⟩:=xH q
  have hd:=h.2 ds rfl
  have ec:aQ 1 [1] (.nm 0) (fj (gv 0)) i7 (aF FC (aa (gv 0) (aa (gv 1) ah))) (vl [.fz (.list ds),.fz (ao n l)]) 0=.ok (.list (ds.map λe=>PyData.bool (pk n l e))) 0:=
   jq (λe=>PyData.bool (pk n l e)) rfl (by omega) λe he=>⟨_,rfl,aG (ds:=[e,ao n l]) rfl (GQ (hd.2 e he))⟩
  rw[uj e1 (nP ec)];rfl
theorem zH {n:Nat}{l:List Pr}:∀{ds:List D},ds.all (pk n l)=true->∃ps:List Pr,ds=ps.map ar/\∀p,p∈ps->u9 l p=true
 | [],_=>⟨[],rfl,λp h=>by cases h⟩
 |d :: ds,h=>by
  rw[all_cons,Km] at h
  obtain⟨ps,rfl,hp⟩:=zH h.2
  have h1:=h.1
  unfold pk at h1
  rw[Km] at h1
  obtain⟨p,rfl,hb⟩:=Bs h1.1
  refine⟨p :: ps,rfl,λq hq=>?_⟩
  rcases Ks.mp hq with rfl |hq
  ·exact h1.2
  ·exact hp q hq
def y7 (l:List Pr)(p q:Pr):Bool:=decide (p.1=q.2) || decide ((p.1,q.2)∈l)
def GW:List D->FR:=bE 3 3 ju
theorem Ht (n:Nat)(l:List Pr)(p q:Pr):GW [ao n l,ar p,ar q]=.ok (.bool (y7 l p q)) false:=by
 show fin (ju [.fz (ao n l),.fz (ar p),.fz (ar q)] 0)=_
 unfold ju
 have i0:f2 (gv 1) (cst (.int 0)) aW (vl [.fz (ao n l),.fz (ar p),.fz (ar q)]) 0=.ok (.int p.1) 0:=az (x:=ar p) (y:=.int 0) rfl rfl rfl
 have i1:f2 (gv 2) (cst (.int 1)) aW (vl [.fz (ao n l),.fz (ar p),.fz (ar q)]) 0=.ok (.int q.2) 0:=az (x:=ar q) (y:=.int 1) rfl rfl rfl
 have e1:f2 (f2 (gv 1) (cst (.int 0)) aW) (f2 (gv 2) (cst (.int 1)) aW) (cG false) (vl [.fz (ao n l),.fz (ar p),.fz (ar q)]) 0=.ok (.bool (decide (p.1=q.2))) 0:=az i0 i1 (qP false p.1 q.2)
 have e2:f2 (aR (aa (f2 (gv 1) (cst (.int 0)) aW) (aa (f2 (gv 2) (cst (.int 1)) aW) ah))) (f2 (gv 0) (cst (.int 1)) aW) (rz false) (vl [.fz (ao n l),.fz (ar p),.fz (ar q)]) 0=.ok (.bool (decide ((p.1,q.2)∈l))) 0:=az (x:=ar (p.1,q.2)) (jn i0 i1) (Jq (n:=n) (l:=l) rfl) (ny false (p.1,q.2) l)
 rw[dS]
 unfold y7
 cases c:decide (p.1=q.2) with
 |true=>rw[c] at e1;rw[IW e1];rfl
 |false=>rw[c] at e1;rw[Jt e1 e2];rfl
noncomputable def CA:List D->FR:=bE 2 2 (du EB qS)
theorem FE {n:Int}{l:List Pr}{x y:D}(h:(lQ x && lQ y)=false):pk n l (.tuple [x,y])=false:=by
 unfold pk DW
 cases x with
 |int a=>
  cases y with
  |int b=>cases h
  |_=>simp[iZ]
 |_=>simp[iZ]
theorem EZ {n:Nat}{l:List Pr}{d:D}(h:Ge d):CA [ao n l,d]=.ok (.bool (pk n l d)) false:=by
 show fin (du EB qS [.fz (ao n l),.fz d] 0)=_
 unfold du
 have g1:gv 1 (vl [.fz (ao n l),.fz d]) 0=.ok d 0:=rfl
 have t1:=qh g1 h.1
 cases hy:og d with
 |false=>
  rw[hy] at t1
  rw[c9 (d:=.bool false) (b:=false) (β':=0) ?a]
  ·cases d <;> first |rfl |cases hy
  case a=>rw[gp (iU (aE t1))];rfl
 |true=>
  obtain⟨es,rfl⟩:=nD hy
  rw[hy] at t1
  have t2:=si (k:=2) g1
  rcases nR (es:=es) with⟨q,z⟩ | ⟨x,y,rfl⟩
  ·rw[q] at t2
   rw[show pk n l (.tuple es)=false by unfold pk;rw[z];rfl,c9 (d:=.bool false) (b:=false) (β':=0) (by rw[gp (aY (aE t1) (iU t2))];rfl)];rfl
  ·have hs:=(h.2 _ rfl).2
   have ec:aQ 1 [] (.nm 0) (fj (gv 1)) i7 (aF EB (aa (gv 0) ah)) (vl [.fz (ao n l),.fz (.tuple [x,y])]) 0=.ok (.list ([x,y].map λe=>PyData.bool (lQ e))) 0:=
    jq (λe=>PyData.bool (lQ e)) rfl (by simp) λe he=>⟨_,rfl,aG (ds:=[e]) rfl (Hy (hs e he))⟩
   have ea:=nP ec
   have e2: [x,y].all lQ=(lQ x && lQ y):=by simp
   rw[e2] at ea
   cases hw:(lQ x && lQ y) with
   |false=>
    rw[hw] at ea
    rw[FE hw,c9 (d:=.bool false) (b:=false) (β':=0) (by rw[gp (aY (aE t1) (aY t2 (aE (c4 ea))))];rfl)];rfl
   |true=>
    rw[hw] at ea
    rw[Km] at hw
    cases x with
    |int a=>
     cases y with
     |int b=>
      rw[aX (env':=[.fz (ao n l),.fz (.tuple [.int a,.int b])]) (β':=0) (by rw[gL (aY (aE t1) (aY t2 (aE (c4 ea))))];rfl)]
      have ed:aQ 1 [0] (.nm 0) (fj (gv 1)) i7 (fx (cst (.int 0)) (gv 0) (f2 (gv 1) (cst (.int 0)) aW) tf sW) (vl [.fz (ao n l),.fz (.tuple [.int a,.int b])]) 0=.ok (.list ([a,b].map λ(e:Int)=>PyData.bool (decide (0<=e) && decide (e < (n:Int))))) 0:=
       eN (l:=[a,b]) (e:=int) (λ(e:Int)=>PyData.bool (decide (0<=e) && decide (e < (n:Int)))) rfl (by simp) λe he=>⟨_,rfl,jb (lo:=0) (i:=e) (n:=n) rfl rfl (JQ (n:=n) (l:=l) rfl) rfl⟩
      have eb:=sE ed
      rw[dS,nz eb (aG (ds:=[ao n l,.int a,.int b]) rfl (DT n l a b))]
      show FR.ok (.bool (_ && u9 l (a,b))) false=.ok (.bool ((decide (0<=a/\a < (n:Int)) && decide (0<=b/\b < (n:Int))) && u9 l (a,b))) false
      rw[Me,Me]
      simp
     |_=>cases hw.2
    |_=>cases hw.1
def vc:List D->FR:=bE 3 3 qr
def AM (n:Nat)(l:List Pr)(p q:Pr):vc [ao n l,ar p,ar q]=.ok (.bool (y7 l p q)) false:=Ht n l p q
def Gd (l:List Pr)(ps:List Pr):Bool:=(List.range ps.length).all λi=>y7 l (ps.getD (if i=0 then ps.length - 1 else i - 1) (0,0)) (ps.getD i (0,0))
def xh {ps:List Pr}{i:Nat}(hi:i < ps.length):i9 (ps.map ar) ((i:Int) - 1)=some (ar (ps.getD (if i=0 then ps.length - 1 else i - 1) (0,0))):=by
 have key:∀k:Nat,k < ps.length->i9 (ps.map ar) (k:Int)=some (ar (ps.getD k (0,0))):=λk hk=>by
  rw[kl,lE hk,Kq,Kh hk];rfl
 by_cases h:i=0
 ·subst h
  rw[Kl rfl,<-key _ (by omega)]
  have e1:sU ps.length (((0:Nat):Int) - 1)=some (ps.length - 1):=by
   unfold sU
   rw[Kw (by omega),Kl (by omega)]
   congr 1;omega
  have e2:sU ps.length ((ps.length - 1:Nat):Int)=some (ps.length - 1):=by
   unfold sU
   rw[Kl (by omega),Kl (by omega)]
   congr 1
  unfold i9
  rw[Ko,e1,e2]
 ·rw[Kw h,<-key _ (by omega),show ((i - 1:Nat):Int)=(i:Int) - 1 by omega]
def zA {F:List D->FR}{n:Nat}{l:List Pr}(hF:∀p q,F [ao n l,ar p,ar q]=.ok (.bool (y7 l p q)) false){ps:List Pr}(hz:ps.length<=100){vs:List Nv}(h0:vs[0]? =some (.da (.list (ps.map ar))))(h1:vs[1]? =some (.da (ao n l))) :
  f1 (aQ 1 [1,0] (.nm 0) (bP (f1 (gv 0) bW)) i7 (aF F (aa (gv 1) (aa (f2 (gv 2) (f2 (gv 0) (cst (.int 1)) ji) aW) (aa (f2 (gv 2) (gv 0) aW) ah))))) (bN λbs=>bs.all id) vs 0=.ok (.bool (Gd l ps)) 0:=by
 have g0:gv 0 vs 0=.ok (.list (ps.map ar)) 0:=by rw[xm,h0];rfl
 have hb:c6 1 [1,0] vs= [.no,.da (ao n l),.da (.list (ps.map ar))]:=by simp[c6,h0,h1]
 have ec:aQ 1 [1,0] (.nm 0) (bP (f1 (gv 0) bW)) i7 (aF F (aa (gv 1) (aa (f2 (gv 2) (f2 (gv 0) (cst (.int 1)) ji) aW) (aa (f2 (gv 2) (gv 0) aW) ah)))) vs 0=.ok (.list ((List.range ps.length).map λi=>PyData.bool (y7 l (ps.getD (if i=0 then ps.length - 1 else i - 1) (0,0)) (ps.getD i (0,0))))) 0:=by
  refine eN (l:=List.range ps.length) (e:=λ(k:Nat)=>int (0 + (k:Int))) (λi=>PyData.bool (y7 l (ps.getD (if i=0 then ps.length - 1 else i - 1) (0,0)) (ps.getD i (0,0)))) ?_ (by rw[LH];omega) λi hi=>⟨[.da (.int (0 + (i:Int))),.da (ao n l),.da (.list (ps.map ar))],by rw[hb];rfl,?_⟩
  ·have:=cC (fa:=f1 (gv 0) bW) (vs:=vs) (β:=0) (β1:=0) (n:=ps.length) (by rw[ll (ds:=ps.map ar) g0,Ko]) (by omega)
   rw[this];rfl
  ·have hi:=K2.mp hi
   rw[LB]
   refine aG (b:=false) (ds:=[ao n l,ar (ps.getD (if i=0 then ps.length - 1 else i - 1) (0,0)),ar (ps.getD i (0,0))]) ?_ (hF _ _)
   have a1:f2 (gv 2) (f2 (gv 0) (cst (.int 1)) ji) aW [.da (.int i),.da (ao n l),.da (.list (ps.map ar))] 0=.ok (ar (ps.getD (if i=0 then ps.length - 1 else i - 1) (0,0))) 0:=az (x:=.list (ps.map ar)) (y:=.int ((i:Int) - 1)) rfl (az (x:=.int i) (y:=.int 1) rfl rfl rfl) (xh hi)
   have a2:f2 (gv 2) (gv 0) aW [.da (.int i),.da (ao n l),.da (.list (ps.map ar))] 0=.ok (ar (ps.getD i (0,0))) 0:=by
    refine az (x:=.list (ps.map ar)) (y:=.int i) rfl rfl ?_
    show i9 (ps.map ar) (i:Int)=_
    rw[kl,lE hi,Kq,Kh hi];rfl
   exact ac rfl (ac a1 (ac a2 an))
 exact cF ec (by simp only[bN];rw[fZ];simp[all_map,Gd])
noncomputable def DR:List D->FR:=bE 2 2 (df Gj GW)
def Gv {n:Nat}{l:List Pr}{d:D}(h:Gt d)(hts:DN n l d=false):DR [d,ao n l]=.ok (.bool false) false:=by
 show fin (df Gj GW [.fz d,.fz (ao n l)] 0)=_
 unfold df
 have t:fR (aF Gj (aa (gv 0) (aa (gv 1) ah))) (vl [.fz d,.fz (ao n l)]) 0=.ok (DN n l d) 0:=c4 (aG (ds:=[d,ao n l]) rfl (G7 h))
 rw[hts] at t
 rw[c9 (d:=.bool false) (b:=false) (β':=0) (by rw[gp (iU (aE t))];rfl)];rfl
theorem Hk {n:Nat}{l:List Pr}{ps:List Pr}(h:Gt (.list (ps.map ar)))(hts:DN n l (.list (ps.map ar))=true):DR [.list (ps.map ar),ao n l]=.ok (.bool (!ps.isEmpty && Gd l ps)) false:=by
 show fin (df Gj GW [.fz (.list (ps.map ar)),.fz (ao n l)] 0)=_
 unfold df
 have t:fR (aF Gj (aa (gv 0) (aa (gv 1) ah))) (vl [.fz (.list (ps.map ar)),.fz (ao n l)]) 0=.ok (DN n l (.list (ps.map ar))) 0:=c4 (aG (ds:=[.list (ps.map ar),ao n l]) rfl (G7 h))
 rw[hts] at t
 have hz:ps.length<=100:=by have:=(h.2 _ rfl).1;rw[Ko] at this;exact this
 have t2:cL (f2 (f1 (gv 0) bW) (cst (.int 0)) (cG false)) (vl [.fz (.list (ps.map ar)),.fz (ao n l)]) 0=.ok (decide (((ps.map ar).length:Int)=0)) 0:=gj (neg:=false) (ll rfl) rfl
 cases ps with
 |nil=>rw[c9 (d:=.bool false) (b:=false) (β':=0) (by rw[gp (aY (aE t) t2)];rfl)];rfl
 |cons p ps=>
  rw[KC (by simp;omega)] at t2
  rw[aX (env':=[.fz (.list ((p :: ps).map ar)),.fz (ao n l)]) (β':=0) (by rw[gL (aY (aE t) t2)];rfl)]
  rw[dS,zA (F:=GW) (n:=n) (l:=l) (Ht n l) hz rfl rfl];rfl
def yu {F:List D->FR}{n:Nat}{l:List Pr}(hF:∀p q,F [ao n l,ar p,ar q]=.ok (.bool (y7 l p q)) false){ps:List Pr}(hz:ps.length<=100){vs:List Nv}(h1:vs[1]? =some (.da (.list (ps.map ar))))(h0:vs[0]? =some (.da (ao n l))) :
  f1 (aQ 1 [0,1] (.nm 0) (bP (f1 (gv 1) bW)) i7 (aF F (aa (gv 1) (aa (f2 (gv 2) (f2 (gv 0) (cst (.int 1)) ji) aW) (aa (f2 (gv 2) (gv 0) aW) ah))))) (bN λbs=>bs.all id) vs 0=.ok (.bool (Gd l ps)) 0:=by
 have g0:gv 1 vs 0=.ok (.list (ps.map ar)) 0:=by rw[xm,h1];rfl
 have hb:c6 1 [0,1] vs= [.no,.da (ao n l),.da (.list (ps.map ar))]:=by simp[c6,h0,h1]
 have ec:aQ 1 [0,1] (.nm 0) (bP (f1 (gv 1) bW)) i7 (aF F (aa (gv 1) (aa (f2 (gv 2) (f2 (gv 0) (cst (.int 1)) ji) aW) (aa (f2 (gv 2) (gv 0) aW) ah)))) vs 0=.ok (.list ((List.range ps.length).map λi=>PyData.bool (y7 l (ps.getD (if i=0 then ps.length - 1 else i - 1) (0,0)) (ps.getD i (0,0))))) 0:=by
  refine eN (l:=List.range ps.length) (e:=λ(k:Nat)=>int (0 + (k:Int))) (λi=>PyData.bool (y7 l (ps.getD (if i=0 then ps.length - 1 else i - 1) (0,0)) (ps.getD i (0,0)))) ?_ (by rw[LH];omega) λi hi=>⟨[.da (.int (0 + (i:Int))),.da (ao n l),.da (.list (ps.map ar))],by rw[hb];rfl,?_⟩
  ·have:=cC (fa:=f1 (gv 1) bW) (vs:=vs) (β:=0) (β1:=0) (n:=ps.length) (by rw[ll (ds:=ps.map ar) g0,Ko]) (by omega)
   rw[this];rfl
  ·have hi:=K2.mp hi
   rw[LB]
   refine aG (b:=false) (ds:=[ao n l,ar (ps.getD (if i=0 then ps.length - 1 else i - 1) (0,0)),ar (ps.getD i (0,0))]) ?_ (hF _ _)
   have a1:f2 (gv 2) (f2 (gv 0) (cst (.int 1)) ji) aW [.da (.int i),.da (ao n l),.da (.list (ps.map ar))] 0=.ok (ar (ps.getD (if i=0 then ps.length - 1 else i - 1) (0,0))) 0:=az (x:=.list (ps.map ar)) (y:=.int ((i:Int) - 1)) rfl (az (x:=.int i) (y:=.int 1) rfl rfl rfl) (xh hi)
   have a2:f2 (gv 2) (gv 0) aW [.da (.int i),.da (ao n l),.da (.list (ps.map ar))] 0=.ok (ar (ps.getD i (0,0))) 0:=by
    refine az (x:=.list (ps.map ar)) (y:=.int i) rfl rfl ?_
    show i9 (ps.map ar) (i:Int)=_
    rw[kl,lE hi,Kq,Kh hi];rfl
   exact ac rfl (ac a1 (ac a2 an))
 exact cF ec (by simp only[bN];rw[fZ];simp[all_map,Gd])
noncomputable def Gi:List D->FR:=bE 2 2 (eS CA vc)
def DZ {d:List D}{vs:List Nv}(h:gv 1 vs 0=.ok (.list d) 0):cL (f2 (gv 1) (bH ah) v9) vs 0=.ok d.isEmpty 0:=cw _ _ _ _ (az h (lp (ds:=[]) an) rfl)
def GZ {n:Nat}{l:List Pr}{d:D}(h:Gt d)(hts:DN n l d=false):Gi [ao n l,d]=.ok (.bool false) false:=by
 show fin (eS CA vc [.fz (ao n l),.fz d] 0)=_
 unfold eS
 have e1:=Ad (fa:=gv 1) (vs:=vl [.fz (ao n l),.fz d]) (β:=0) rfl h.1
 rw[c9 (d:=.bool false) (b:=false) (β':=0) ?a]
 ·rfl
 case a=>
  cases q:Dk d with
  |false=>rw[q] at e1;rw[gp (iU (aE (c4 e1)))];rfl
  |true=>
   rw[q] at e1
   obtain⟨ds,rfl⟩:=xH q
   have hd:=h.2 ds rfl
   have t2:=DZ (d:=ds) (vs:=vl [.fz (ao n l),.fz (.list ds)]) rfl
   have ec:aQ 1 [0] (.nm 0) (fj (gv 1)) i7 (aF CA (aa (gv 1) (aa (gv 0) ah))) (vl [.fz (ao n l),.fz (.list ds)]) 0=.ok (.list (ds.map λe=>PyData.bool (pk n l e))) 0:=
    jq (λe=>PyData.bool (pk n l e)) rfl (by omega) λe he=>⟨_,rfl,aG (ds:=[ao n l,e]) rfl (EZ (hd.2 e he))⟩
   have ea:=nP ec
   have hts:ds.all (pk n l)=false:=hts
   rw[hts] at ea
   cases ds with
   |nil=>cases hts
   |cons x ds=>rw[gp (aY (aE (c4 e1)) (aY t2 (aE (c4 ea))))];rfl
theorem Gq {n:Nat}{l:List Pr}{ps:List Pr}(h:Gt (.list (ps.map ar)))(hts:DN n l (.list (ps.map ar))=true):Gi [ao n l,.list (ps.map ar)]=.ok (.bool (!ps.isEmpty && Gd l ps)) false:=by
 show fin (eS CA vc [.fz (ao n l),.fz (.list (ps.map ar))] 0)=_
 unfold eS
 have e1:=Ad (fa:=gv 1) (vs:=vl [.fz (ao n l),.fz (.list (ps.map ar))]) (β:=0) rfl h.1
 have hd:=h.2 _ rfl
 have hz:ps.length<=100:=by have:=hd.1;rw[Ko] at this;exact this
 have t2:=DZ (d:=ps.map ar) (vs:=vl [.fz (ao n l),.fz (.list (ps.map ar))]) rfl
 have ec:aQ 1 [0] (.nm 0) (fj (gv 1)) i7 (aF CA (aa (gv 1) (aa (gv 0) ah))) (vl [.fz (ao n l),.fz (.list (ps.map ar))]) 0=.ok (.list ((ps.map ar).map λe=>PyData.bool (pk n l e))) 0:=
  jq (λe=>PyData.bool (pk n l e)) rfl (by omega) λe he=>⟨_,rfl,aG (ds:=[ao n l,e]) rfl (EZ (hd.2 e he))⟩
 have ea:=nP ec
 have hts:(ps.map ar).all (pk n l)=true:=hts
 rw[hts] at ea
 cases ps with
 |nil=>rw[c9 (d:=.bool false) (b:=false) (β':=0) (by rw[gp (aY (aE (c4 e1)) (iU t2))];rfl)];rfl
 |cons p ps=>
  rw[aX (env':=[.fz (ao n l),.fz (.list ((p :: ps).map ar))]) (β':=0) (by rw[gL (aY (aE (c4 e1)) (aY t2 (aE (c4 ea))))];rfl)]
  rw[dS,yu (F:=vc) (n:=n) (l:=l) (AM n l) hz rfl rfl];rfl
theorem yz {n:Nat}{l:List Pr}{d:D}(h:Gt d):∃b,DR [d,ao n l]=.ok (.bool b) false/\Gi [ao n l,d]=.ok (.bool b) false/\(b=true->∃ps:List Pr,d=.list (ps.map ar)/\ps.length<=100):=by
 cases q:DN n l d with
 |false=>exact⟨false,Gv h q,GZ h q,λz=>by cases z⟩
 |true=>
  cases d with
  |list ds=>
   obtain⟨ps,rfl,hp⟩:=zH (n:=n) (l:=l) (ds:=ds) q
   exact⟨_,Hk h q,Gq h q,λ_=>⟨ps,rfl,by have:=(h.2 _ rfl).1;rw[Ko] at this;exact this⟩⟩
  |_=>cases q
noncomputable def Dd:List D->FR:=bE 3 3 (dA DR)
def EJ {n:Nat}{l:List Pr}{d p:D}(h:DR [d,ao n l]=.ok (.bool false) false):Dd [d,ao n l,p]=.ok (.bool false) false:=by
 show fin (dA DR [.fz d,.fz (ao n l),.fz p] 0)=_
 unfold dA
 rw[dS,xG (aG (ds:=[d,ao n l]) rfl h)];rfl
def EX {n:Nat}{l ps qs:List Pr}(hz:ps.length<=100)(h:DR [.list (ps.map ar),ao n l]=.ok (.bool true) false):Dd [.list (ps.map ar),ao n l,.tuple (qs.map ar)]=.ok (.bool (ps.all λp=>decide (p∈qs))) false:=by
 show fin (dA DR [.fz (.list (ps.map ar)),.fz (ao n l),.fz (.tuple (qs.map ar))] 0)=_
 unfold dA
 have ec:aQ 1 [2] (.nm 0) (fj (gv 0)) i7 (f2 (gv 0) (gv 1) (rz false)) (vl [.fz (.list (ps.map ar)),.fz (ao n l),.fz (.tuple (qs.map ar))]) 0=.ok (.list (ps.map λp=>PyData.bool (decide (p∈qs)))) 0:=
  eN (l:=ps) (e:=ar) (λp=>PyData.bool (decide (p∈qs))) rfl (by omega) λp _=>⟨_,rfl,az (x:=ar p) (y:=.tuple (qs.map ar)) rfl rfl (ny false p qs)⟩
 rw[dS,uj (aG (ds:=[.list (ps.map ar),ao n l]) rfl h) (sE ec)];rfl
def uU:List Str:=["ring","turn","turns"]
def Gp:Nat->D->Prop
 | 0,d=>b5 d=false/\∀x y z,d≠.tuple [x,y,z]
 |k + 1,d=>b5 d=false/\∀x y z,d=.tuple [x,y,z]->(∃s,x=.str s/\s∈uU)/\Ge y/\Gt z/\∀zs,z=.tuple zs->∀e,e∈zs->Gp k e
theorem Gp.scr {k:Nat}{d:D}(h:Gp k d):b5 d=false:=by
 cases k with
 |zero=>exact h.1
 |succ k=>exact h.1
theorem Gp.at {k:Nat}{x y z:D}(h:Gp k (.tuple [x,y,z])):∃j,k=j + 1/\(∃s,x=.str s/\s∈uU)/\Ge y/\Gt z/\∀zs,z=.tuple zs->∀e,e∈zs->Gp j e:=by
 cases k with
 |zero=>exact absurd rfl (h.2 x y z)
 |succ k=>exact⟨k,rfl,h.2 x y z rfl⟩
def tq (pts:List (List Pr)):D:=.list (pts.map λps=>PyData.tuple (ps.map ar))
def lq (pts:List (List Pr)):D:=.list (pts.map λps=>PyData.list (ps.map ar))
def cT (pts:List (List Pr))(i:Nat)(t:Pr):List (List Pr):=pts.take i ++ [pts.getD i [] ++ [t]] ++ pts.drop (i + 1)
noncomputable def D1 (F:List D->FR):List D->FR:=bE 5 3 (qZ F dH Dd FC)
noncomputable def Eg (F:List D->FR):List D->FR:=bE 5 3 (hU F EB Gi CA)
theorem vD (es:List D):decide ((es.length:Int)=3)=false\/∃x y z,es= [x,y,z]:=by
 match es with
 | []=>exact .inl (by decide)
 | [a]=>exact .inl (by simp)
 | [a,b]=>exact .inl (by simp)
 | [a,b,c]=>exact .inr ⟨a,b,c,rfl⟩
 |a :: b :: c :: d :: es=>exact .inl (KC (by simp;omega))
def nc:∀s∈uU,vU (.str s)=true/\(decide ((PyData.str s).shown="'ring'")=decide (s="ring"))/\(decide ((PyData.str s).shown="'turn'")=decide (s="turn"))/\SeqAt.shaped (.str s)=true/\PyData.eqv (.str s) (.str "ring")=decide (s="ring")/\PyData.eqv (.str s) (.str "turn")=decide (s="turn"):=by decide +kernel
def zq:SeqAt.shaped (.str "ring")=true/\SeqAt.shaped (.str "turn")=true:=by decide +kernel
section
variable {fa:VF D}{vs:List Nv}{β:Int}{s:Str}
def IT (h:fa vs β=.ok (.str s) β)(hs:s∈uU):cL (f2 fa (cst (.str "ring")) (cG false)) vs β=.ok (decide (s="ring")) β:=cw _ _ _ _ (az h rfl (by unfold cG;rw[(nc s hs).2.2.2.1,zq.1,<-(nc s hs).2.2.2.2.1];rfl))
def IA (h:fa vs β=.ok (.str s) β)(hs:s∈uU):cL (f2 fa (cst (.str "turn")) (cG true)) vs β=.ok (!decide (s="turn")) β:=cw _ _ _ _ (az h rfl (by unfold cG;rw[(nc s hs).2.2.2.1,zq.2,<-(nc s hs).2.2.2.2.2];rfl))
def Jc (h:fa vs β=.ok (.str s) β)(hs:s∈uU):cL (f2 (f1 fa iX) (cst (.str "'ring'")) (uK false)) vs β=.ok (decide (s="ring")) β:=cw _ _ _ _ (az (cF h (Kl (nc s hs).1)) rfl (by rw[<-(nc s hs).2.1];rfl))
def Jb (h:fa vs β=.ok (.str s) β)(hs:s∈uU):cL (f2 (f1 fa iX) (cst (.str "'turn'")) (uK true)) vs β=.ok (!decide (s="turn")) β:=cw _ _ _ _ (az (cF h (Kl (nc s hs).1)) rfl (by rw[<-(nc s hs).2.2.1];rfl))
end
def gC (bs:List Bool):D->Bool
 | .tuple [.int i,_]=> !(bs.getD i.toNat true)
 | .int i=> !(bs.getD i.toNat true)
 |_=>false
def Cw {pts:List (List Pr)}{i:Nat}{t:Pr}{ps:List Pr}(hi:pts[i]? =some ps):tq (cT pts i t)=.list ((pts.map λps=>PyData.tuple (ps.map ar)).take i ++ [PyData.tuple (ps.map ar ++ [ar t])] ++ (pts.map λps=>PyData.tuple (ps.map ar)).drop (i + 1)):=by
 unfold tq cT
 rw[Kq,hi,Lu,Lu,List.map_take,List.map_drop]
 simp
def wC {pts:List (List Pr)}{i:Nat}{t:Pr}{ps:List Pr}(hi:pts[i]? =some ps):lq (cT pts i t)=.list ((pts.map λps=>PyData.list (ps.map ar)).take i ++ [PyData.list (ps.map ar ++ [ar t])] ++ (pts.map λps=>PyData.list (ps.map ar)).drop (i + 1)):=by
 unfold lq cT
 rw[Kq,hi,Lu,Lu,List.map_take,List.map_drop]
 simp
def oH {pts:List (List Pr)}{i:Nat}{t:Pr}(hi:i < pts.length):(cT pts i t).length=pts.length:=by
 unfold cT
 simp;omega
def ur {pts:List (List Pr)}{i:Nat}{t:Pr}{k:Nat}(h:∀ps,ps∈pts->ps.length + (k + 1)<=50)(hk:k + 1<=50):∀ps,ps∈cT pts i t->ps.length + k<=50:=by
 intro ps hp
 unfold cT at hp
 rcases KI.mp hp with hp |hp
 ·rcases KI.mp hp with hp |hp
  ·have:=h ps (L6 hp);omega
  ·rw[K7] at hp
   subst hp
   rw[KN,List.length_singleton,Kq]
   cases e:pts[i]? with
   |none=>show 0 + 1 + k<=50;omega
   |some q=>
    have:=h q (KA e)
    show q.length + 1 + k<=50
    omega
 ·have:=h ps (Mp hp);omega
def De (ps qs:List Pr):decide (ps.filter (λp=> !decide (p∈qs))= [])=ps.all λp=>decide (p∈qs):=by
 rw[Lk,decide_eq_true_iff,List.filter_eq_nil_iff,Lf]
 simp
theorem yn {m:Nat}{P:Nat->Bool->Prop}(h:∀i,i < m->∃b,P i b):∃bs:List Bool,bs.length=m/\∀i,i < m->P i (bs.getD i true):=by
 induction m with
 |zero=>exact⟨[],rfl,λi hi=>by omega⟩
 |succ m ih=>
  obtain⟨bs,e,q⟩:=ih λi hi=>h i (by omega)
  obtain⟨b,hb⟩:=h m (by omega)
  refine⟨bs ++ [b],by simp[e],λi hi=>?_⟩
  rw[Kq]
  by_cases c:i < m
  ·rw[K4 (by omega),<-Kq];exact q i c
  ·have:i=m:=by omega
   subst this
   rw[Ld (by omega),e,Nat.sub_self];exact hb
def A5 {bs:List Bool}:(∃i,i < bs.length/\bs.getD i true=false)->bs.all id=false:=λ⟨i,hi,e⟩=>by
 rw[List.all_eq_false]
 refine⟨bs[i],Lr hi,?_⟩
 rw[Kq,Kh hi] at e
 have e:bs[i]=false:=e
 rw[e];decide
def xB {bs:List Bool}(h:∀i,i < bs.length->bs.getD i true=true):bs.all id=true:=by
 rw[Lf]
 intro x hx
 obtain⟨i,hi,e⟩:=List.getElem_of_mem hx
 have:=h i hi
 rw[Kq,Kh hi,e] at this
 exact this
abbrev ge (d o q:D)(s3 s4:Sl):En:=[.fz d,.fz o,.fz q,s3,s4]
def tG {zs:List D}{d:D}(h:d∈kU zs):∃(i:Nat) (e:D),zs[i]? =some e/\d=.tuple [.int i,e]:=by
 unfold kU at h
 obtain⟨i,hi,e⟩:=List.mem_mapIdx.mp h
 exact⟨i,zs[i],Kh hi,e.symm⟩
theorem yR {n:Nat}{l:List Pr}:∀(k:Nat) (d:D) (pts:List (List Pr)) (m:Nat),k < m->Gp k d->pts.length<=3->(∀ps,ps∈pts->ps.length + k<=50)->∃b,jW D1 m [d,ao n l,tq pts]=.ok (.bool b) false/\jW Eg m [d,ao n l,lq pts]=.ok (.bool b) false:=by
 intro k
 induction k using Nat.strongRecOn with
 |ind k ih=>
  intro d pts m hm hd hl hp
  obtain⟨m,rfl⟩:∃m',m=m' + 1:=⟨m - 1,by omega⟩
  show ∃b,fin (qZ (jW D1 m) dH Dd FC (ge d (ao n l) (tq pts) .no .no) 0)=.ok (.bool b) false/\fin (hU (jW Eg m) EB Gi CA (ge d (ao n l) (lq pts) .no .no) 0)=.ok (.bool b) false
  unfold qZ hU
  have tA:fR (f1 (gv 0) (dw "tuple")) (vl (ge d (ao n l) (tq pts) .no .no)) 0=.ok (og d) 0:=qh rfl hd.scr
  have tB:fR (f1 (gv 0) (dw "tuple")) (vl (ge d (ao n l) (lq pts) .no .no)) 0=.ok (og d) 0:=qh rfl hd.scr
  cases hy:og d with
  |false=>
   rw[hy] at tA tB
   exact⟨false,cu (bL (iU (aE tA)) (b6 rfl rfl)),cu (bL (iU (aE tB)) (b6 rfl rfl))⟩
  |true=>
   obtain⟨es,rfl⟩:=nD hy
   rw[hy] at tA tB
   have lA:=si (fa:=gv 0) (vs:=vl (ge (.tuple es) (ao n l) (tq pts) .no .no)) (β:=0) (k:=3) (ds:=es) rfl
   have lB:=si (fa:=gv 0) (vs:=vl (ge (.tuple es) (ao n l) (lq pts) .no .no)) (β:=0) (k:=3) (ds:=es) rfl
   rcases vD es with q | ⟨x,y,z,rfl⟩
   ·rw[q] at lA lB
    exact⟨false,cu (bL (aY (aE tA) lA) (b6 rfl rfl)),cu (bL (aY (aE tB) lB) (b6 rfl rfl))⟩
   obtain⟨j,rfl,⟨s,rfl,hs⟩,hY,hZ,hC⟩:=hd.at
   have lA:cL (f2 (f1 (gv 0) bW) (cst (.int 3)) (cG true)) (vl (ge (.tuple [.str s,y,z]) (ao n l) (tq pts) .no .no)) 0=.ok false 0:=lA
   have lB:cL (f2 (f1 (gv 0) bW) (cst (.int 3)) (cG true)) (vl (ge (.tuple [.str s,y,z]) (ao n l) (lq pts) .no .no)) 0=.ok false 0:=lB
   have lenA:f1 (gv 2) bW (vl (ge (.tuple [.str s,y,z]) (ao n l) (tq pts) .no .no)) 0=.ok (.int (pts.length:Nat)) 0:=by rw[ll (ds:=pts.map λps=>PyData.tuple (ps.map ar)) rfl,Ko]
   have lenB:f1 (gv 2) bW (vl (ge (.tuple [.str s,y,z]) (ao n l) (lq pts) .no .no)) 0=.ok (.int (pts.length:Nat)) 0:=by rw[ll (ds:=pts.map λps=>PyData.list (ps.map ar)) rfl,Ko]
   have y1A:f2 (gv 0) (cst (.int 1)) aW (vl (ge (.tuple [.str s,y,z]) (ao n l) (tq pts) .no .no)) 0=.ok y 0:=az (x:=.tuple [.str s,y,z]) (y:=.int 1) rfl rfl rfl
   have y1B:f2 (gv 0) (cst (.int 1)) aW (vl (ge (.tuple [.str s,y,z]) (ao n l) (lq pts) .no .no)) 0=.ok y 0:=az (x:=.tuple [.str s,y,z]) (y:=.int 1) rfl rfl rfl
   have z2A:f2 (gv 0) (cst (.int 2)) aW (vl (ge (.tuple [.str s,y,z]) (ao n l) (tq pts) .no .no)) 0=.ok z 0:=az (x:=.tuple [.str s,y,z]) (y:=.int 2) rfl rfl rfl
   have z2B:f2 (gv 0) (cst (.int 2)) aW (vl (ge (.tuple [.str s,y,z]) (ao n l) (lq pts) .no .no)) 0=.ok z 0:=az (x:=.tuple [.str s,y,z]) (y:=.int 2) rfl rfl rfl
   have x0A:f2 (gv 0) (cst (.int 0)) aW (vl (ge (.tuple [.str s,y,z]) (ao n l) (tq pts) .no .no)) 0=.ok (.str s) 0:=az (x:=.tuple [.str s,y,z]) (y:=.int 0) rfl rfl rfl
   have x0B:f2 (gv 0) (cst (.int 0)) aW (vl (ge (.tuple [.str s,y,z]) (ao n l) (lq pts) .no .no)) 0=.ok (.str s) 0:=az (x:=.tuple [.str s,y,z]) (y:=.int 0) rfl rfl rfl
   have r1:=IT x0A hs
   have r2:=Jc x0B hs
   by_cases sr:s="ring"
   ·rw[Kn sr] at r1 r2
    have bA:aF dH (aa (f2 (gv 0) (cst (.int 1)) aW) (aa (f1 (gv 2) bW) ah)) (vl (ge (.tuple [.str s,y,z]) (ao n l) (tq pts) .no .no)) 0=.ok (.bool (iZ y (pts.length:Nat))) 0:=aG (ds:=[y,.int (pts.length:Nat)]) (ac y1A (ac lenA an)) (nQ hY.1)
    have wB:fR (aF EB (aa (f2 (gv 0) (cst (.int 1)) aW) ah)) (vl (ge (.tuple [.str s,y,z]) (ao n l) (lq pts) .no .no)) 0=.ok (lQ y) 0:=c4 (aG (ds:=[y]) (ac y1B an) (Hy hY.1))
    cases c:iZ y (pts.length:Nat) with
    |false=>
     rw[c] at bA
     refine⟨false,cu (aP (aY (aE tA) lA) (bL r1 (b6 (xG bA) rfl))),cu (aP (aY (aE tB) lB) (bL r2 (nE ?_)))⟩
     cases w:lQ y with
     |false=>rw[w] at wB;exact bL (iU (aE wB)) (b6 rfl ⟨(λa b z=>by cases z),rfl⟩)
     |true=>
      rw[w] at wB
      cases y with
      |int i=>
       have ch:=jb (g':=sW) (lo:=0) (fa:=cst (.int 0)) rfl y1B lenB rfl
       have c:decide (0<=i/\i < (pts.length:Nat))=false:=c
       rw[Me] at c
       rw[c] at ch
       exact bL (aY (aE wB) (iU (aE (cw _ _ _ _ ch)))) (b6 rfl ⟨(λa b z=>by cases z),rfl⟩)
      |_=>cases w
    |true=>
     rw[c] at bA
     cases y with
     |int i=>
      have c:decide (0<=i/\i < (pts.length:Nat))=true:=c
      have ch:=jb (g':=sW) (lo:=0) (fa:=cst (.int 0)) rfl y1B lenB rfl
      have c':=c
      rw[Me] at c'
      rw[c'] at ch
      have hi:=Mj c
      obtain⟨a,rfl⟩:∃a:Nat,i=(a:Int):=⟨i.toNat,by omega⟩
      obtain⟨qs,hq⟩:∃qs,pts[a]? =some qs:=⟨_,Kh (by omega)⟩
      have pA:f2 (gv 2) (f2 (gv 0) (cst (.int 1)) aW) aW (vl (ge (.tuple [.str s,.int a,z]) (ao n l) (tq pts) .no .no)) 0=.ok (.tuple (qs.map ar)) 0:=az (x:=tq pts) (y:=.int a) rfl y1A (show i9 (pts.map λps=>PyData.tuple (ps.map ar)) (a:Int)=some (.tuple (qs.map ar)) from fE (by rw[KD,hq];rfl))
      have pB:∀v,f2 (gv 1) (f2 (gv 2) (cst (.int 1)) aW) aW [v,.da (lq pts),.da (.tuple [.str s,.int a,z])] 0=.ok (.list (qs.map ar)) 0:=λv=>az (x:=lq pts) (y:=.int a) rfl (az (x:=.tuple [.str s,.int a,z]) (y:=.int 1) rfl rfl rfl) (show i9 (pts.map λps=>PyData.list (ps.map ar)) (a:Int)=some (.list (qs.map ar)) from fE (by rw[KD,hq];rfl))
      obtain⟨b,e1,e2,e3⟩:=yz (n:=n) (l:=l) hZ
      have lr:fR (aF Gi (aa (gv 1) (aa (f2 (gv 0) (cst (.int 2)) aW) ah))) (vl (ge (.tuple [.str s,.int a,z]) (ao n l) (lq pts) .no .no)) 0=.ok b 0:=c4 (aG (ds:=[ao n l,z]) (ac rfl (ac z2B an)) e2)
      cases b with
      |false=>
       refine⟨false,cu (aP (aY (aE tA) lA) (bL r1 (b6 (uj bA (aG (ds:=[z,ao n l,.tuple (qs.map ar)]) (ac z2A (ac rfl (ac pA an))) (EJ e1))) rfl))),cu (aP (aY (aE tB) lB) (bL r2 (nE ?_)))⟩
       exact bL (aY (aE wB) (aY (aE (cw _ _ _ _ ch)) (aE lr))) (b6 rfl ⟨(λa b z=>by cases z),rfl⟩)
      |true=>
       obtain⟨ps,rfl,hz⟩:=e3 rfl
       refine⟨ps.all λp=>decide (p∈qs),cu (aP (aY (aE tA) lA) (bL r1 (b6 (uj bA (aG (ds:=[.list (ps.map ar),ao n l,.tuple (qs.map ar)]) (ac z2A (ac rfl (ac pA an))) (EX hz e1))) rfl))),cu (aP (aY (aE tB) lB) (bL r2 (nE ?_)))⟩
       refine aP (aY (aE wB) (aY (aE (cw _ _ _ _ ch)) (aE lr))) ?_
       have ec:aQ 1 [2,0] (.nm 0) (fj (f2 (gv 0) (cst (.int 2)) aW)) (cL (f2 (gv 0) (f2 (gv 1) (f2 (gv 2) (cst (.int 1)) aW) aW) (rz true))) (gv 0) (vl (ge (.tuple [.str s,.int a,.list (ps.map ar)]) (ao n l) (lq pts) .no .no)) 0=.ok (.list ((ps.filter λp=> !decide (p∈qs)).map ar)) 0:=
        lj (l:=ps) (e:=ar) (λp=> !decide (p∈qs)) ar rfl (by omega) λp _=>⟨[.da (ar p),.da (lq pts),.da (.tuple [.str s,.int a,.list (ps.map ar)])],rfl,cw _ _ _ _ (az (x:=ar p) rfl (pB _) (BU true p qs)),λ_=>rfl⟩
       refine gH (az ec (lp (ds:=([]:List Pr).map ar) an) (oz false _ [])) ⟨(λa b z=>by cases z),?_⟩
       show FR.ok (.bool (decide _)) false=_
       rw[De]
     |_=>cases c
   ·rw[KC sr] at r1 r2
    have t1:=IA x0A hs
    have t2:=Jb x0B hs
    by_cases st:s="turn"
    case neg=>
     rw[KC st] at t1 t2
     exact⟨false,cu (aP (aY (aE tA) lA) (aP r1 (bL (iU t1) (b6 rfl rfl)))),cu (aP (aY (aE tB) lB) (aP r2 (bL (iU t2) (b6 rfl rfl))))⟩
    case pos=>
    rw[Kn st] at t1 t2
    have uA:fR (aF FC (aa (f2 (gv 0) (cst (.int 1)) aW) (aa (gv 1) ah))) (vl (ge (.tuple [.str s,y,z]) (ao n l) (tq pts) .no .no)) 0=.ok (pk n l y) 0:=c4 (aG (ds:=[y,ao n l]) (ac y1A (ac rfl an)) (GQ hY))
    have uB:fR (aF CA (aa (gv 1) (aa (f2 (gv 0) (cst (.int 1)) aW) ah))) (vl (ge (.tuple [.str s,y,z]) (ao n l) (lq pts) .no .no)) 0=.ok (pk n l y) 0:=c4 (aG (ds:=[ao n l,y]) (ac rfl (ac y1B an)) (EZ hY))
    cases u:pk n l y with
    |false=>
     rw[u] at uA uB
     exact⟨false,cu (aP (aY (aE tA) lA) (aP r1 (bL (aY t1 (aE uA)) (b6 rfl rfl)))),cu (aP (aY (aE tB) lB) (aP r2 (bL (aY t2 (aE uB)) (b6 rfl rfl))))⟩
    |true=>
     rw[u] at uA uB
     have kA:fR (f1 (f2 (gv 0) (cst (.int 2)) aW) (dw "tuple")) (vl (ge (.tuple [.str s,y,z]) (ao n l) (tq pts) .no .no)) 0=.ok (og z) 0:=qh z2A hZ.1
     have kB:fR (f1 (f2 (gv 0) (cst (.int 2)) aW) (dw "tuple")) (vl (ge (.tuple [.str s,y,z]) (ao n l) (lq pts) .no .no)) 0=.ok (og z) 0:=qh z2B hZ.1
     cases hz:og z with
     |false=>
      rw[hz] at kA kB
      exact⟨false,cu (aP (aY (aE tA) lA) (aP r1 (aP (aY t1 (aE uA)) (bL (iU (aE kA)) (b6 rfl rfl))))),cu (aP (aY (aE tB) lB) (aP r2 (aP (aY t2 (aE uB)) (bL (iU (aE kB)) (b6 rfl rfl)))))⟩
     |true=>
      rw[hz] at kA kB
      obtain⟨zs,rfl⟩:=nD hz
      have nA:cL (f2 (f1 (f2 (gv 0) (cst (.int 2)) aW) bW) (f1 (gv 2) bW) (cG true)) (vl (ge (.tuple [.str s,y,.tuple zs]) (ao n l) (tq pts) .no .no)) 0=.ok (!decide ((zs.length:Int)=(pts.length:Nat))) 0:=gj (neg:=true) (xy z2A) lenA
      have nB:cL (f2 (f1 (f2 (gv 0) (cst (.int 2)) aW) bW) (f1 (gv 2) bW) (cG true)) (vl (ge (.tuple [.str s,y,.tuple zs]) (ao n l) (lq pts) .no .no)) 0=.ok (!decide ((zs.length:Int)=(pts.length:Nat))) 0:=gj (neg:=true) (xy z2B) lenB
      by_cases ln:(zs.length:Int)=(pts.length:Nat)
      case neg=>
       rw[KC ln] at nA nB
       exact⟨false,cu (aP (aY (aE tA) lA) (aP r1 (aP (aY t1 (aE uA)) (bL (aY (aE kA) nA) (b6 rfl rfl))))),cu (aP (aY (aE tB) lB) (aP r2 (aP (aY t2 (aE uB)) (bL (aY (aE kB) nB) (b6 rfl rfl)))))⟩
      case pos=>
      rw[Kn ln] at nA nB
      have ln:zs.length=pts.length:=by omega
      unfold pk at u
      rw[Km] at u
      obtain⟨t,rfl,_⟩:=Bs u.1
      have ch:∀i,i < zs.length->∃b,jW D1 m [zs.getD i .none,ao n l,tq (cT pts i t)]=.ok (.bool b) false/\jW Eg m [zs.getD i .none,ao n l,lq (cT pts i t)]=.ok (.bool b) false:=λi hi=>by
       refine ih j (by omega) _ _ m (by omega) ?_ (by rw[oH (by omega)];exact hl) (ur hp (by
        cases pts with
        |nil=>simp at ln;rw[ln] at hi;simp at hi
        |cons q qs=>have:=hp q (Ku ..);omega))
       rw[Kq,Kh hi]
       exact hC zs rfl _ (Lr hi)
      obtain⟨bs,hbl,hb⟩:=yn ch
      refine⟨bs.all id,cu (aP (aY (aE tA) lA) (aP r1 (aP (aY t1 (aE uA)) (aP (aY (aE kA) nA) ?_)))),cu (aP (aY (aE tB) lB) (aP r2 (aP (aY t2 (aE uB)) (aP (aY (aE kB) nB) ?_))))⟩
      ·refine wR (ds:=kU zs) (gC bs) (.bool false) (λenv β=>β=0/\∃s3 s4,env=ge (.tuple [.str s,ar t,.tuple zs]) (ao n l) (tq pts) s3 s4) (β1:=0) ?_ ⟨rfl,_,_,rfl⟩ ?_ ?_ ?_
       ·have:wZ (f2 (gv 0) (cst (.int 2)) aW) (vl (ge (.tuple [.str s,ar t,.tuple zs]) (ao n l) (tq pts) .no .no)) 0=.ok (kU zs) 0:=by
         unfold wZ
         rw[z2A];rfl
        exact this
       ·intro d hd env β ⟨hβ,s3,s4,he⟩
        subst hβ he
        obtain⟨i,e,hi,rfl⟩:=tG hd
        refine⟨ge (.tuple [.str s,ar t,.tuple zs]) (ao n l) (tq pts) (.fz (.int i)) (.fz e),rfl,?_⟩
        have hi':i < zs.length:=(KJ.mp hi).1
        obtain⟨qs,hq⟩:∃qs,pts[i]? =some qs:=⟨_,Kh (by omega)⟩
        have hqs:=hp qs (KA hq)
        have e1:=(hb i hi').1
        rw[Kq,hi] at e1
        have e1:jW D1 m [e,ao n l,tq (cT pts i t)]=_:=e1
        have pq:(pts.map λps=>PyData.tuple (ps.map ar))[i]? =some (.tuple (qs.map ar)):=by rw[KD,hq];rfl
        have arg:f2 (f2 (p9 (gv 2) (λ_ β=>.ok none β) (kK (gv 3))) (bH (aa (f2 (f2 (gv 2) (gv 3) aW) (aR (aa (f2 (gv 0) (cst (.int 1)) aW) ah)) jO) ah)) eR) (p9 (gv 2) (kK (f2 (gv 3) (cst (.int 1)) b4)) (λ_ β=>.ok none β)) eR (vl (ge (.tuple [.str s,ar t,.tuple zs]) (ao n l) (tq pts) (.fz (.int i)) (.fz e))) 0=.ok (tq (cT pts i t)) 0:=by
         rw[Cw hq]
         refine iO (iO (lY (ds:=pts.map λps=>PyData.tuple (ps.map ar)) rfl rfl) (lp (ac (tW (a:=qs.map ar) (b:=[ar t]) (az (x:=tq pts) (y:=.int i) rfl rfl (fE pq)) (tp (ac (az (x:=.tuple [.str s,ar t,.tuple zs]) (y:=.int 1) rfl rfl rfl) an)) (by rw[Ko];simp;omega)) an)) ?_) (rR (ds:=pts.map λps=>PyData.tuple (ps.map ar)) rfl (Il rfl)) ?_
         ·rw[KU,Ko];simp;omega
         ·rw[KN,KU,Lw,Ko];simp;omega
        have tt:fR (aF (jW D1 m) (aa (gv 4) (aa (gv 1) (aa (f2 (f2 (p9 (gv 2) (λ_ β=>.ok none β) (kK (gv 3))) (bH (aa (f2 (f2 (gv 2) (gv 3) aW) (aR (aa (f2 (gv 0) (cst (.int 1)) aW) ah)) jO) ah)) eR) (p9 (gv 2) (kK (f2 (gv 3) (cst (.int 1)) b4)) (λ_ β=>.ok none β)) eR) ah)))) (vl (ge (.tuple [.str s,ar t,.tuple zs]) (ao n l) (tq pts) (.fz (.int i)) (.fz e))) 0=.ok (bs.getD i true) 0:=c4 (aG (ds:=[e,ao n l,tq (cT pts i t)]) (ac rfl (ac rfl (ac arg an))) e1)
        have gg:gC bs (.tuple [.int i,e])= !(bs.getD i true):=rfl
        rw[gg]
        cases b:bs.getD i true with
        |true=>rw[b] at tt;exact zc (aE tt) (kj (.inr ⟨rfl,_,_,rfl,rfl,_,_,rfl⟩))
        |false=>rw[b] at tt;exact Dj (aE tt) (gH rfl (.inl ⟨rfl,_,rfl⟩))
       ·intro d β hd hg
        obtain⟨i,e,hi,rfl⟩:=tG hd
        have hi':i < zs.length:=(KJ.mp hi).1
        have gg:(!(bs.getD i true))=true:=hg
        rw[A5 ⟨i,by omega,by simpa using gg⟩];rfl
       ·intro hg env β _
        refine gH rfl ?_
        rw[xB λi hi=>?_]
        ·rfl
        ·have:=hg (.tuple [.int i,zs[i]'(by omega)]) (by unfold kU;exact List.mem_mapIdx.mpr ⟨i,by omega,rfl⟩)
         have gg:(!(bs.getD i true))=false:=this
         simpa using gg
      ·refine wR (ds:=cI 0 pts.length) (gC bs) (.bool false) (λenv β=>β=0/\∃s3 s4,env=ge (.tuple [.str s,ar t,.tuple zs]) (ao n l) (lq pts) s3 s4) (β1:=0) (cC lenB (by omega)) ⟨rfl,_,_,rfl⟩ ?_ ?_ ?_
       ·intro d hd env β ⟨hβ,s3,s4,he⟩
        subst hβ he
        obtain⟨i,hi,rfl⟩:∃i:Nat,i < pts.length/\d=.int i:=by
         rw[ie] at hd
         obtain⟨x,hx,rfl⟩:=KZ.mp hd
         have:=gf.mp hx
         exact⟨x.toNat,by omega,by congr 1;omega⟩
        refine⟨ge (.tuple [.str s,ar t,.tuple zs]) (ao n l) (lq pts) (.fz (.int i)) s4,rfl,?_⟩
        obtain⟨qs,hq⟩:∃qs,pts[i]? =some qs:=⟨_,Kh (by omega)⟩
        have hqs:=hp qs (KA hq)
        have e1:=(hb i (by omega)).2
        have pq:(pts.map λps=>PyData.list (ps.map ar))[i]? =some (.list (qs.map ar)):=by rw[KD,hq];rfl
        refine cg (d:=lq (cT pts i t)) (β1:=0) ?_ ?_
        ·rw[wC hq]
         refine iO (iO (lY (ds:=pts.map λps=>PyData.list (ps.map ar)) rfl rfl) (lp (ac (iO (a:=qs.map ar) (b:=[ar t]) (az (x:=lq pts) (y:=.int i) rfl rfl (fE pq)) (lp (ac (az (x:=.tuple [.str s,ar t,.tuple zs]) (y:=.int 1) rfl rfl rfl) an)) (by rw[Ko];simp;omega)) an)) ?_) (rR (ds:=pts.map λps=>PyData.list (ps.map ar)) rfl (Il rfl)) ?_
         ·rw[KU,Ko];simp;omega
         ·rw[KN,KU,Lw,Ko];simp;omega
        refine wp_at (ge (.tuple [.str s,ar t,.tuple zs]) (ao n l) (lq pts) (.fz (.int i)) (.fz (lq (cT pts i t)))) rfl ?_
        have zi:zs[i]? =some (zs.getD i .none):=by rw[Kq,Kh (by omega)];rfl
        have ea:f2 (f2 (gv 0) (cst (.int 2)) aW) (gv 3) aW (vl (ge (.tuple [.str s,ar t,.tuple zs]) (ao n l) (lq pts) (.fz (.int i)) (.fz (lq (cT pts i t))))) 0=.ok (zs.getD i .none) 0:=az (x:=.tuple zs) (y:=.int i) (az (x:=.tuple [.str s,ar t,.tuple zs]) (y:=.int 2) rfl rfl rfl) rfl (fE zi)
        have tt:fR (aF (jW Eg m) (aa (f2 (f2 (gv 0) (cst (.int 2)) aW) (gv 3) aW) (aa (gv 1) (aa (gv 4) ah)))) (vl (ge (.tuple [.str s,ar t,.tuple zs]) (ao n l) (lq pts) (.fz (.int i)) (.fz (lq (cT pts i t))))) 0=.ok (bs.getD i true) 0:=c4 (aG (ds:=[zs.getD i .none,ao n l,lq (cT pts i t)]) (ac ea (ac rfl (ac rfl an))) e1)
        have gg:gC bs (.int i)= !(bs.getD i true):=rfl
        rw[gg]
        cases b:bs.getD i true with
        |true=>rw[b] at tt;exact zc (aE tt) (kj (.inr ⟨rfl,_,_,rfl,rfl,_,_,rfl⟩))
        |false=>rw[b] at tt;exact Dj (aE tt) (gH rfl (.inl ⟨rfl,_,rfl⟩))
       ·intro d β hd hg
        obtain⟨i,hi,rfl⟩:∃i:Nat,i < pts.length/\d=.int i:=by
         rw[ie] at hd
         obtain⟨x,hx,rfl⟩:=KZ.mp hd
         have:=gf.mp hx
         exact⟨x.toNat,by omega,by congr 1;omega⟩
        have gg:(!(bs.getD i true))=true:=hg
        rw[A5 ⟨i,by omega,by simpa using gg⟩];rfl
       ·intro hg env β _
        refine gH rfl ?_
        rw[xB λi hi=>?_]
        ·rfl
        ·have:=hg (.int i) (by rw[ie];exact KZ.mpr ⟨i,gf.mpr ⟨by omega,by omega⟩,rfl⟩)
         have gg:(!(bs.getD i true))=false:=this
         simpa using gg
def S4:Nat->Nat
 | 0=>100
 |k + 1=>4 * S4 k + 500
theorem tV:∀k,100<=S4 k
 | 0=>Kj _
 |k + 1=>by have:=tV k;show 100<=4 * S4 k + 500;omega
def nF (k:Nat)(e:D):Prop:=Ge e/\Gp k e/\Bf e/\Sq (S4 k) (2 * k + 8) e
theorem qj {d:D}(hs:b5 d=false)(h:∀x y z,d≠.tuple [x,y,z]):∀k,Gp k d
 | 0=>⟨hs,h⟩
 |k + 1=>⟨hs,λx y z e=>absurd e (h x y z)⟩
def DX {a b c k:Nat}{x y z:D}(hx:Sq a k x)(hy:Sq b k y)(hz:Sq c k z):Sq (a + b + c + 8) (k + 1) (.tuple [x,y,z]):=by
 obtain⟨a1,a2,a3⟩:=hx
 obtain⟨b1,b2,b3⟩:=hy
 obtain⟨c1,c2,c3⟩:=hz
 refine⟨by simp[PyData.showable,PyData.showableAll,a1,b1,c1],by simp only[PyData.depth,PyData.depthAll];omega,?_⟩
 rw[PyData.shown]
 unfold tupleText
 rw[KO,KO]
 have e1:((("(":String):Str)).length=1:=rfl
 have e3:((if (PyData.shownAll [x,y,z]).length == 1 then ",)" else ")":String):Str).length<=2:=by split <;> exact by decide
 have j:(Str.join ", " (PyData.shownAll [x,y,z])).length=x.shown.length + 2 + (y.shown.length + 2 + z.shown.length):=by
  simp only[PyData.shownAll]
  show (x.shown ++ ", " ++ (y.shown ++ ", " ++ z.shown)).length=_
  rw[KO,KO,KO,KO];rfl
 rw[e1,j]
 omega
def mh:∀s∈uU,(PyData.str s).showable=true/\(PyData.str s).depth<=0/\(PyData.str s).shown.length<=10:=by decide +kernel
def oV {k:Nat}{s:Str}{y z:D}(hs:s∈uU)(hy:El y)(hz:Gt z)(hb:Bf z)(hq:Sq (4 * S4 k + 20) (2 * k + 9) z)(hc:∀zs,z=.tuple zs->∀e,e∈zs->Gp k e):nF (k + 1) (.tuple [.str s,y,z]):=by
 have all:∀(P:D->Prop),P (.str s)->P y->P z->∀d,d∈ [PyData.str s,y,z]->P d:=λP h1 h2 h3 d hd=>by
  simp only[Ks,K0,LL] at hd
  rcases hd with rfl |rfl |rfl
  ·exact h1
  ·exact h2
  ·exact h3
 refine⟨n0 (by simp) (all _ rfl hy.1.1 hz.1),⟨rfl,λa b c e=>?_⟩,mz (all _ rfl hy.2.2 hb),?_⟩
 ·cases e
  exact⟨⟨s,rfl,hs⟩,hy.1,hz,hc⟩
 ·have w:Sq 10 (2 * k + 9) (.str s):=Sq.mono (k:=0) ⟨(mh s hs).1,(mh s hs).2.1,(mh s hs).2.2⟩ (Kj _) (by omega)
  exact (DX w (hy.2.1.mono (Kj _) (by omega)) hq).mono (by show 10 + 100 + (4 * S4 k + 20) + 8<=4 * S4 k + 500;omega) (by omega)
def j6 {k:Nat}{es:List D}(hl:es.length<=4)(h:∀e,e∈es->nF k e):(Gt (.list es)/\Bf (.list es)/\Sq (4 * S4 k + 20) (2 * k + 9) (.list es))/\(Gt (.tuple es)/\Bf (.tuple es)/\Sq (4 * S4 k + 20) (2 * k + 9) (.tuple es)):=by
 have m:(S4 k + 2) * es.length<=(S4 k + 2) * 4:=L7 (Kj _) hl
 exact⟨⟨⟨rfl,λds e=>by cases e;exact⟨by omega,λx hx=>(h x hx).1⟩⟩,Ai λx hx=>(h x hx).2.2.1,(Fq λx hx=>(h x hx).2.2.2).mono (by omega) (by omega)⟩,
  ⟨rfl,λds e=>by cases e⟩,mz λx hx=>(h x hx).2.2.1,(oF λx hx=>(h x hx).2.2.2).mono (by omega) (by omega)⟩
def CI {k:Nat}{s:Str}{y:D}{es:List D}(hs:s∈uU)(hy:El y)(hl:es.length<=4)(h:∀e,e∈es->nF k e):nF (k + 1) (.tuple [.str s,y,.list es]):=oV hs hy (j6 hl h).1.1 (j6 hl h).1.2.1 (j6 hl h).1.2.2 λzs e=>by cases e
def zL {k:Nat}{s:Str}{y:D}{es:List D}(hs:s∈uU)(hy:El y)(hl:es.length<=4)(h:∀e,e∈es->nF k e):nF (k + 1) (.tuple [.str s,y,.tuple es]):=oV hs hy (j6 hl h).2.1 (j6 hl h).2.2.1 (j6 hl h).2.2.2 λzs e x hx=>by cases e;exact (h x hx).2.1
def Gu (p:Pr):∀x y z,ar p≠.tuple [x,y,z]:=λx y z e=>by cases e
def GR {p:Pr}(h:Sp p)(k:Nat):nF k (ar p):=⟨(m6 h).1,qj rfl (Gu p) k,(m6 h).2.2,(m6 h).2.1.mono (tV k) (by omega)⟩
def Jw:D->Bool
 | .tuple [_,_,_]=>false
 |_=>true
def DH {d:D}(h:Jw d=true):∀x y z,d≠.tuple [x,y,z]:=λx y z e=>by subst e;cases h
def DY (d:D):Bool:=Jw d && Iy d && match d with
 | .tuple es=>es.all λe=>Jw e && !b5 e
 | .list es=>es.all (λe=>Iy e && !b5 e) && decide (es.length<=100)
 |_=>true
def C8:∀x∈jc,DY x=true:=by decide +kernel
def DS {d:D}(hs:b5 d=false)(h:Iy d=true):Ge d:=by
 refine⟨hs,λes e=>?_⟩
 subst e
 unfold Iy at h
 rw[Km,Lf] at h
 exact⟨Mj h.1,λy hy=>by simpa using h.2 y hy⟩
def lW {o:D}(h:o∈jc):El o/\Gt o/\(∀k,Gp k o)/\∀zs,o=.tuple zs->∀e,e∈zs->∀k,Gp k e:=by
 have h1:=C8 o h
 have hs:=BR h
 unfold DY at h1
 rw[Km,Km] at h1
 refine⟨⟨DS hs h1.1.2,(wt h).mono (by omega) (by omega),wc h⟩,⟨hs,λds e=>?_⟩,qj hs (DH h1.1.1),λzs e x hx k=>?_⟩
 ·subst e
  have q:=h1.2
  dsimp only at q
  rw[Km,Lf] at q
  refine⟨Mj q.2,λx hx=>?_⟩
  have:=q.1 x hx
  rw[Km] at this
  exact DS (by simpa using this.2) this.1
 ·subst e
  have q:=h1.2
  dsimp only at q
  rw[Lf] at q
  have:=q x hx
  rw[Km] at this
  exact qj (by simpa using this.2) (DH this.1) k
def qU {o:D}(h:o∈jc)(k:Nat):nF k o:=⟨(lW h).1.1,(lW h).2.2.1 k,wc h,(wt h).mono (by have:=tV k;omega) (by omega)⟩
def Gm {k:Nat}{s:Str}{y o:D}(hs:s∈uU)(hy:El y)(h:o∈jc):nF (k + 1) (.tuple [.str s,y,o]):=oV hs hy (lW h).2.1 (wc h) ((wt h).mono (by have:=tV k;omega) (by omega)) λzs e x hx=>(lW h).2.2.2 zs e x hx k
def E5 (d:D):Prop:=∃(i:Nat) (ps:List Pr),d=.tuple [.str "ring",.int i,.list (ps.map ar)]/\i<=8/\ps.length<=3/\∀p,p∈ps->Sp p
def Av:Nat->D->Prop
 | 0,d=>E5 d
 |k + 1,d=>E5 d\/∃(t:Pr) (ds:List D),d=.tuple [.str "turn",ar t,.tuple ds]/\Sp t/\ds.length<=3/\∀e,e∈ds->Av k e
def r6 {i:Int}(h: -1<=i/\i<=9):El (.int i):=⟨⟨rfl,λes e=>by cases e⟩,(kH h).sq.mono (by omega) (by omega),(kH h).bf⟩
def Du (b:Bool):El (.bool b):=⟨⟨rfl,λes e=>by cases e⟩,(y6.sq (.inr (.inl ⟨b,rfl⟩))).mono (by omega) (by omega),y6.bf (.inr (.inl ⟨b,rfl⟩))⟩
def zt {ps:List Pr}(h:∀p,p∈ps->Sp p)(k:Nat):∀e,e∈ps.map ar->nF k e:=λe he=>by
 obtain⟨p,hp,rfl⟩:=KZ.mp he
 exact GR (h p hp) k
def AG {d:D}(h:E5 d)(k:Nat):nF (k + 1) d:=by
 obtain⟨i,ps,rfl,hi,hl,hp⟩:=h
 exact CI (by decide) (r6 (by omega)) (by rw[Ko];omega) (zt hp k)
theorem qN:∀{k:Nat} {d:D},Av k d->nF (k + 1) d
 | 0,d,h=>AG h 0
 |k + 1,d,h=>by
  rcases h with h | ⟨t,ds,rfl,ht,hl,hd⟩
  ·exact AG h (k + 1)
  ·exact zL (by decide) (m6 ht) (by omega) λe he=>qN (hd e he)
theorem nN:∀{ds:List D},(∀d,d∈ds->d.canLay0=true)->PyData.canLayAll0 ds=true
 | [],_=>by simp[PyData.canLayAll0]
 |d :: ds,h=>by rw[PyData.canLayAll0,h d (Ku ..),nN λx hx=>h x (Kr _ hx)];rfl
def uW (p:Pr):(ar p).canLay0=true:=by simp[ar,PyData.canLay0,PyData.canLayAll0]
theorem xl:∀{k:Nat} {d:D},Av k d->d.canLay0=true
 |k,d,h=>by
  have key:E5 d->d.canLay0=true:=λ⟨i,ps,e,_⟩=>by
   subst e
   simp only[PyData.canLay0,PyData.canLayAll0,Bool.true_and,Bool.and_true,Km]
   refine⟨by decide +kernel,?_⟩
   exact nN λx hx=>by obtain⟨p,_,rfl⟩:=KZ.mp hx;exact uW p
  match k,h with
  | 0,h=>exact key h
  |k + 1,h=>
   rcases h with h | ⟨t,ds,rfl,ht,hl,hd⟩
   ·exact key h
   ·simp only[PyData.canLay0,PyData.canLayAll0,Bool.true_and,Bool.and_true,Km]
    exact⟨by decide +kernel,uW t,nN λx hx=>xl (hd x hx)⟩
section
variable {m m':SF}{env env1:En}{β β1:Int}{Q:SO->Prop}{L:List Nat}
def sN {t:Tg}{fi:VF (List D)}{ds:List D}(Pd:D->Bool->Prop)(I:En->Int->Prop)(hi:fi (vl env) β=.ok ds β1)(h0:I (ba L env) β1)
  (hs:∀d,d∈ds->∀env β,I env β->∃env1,gq t d env=some env1/\WP (m env1 β) λs=>(∃d b β2,s=.rt d b β2/\Pd d b)\/∃env2 β2,s=.nx env2 β2/\I env2 β2)
  (kr:∀d b β,Pd d b->Q (.rt d b β)) (k:∀env β,I env β->WP (m' env β) Q):WP (aM (fg t L fi m) m' env β) Q:=by
 have key:∀(es:List D),(∀d,d∈es->d∈ds)->∀env β,I env β->(∃d b β2,iW t m es env β=.rt d b β2/\Pd d b)\/∃env2 β2,iW t m es env β=.nx env2 β2/\I env2 β2:=by
  intro es
  induction es with
  |nil=>exact λ_ env β h=>.inr ⟨env,β,rfl,h⟩
  |cons d es ih=>
   intro hd env β h
   obtain⟨env1,e1,⟨h1⟩⟩:=hs d (hd d (Ku ..)) env β h
   rcases h1 with⟨d',b,β2,e2,hp⟩ | ⟨env2,β2,e2,h2⟩
   ·exact .inl ⟨d',b,β2,by unfold iW;rw[e1];dsimp only;rw[e2],hp⟩
   ·have e3:iW t m (d :: es) env β=iW t m es env2 β2:=by conv=>lhs;unfold iW;rw[e1];dsimp only;rw[e2]
    rw[e3]
    exact ih (λd h=>hd d (Kr _ h)) env2 β2 h2
 rcases key ds (λ_ h=>h) _ _ h0 with⟨d,b,β2,e,hp⟩ | ⟨env2,β2,e,h2⟩
 ·exact⟨by rw[c9 ((fo hi).trans e)];exact kr d b β2 hp⟩
 ·exact wp_seq ((fo hi).trans e) (k _ _ h2)
end
def Fj:List D->FR:=bE 4 2 (eH vc)
abbrev we (n:Nat)(l ps:List Pr)(s2 s3:Sl):En:=[.fz (ao n l),.fz (.list (ps.map ar)),s2,s3]
theorem GF (n:Nat)(l ps:List Pr):∃d b,Fj [ao n l,.list (ps.map ar)]=.ok d b/\(d=.none\/∃p q,p∈ps/\q∈ps/\d=.list [ar p,ar q]):=by
 show ∃d b,fin (eH vc (we n l ps .no .no) 0)=.ok d b/\(d=.none\/∃p q,p∈ps/\q∈ps/\d=.list [ar p,ar q])
 refine WP.out (Q:=λr=>∃d b,fin r=.ok d b/\(d=.none\/∃p q,p∈ps/\q∈ps/\d=.list [ar p,ar q])) ?_
 unfold eH
 refine sN (ds:=ps.map ar) (β1:=0) (λd b=>∃p q,p∈ps/\q∈ps/\d=.list [ar p,ar q]) (λenv β=>β=0/\∃s2 s3,env=we n l ps s2 s3) rfl ⟨rfl,_,_,rfl⟩ ?_ (λd b β ⟨p,q,h⟩=>⟨d,b,rfl,.inr ⟨p,q,h⟩⟩) (λenv β _=>gH rfl ⟨_,_,rfl,.inl rfl⟩)
 intro d hd env β ⟨hβ,s2,s3,he⟩
 subst hβ he
 obtain⟨p,hp,rfl⟩:=KZ.mp hd
 refine⟨we n l ps (.fz (ar p)) s3,rfl,qO ?_⟩
 refine sN (ds:=ps.map ar) (β1:=0) (λd b=>∃p q,p∈ps/\q∈ps/\d=.list [ar p,ar q]) (λenv β=>β=0/\∃s3,env=we n l ps (.fz (ar p)) s3) rfl ⟨rfl,_,rfl⟩ ?_ (λd b β h=>.inl ⟨d,b,β,rfl,h⟩) (λenv β ⟨h1,s3,h2⟩=>kj (.inr ⟨env,β,rfl,h1,_,s3,h2⟩))
 intro d hd env β ⟨hβ,s3,he⟩
 subst hβ he
 obtain⟨q,hq,rfl⟩:=KZ.mp hd
 refine⟨we n l ps (.fz (ar p)) (.fz (ar q)),rfl,?_⟩
 have t:=Aa (c4 (aG (fr:=aa (gv 0) (aa (gv 2) (aa (gv 3) ah))) (vs:=vl (we n l ps (.fz (ar p)) (.fz (ar q)))) (β:=0) (ds:=[ao n l,ar p,ar q]) rfl (AM n l p q))) (c4 (aG (fr:=aa (gv 0) (aa (gv 3) (aa (gv 2) ah))) (ds:=[ao n l,ar q,ar p]) rfl (AM n l q p)))
 cases c:(y7 l p q && y7 l q p) with
 |true=>rw[c] at t;exact Dj t (Dp (lp (ds:=[ar p,ar q]) (ac rfl (ac rfl an))) (.inl ⟨_,_,_,rfl,p,q,hp,hq,rfl⟩))
 |false=>rw[c] at t;exact zc t (kj (.inr ⟨_,_,rfl,rfl,_,rfl⟩))
noncomputable def Ik (F:List D->Int->FB):List D->Int->FB:=l6 10 3 (g7 Fj sv F cj)
abbrev pe (n:Nat)(l:List Pr)(pts:List (List Pr))(k:Int)(s4 s5 s6 s7 s8 s9:Sl):En:=[.bx,.fz (ao n l),.fz (lq pts),.fz (.int k),s4,s5,s6,s7,s8,s9]
def tO {m:Nat}{d:D}(h:d∈cI 0 m):∃i:Nat,i < m/\d=.int i:=by
 rw[ie] at h
 obtain⟨x,hx,rfl⟩:=KZ.mp h
 have:=gf.mp hx
 exact⟨x.toNat,by omega,by congr 1;omega⟩
def E9 {n:Nat}{l:List Pr}{p:Pr}(h8:n<=8)(h:p∈lx n l):Sp p:=by
 have:=(KP.mp h).1
 have:=OM.bR.mp this
 exact⟨by omega,by omega⟩
theorem Ao {d:D}(h:E5 d):∀k,Av k d
 | 0=>h
 |k + 1=>.inl h
def Bc {fs:List Pr}(h:fs≠ []):∃p,p∈fs/\i9 (fs.map ar) (-1)=some (ar p):=by
 obtain⟨gs,p,rfl⟩:∃gs p,fs=gs ++ [p]:=⟨fs.dropLast,fs.getLast h,(List.dropLast_concat_getLast h).symm⟩
 exact⟨p,by simp,by rw[Lu];exact zG (gs.map ar) (ar p)⟩
def zW {n:Nat}{l:List Pr}(h8:n<=8):(lx n l).length<=64:=by rw[<-qy];exact qH l n h8
def Dq {pts:List (List Pr)}{i:Nat}{t:Pr}(h:∀ps,ps∈pts->∀p,p∈ps->Sp p)(ht:Sp t):∀ps,ps∈cT pts i t->∀p,p∈ps->Sp p:=by
 intro ps hp p hm
 unfold cT at hp
 rcases KI.mp hp with hp |hp
 ·rcases KI.mp hp with hp |hp
  ·exact h ps (L6 hp) p hm
  ·rw[K7] at hp
   subst hp
   rcases KI.mp hm with hm |hm
   ·rw[Kq] at hm
    cases e:pts[i]? with
    |none=>rw[e] at hm;cases hm
    |some q=>rw[e] at hm;exact h q (KA e) p hm
   ·rw[K7] at hm;exact hm▸ht
 ·exact h ps (Mp hp) p hm
theorem C1 {n:Nat}{l:List Pr}(O:OM.Ord n l):∀(k m:Nat) (pts:List (List Pr)) (β:Int),k < m->1<=pts.length->pts.length<=3->(∀ps,ps∈pts->ps.length + k<=50)->(∀ps,ps∈pts->∀p,p∈ps->Sp p)->∃d β',nk Ik m [ao n l,lq pts,.int (k:Nat)] β=.ok d false β'/\Av k d:=by
 intro k
 induction k using Nat.strongRecOn with
 |ind k ih=>
  intro m pts β hm h1 h3 hk hp
  obtain⟨m,rfl⟩:∃m',m=m' + 1:=⟨m - 1,by omega⟩
  show ∃d β',rF (g7 Fj sv (nk Ik m) cj (pe n l pts (k:Nat) .no .no .no .no .no .no) β)=.ok d false β'/\Av k d
  refine WP.out (Q:=λr=>∃d β',rF r=.ok d false β'/\Av k d) ?_
  unfold g7
  obtain⟨p0,e0⟩:∃p0,pts[0]? =some p0:=⟨_,Kh (by omega)⟩
  have hp0:=hp p0 (KA e0)
  have pq:∀{i:Nat} {qs},pts[i]? =some qs->i9 (pts.map λps=>PyData.list (ps.map ar)) (i:Int)=some (.list (qs.map ar)):=λh=>fE (by rw[KD,h];rfl)
  have lenP:∀s4 s5 s6 s7 s8 s9 b,f1 (gv 2) bW (vl (pe n l pts (k:Nat) s4 s5 s6 s7 s8 s9)) b=.ok (.int (pts.length:Nat)) b:=λ_ _ _ _ _ _ b=>by rw[ll (ds:=pts.map λps=>PyData.list (ps.map ar)) rfl,Ko]
  refine sN (ds:=cI 0 pts.length) (β1:=β) (λd b=>b=false/\E5 d) (λenv b=>b=β/\∃s4 s5,env=pe n l pts (k:Nat) s4 s5 .no .no .no .no) (cC (lenP _ _ _ _ _ _ _) (by omega)) ⟨rfl,_,_,rfl⟩ ?_ ?_ ?_
  ·intro d hd env b ⟨hb,s4,s5,he⟩
   subst hb he
   obtain⟨i,hi,rfl⟩:=tO hd
   refine⟨pe n l pts (k:Nat) (.fz (.int i)) s5 .no .no .no .no,rfl,?_⟩
   obtain⟨qs,hq⟩:∃qs,pts[i]? =some qs:=⟨_,Kh (by omega)⟩
   obtain⟨d,fr,e,hd⟩:=GF n l qs
   refine cg (aG (ds:=[ao n l,.list (qs.map ar)]) (ac rfl (ac (az (x:=lq pts) (y:=.int i) rfl rfl (pq hq)) an)) e) (wp_at (pe n l pts (k:Nat) (.fz (.int i)) (.fz d) .no .no .no .no) rfl ?_)
   rcases hd with rfl | ⟨p,q,mp,mq,rfl⟩
   ·exact zc (β1:=b) rfl (kj (.inr ⟨_,_,rfl,rfl,_,_,rfl⟩))
   ·refine Dj (β1:=b) rfl (gH (d:=.tuple [.str "ring",.int i,.list [ar p,ar q]]) (tp (ac rfl (ac rfl (ac rfl an)))) (.inl ⟨_,_,_,rfl,rfl,i,[p,q],rfl,by omega,by simp,λx hx=>?_⟩))
    have hqs:=hp qs (KA hq)
    simp only[Ks,K0,LL] at hx
    rcases hx with rfl |rfl
    ·exact hqs _ mp
    ·exact hqs _ mq
  ·intro d b β ⟨hb,hr⟩
   subst hb
   exact⟨d,β,rfl,Ao hr k⟩
  intro env b ⟨hb,s4,s5,he⟩
  subst hb he
  refine cg (aG (ds:=[ao n l]) (ac rfl an) (An O)) (wp_at (pe n l pts (k:Nat) s4 s5 (.fz (.list ((lx n l).map ar))) .no .no .no) rfl ?_)
  have c1:cL (f2 (gv 3) (cst (.int 0)) (cG false)) (vl (pe n l pts (k:Nat) s4 s5 (.fz (.list ((lx n l).map ar))) .no .no .no)) b=.ok (decide (((k:Nat):Int)=0)) b:=gj (neg:=false) rfl rfl
  have c2:cL (f2 (gv 6) (bH ah) (cG false)) (vl (pe n l pts (k:Nat) s4 s5 (.fz (.list ((lx n l).map ar))) .no .no .no)) b=.ok (decide (lx n l= [])) b:=cw _ _ _ _ (az (x:=.list ((lx n l).map ar)) (y:=.list (([]:List Pr).map ar)) rfl (lp (ds:=[]) an) (oz false _ []))
  have cc:=CG c1 c2
  have g0:∀s6 s7 s8 s9 b,f2 (gv 2) (cst (.int 0)) aW (vl (pe n l pts (k:Nat) s4 s5 s6 s7 s8 s9)) b=.ok (.list (p0.map ar)) b:=λ_ _ _ _ b=>az (x:=lq pts) (y:=.int (0:Nat)) rfl rfl (pq e0)
  cases c:(decide (((k:Nat):Int)=0) || decide (lx n l= [])) with
  |true=>
   rw[c] at cc
   refine bL cc (b6 (d:=.tuple [.str "ring",.int 0,.list ((p0.map ar).take 1)]) (tp (ac rfl (ac rfl (ac (lY (i:=1) (g0 _ _ _ _ _) rfl) an)))) ⟨_,_,rfl,Ao ⟨0,p0.take 1,by rw[List.map_take];rfl,by omega,by rw[KU];omega,λp hm=>hp0 p (L6 hm)⟩ k⟩)
  |false=>
  rw[c] at cc
  rw[Bool.or_eq_false_iff,LQ,LQ] at c
  obtain⟨j,rfl⟩:∃j,k=j + 1:=⟨k - 1,by omega⟩
  refine aP cc (wp_at (pe n l pts ((j + 1:Nat):Int) s4 s5 (.fz (.list ((lx n l).map ar))) .no .no .no) rfl ?_)
  have tl:=zW (l:=l) O.hi
  obtain⟨a,ha,ea⟩:=dP (m:=(lx n l).length) (List.length_pos_iff.mpr c.2) (by omega) b
  generalize hβ1:b / ((lx n l).length:Int)=β1 at ea
  have at1:i9 ((lx n l).map ar) (a:Int)=some (ar (lx n l)[a]):=by rw[kl,lE ha];rfl
  have st:Sp (lx n l)[a]:=E9 O.hi (Lr ha)
  generalize (lx n l)[a]=t at at1 st
  refine cg (d:=ar t) (β1:=β1) (az (x:=.list ((lx n l).map ar)) (y:=.int a) rfl (cP (ds:=[.int (lx n l).length]) (by rfl) (ac (by rw[ll (ds:=(lx n l).map ar) rfl,Ko]) an) ea) at1) (wp_at (pe n l pts ((j + 1:Nat):Int) s4 s5 (.fz (.list ((lx n l).map ar))) (.fz (ar t)) .no .no) rfl ?_)
  refine FA (λenv b=>∃t,Sp t/\env=pe n l pts ((j + 1:Nat):Int) s4 s5 (.fz (.list ((lx n l).map ar))) (.fz (ar t)) .no .no) ?_ ?_
  ·have d1:cL (f2 (f2 (gv 2) (cst (.int 0)) aW) (bH ah) (cG true)) (vl (pe n l pts ((j + 1:Nat):Int) s4 s5 (.fz (.list ((lx n l).map ar))) (.fz (ar t)) .no .no)) β1=.ok (!decide (p0= [])) β1:=cw _ _ _ _ (az (g0 _ _ _ _ _) (lp (ds:=([]:List Pr).map ar) an) (oz true p0 []))
   by_cases pz:p0= []
   ·rw[Kn pz] at d1
    exact⟨false,β1,by rw[jA,d1];rfl,(λz=>by cases z),λ_=>kj ⟨_,_,rfl,t,st,rfl⟩⟩
   ·rw[KC pz] at d1
    obtain⟨a3,ha3,ea3⟩:=dP (m:=3) (by omega) (by omega) β1
    have d2:cL (f2 (iY 0 cj (aa (cst (.int 3)) ah)) (cst (.int 0)) Ef) (vl (pe n l pts ((j + 1:Nat):Int) s4 s5 (.fz (.list ((lx n l).map ar))) (.fz (ar t)) .no .no)) β1=.ok (decide ((a3:Int) > 0)) (β1 / ((3:Nat):Int)):=cw _ _ _ _ (az (cP (ds:=[.int 3]) (by rfl) rfl ea3) rfl rfl)
    obtain⟨p,hpm,ep⟩:=Bc pz
    refine⟨_,_,by rw[jA,d1];exact d2,λ_=>?_,λ_=>kj ⟨_,_,rfl,t,st,rfl⟩⟩
    have sp:=hp0 p hpm
    refine qO (cg (d:=ar (p.2,p.1)) (cF (az (g0 _ _ _ _ _) (cF (x:=.int 1) (d:=.int (-1)) rfl rfl) ep) rfl) (kj ⟨_,_,rfl,(p.2,p.1),⟨sp.2,sp.1⟩,rfl⟩))
  clear st at1
  intro env β2 ⟨t,st,he⟩
  subst he
  refine CV (d:=.list []) (β1:=β2) (lp an) (wp_at (pe n l pts ((j + 1:Nat):Int) s4 s5 (.fz (.list ((lx n l).map ar))) (.fz (ar t)) (.ow (.list [])) .no) rfl ?_)
  refine vJ (ds:=cI 0 pts.length) (β1:=β2) (λi env b=>∃ds s4 s9,env=pe n l pts ((j + 1:Nat):Int) s4 s5 (.fz (.list ((lx n l).map ar))) (.fz (ar t)) (.ow (.list ds)) s9/\ds.length=i/\∀e,e∈ds->Av j e) (cC (lenP _ _ _ _ _ _ _) (by omega)) ⟨[],_,_,rfl,rfl,λe he=>by cases he⟩ ?_ ?_
  ·intro i d env b hd ⟨ds,s4,s9,he,hl,hds⟩
   subst he
   obtain⟨i',hi',rfl⟩:=tO (KA hd)
   have hii:ds.length < pts.length:=by
    have:=(KJ.mp hd).1
    rw[b9] at this
    omega
   refine⟨pe n l pts ((j + 1:Nat):Int) (.fz (.int i')) s5 (.fz (.list ((lx n l).map ar))) (.fz (ar t)) (.ow (.list ds)) s9,rfl,?_⟩
   obtain⟨qs,hq⟩:∃qs,pts[i']? =some qs:=⟨_,Kh (by omega)⟩
   have hqs:=hk qs (KA hq)
   refine cg (d:=lq (cT pts i' t)) (β1:=b) ?_ (wp_at (pe n l pts ((j + 1:Nat):Int) (.fz (.int i')) s5 (.fz (.list ((lx n l).map ar))) (.fz (ar t)) (.ow (.list ds)) (.fz (lq (cT pts i' t)))) rfl ?_)
   ·rw[wC hq]
    refine iO (iO (lY (ds:=pts.map λps=>PyData.list (ps.map ar)) rfl rfl) (lp (ac (iO (a:=qs.map ar) (b:=[ar t]) (az (x:=lq pts) (y:=.int i') rfl rfl (pq hq)) (lp (ac rfl an)) (by rw[Ko];simp;omega)) an)) ?_) (rR (ds:=pts.map λps=>PyData.list (ps.map ar)) rfl (Il rfl)) ?_
    ·rw[KU,Ko];simp;omega
    ·rw[KN,KU,Lw,Ko];simp;omega
   ·obtain⟨d,β3,e,hd⟩:=ih j (by omega) m (cT pts i' t) b (by omega) (by rw[oH (by omega)];exact h1) (by rw[oH (by omega)];exact h3) (ur hk (by omega)) (Dq hp st)
    have dm:f2 (gv 3) (cst (.int 1)) ji (vl (pe n l pts ((j + 1:Nat):Int) (.fz (.int i')) s5 (.fz (.list ((lx n l).map ar))) (.fz (ar t)) (.ow (.list ds)) (.fz (lq (cT pts i' t))))) b=.ok (.int (j:Nat)) b:=az (x:=.int ((j + 1:Nat):Int)) (y:=.int 1) rfl rfl (by show some (int (((j + 1:Nat):Int) - 1))=_;rw[show (((j + 1:Nat):Int) - 1)=(j:Int) by omega])
    refine qO (Et (ds:=ds) rfl (cP (ds:=[ao n l,lq (cT pts i' t),.int (j:Nat)]) (by rfl) (ac rfl (ac rfl (ac dm an))) e) rfl (by omega) (kj ⟨_,_,rfl,ds ++ [d],_,_,rfl,by rw[KN,hl];rfl,λx hx=>?_⟩))
    rcases KI.mp hx with hx |hx
    ·exact hds x hx
    ·rw[K7] at hx;exact hx▸hd
  ·intro env b ⟨ds,s4,s9,he,hl,hds⟩
   subst he
   rw[b9] at hl
   exact gH (d:=.tuple [.str "turn",ar t,.tuple ds]) (tp (ac rfl (ac rfl (ac (cF (x:=.list ds) rfl rfl) an)))) ⟨_,_,rfl,.inr ⟨t,ds,rfl,st,by omega,hds⟩⟩
def cU (b:Bool)(es:List D):D:=match b with
 |true=>.tuple es
 |false=>.list es
section
variable {fa fb:VF D}{vs:List Nv}{β:Int}{b:Bool}{es fs:List D}{i:Int}
def DJ (h:fa vs β=.ok (cU b es) β)(hb:fb vs β=.ok (.int i) β):jX (p9 fa (λ_ β=>.ok none β) (kK fb)) (lL fa (λ_ β=>.ok none β) (kK fb)) vs β=.ok (cU b (cutD es none (some i))) β:=by
 unfold jX p9 lL kK
 rw[h];dsimp only[R.bnd]
 rw[hb];dsimp only[R.bnd]
 cases b <;> rfl
theorem Hd (h:fa vs β=.ok (cU b es) β)(h':fb vs β=.ok (cU b fs) β)(hl:es.length + fs.length<=1000):jX (f2 fa fb eR) (f2 fa fb jO) vs β=.ok (cU b (es ++ fs)) β:=by
 cases b with
 |false=>exact BD (iO h h' hl)
 |true=>
  refine AY ?_ (tW h h' hl)
  unfold f2
  rw[h];dsimp only[R.bnd]
  rw[h'];rfl
theorem GP (h:fa vs β=.ok (cU b es) β):jX (f1 fa Aw) (f1 fa B3) vs β=.ok (cU b es.reverse) β:=by
 cases b with
 |false=>exact BD (cF h rfl)
 |true=>exact AY (by unfold f1;rw[h];rfl) (cF h rfl)
def GK (h:fa vs β=.ok (cU b es) β):f1 fa lu vs β=.ok (.tuple es) β:=by cases b <;> exact cF h rfl
def Gk (h:fa vs β=.ok (cU b es) β):f1 fa uJ vs β=.ok (.list es) β:=by cases b <;> exact cF h rfl
end
def wN {es:List D}{i:Int}{e:D}(h:e∈cutD es none (some i)):e∈es:=Mp (L6 h)
def CM (es:List D)(i:Int):(cutD es none (some i)).length<=es.length:=by unfold cutD;rw[KU,Lw];omega
def DV (es:List D):(cutD es none (some 1)).length<=1:=by
 unfold cutD
 rw[HT.ka,show (some 1:Option Int)=some ((1:Nat):Int) from rfl,HT.l8,KU];omega
theorem u5 {k:Nat}{s:Str}{y:D}{es:List D}{b:Bool}(hs:s∈uU)(hy:El y)(hl:es.length<=4)(h:∀e,e∈es->nF k e):nF (k + 1) (.tuple [.str s,y,cU b es]):=by
 cases b with
 |false=>exact CI hs hy hl h
 |true=>exact zL hs hy hl h
def Ag {s:Str}(hs:s∈uU):Sq 10 0 (.str s):=⟨(mh s hs).1,(mh s hs).2.1,(mh s hs).2.2⟩
theorem C7 {k:Nat}{es:List D}{b:Bool}(hl:es.length<=4)(h:∀e,e∈es->nF k e):b5 (cU b es)=false/\Bf (cU b es)/\Sq (4 * S4 k + 20) (2 * k + 9) (cU b es):=by
 cases b with
 |false=>exact⟨rfl,(j6 hl h).1.2⟩
 |true=>exact⟨rfl,(j6 hl h).2.2⟩
noncomputable def Gh (F:List D->Int->FB):List D->Int->FB:=l6 10 2 (iI F cj)
abbrev ne (p o:D)(s3 s4 s5 s6 s7 s8 s9:Sl):En:=[.bx,.fz p,.fz o,s3,s4,s5,s6,s7,s8,s9]
def EW (w:Str)(y o:D)(b c:Bool)(es:List D):List D:=
 [.tuple [.str w,o,cU b es],.tuple [.str w,y,o],.tuple [.str "turns",y,cU b es],.tuple [.str w,y]] ++ [.tuple [.str w,y,cU b es,.int 0],.list [.str w,y,cU b es],o] ++ [.tuple [.str w,.bool c,cU b es],.tuple [.str w,.int 1,cU b es]] ++
 [.tuple [.str w,y,cU b (cutD es none (some (-1)))],.tuple [.str w,y,cU b (es ++ cutD es none (some 1))]] ++ [.tuple [.str w,y,.tuple es],.tuple [.str w,y,.list es],.tuple [.str w,y,cU b es.reverse]]
def FT {k:Nat}{w:Str}{y o:D}{b c:Bool}{es:List D}(hw:w∈uU)(hy:El y)(ho:o∈jc)(hl:es.length<=3)(h:∀e,e∈es->nF k e):∀d,d∈EW w y o b c es->nF (k + 1) d:=by
 have oe:=(lW ho).1
 obtain⟨z1,z2,z3⟩:=C7 (b:=b) (by omega) h
 have sg:=tV k
 have w1:Sq 10 (2 * k + 9) (.str w):=(Ag hw).mono (Kj _) (by omega)
 have y1:Sq 100 (2 * k + 9) y:=hy.2.1.mono (Kj _) (by omega)
 have t3:=DX w1 y1 z3
 intro d hd
 simp only[EW,KI,Ks,K0,LL] at hd
 rcases hd with (((((rfl |rfl |rfl |rfl) | (rfl |rfl |rfl)) | (rfl |rfl)) | (rfl |rfl)) | (rfl |rfl |rfl))
 ·exact u5 hw oe (by omega) h
 ·exact Gm hw hy ho
 ·exact u5 (by decide) hy (by omega) h
 ·refine⟨n0 (by simp) (nM rfl hy.1.1),qj rfl (λ_ _ _ e=>by cases e) _,mz (nM rfl hy.2.2),((oF (c:=100) (k:=8) (nM ((Ag hw).mono (by omega) (by omega)) hy.2.1)).mono ?_ (by omega))⟩
  show 3 + 102 * 2<=4 * S4 k + 500
  omega
 ·have all:∀(P:D->Prop),P (.str w)->P y->P (cU b es)->P (.int 0)->∀d,d∈ [PyData.str w,y,cU b es,.int 0]->P d:=λP h1 h2 h3 h4 d hd=>by
   simp only[Ks,K0,LL] at hd
   rcases hd with rfl |rfl |rfl |rfl
   ·exact h1
   ·exact h2
   ·exact h3
   ·exact h4
  refine⟨n0 (by simp) (all _ rfl hy.1.1 z1 rfl),qj rfl (λ_ _ _ e=>by cases e) _,mz (all _ rfl hy.2.2 z2 (kH (by omega)).bf),?_⟩
  have i0:Sq 20 (2 * k + 9) (.int 0):=(kH (by omega)).sq.mono (Kj _) (by omega)
  obtain⟨a1,a2,a3⟩:=w1
  obtain⟨b1,b2,b3⟩:=y1
  obtain⟨c1,c2,c3⟩:=z3
  obtain⟨d1,d2,d3⟩:=i0
  refine⟨by simp[PyData.showable,PyData.showableAll,a1,b1,c1,d1],by simp only[PyData.depth,PyData.depthAll] at *;omega,?_⟩
  rw[PyData.shown]
  unfold tupleText
  rw[KO,KO]
  have e1:((("(":String):Str)).length=1:=rfl
  have e3:((if (PyData.shownAll [PyData.str w,y,cU b es,.int 0]).length == 1 then ",)" else ")":String):Str).length<=2:=by split <;> exact by decide
  have j:(Str.join ", " (PyData.shownAll [PyData.str w,y,cU b es,.int 0])).length=(PyData.str w).shown.length + 2 + (y.shown.length + 2 + ((cU b es).shown.length + 2 + (int 0).shown.length)):=by
   simp only[PyData.shownAll]
   show ((PyData.str w).shown ++ ", " ++ (y.shown ++ ", " ++ ((cU b es).shown ++ ", " ++ (int 0).shown))).length=_
   rw[KO,KO,KO,KO,KO,KO];rfl
  rw[e1,j]
  show _<=4 * S4 k + 500
  omega
 ·have all:∀(P:D->Prop),P (.str w)->P y->P (cU b es)->∀d,d∈ [PyData.str w,y,cU b es]->P d:=λP h1 h2 h3 d hd=>by
   simp only[Ks,K0,LL] at hd
   rcases hd with rfl |rfl |rfl
   ·exact h1
   ·exact h2
   ·exact h3
  refine⟨⟨rfl,λes e=>by cases e⟩,qj rfl (λ_ _ _ e=>by cases e) _,Ai (all _ rfl hy.2.2 z2),?_⟩
  obtain⟨a1,a2,a3⟩:=w1
  obtain⟨b1,b2,b3⟩:=y1
  obtain⟨c1,c2,c3⟩:=z3
  refine⟨by simp[PyData.showable,PyData.showableAll,a1,b1,c1],by simp only[PyData.depth,PyData.depthAll] at *;omega,?_⟩
  rw[PyData.shown]
  simp only[PyData.shownAll]
  show ((((("[":String):Str) ++ ("":String) ++ (PyData.str w).shown) ++ (", ":String) ++ y.shown) ++ (", ":String) ++ (cU b es).shown ++ ("]":String)).length<=4 * S4 k + 500
  rw[KO,KO,KO,KO,KO,KO,KO]
  have e1:((("[":String):Str)).length=1:=rfl
  have e2:((("]":String):Str)).length=1:=rfl
  have e3:((("":String):Str)).length=0:=rfl
  have e4:(((", ":String):Str)).length=2:=rfl
  rw[e1,e2,e3,e4]
  omega
 ·exact qU ho _
 ·exact u5 hw (Du c) (by omega) h
 ·exact u5 hw (r6 (by omega)) (by omega) h
 ·exact u5 hw hy (by have:=CM es (-1);omega) λe he=>h e (wN he)
 ·refine u5 hw hy (by rw[KN];have:=DV es;omega) λe he=>?_
  rcases KI.mp he with he |he
  ·exact h e he
  ·exact h e (wN he)
 ·exact zL hw hy (by omega) h
 ·exact CI hw hy (by omega) h
 ·exact u5 hw hy (by rw[Ms];omega) λe he=>h e (List.mem_reverse.mp he)
abbrev Dc:VF Bool:=tT (cL (f2 (f2 (gv 1) (cst (.int 0)) aW) (cst (.str "turn")) (cG false))) (tT (cL (f2 (f2 (gv 1) (cst (.int 2)) aW) (aR ah) (cG true))) (cL (f2 (iY 0 cj (aa (cst (.int 4)) ah)) (cst (.int 0)) Ef)))
def JI (k:Nat)(d o:D)(β:Int):Prop:=∃(w:Str) (y:D) (es:List D) (b c0 c:Bool) (β1:Int),d=.tuple [.str w,y,cU b es]/\w∈uU/\El y/\es.length<=3/\(∀e,e∈es->nF k e)/\cG false y (.int 1)=some (.bool c0)/\
    Dc (vl (ne d o .no .no .no .no .no .no .no)) β=.ok c β1/\
    (c=true->∃j t,k=j + 1/\d=.tuple [.str "turn",ar t,.tuple es]/\Sp t/\es≠ []/\∀e,e∈es->Av j e)
def DB {k:Nat}{d o:D}{β:Int}(h:E5 d):JI k d o β:=by
 obtain⟨i,ps,e,hi,hl,hp⟩:=h
 subst e
 refine⟨"ring",.int i,ps.map ar,false,_,false,β,rfl,by decide,r6 (by omega),by rw[Ko];exact hl,zt hp k,qP false _ _,?_,λz=>by cases z⟩
 have t1:cL (f2 (f2 (gv 1) (cst (.int 0)) aW) (cst (.str "turn")) (cG false)) (vl (ne (.tuple [.str "ring",.int i,.list (ps.map ar)]) o .no .no .no .no .no .no .no)) β=.ok false β:=cw _ _ _ _ (az (x:=.str "ring") (y:=.str "turn") (az (x:=.tuple [.str "ring",.int i,.list (ps.map ar)]) (y:=.int 0) rfl rfl rfl) rfl (by unfold cG;rw[zq.1,zq.2];rfl))
 unfold Dc
 rw[jA]
 exact (congrArg (λr=>R.bnd r _) t1).trans rfl
theorem Jz {k:Nat}{d o:D}{β:Int}(hk:k<=10)(h:Av k d):JI k d o β:=by
 cases k with
 |zero=>exact DB h
 |succ j=>
  rcases h with hd | ⟨t,ds,rfl,ht,hl,hds⟩
  ·exact DB hd
  ·have sh:SeqAt.shaped (ar t)=true:=by unfold SeqAt.shaped;rw[uW];rfl
   have e1:cG false (ar t) (.int 1)=some (.bool false):=by unfold cG;rw[sh];rfl
   have sd:SeqAt.shaped (.tuple ds)=true:=by
    unfold SeqAt.shaped
    have q:∀e,e∈ds->Sq (S4 (j + 1)) (2 * (j + 1) + 8) e:=λe he=>(qN (hds e he)).2.2.2
    have q2:=(oF q).2.1
    rw[Kn (show PyData.depth (.tuple ds)<=64 by omega),Bool.and_true,PyData.canLay0]
    exact nN λx hx=>xl (hds x hx)
   have t1:cL (f2 (f2 (gv 1) (cst (.int 0)) aW) (cst (.str "turn")) (cG false)) (vl (ne (.tuple [.str "turn",ar t,.tuple ds]) o .no .no .no .no .no .no .no)) β=.ok true β:=cw _ _ _ _ (az (x:=.str "turn") (y:=.str "turn") (az (x:=.tuple [.str "turn",ar t,.tuple ds]) (y:=.int 0) rfl rfl rfl) rfl (by unfold cG;rw[zq.2];rfl))
   have t2:cL (f2 (f2 (gv 1) (cst (.int 2)) aW) (aR ah) (cG true)) (vl (ne (.tuple [.str "turn",ar t,.tuple ds]) o .no .no .no .no .no .no .no)) β=.ok (!ds.isEmpty) β:=by
    refine cw _ _ _ _ (az (x:=.tuple ds) (y:=.tuple []) (az (x:=.tuple [.str "turn",ar t,.tuple ds]) (y:=.int 2) rfl rfl rfl) (tp an) ?_)
    unfold cG
    rw[sd]
    cases ds <;> rfl
   obtain⟨a4,ha4,ea4⟩:=dP (m:=4) (by omega) (by omega) β
   have t3:cL (f2 (iY 0 cj (aa (cst (.int 4)) ah)) (cst (.int 0)) Ef) (vl (ne (.tuple [.str "turn",ar t,.tuple ds]) o .no .no .no .no .no .no .no)) β=.ok (decide ((a4:Int) > 0)) (β / ((4:Nat):Int)):=cw _ _ _ _ (az (cP (ds:=[.int 4]) (by rfl) rfl ea4) rfl rfl)
   have tt:∀c b',tT (cL (f2 (f2 (gv 1) (cst (.int 2)) aW) (aR ah) (cG true))) (cL (f2 (iY 0 cj (aa (cst (.int 4)) ah)) (cst (.int 0)) Ef)) (vl (ne (.tuple [.str "turn",ar t,.tuple ds]) o .no .no .no .no .no .no .no)) β=.ok c b'->Dc (vl (ne (.tuple [.str "turn",ar t,.tuple ds]) o .no .no .no .no .no .no .no)) β=.ok c b':=λc b' h=>by
    unfold Dc
    rw[jA]
    exact (congrArg (λr=>R.bnd r _) t1).trans h
   cases ds with
   |nil=>exact⟨"turn",ar t,[],true,_,false,β,rfl,by decide,m6 ht,by simp,(λe he=>by cases he),e1,tt _ _ (by rw[jA,t2];rfl),λz=>by cases z⟩
   |cons x xs=>exact⟨"turn",ar t,x :: xs,true,_,_,_,rfl,by decide,m6 ht,hl,(λe he=>qN (hds e he)),e1,tt _ _ (by rw[jA,t2];exact t3),λ_=>⟨j,t,rfl,rfl,ht,by simp,hds⟩⟩
theorem A4 {o:D}(ho:o∈jc):∀(k m:Nat) (d:D) (β:Int),k < m->k<=10->Av k d->∃d' β',nk Gh m [d,o] β=.ok d' false β'/\nF (k + 1) d':=by
 intro k
 induction k using Nat.strongRecOn with
 |ind k ih=>
  intro m d β hm h10 hd
  obtain⟨m,rfl⟩:∃m',m=m' + 1:=⟨m - 1,by omega⟩
  show ∃d' β',rF (iI (nk Gh m) cj (ne d o .no .no .no .no .no .no .no) β)=.ok d' false β'/\nF (k + 1) d'
  refine WP.out (Q:=λr=>∃d' β',rF r=.ok d' false β'/\nF (k + 1) d') ?_
  unfold iI
  obtain⟨w,y,es,b,c0,c,β1,hd1,hw,hy,hl,hes,hg,ht,hc⟩:=Jz (o:=o) (β:=β) h10 hd
  cases c with
  |true=>
   obtain⟨j,t,rfl,hd2,st,hne,hpa⟩:=hc rfl
   refine bL ht (wp_at (ne d o .no .no .no .no .no .no .no) rfl (nE ?_))
   subst hd2
   have g2:∀s3 s4 s5 b,f2 (gv 1) (cst (.int 2)) aW (vl (ne (.tuple [.str "turn",ar t,.tuple es]) o s3 s4 s5 .no .no .no .no)) b=.ok (.tuple es) b:=λ_ _ _ b=>az (x:=.tuple [.str "turn",ar t,.tuple es]) (y:=.int 2) rfl rfl rfl
   obtain⟨a,ha,ea⟩:=dP (m:=es.length) (List.length_pos_iff.mpr hne) (by omega) β1
   generalize β1 / (es.length:Int)=β2 at ea
   refine cg (d:=.int a) (β1:=β2) (cP (ds:=[.int es.length]) (by rfl) (ac (xy (g2 _ _ _ _)) an) ea) (wp_at (ne (.tuple [.str "turn",ar t,.tuple es]) o (.fz (.int a)) .no .no .no .no .no .no) rfl ?_)
   refine cg (d:=.tuple es) (β1:=β2) (g2 _ _ _ _) (wp_at (ne (.tuple [.str "turn",ar t,.tuple es]) o (.fz (.int a)) (.fz (.tuple es)) .no .no .no .no .no) rfl ?_)
   obtain⟨d',β3,e,hi⟩:=ih j (by omega) m es[a] β2 (by omega) (by omega) (hpa _ (Lr ha))
   have tk:=GB (fa:=gv 4) (fb:=gv 3) (vs:=vl (ne (.tuple [.str "turn",ar t,.tuple es]) o (.fz (.int a)) (.fz (.tuple es)) .no .no .no .no .no)) (β:=β2) (ds:=es) (i:=a) rfl rfl
   have md:aR (aa (iY 0 (nk Gh m) (aa (f2 (gv 4) (gv 3) aW) (aa (gv 2) ah))) ah) (vl (ne (.tuple [.str "turn",ar t,.tuple es]) o (.fz (.int a)) (.fz (.tuple es)) .no .no .no .no .no)) β2=.ok (.tuple [d']) β3:=by
    refine lI ?_ (by simp)
    rw[cJ,cP (ds:=[es[a],o]) (β1:=β2) (by rfl) (ac (az (x:=.tuple es) (y:=.int a) rfl rfl (show i9 es (a:Int)=some es[a] from lE ha)) (ac rfl an)) e];rfl
   have dr:=HH (fa:=gv 4) (fb:=f2 (gv 3) (cst (.int 1)) b4) (vs:=vl (ne (.tuple [.str "turn",ar t,.tuple es]) o (.fz (.int a)) (.fz (.tuple es)) .no .no .no .no .no)) (β:=β3) (ds:=es) (i:=a + 1) rfl (Il rfl)
   refine cg (tW (tW tk md (by rw[KU];simp;omega)) dr (by rw[KN,KU,Lw];simp;omega)) (wp_at (ne (.tuple [.str "turn",ar t,.tuple es]) o (.fz (.int a)) (.fz (.tuple es)) (.fz (.tuple (es.take a ++ [d'] ++ es.drop (a + 1)))) .no .no .no .no) rfl ?_)
   refine gH (d:=.tuple [.str "turn",ar t,.tuple (es.take a ++ [d'] ++ es.drop (a + 1))]) (tp (ac rfl (ac (az (x:=.tuple [.str "turn",ar t,.tuple es]) (y:=.int 1) rfl rfl rfl) (ac rfl an)))) ⟨(λa b z=>by cases z),_,_,rfl,zL (by decide) (m6 st) (by rw[KN,KN,KU,Lw];simp;omega) λx hx=>?_⟩
   rcases KI.mp hx with hx |hx
   ·rcases KI.mp hx with hx |hx
    ·exact hes x (L6 hx)
    ·rw[K7] at hx;exact hx▸hi
   ·exact hes x (Mp hx)
  |false=>
   refine aP ht (wp_at (ne d o .no .no .no .no .no .no .no) rfl ?_)
   clear hc
   subst hd1
   refine wp_seq (env1:=ne (.tuple [.str w,y,cU b es]) o .no .no .no (.fz (.str w)) (.fz y) (.fz (cU b es)) .no) (β1:=β1) rfl ?_
   have oo:=(qU ho 0)
   refine cg (d:=.list [.tuple [.str w,o,cU b es],.tuple [.str w,y,o],.tuple [.str "turns",y,cU b es],.tuple [.str w,y]]) (β1:=β1) (lp (ac (tp (ac rfl (ac rfl (ac rfl an)))) (ac (tp (ac rfl (ac rfl (ac rfl an)))) (ac (tp (ac rfl (ac rfl (ac rfl an)))) (ac (tp (ac rfl (ac rfl an))) an))))) (wp_at (ne (.tuple [.str w,y,cU b es]) o .no .no .no (.fz (.str w)) (.fz y) (.fz (cU b es)) (.fz (.list [.tuple [.str w,o,cU b es],.tuple [.str w,y,o],.tuple [.str "turns",y,cU b es],.tuple [.str w,y]]))) rfl ?_)
   generalize hN1: [PyData.tuple [.str w,o,cU b es],.tuple [.str w,y,o],.tuple [.str "turns",y,cU b es],.tuple [.str w,y]]=N1
   have l1:N1.length=4:=by rw[<-hN1];rfl
   refine cg (d:=.list (N1 ++ [.tuple [.str w,y,cU b es,.int 0],.list [.str w,y,cU b es],o])) (β1:=β1) (iO rfl (lp (ac (tW (a:=[.str w,y,cU b es]) (b:=[.int 0]) rfl (tp (ac rfl an)) (by simp)) (ac (cF (x:=.tuple [.str w,y,cU b es]) rfl rfl) (ac rfl an)))) (by rw[l1];simp)) (wp_at (ne (.tuple [.str w,y,cU b es]) o .no .no .no (.fz (.str w)) (.fz y) (.fz (cU b es)) (.fz (.list (N1 ++ [.tuple [.str w,y,cU b es,.int 0],.list [.str w,y,cU b es],o])))) rfl ?_)
   generalize hN2:N1 ++ [PyData.tuple [.str w,y,cU b es,.int 0],.list [.str w,y,cU b es],o]=N2
   have l2:N2.length=7:=by rw[<-hN2,KN,l1];rfl
   refine cg (d:=.list (N2 ++ [.tuple [.str w,.bool c0,cU b es],.tuple [.str w,.int 1,cU b es]])) (β1:=β1) (iO rfl (lp (ac (tp (ac rfl (ac (az (x:=y) (y:=.int 1) rfl rfl hg) (ac rfl an)))) (ac (tp (ac rfl (ac rfl (ac rfl an)))) an))) (by rw[l2];simp)) (wp_at (ne (.tuple [.str w,y,cU b es]) o .no .no .no (.fz (.str w)) (.fz y) (.fz (cU b es)) (.fz (.list (N2 ++ [.tuple [.str w,.bool c0,cU b es],.tuple [.str w,.int 1,cU b es]])))) rfl ?_)
   generalize hN3:N2 ++ [PyData.tuple [.str w,.bool c0,cU b es],.tuple [.str w,.int 1,cU b es]]=N3
   have l3:N3.length=9:=by rw[<-hN3,KN,l2];rfl
   have g8:∀s9,gv 8 (vl (ne (.tuple [.str w,y,cU b es]) o .no .no .no (.fz (.str w)) (.fz y) (.fz (cU b es)) s9)) β1=.ok (cU b es) β1:=λ_=>rfl
   refine cg (d:=.list (N3 ++ [.tuple [.str w,y,cU b (cutD es none (some (-1)))],.tuple [.str w,y,cU b (es ++ cutD es none (some 1))]])) (β1:=β1) (iO rfl (lp (ac (tp (ac rfl (ac rfl (ac (DJ (g8 _) (cF (x:=.int 1) (d:=.int (-1)) rfl rfl)) an)))) (ac (tp (ac rfl (ac rfl (ac (Hd (g8 _) (DJ (g8 _) rfl) (by have:=DV es;omega)) an)))) an))) (by rw[l3];simp)) (wp_at (ne (.tuple [.str w,y,cU b es]) o .no .no .no (.fz (.str w)) (.fz y) (.fz (cU b es)) (.fz (.list (N3 ++ [.tuple [.str w,y,cU b (cutD es none (some (-1)))],.tuple [.str w,y,cU b (es ++ cutD es none (some 1))]])))) rfl ?_)
   generalize hN4:N3 ++ [PyData.tuple [.str w,y,cU b (cutD es none (some (-1)))],.tuple [.str w,y,cU b (es ++ cutD es none (some 1))]]=N4
   have l4:N4.length=11:=by rw[<-hN4,KN,l3];rfl
   refine cg (d:=.list (N4 ++ [.tuple [.str w,y,.tuple es],.tuple [.str w,y,.list es],.tuple [.str w,y,cU b es.reverse]])) (β1:=β1) (iO rfl (lp (ac (tp (ac rfl (ac rfl (ac (GK (g8 _)) an)))) (ac (tp (ac rfl (ac rfl (ac (Gk (g8 _)) an)))) (ac (tp (ac rfl (ac rfl (ac (GP (g8 _)) an)))) an)))) (by rw[l4];simp)) (wp_at (ne (.tuple [.str w,y,cU b es]) o .no .no .no (.fz (.str w)) (.fz y) (.fz (cU b es)) (.fz (.list (N4 ++ [.tuple [.str w,y,.tuple es],.tuple [.str w,y,.list es],.tuple [.str w,y,cU b es.reverse]])))) rfl ?_)
   have hN5:N4 ++ [PyData.tuple [.str w,y,.tuple es],.tuple [.str w,y,.list es],.tuple [.str w,y,cU b es.reverse]]=EW w y o b c0 es:=by rw[<-hN4,<-hN3,<-hN2,<-hN1];rfl
   rw[hN5]
   have l5:(EW w y o b c0 es).length=14:=rfl
   obtain⟨a,ha,ea⟩:=dP (m:=14) (by omega) (by omega) β1
   obtain⟨d',hd'⟩:∃d',(EW w y o b c0 es)[a]? =some d':=⟨_,Kh (by omega)⟩
   exact gH (az (x:=.list (EW w y o b c0 es)) (y:=.int a) rfl (cP (ds:=[.int 14]) (by rfl) rfl ea) (show i9 (EW w y o b c0 es) (a:Int)=some d' from fE hd')) ⟨d',_,rfl,FT hw hy ho hl hes d' (KA hd')⟩
def I0:List D->FR:=bE 1 1 (gV ir)
def Jk {c:Nat}(h1:1<=c)(h8:c<=8):I0 [.int c]=.ok .none false:=by
 show fin (gV ir [.fz (.int c)] 0)=_
 unfold gV
 have t1:fR (aF ir (aa (gv 0) ah)) (vl [.fz (.int c)]) 0=.ok true 0:=c4 (aG (ds:=[.int c]) rfl (kJ rfl))
 have t2:=jb (g':=tf) (fa:=cst (.int 1)) (fb:=gv 0) (fc:=cst (.int 8)) (vs:=vl [.fz (.int c)]) (β:=0) (lo:=1) (i:=c) (n:=8) (q:=decide ((c:Int)<=8)) rfl rfl rfl rfl
 rw[Kn (by omega),Kn (by omega)] at t2
 rw[gL (aY (aE t1) (aE (cw _ _ _ _ t2)))];rfl
noncomputable def BM:List D->FR:=bE 3 3 (dU ph I0 (jW D1 40))
def GC {n c:Nat}{l:List Pr}{d:D}{b:Bool}(O:OM.Ord n l)(h1:1<=c)(h3:c<=3)(h:jW D1 40 [d,ao n l,tq (List.replicate c [])]=.ok (.bool b) false):BM [d,ao n l,.int c]=.ok (.bool b) false:=by
 show fin (dU ph I0 (jW D1 40) [.fz d,.fz (ao n l),.fz (.int c)] 0)=_
 refine cu ?_
 unfold dU
 refine wY (aG (ds:=[ao n l]) (ac rfl an) (AE O)) (wp_at [.fz d,.fz (ao n l),.fz (.int c)] rfl ?_)
 refine wY (aG (ds:=[.int c]) (ac rfl an) (Jk h1 (by omega))) (wp_at [.fz d,.fz (ao n l),.fz (.int c)] rfl ?_)
 have er:f2 (bH (aa (aR ah) ah)) (gv 2) B0 (vl [.fz d,.fz (ao n l),.fz (.int c)]) 0=.ok (tq (List.replicate c [])) 0:=by
  refine az (x:=.list [.tuple []]) (y:=.int c) (lp (ac (tp an) an)) rfl ?_
  rcases (show c=1\/c=2\/c=3 by omega) with rfl |rfl |rfl
  ·rfl
  ·rfl
  ·rfl
 exact gH (aG (ds:=[d,ao n l,tq (List.replicate c [])]) (ac rfl (ac rfl (ac er an))) h) rfl
noncomputable def E8:List D->FR:=bE 13 1 (xX zl BM (jW Eg 40) Er cj (nk Ik 40) zV (nk Gh 40))
def seen {n c k:Nat}{l:List Pr}{d:D}(O:OM.Ord n l)(h1:1<=c)(h3:c<=3)(hk:k<=10)(h:Gp k d):∃b,BM [d,ao n l,.int c]=.ok (.bool b) false/\jW Eg 40 [d,ao n l,lq (List.replicate c [])]=.ok (.bool b) false:=by
 obtain⟨b,e1,e2⟩:=yR (n:=n) (l:=l) k d (List.replicate c []) 40 (by omega) h (by rw[Ls];exact h3) λps hp=>by
  rw[LA hp];simp;omega
 exact⟨b,GC O h1 h3 e1,e2⟩
def z6 {k:Nat}{d:D}(hk:k<=4)(h:nF k d):vU d=true:=by
 have:S4 k<=100000:=by
  rcases (show k=0\/k=1\/k=2\/k=3\/k=4 by omega) with rfl |rfl |rfl |rfl |rfl <;> decide
 exact Hb h.2.2.2 this (by omega) h.2.2.1
abbrev le (ns:List Int)(i n c:Nat)(l:List Pr)(s5 s6 s7 s8 s9 s10 s11 s12:Sl):En:=[.fz (cS ns),.fz (.int i),.bx,.fz (ao n l),.fz (.int c),s5,s6,s7,s8,s9,s10,s11,s12]
def G9 (ns:List Int):E8 [cS ns]=.ok (.bool true) false:=by
 show fin (xX zl BM (jW Eg 40) Er cj (nk Ik 40) zV (nk Gh 40) [.fz (cS ns),.no,.no,.no,.no,.no,.no,.no,.no,.no,.no,.no,.no] 0)=_
 refine cu ?_
 obtain⟨m0,hm0,em⟩:=ze 3 (by omega) ns (vl [.fz (cS ns),.no,.no,.no,.no,.no,.no,.no,.no,.no,.no,.no,.no]) 0 rfl
 unfold xX
 refine vJ (λ_ env _=>∃s1 s2 s3 s4 s5 s6 s7 s8 s9 s10 s11 s12,env= [.fz (cS ns),s1,s2,s3,s4,s5,s6,s7,s8,s9,s10,s11,s12]) em ⟨_,_,_,_,_,_,_,_,_,_,_,_,rfl⟩ ?_ λenv β ⟨s1,s2,s3,s4,s5,s6,s7,s8,s9,s10,s11,s12,e⟩=>gH (d:=.bool true) rfl rfl
 rintro i d env β hi ⟨s1,s2,s3,s4,s5,s6,s7,s8,s9,s10,s11,s12,rfl⟩
 obtain⟨_,rfl⟩:=jh hi
 rw[LB]
 refine⟨[.fz (cS ns),.fz (.int i),s2,s3,s4,s5,s6,s7,s8,s9,s10,s11,s12],rfl,?_⟩
 obtain⟨z,ez⟩:=F0 ns i
 obtain⟨t3,t4,t5,t6,t7,t8,t9,t10,t11,t12,hcl⟩:∃t3 t4 t5 t6 t7 t8 t9 t10 t11 t12:Sl,(pV (ba ([0] ++ ([1] ++ [])) [.fz (cS ns),.fz (.int i),s2,s3,s4,s5,s6,s7,s8,s9,s10,s11,s12])).set 2 .bx= [.fz (cS ns),.fz (.int i),.bx,t3,t4,t5,t6,t7,t8,t9,t10,t11,t12]:=⟨_,_,_,_,_,_,_,_,_,_,rfl⟩
 refine C0 (AQ (ds:=[cS ns,.int i]) rfl ez) (wp_at _ hcl ?_)
 obtain⟨n,l,β1,e1,O,h6⟩:=Cj z
 refine cg (d:=ao n l) (β1:=β1) (cP (ds:=[.int ((6:Nat):Int)]) rfl rfl e1) (wp_at [.fz (cS ns),.fz (.int i),.bx,.fz (ao n l),t4,t5,t6,t7,t8,t9,t10,t11,t12] rfl ?_)
 obtain⟨j,hj,ej⟩:=dP (m:=3) (by omega) (by omega) β1
 generalize hβ2:β1 / ((3:Nat):Int)=β2 at ej
 obtain⟨c,hc⟩:∃c:Nat,c=1 + j:=⟨_,rfl⟩
 have c1:1<=c:=by omega
 have c3:c<=3:=by omega
 refine cg (d:=.int c) (β1:=β2) (az (x:=.int 1) (y:=.int j) rfl (cP (ds:=[.int 3]) rfl rfl ej) (by show some (int (1 + (j:Int)))=_;rw[show ((c:Nat):Int)=1 + (j:Int) by omega])) (wp_at (le ns i n c l t5 t6 t7 t8 t9 t10 t11 t12) rfl ?_)
 have ep:aQ 1 [] (.nm 0) (bP (gv 4)) i7 (bH ah) (vl (le ns i n c l t5 t6 t7 t8 t9 t10 t11 t12)) β2=.ok (lq (List.replicate c [])) β2:=by
  rw[jq (ds:=cI 0 c) (λ_=>PyData.list []) (cC (n:=c) rfl (by omega)) (by rw[b9];omega) λd hd=>⟨_,rfl,lp an⟩]
  congr 2
  rw[List.map_const',b9,List.map_replicate];rfl
 refine cg ep (wp_at (le ns i n c l (.fz (lq (List.replicate c []))) t6 t7 t8 t9 t10 t11 t12) rfl ?_)
 obtain⟨k,hk⟩:∃k:Nat,([3,3,2]:List Nat)[c - 1]? =some k:=⟨_,Kh (by simp;omega)⟩
 have k3:k<=3:=by
  have:=KA hk
  simp only[Ks,K0,LL] at this
  omega
 have ek:f2 (bH (aa (cst (.int 3)) (aa (cst (.int 3)) (aa (cst (.int 2)) ah)))) (f2 (gv 4) (cst (.int 1)) ji) aW (vl (le ns i n c l (.fz (lq (List.replicate c []))) t6 t7 t8 t9 t10 t11 t12)) β2=.ok (.int (k:Nat)) β2:=by
  refine az (x:=.list (([3,3,2]:List Nat).map λ(x:Nat)=>int (x:Nat))) (y:=.int ((c - 1:Nat):Int)) (lp (ac rfl (ac rfl (ac rfl an)))) (az (x:=.int c) (y:=.int 1) rfl rfl (by show some (int ((c:Int) - 1))=_;rw[show ((c - 1:Nat):Int)=(c:Int) - 1 by omega])) ?_
  show i9 (([3,3,2]:List Nat).map λ(x:Nat)=>int (x:Nat)) ((c - 1:Nat):Int)=_
  exact fE (by rw[KD,hk];rfl)
 obtain⟨pa,β3,e3,hpa⟩:=C1 O k 40 (List.replicate c []) β2 (by omega) (by rw[Ls];exact c1) (by rw[Ls];exact c3) (λps hp=>by rw[LA hp];simp;omega) (λps hp p hm=>by rw[LA hp] at hm;cases hm)
 refine cg (d:=pa) (β1:=β3) (cP (ds:=[ao n l,lq (List.replicate c []),.int (k:Nat)]) rfl (ac rfl (ac rfl (ac ek an))) e3) (wp_at (le ns i n c l (.fz (lq (List.replicate c []))) (.fz pa) t7 t8 t9 t10 t11 t12) rfl ?_)
 obtain⟨o,β4,e4,ho⟩:=FU β3
 refine cg (d:=o) (β1:=β4) (cP (ds:=[]) rfl rfl e4) (wp_at (le ns i n c l (.fz (lq (List.replicate c []))) (.fz pa) (.fz o) t8 t9 t10 t11 t12) rfl ?_)
 refine cg (d:=.list [pa,o,.tuple [.str "ring",.int 0,.list []],.tuple [.str "turn",ar (0,1),.tuple []]]) (β1:=β4) (lp (ac rfl (ac rfl (ac (tp (ac rfl (ac rfl (ac (lp an) an)))) (ac (tp (ac rfl (ac (tp (ac rfl (ac rfl an))) (ac (tp an) an)))) an))))) (wp_at (le ns i n c l (.fz (lq (List.replicate c []))) (.fz pa) (.fz o) (.fz (.list [pa,o,.tuple [.str "ring",.int 0,.list []],.tuple [.str "turn",ar (0,1),.tuple []]])) t9 t10 t11 t12) rfl ?_)
 obtain⟨ds,β5,ec,hl,hds⟩:=xY (own:=1) (ixs:=[2,6,7]) (t:=.nm 0) (fi:=bP (cst (.int 5))) (fe:=iY 1 (nk Gh 40) (aa (gv 2) (aa (gv 3) ah))) (vs:=vl (le ns i n c l (.fz (lq (List.replicate c []))) (.fz pa) (.fz o) (.fz (.list [pa,o,.tuple [.str "ring",.int 0,.list []],.tuple [.str "turn",ar (0,1),.tuple []]])) t9 t10 t11 t12)) (β:=β4) (β1:=β4) (ds:=cI 0 5) (λd:D=>d) (λd=>nF (k + 1) d) (cC (n:=5) rfl (by omega)) (by rw[b9];omega) λd hd=>⟨[.da d,.bx,.da pa,.da o],rfl,λb=>by
   obtain⟨d',b',e,h⟩:=A4 ho k 40 pa b (by omega) (by omega) hpa
   exact⟨d',b',cP (ds:=[pa,o]) rfl rfl e,h⟩⟩
 rw[List.map_id'] at ec
 rw[b9] at hl
 have ea:=iO (fa:=gv 8) (vs:=vl (le ns i n c l (.fz (lq (List.replicate c []))) (.fz pa) (.fz o) (.fz (.list [pa,o,.tuple [.str "ring",.int 0,.list []],.tuple [.str "turn",ar (0,1),.tuple []]])) t9 t10 t11 t12)) (β:=β4) rfl ec (by simp;omega)
 have hall:∀d,d∈ [pa,o,.tuple [.str "ring",.int 0,.list []],.tuple [.str "turn",ar (0,1),.tuple []]] ++ ds->nF (k + 1) d:=λd hd=>by
  rcases KI.mp hd with hd |hd
  ·simp only[Ks,K0,LL] at hd
   rcases hd with rfl |rfl |rfl |rfl
   ·exact qN hpa
   ·exact qU ho _
   ·exact CI (by decide) (r6 (by omega)) (by simp) λe he=>by cases he
   ·exact zL (by decide) (m6 ⟨by decide,by decide⟩) (by simp) λe he=>by cases he
  ·exact hds d hd
 generalize [pa,o,.tuple [.str "ring",.int 0,.list []],.tuple [.str "turn",ar (0,1),.tuple []]] ++ ds=es at ea hall
 refine qO (vJ (ds:=es) (λ_ env _=>∃s8 s9 s10 s11 s12,env=le ns i n c l (.fz (lq (List.replicate c []))) (.fz pa) (.fz o) s8 s9 s10 s11 s12) (by unfold fj;rw[ea];rfl) ⟨_,_,_,_,_,rfl⟩ ?_ λenv β ⟨s8,s9,s10,s11,s12,e⟩=>kj ⟨_,_,rfl,_,_,_,_,_,_,_,_,_,_,_,_,e⟩)
 rintro q d env β hq ⟨s8,s9,s10,s11,s12,rfl⟩
 have hd:=hall d (KA hq)
 have hrp:=z6 (by omega) hd
 obtain⟨b,f1',f2'⟩:=seen (k:=k + 1) O c1 c3 (by omega) hd.2.1
 refine⟨le ns i n c l (.fz (lq (List.replicate c []))) (.fz pa) (.fz o) s8 (.fz d) s10 s11 s12,rfl,?_⟩
 have er:∀s10 s11 s12,f1 (gv 9) iX (vl (le ns i n c l (.fz (lq (List.replicate c []))) (.fz pa) (.fz o) s8 (.fz d) s10 s11 s12)) β=.ok (.str d.shown) β:=λ_ _ _=>cF (x:=d) rfl (Kl hrp)
 refine cg (er _ _ _) (wp_at (le ns i n c l (.fz (lq (List.replicate c []))) (.fz pa) (.fz o) s8 (.fz d) (.fz (.str d.shown)) s11 s12) rfl ?_)
 refine cg (aG (ds:=[d,ao n l,.int c]) rfl f1') (wp_at (le ns i n c l (.fz (lq (List.replicate c []))) (.fz pa) (.fz o) s8 (.fz d) (.fz (.str d.shown)) (.fz (.bool b)) s12) rfl ?_)
 refine cg (aG (ds:=[d,ao n l,lq (List.replicate c [])]) rfl f2') (wp_at (le ns i n c l (.fz (lq (List.replicate c []))) (.fz pa) (.fz o) s8 (.fz d) (.fz (.str d.shown)) (.fz (.bool b)) (.fz (.bool b))) rfl ?_)
 have t1:fR (f1 (gv 11) (dw "bool")) (vl (le ns i n c l (.fz (lq (List.replicate c []))) (.fz pa) (.fz o) s8 (.fz d) (.fz (.str d.shown)) (.fz (.bool b)) (.fz (.bool b)))) β=.ok true β:=c4 (cF (x:=.bool b) rfl rfl)
 have t2:cL (f2 (gv 11) (gv 12) (cG true)) (vl (le ns i n c l (.fz (lq (List.replicate c []))) (.fz pa) (.fz o) s8 (.fz d) (.fz (.str d.shown)) (.fz (.bool b)) (.fz (.bool b)))) β=.ok false β:=cw _ _ _ _ (az (x:=.bool b) (y:=.bool b) rfl rfl (by cases b <;> rfl))
 have t3:cL (f2 (f1 (gv 9) iX) (gv 10) (uK true)) (vl (le ns i n c l (.fz (lq (List.replicate c []))) (.fz pa) (.fz o) s8 (.fz d) (.fz (.str d.shown)) (.fz (.bool b)) (.fz (.bool b)))) β=.ok false β:=cw _ _ _ _ (az (er _ _ _) rfl (by show some (PyData.bool (!decide (d.shown=d.shown)))=_;rw[Kn rfl];rfl))
 exact zc (aY (aE t1) (aY t2 t3)) (kj ⟨_,_,rfl,_,_,_,_,_,rfl⟩)
end RM
namespace RO
open PySem L2
abbrev jt:Stmt:=RQ.fu
abbrev lN:Stmt:=RQ.top 13
abbrev Fn (K:Frag)(mg:Str->Option Value)(x:Str)(st:Stmt)(ps:List Str)(f:Addr)(fd:FuncData):Prop:=jg K mg x st ps f fd
abbrev Bt (mg:Str->Option Value):Prop:=jQ mg
end RO
section
namespace L2
open PySem PySem.Spec PyProof.Rows
section
variable {K:Frag}{H H':Hp}{a:Addr}
theorem a9.snoc {x y:Int}(q:fy K H a [.int x,.int y]):∀{vs:List V} {ps:List (Int×Int)},a9 K H vs ps->a9 K H (vs ++ [.ref a]) (ps ++ [(x,y)])
 |_,_,.nil=>.cons ⟨a,rfl,q⟩ .nil
 |_,_,.cons r t=>.cons r (a9.snoc q t)
def a9.len {vs:List V}{ps:List (Int×Int)}(h:a9 K H vs ps):vs.length=ps.length:=Paired.length h
def a9.same {vs:List V}{ps:List (Int×Int)}(h:a9 K H vs ps)(s:au H H'):a9 K H' vs ps:=h.grow s.grow
def a9.at {vs:List V}{ps:List (Int×Int)}{i:Nat}{v:V}(h:a9 K H vs ps)(e:vs[i]? =some v):∃p:Int×Int,ps[i]? =some p/\∃b,v=.ref b/\fy K H b [.int p.1,.int p.2]:=Paired.getP h e
def au.put {o:HO}(s:au H H')(h:H a=none)(hf:∀x y,H' a≠some (.ba x y)):au H (L2.upd H' a o):=λb u e=>jY (s b u e) (aJ e h) hf
def DP (h:H a=none):∀x y,H a≠some (.ba x y):=λx y z=>by rw[h] at z;cases z
def Gs {xs:List V}(h:H a=some (.lst xs)):∀x y,H a≠some (.ba x y):=λx y z=>by rw[h] at z;cases z
end
end L2
namespace RO
open PySem L2
def As (N:List Str)(sc:Scope)(NB:List Str)(own:Nat)(ixs:List Nat)(scope:Scope):Bool:=
 decide (scope.kind=.function) && (scope.names.all λy=>decide (y.2≠.cell)) && (scope.names.all λy=>decide (scope.names.lookup y.1=some y.2)) &&
 (scope.names.all λy=>decide (y.2=.free->(sc.names.lookup y.1=some .cell\/sc.names.lookup y.1=some .free))) && decide NB.Nodup && decide (NB.length=own + ixs.length) &&
 ((List.range ixs.length).all λk=>decide (NB[own + k]? =N[ixs.getD k 0]?) && (match NB[own + k]? with |some x=>decide ((x,NameKind.free)∈scope.names) |none=>true))
def mf {X:Cx}{NB:List Str}{own:Nat}{ixs:List Nat}{scope:Scope}(h:As X.N X.env.scope NB own ixs scope=true):dB X NB own ixs scope:=by
 unfold As at h
 simp only[Km,Lf,KQ,K2] at h
 obtain⟨⟨⟨⟨⟨⟨h1,h2⟩,h3⟩,h4⟩,h5⟩,h6⟩,h7⟩:=h
 refine⟨h1,h2,h3,h4,h5,h6,λk hk=>⟨(h7 k hk).1,λx hx=>?_⟩⟩
 have:=(h7 k hk).2
 rw[hx] at this
 simpa using this
section
variable {X:Cx}{tg l:Expr}{tl:TE}{K:Frag}{H H1:Hp}{a:Addr}{xs:List V}{σ:St}
def Jl (K:Frag)(tl:TE):TI:=λσ H R=>tl σ H λx H1=>∃a xs,x=.ref a/\((iw K H1 a xs/\R (yJ K a) H1)\/(fy K H1 a xs/\R (DD K a) H1))
end
def JS (K:Frag){X:Cx}(h:X.K=K:=by rfl):AO X (EG K):=by subst h;exact hV
def ER (K:Frag)(i j:Nat){X:Cx}{x y:Str}{px py pos:Pos}{k:Nat}(hN:X.N.Nodup)(hi:X.N[i]? =some x)(hj:X.N[j]? =some y)(hx:X.env.scope.names.lookup x=some .local)(hy:X.env.scope.names.lookup y=some .local)(hc:X.calm=true)(hK:X.K=K) :
  PG X (.Tuple [.Name x px,.Name y py] k pos) (Cd K 2 (oD (kQ i) (oD (kQ j) B4))):=by
 subst hK
 exact mF hc (cH (cZ hN hi (Or.inl hx) (Or.inr hx)) (cH (cZ hN hj (Or.inl hy) (Or.inr hy)) ku))
section
open PySem.Spec PyProof.Rows
variable {X:Cx}{tg l:Expr}{tl:TE}
def Ea (hl:PE X l tl):PI X tg l (Jl X.K tl):=by
 intro pins s σ H R I h
 refine cq (hl pins s σ H _ I h) λv s1 ⟨x,H1,I1,r1,q1⟩=>?_
 obtain⟨a,xs,e,q⟩:=q1
 subst e
 cases r1
 rcases q with⟨hq,q⟩ | ⟨hq,q⟩
 ·obtain⟨its,rv,p,hz⟩:=I1.list hq
  refine MC p.isList ?_
  refine⟨s1.heap.objs.size,[s1.heap.objs.size],_,_,H1,rfl,I1.kept (t':=s1.toks) λb o e=>Kk _ e,mJ a _,⟨_,KL _ rfl,rfl,rfl⟩,λb hb=>?_,q⟩
  have e:b=s1.heap.objs.size:=by simpa using hb
  subst e
  exact I1.fpOk (Kj _) (I1.hok.fresh (Kj _))
 ·obtain⟨its,rv,p,hz⟩:=I1.tuple hq
  refine Mc (show s1.heap.IsTuple a its.toArray from p) ?_
  refine⟨s1.heap.objs.size,[s1.heap.objs.size],_,_,H1,rfl,I1.kept (t':=s1.toks) λb o e=>Kk _ e,oA a _,⟨_,KL _ rfl,rfl,rfl⟩,λb hb=>?_,q⟩
  have e:b=s1.heap.objs.size:=by simpa using hb
  subst e
  exact I1.fpOk (Kj _) (I1.hok.fresh (Kj _))
end
section
variable {K:Frag}{H H1 H':Hp}{a:Addr}{xs:List V}{σ:St}
abbrev GH (J:It)(g:TG)(tb:TS)(D:Ends)(σ:St)(H:Hp):Prop:=∃W:Nat->Nat->St->Hp->Prop,(∃m,W 0 m σ H)/\∀i m σ H,W i m σ H->
   (J.stop i H/\D.nx σ H)\/(J.go i H/\∃N:St->Hp->Prop,(∀σ' H',N σ' H'->∃m',m' < m/\W (i + 1) m' σ' H')/\∀x H',J.yld i H x H'->g x σ H' λσ2 H2=>tb {D with nx:=N,ct:=N,bk:=D.nx} σ2 H2)
def BS (s:au H1 H')(hq:iw K H1 a xs\/fy K H1 a xs):iw K H' a xs\/fy K H' a xs:=hq.elim (λq=>.inl (s.seq q)) λq=>.inr (q.grow s.grow)
def BK {g:TG}{tb:TS}{D:Ends}(hq:iw K H1 a xs\/fy K H1 a xs)(Pv:Nat->St->Hp->Prop)(h0:Pv 0 σ H)(hl:∀i σ H',Pv i σ H'->au H1 H')
  (hs:∀i x σ H,xs[i]? =some x->Pv i σ H->g x σ H λσ2 H2=>tb {D with nx:=Pv (i + 1),ct:=Pv (i + 1),bk:=D.nx} σ2 H2) (hd:∀σ H,Pv xs.length σ H->D.nx σ H) :
  (iw K H a xs/\GH (yJ K a) g tb D σ H)\/(fy K H a xs/\GH (DD K a) g tb D σ H):=
 hq.elim (λq=>.inl ⟨(hl _ _ _ h0).seq q,uk Pv h0 (λi σ H' _ p=>(hl i σ H' p).seq q) hs hd⟩) λq=>.inr ⟨q.grow (hl _ _ _ h0).grow,CS Pv h0 (λi σ H' _ p=>q.grow (hl i σ H' p).grow) hs hd⟩
def xM (J:It)(own:Nat)(ixs:List Nat)(g:TG)(tt:TT)(te:TE)(Q:VK)(D:Addr)(σ:St)(H:Hp):Prop:=∃W:Nat->Nat->St->Hp->Prop,(∃m,W 0 m (rA own ixs σ) (upd H D (.lst [])))/\∀i m σ' H',W i m σ' H'->
   (J.stop i H'/\(∃acc,H' D=some (.lst acc))/\Q (.ref D) H')\/
   (J.go i H'/\∃N:St->Hp->Prop,(∀σ2 H2,N σ2 H2->∃m',m' < m/\W (i + 1) m' σ2 H2)/\∀x H2,J.yld i H' x H2->fG g tt te D x σ' H2 N)
structure ue (own:Nat)(ixs:List Nat)(wi:TI)(g:TG)(tt:TT)(te:TE)(σ:St)(H:Hp)(Q:VK):Prop where
 out:wi σ H λJ H1=>∀D,H1 D=none->xM J own ixs g tt te Q D σ H1
def vg {own:Nat}{ixs:List Nat}{wi:TI}{g:TG}{tt:TT}{te:TE}{Q:VK}(h:wi σ H λJ H1=>∀D,H1 D=none->xM J own ixs g tt te Q D σ H1):ue own ixs wi g tt te σ H Q:=⟨h⟩
def sk {X:Cx}{NB:List Str}{own:Nat}{ixs:List Nat}{scope:Scope}{tg iter elt:Expr}{ifs:List Expr}{wi:TI}{g:TG}{tt:TT}{te:TE}{pos:Pos}(hc:X.calm=true)(S:dB X NB own ixs scope)(hi:PI X tg iter wi)
  (hg:∀C ex s3 H3 pn,PG (i5 X NB scope C ex s3 H3 pn) tg g) (ht:∀C ex s3 H3 pn,AV (i5 X NB scope C ex s3 H3 pn) ifs tt) (he:∀C ex s3 H3 pn,PE (i5 X NB scope C ex s3 H3 pn) elt te)
  (hs:∀x,foldedSetIterable iter X.env x=pure x:=by intro _;rfl):PE X (.ListComp elt [⟨tg,iter,ifs,0⟩] scope pos) (ue own ixs wi g tt te):=
 λpins s σ H Q I h=>tx hc S hi hg ht he hs pins s σ H Q I h.out
section
variable {own:Nat}{ixs:List Nat}{g:TG}{tt:TT}{te:TE}{Q:VK}{D:Addr}
def CB (Pv:Nat->St->Hp->Prop)(h0:Pv 0 (rA own ixs σ) (upd H D (.lst [])))(hl:∀i σ H,i<=xs.length->Pv i σ H->iw K H a xs)
  (hs:∀i x σ H,xs[i]? =some x->Pv i σ H->fG g tt te D x σ H (Pv (i + 1))) (hd:∀σ H,Pv xs.length σ H->(∃acc,H D=some (.lst acc))/\Q (.ref D) H):xM (yJ K a) own ixs g tt te Q D σ H:=yT Pv h0 hl hs hd
def tQ {lo:Int}{n:Nat}(Pv:Nat->St->Hp->Prop)(h0:Pv 0 (rA own ixs σ) (upd H D (.lst [])))
  (hs:∀i σ H,i < n->Pv i σ H->fG g tt te D (.int (lo + i)) σ H (Pv (i + 1))) (hd:∀σ H,Pv n σ H->(∃acc,H D=some (.lst acc))/\Q (.ref D) H):xM (z0 lo n) own ixs g tt te Q D σ H:=vE Pv h0 hs hd
end
def uF {i:Nat}{te:TE}{D:Addr}{x:V}{N:St->Hp->Prop}(h:te (σ.set i (some x)) H λv H5=>∃acc,H5 D=some (.lst acc)/\acc.length < sizeLine/\N (σ.set i (some x)) (upd H5 D (.lst (acc ++ [v])))):fG (kQ i) EN te D x σ H N:=by
 unfold fG kQ EN
 exact p7 h
def A0 {i j:Nat}{x y:V}{Q:St->Hp->Prop}(h:fy K H a [x,y])(q:Q ((σ.set i (some x)).set j (some y)) H):Cd K 2 (oD (kQ i) (oD (kQ j) B4)) (.ref a) σ H Q:=⟨a,_,rfl,h,rfl,x,_,rfl,y,_,rfl,rfl,q⟩
def IZ {c A B:Prop}[Decidable c](h:c)(a:A):if c then A else B:=by rw[Kl h];exact a
def Jp {c A B:Prop}[Decidable c](h:¬c)(b:B):if c then A else B:=by rw[Kw h];exact b
def take_snoc {α:Type}{l:List α}{i:Nat}{x:α}(h:l[i]? =some x):l.take (i + 1)=l.take i ++ [x]:=by
 rw[List.take_add_one,h];rfl
def take_all {α:Type}(l:List α):l.take l.length=l:=LV (Kj _)
end
def il (n:Nat):(OM.dO n).length=n * n:=by unfold OM.dO;simp
def Cn {n i:Nat}(h:i < n * n):(OM.dO n)[i]? =some (((i / n:Nat):Int),((i % n:Nat):Int)):=by
 unfold OM.dO
 rw[KD,List.getElem?_range h];rfl
def JO {n:Nat}(h:n<=8):n * n<=64:=L7 h h
section
variable {P:Program}{w:World}{K:Frag}{mg:Str->Option Value}{base:Heap}
def wO (K:Frag):Sp:=λvs H Q _=>∃n:Nat,vs= [.int n]/\1<=n/\n<=8/\∀H' l ws,au H H'->H l=none->H' l=some (.lst ws)->a9 K H' ws (OM.dO n)->Q (.ref l) H'
def Cy:aL ["many"] ["many"] (av jt):=⟨rfl,rfl,rfl,by decide +kernel,rfl,by decide +kernel,by decide +kernel⟩
def GV:(["number","many"]:List Str).Nodup:=by decide +kernel
def AR {f:Addr}{fd:FuncData}(F:Fn K mg "every_pair" jt ["many"] f fd)(B:Bt mg):fL P w K mg base FP 1 f fd ["many"] (wO K):=by
 refine F.F.ok Cy (λvs H Q E h=>?_) (λcdv A outer s H vs Q E hr h=>?_)
 ·obtain⟨n,rfl,_⟩:=h;rfl
 ·obtain⟨n,rfl,h1,h8,k⟩:=h
  refine⟨_,iM (mj (sk (NB:=["number","many"]) (own:=1) (ixs:=[0]) rfl (mf (by kernel_rfl)) (kF rfl B.range (bc (qv kf (pv 0) (pv 0)) cv))
   (λC ex s3 H3 pn=>cZ (i:=0) GV rfl (Or.inl rfl) (hf:=Or.inr rfl)) (λC ex s3 H3 pn=>rf)
   (λC ex s3 H3 pn=>vI (bc (qv rq (pv 0) (pv 1)) (bc (qv la (pv 0) (pv 1)) cv))))),?_⟩
  have hn:=JO h8
  have e0:((n:Int) * (n:Int))=((n * n:Nat):Int):=by rw[Int.natCast_mul]
  refine vg ⟨_,rfl,_,rfl,_,_,rfl,rfl,.inl ⟨by omega,by omega⟩,_,rfl,by rw[e0];omega,by rw[e0];omega,λD hD=>?_⟩
  rw[e0,Lj]
  refine tQ (λi σ' H'=>(∃v,σ'= [v,some (.int n)])/\au H H'/\∃vs,H' D=some (.lst vs)/\a9 K H' vs ((OM.dO n).take i)) ⟨⟨none,rfl⟩,(au.refl H).put hD (DP hD),[],aB,.nil⟩ ?_ ?_
  ·rintro i σ' H' hi ⟨⟨v,rfl⟩,s1,vs,hv,hp⟩
   have hn0:(0:Int) < (n:Int):=by omega
   refine uF ⟨_,rfl,_,rfl,_,_,rfl,rfl,⟨hn0,by omega⟩,_,rfl,_,rfl,_,_,rfl,rfl,hn0,by show 2<=sizeLine;rw[K1];omega,λp hp0=>?_⟩
   have hpD:D≠p:=aJ hv hp0
   have hl:=hp.len
   refine⟨vs,by rw[aC hpD];exact hv,?_,⟨_,rfl⟩,?_,vs ++ [.ref p],aB,?_⟩
   ·rw[hl,KU,K1];rw[il];omega
   ·exact (s1.put (s1.free hp0) (DP hp0)).put hD (Gs (xs:=vs) (by rw[aC hpD];exact hv))
   ·rw[take_snoc (Cn hi)]
    have g1:i3 H' (upd H' p (.tup [.int ((0 + (i:Int)) / n),.int ((0 + (i:Int)) % n)])):=i3.new hp0
    have g2:∀o,i3 (upd H' p (.tup [.int ((0 + (i:Int)) / n),.int ((0 + (i:Int)) % n)])) (upd (upd H' p (.tup [.int ((0 + (i:Int)) / n),.int ((0 + (i:Int)) % n)])) D o):=λo=>i3.list (by rw[aC hpD];exact hv)
    refine a9.snoc ?_ (hp.grow (g1.trans (g2 _)))
    refine (fy.grow ?_ (g2 _))
    refine .inl (.inl ?_)
    rw[aB,LB];rfl
  ·rintro σ' H' ⟨_,s1,vs,hv,hp⟩
   refine⟨⟨_,hv⟩,k H' D vs s1 hD hv ?_⟩
   rw[<-il n,take_all] at hp
   exact hp
end
end RO
end
namespace RO
open PySem L2
structure TabAt (n:Nat)(M:OM.Tb)(L:Addr)(r:Nat->Addr)(H:Hp):Prop where
 top:H L=some (.lst ((List.range n).map λi=>V.ref (r i)))
 row:∀i,i < n->H (r i)=some (.lst ((List.range n).map λj=>V.bl (M i j)))
 inj:∀i j,i < n->j < n->r i=r j->i=j
 ne:∀i,i < n->r i≠L
def wV {n x:Nat}(h:x < n):sU n (x:Int)=some x:=by
 unfold sU;rw[Kl (by omega),Kl (by omega)];simp
def zx {α:Type}{xs:List α}{x:Nat}(h:x < xs.length):i9 xs (x:Int)=xs[x]?:=by
 unfold i9;rw[wV h];rfl
def gE {f:Nat->V}{n x:Nat}(h:x < n):i9 ((List.range n).map f) (x:Int)=some (f x):=by
 rw[zx (by simpa using h),KD,List.getElem?_range h];rfl
def qL {f:Nat->V}{n x:Nat}(h:x < n):sU ((List.range n).map f).length (x:Int)=some x:=by
 rw[Ko,LH];exact wV h
def yU {f:Nat->V}{n y:Nat}{v:V}:((List.range n).map f).set y v=(List.range n).map λj=>if j=y then v else f j:=by
 apply List.ext_getElem?
 intro i
 by_cases hi:i < n
 ·by_cases e:y=i
  ·subst e;simp[List.getElem?_set,hi]
  ·have e':¬i=y:=λz=>e z.symm
   simp[List.getElem?_set,hi,e,e']
 ·rw[LZ (by simp;omega),LZ (by simp;omega)]
section
variable {n:Nat}{M:OM.Tb}{L:Addr}{r:Nat->Addr}{H H':Hp}
def TabAt.set (T:TabAt n M L r H){x y:Nat}(hx:x < n):TabAt n (M.set x y) L r (upd H (r x) (.lst (((List.range n).map λj=>V.bl (M x j)).set y (.bl true)))):=by
 refine⟨by rw[aC (T.ne x hx).symm];exact T.top,λi hi=>?_,T.inj,T.ne⟩
 by_cases e:i=x
 ·subst e
  rw[aB,yU]
  refine congrArg _ (congrArg _ (LS λj _=>?_))
  unfold OM.Tb.set
  by_cases c:j=y
  ·simp[c]
  ·simp[c]
 ·rw[aC (λz=>e (T.inj i x hi hx z)),T.row i hi]
  refine congrArg _ (congrArg _ (LS λj _=>?_))
  unfold OM.Tb.set;simp[e]
def TabAt.same (T:TabAt n M L r H)(s:au H H'):TabAt n M L r H':=⟨s _ _ T.top,λi hi=>s _ _ (T.row i hi),T.inj,T.ne⟩
end
def rC {n:Nat}{ps:List (Int×Int)}(w:OM.Wn n ps){p:Int×Int}(h:p∈ps):∃u v:Nat,p=((u:Int),(v:Int))/\u < n/\v < n:=by
 obtain⟨x,y⟩:=p
 have q:=w _ h
 simp only at q
 exact⟨x.toNat,y.toNat,by rw[Int.toNat_of_nonneg q.1.1,Int.toNat_of_nonneg q.2.1],by omega,by omega⟩
def iR {M0 M:OM.Tb}{m:Nat}{D D':Nat->Nat->Prop}(P:OM.Phase M0 M m D)(h:∀a b,D a b↔D' a b):OM.Phase M0 M m D':=λa b=>by rw[P a b,h a b]
def kq {l:List (Int×Int)}{u v a b:Nat}:(((a:Int),(b:Int))∈l\/(a=u/\b=v))↔((a:Int),(b:Int))∈l ++ [((u:Int),(v:Int))]:=by
 rw[KI,K7,Prod.mk.injEq]
 constructor
 ·rintro (h | ⟨h1,h2⟩)
  ·exact .inl h
  ·exact .inr ⟨by omega,by omega⟩
 ·rintro (h | ⟨h1,h2⟩)
  ·exact .inl h
  ·exact .inr ⟨by omega,by omega⟩
def CL {M:OM.Tb}{u v a b:Nat}:M.set u v a b=true↔M a b=true\/(a=u/\b=v):=by
 unfold OM.Tb.set
 by_cases c:a=u/\b=v
 ·simp[c]
 ·rw[Kw c];exact⟨.inl,λh=>h.resolve_right c⟩
def HR (n:Nat)(x:V):(List.replicate n [x]).flatten=(List.range n).map λ_=>x:=by
 rw[List.flatten_replicate_singleton,List.map_const',LH]
section
variable {P:Program}{w:World}{K:Frag}{mg:Str->Option Value}{base:Heap}
def Br (K:Frag):Sp:=λvs H Q _=>∃(n:Nat) (a:Addr) (xs:List V) (ps:List (Int×Int)),vs= [.int n,.ref a]/\1<=n/\n<=8/\(iw K H a xs\/fy K H a xs)/\a9 K H xs ps/\OM.Wn n ps/\
 ∀H' t ws,au H H'->H t=none->H' t=some (.tup ws)->a9 K H' ws (OM.hX n (OM.Tr (OM.Mem ps)))->Q (.ref t) H'
def gz:aL ["many","pairs","corners","leads","a","b","middle"] ["many","pairs"] (av lN):=⟨rfl,rfl,rfl,by decide +kernel,rfl,by decide +kernel,by decide +kernel⟩
def Ho:(["start","many"]:List Str).Nodup:=by decide +kernel
def E4:(["a","b","leads"]:List Str).Nodup:=by decide +kernel
set_option maxHeartbeats 1000000 in
theorem yC {f g:Addr}{fd gd:FuncData}(F:Fn K mg "closed" lN ["many","pairs"] f fd)(G:Fn K mg "every_pair" jt ["many"] g gd)(GE:fL P w K mg base FP 1 g gd ["many"] (wO K))(B:Bt mg):fL P w K mg base FP 2 f fd ["many","pairs"] (Br K):=by
 refine F.F.ok gz (λvs H Q E h=>?_) (λcdv A outer s H vs Q E hr h=>?_)
 ·obtain⟨n,a,xs,ps,rfl,_⟩:=h;rfl
 ·obtain⟨n,a,xs,ps,rfl,h1,h8,hq,hp,wn,k⟩:=h
  refine⟨_,iz (oG (i:=2) gz.nd rfl (Or.inl rfl) (nG GE hr rfl G.mg G.F.kp G.b .nil HP (bc (pv 0) cv)))
   (iz (oG (i:=3) gz.nd rfl (Or.inr rfl) (sk (NB:=["start","many"]) (own:=1) (ixs:=[0]) rfl (mf (by kernel_rfl)) (kF rfl B.range (bc (pv 0) cv))
    (λC ex s3 H3 pn=>cZ (i:=0) Ho rfl (Or.inl rfl) (hf:=Or.inr rfl)) (λC ex s3 H3 pn=>rf) (λC ex s3 H3 pn=>qv zC (zD (bc xQ cv)) (pv 1))))
   (iz (rL PassesOwn.never rfl (Ea (pv 1)) (mF rfl (cH (cZ (i:=4) gz.nd rfl (Or.inl rfl)) (cH (cZ (i:=5) gz.nd rfl (Or.inl rfl)) ku)))
    (iM (o5 xQ (vh (kN hV (pv 3) (pv 4) (λ_ _=>rfl)) (pv 5) set_list))))
   (iz (rL PassesOwn.never rfl (kF rfl B.range (bc (pv 0) cv)) (cZ (i:=6) gz.nd rfl (Or.inl rfl))
    (iM (rL PassesOwn.never rfl (wK (pv 2)) (mF rfl (cH (cZ (i:=4) gz.nd rfl (Or.inl rfl)) (cH (cZ (i:=5) gz.nd rfl (Or.inl rfl)) ku)))
     (iM (D6 (PW.pt (zh (vL (kN hV (kN hV (pv 3) (pv 4) (λ_ _=>rfl)) (pv 6) (λ_ _=>rfl))) (xo (vL (kN hV (kN hV (pv 3) (pv 6) (λ_ _=>rfl)) (pv 5) (λ_ _=>rfl))))))
      (iM (o5 xQ (vh (kN hV (pv 3) (pv 4) (λ_ _=>rfl)) (pv 5) set_list))) xP)))))
   (iM (mj (kG cV rfl B.tuple (by decide +kernel) (bc (sk (NB:=["a","b","leads"]) (own:=2) (ixs:=[3]) rfl (mf (by kernel_rfl)) (wK (pv 2))
    (λC ex s3 H3 pn=>ER K 0 1 E4 rfl rfl rfl rfl rfl rfl)
    (λC ex s3 H3 pn=>wL (vL (kN (JS K) (kN (JS K) (pv 2) (pv 0) (λ_ _=>rfl)) (pv 1) (λ_ _=>rfl)))) (λC ex s3 H3 pn=>vI (bc (pv 0) (bc (pv 1) cv)))) cv))))))),?_⟩
  have hn:=JO h8
  have hn0:(0:Int)<=(n:Int):=by omega
  refine⟨_,rfl,n,rfl,h1,h8,λH1 c ws s1 hc0 hc hw=>?_⟩
  have hwl:ws.length=n * n:=by rw[hw.len,il]
  have gw:OM.Wn n (OM.dO n):=λp hp=>OM.bR.mp hp
  refine vg ?_
  refine⟨_,rfl,n,rfl,by omega,by omega,λD hD=>?_⟩
  rw[Lj]
  refine tQ (λi σ' H'=>(∃v,σ'= [v,some (.int n)])/\au H1 H'/\∃r:Nat->Addr,H' D=some (.lst ((List.range i).map λk=>V.ref (r k)))/\
   (∀k,k < i->H' (r k)=some (.lst ((List.range n).map λ_=>V.bl false))/\H1 (r k)=none/\r k≠D)/\∀j k,j < i->k < i->r j=r k->j=k)
   ?_ ?_ ?_
  ·exact⟨⟨none,rfl⟩,(au.refl H1).put hD (DP hD),λ_=>0,aB,λk hk=>absurd hk (Nat.not_lt_zero _),λj k hj=>absurd hj (Nat.not_lt_zero _)⟩
  ·rintro i σ' H' hi ⟨⟨v,rfl⟩,s2,r,hr0,hr1,hr2⟩
   refine uF ⟨by show 1<=sizeLine;rw[K1];omega,λp hp0=>⟨_,rfl,p,n,[.bl false],rfl,rfl,aB,by omega,by omega,by show 1 * (n:Int).toNat<=sizeLine;rw[K1];omega,λq hq0=>?_⟩⟩
   have hqp:q≠p:=by intro e;subst e;rw[aB] at hq0;cases hq0
   have hq1:H' q=none:=by rw[aC hqp] at hq0;exact hq0
   have hDp:D≠p:=aJ hr0 hp0
   have hDq:D≠q:=aJ hr0 hq1
   rw[Lj,HR]
   refine⟨_,by rw[aC hDq,aC hDp];exact hr0,by rw[Ko,LH,K1];omega,⟨_,rfl⟩,((s2.put (s2.free hp0) (DP hp0)).put (s2.free hq1) (DP hq0)).put hD (Gs (by rw[aC hDq,aC hDp];exact hr0)),λk=>if k=i then q else r k,?_,λk hk=>?_,λj k hj hk e=>?_⟩
   ·have e:(List.range i).map (λk=>V.ref (r k))=(List.range i).map (λk=>V.ref (if k=i then q else r k)):=LS λk hk=>by
     have:=K2.mp hk
     rw[Kw (by omega)]
    rw[aB,List.range_succ,Lu,e]
    simp
   ·dsimp only
    by_cases e:k=i
    ·rw[Kl e]
     exact⟨by rw[aC hDq.symm,aB],s2.free hq1,hDq.symm⟩
    ·rw[Kw e]
     obtain⟨a1,a2,a3⟩:=hr1 k (by omega)
     exact⟨by rw[aC a3,aC (aJ a1 hq1),aC (aJ a1 hp0)];exact a1,a2,a3⟩
   ·dsimp only at e
    by_cases ej:j=i
    ·by_cases ek:k=i
     ·omega
     ·rw[Kl ej,Kw ek] at e
      exact absurd e.symm (aJ (hr1 k (by omega)).1 hq1)
    ·by_cases ek:k=i
     ·rw[Kw ej,Kl ek] at e
      exact absurd e (aJ (hr1 j (by omega)).1 hq1)
     ·rw[Kw ej,Kw ek] at e
      exact hr2 j k (by omega) (by omega) e
  rintro σ2 H2 ⟨_,s2,r,hr0,hr1,hr2⟩
  refine⟨⟨_,hr0⟩,?_⟩
  have sep:∀i,i < n->H1 (r i)=none:=λi hi=>(hr1 i hi).2.1
  have T0:TabAt n (λ_ _=>false) D r H2:=⟨hr0,λi hi=>(hr1 i hi).1,hr2,λi hi=>(hr1 i hi).2.2⟩
  refine⟨_,rfl,a,xs,rfl,BK (H1:=H1) (BS s1 hq) (λi σ' H'=>(∃x y,σ'= [some (.int n),some (.ref a),some (.ref c),some (.ref D),x,y,none])/\au H1 H'/\∃M,TabAt n M D r H'/\∀u v:Nat,M u v=true↔((u:Int),(v:Int))∈ps.take i)
   ⟨⟨none,none,rfl⟩,s2,_,T0,λu v=>by simp⟩ (λi σ' H' q=>q.2.1) ?_ ?_⟩
  ·rintro i x σ' H' hx ⟨⟨_,_,rfl⟩,s3,M,T,hM⟩
   obtain⟨p,hpi,b,rfl,hb⟩:=(hp.same (s1.trans s3)).at hx
   obtain⟨u,v,rfl,hu,hv⟩:=rC wn (KA hpi)
   refine A0 hb ?_
   refine⟨_,rfl,_,rfl,D,_,u,_,rfl,rfl,.inl (.inl T.top),gE hu,_,rfl,r u,_,v,v,rfl,rfl,T.row u hu,qL hv,⟨_,_,rfl⟩,s3.put (sep u hu) (Gs (T.row u hu)),_,T.set hu,λx y=>?_⟩
   rw[take_snoc hpi,<-kq,CL,hM]
  rintro σ3 H3 ⟨⟨x3,y3,rfl⟩,s3,M3,T3,hM3⟩
  rw[hp.len,take_all] at hM3
  refine⟨_,rfl,n,rfl,by omega,by omega,?_⟩
  rw[Lj]
  refine x6 (λm σ' H'=>(∃x y z,σ'= [some (.int n),some (.ref a),some (.ref c),some (.ref D),x,y,z])/\au H1 H'/\∃M,TabAt n M D r H'/\OM.Tab n ps M/\OM.Cs M m)
   ⟨⟨_,_,_,rfl⟩,s3,M3,T3,⟨λa b h=>by have:=wn _ ((hM3 a b).mp h);simp only at this;omega,λa b h=>(hM3 a b).mpr h,λa b h=>.one ((hM3 a b).mp h)⟩,λk a b hk=>absurd hk (Nat.not_lt_zero _)⟩ ?_ ?_
  ·rintro m σ' H' hm ⟨⟨_,_,_,rfl⟩,s4,M,T,TT,Th⟩
   rw[LB]
   refine⟨_,rfl,c,rfl,⟨ws,.inl (.inl (s4 _ _ hc))⟩,uk (xs:=ws) (λi σ' H'=>(∃x y,σ'= [some (.int n),some (.ref a),some (.ref c),some (.ref D),x,y,some (.int m)])/\au H1 H'/\∃M',TabAt n M' D r H'/\OM.Phase M M' m λu v=>((u:Int),(v:Int))∈(OM.dO n).take i)
    ⟨⟨_,_,rfl⟩,s4,M,T,iR (OM.Phase.start M m) λa b=>by simp⟩ (λi σ' H' _ q=>.inl (.inl (q.2.1 _ _ hc))) ?_ ?_⟩
   ·rintro i x σ' H' hx ⟨⟨_,_,rfl⟩,s5,M',T',Ph⟩
    obtain⟨p,hpi,b,rfl,hb⟩:=(hw.same s5).at hx
    obtain⟨u,v,rfl,hu,hv⟩:=rC gw (KA hpi)
    refine A0 hb ?_
    have st:=Ph.step u v
    refine⟨_,rfl,_,rfl,D,_,u,_,rfl,rfl,.inl (.inl T'.top),gE hu,_,rfl,r u,_,m,_,rfl,rfl,.inl (.inl (T'.row u hu)),gE hm,_,rfl,?_⟩
    by_cases c1:M' u m=true
    ·refine IZ c1 ?_
     refine⟨_,rfl,_,rfl,D,_,m,_,rfl,rfl,.inl (.inl T'.top),gE hm,_,rfl,r m,_,v,_,rfl,rfl,.inl (.inl (T'.row m hm)),gE hv,_,rfl,?_⟩
     by_cases c2:M' m v=true
     ·refine IZ c2 ?_
      rw[Kl ⟨c1,c2⟩] at st
      refine⟨_,rfl,_,rfl,D,_,u,_,rfl,rfl,.inl (.inl T'.top),gE hu,_,rfl,r u,_,v,v,rfl,rfl,T'.row u hu,qL hv,⟨_,_,rfl⟩,s5.put (sep u hu) (Gs (T'.row u hu)),_,T'.set hu,iR st λa b=>?_⟩
      rw[take_snoc hpi];exact kq
     ·refine Jp c2 ?_
      rw[Kw λz=>c2 z.2] at st
      refine⟨⟨_,_,rfl⟩,s5,_,T',iR st λa b=>?_⟩
      rw[take_snoc hpi];exact kq
    ·refine Jp c1 ?_
     rw[Kw λz=>c1 z.1] at st
     refine pK ⟨⟨_,_,rfl⟩,s5,_,T',iR st λa b=>?_⟩
     rw[take_snoc hpi];exact kq
   ·rintro σ' H' ⟨⟨_,_,rfl⟩,s5,M',T',Ph⟩
    rw[hw.len,take_all] at Ph
    have dn:=Ph.done (n:=n) (λa b ha hb=>OM.bR.mpr ⟨⟨by simp,by simp;omega⟩,by simp,by simp;omega⟩) TT.inn Th
    exact⟨⟨_,_,_,rfl⟩,s5,M',T',TT.phase Ph,dn.1⟩
  rintro σ4 H4 ⟨⟨x4,y4,z4,rfl⟩,s4,M,T,TT,Th⟩
  refine vg ⟨_,rfl,c,rfl,⟨ws,.inl (.inl (s4 _ _ hc))⟩,λD' hD'=>CB (xs:=ws) (λi σ' H'=>(∃x y,σ'= [x,y,some (.ref D)])/\au H4 H'/\∃vs,H' D'=some (.lst vs)/\a9 K H' vs (((OM.dO n).take i).filter λp=>M p.1.toNat p.2.toNat))
   ⟨⟨_,_,rfl⟩,(au.refl H4).put hD' (DP hD'),[],aB,.nil⟩ (λi σ' H' _ q=>.inl (.inl (q.2.1 _ _ (s4 _ _ hc)))) ?_ ?_⟩
  ·rintro i x σ' H' hx ⟨⟨_,_,rfl⟩,s5,vs,hv,hpv⟩
   obtain⟨p,hpi,b,rfl,hb⟩:=(hw.same (s4.trans s5)).at hx
   obtain⟨u,v,rfl,hu,hv'⟩:=rC gw (KA hpi)
   refine A0 hb ?_
   have T':=T.same s5
   refine⟨_,rfl,_,rfl,D,_,u,_,rfl,rfl,.inl (.inl T'.top),gE hu,_,rfl,r u,_,v,_,rfl,rfl,.inl (.inl (T'.row u hu)),gE hv',_,rfl,?_⟩
   by_cases c1:M u v=true
   ·refine IZ c1 ?_
    refine⟨_,rfl,_,rfl,by show 2<=sizeLine;rw[K1];omega,λp hp0=>?_⟩
    have hpD:D'≠p:=aJ hv hp0
    refine⟨vs,by rw[aC hpD];exact hv,?_,⟨_,_,rfl⟩,(s5.put (s5.free hp0) (DP hp0)).put hD' (Gs (by rw[aC hpD];exact hv)),_,aB,?_⟩
    ·rw[hpv.len]
     refine Nat.lt_of_le_of_lt (LM ..) ?_
     rw[KU,il,K1];omega
    ·rw[take_snoc hpi,List.filter_append,List.filter_cons_of_pos (by simpa using c1),List.filter_nil]
     have g1:i3 H' (upd H' p (.tup [.int u,.int v])):=i3.new hp0
     have g2:∀o,i3 (upd H' p (.tup [.int u,.int v])) (upd (upd H' p (.tup [.int u,.int v])) D' o):=λo=>i3.list (by rw[aC hpD];exact hv)
     refine a9.snoc ?_ (hpv.grow (g1.trans (g2 _)))
     exact fy.grow (.inl (.inl aB)) (g2 _)
   ·refine Jp c1 ?_
    refine⟨⟨_,_,rfl⟩,s5,vs,hv,?_⟩
    rw[take_snoc hpi,List.filter_append,List.filter_cons_of_neg (by simpa using c1),List.filter_nil,Mt]
    exact hpv
  ·rintro σ' H' ⟨_,s5,vs,hv,hpv⟩
   rw[hw.len,take_all] at hpv
   refine⟨⟨_,hv⟩,D',vs,rfl,.inl ⟨.inl (.inl hv),λt ht=>?_⟩⟩
   have sA:au H H':=(s1.trans s4).trans s5
   refine k _ t vs (sA.put (sA.free ht) (DP ht)) (sA.free ht) aB ?_
   have e:((OM.dO n).filter λp=>M p.1.toNat p.2.toNat)=OM.hX n (OM.Tr (OM.Mem ps)):=by
    unfold OM.hX
    refine ME λp hp=>?_
    obtain⟨u,v,rfl,hu,hv⟩:=rC gw hp
    have:=TT.all wn Th u v
    simp only[Lj]
    rw[Lk,this]
    simp
   rw[e] at hpv
   exact hpv.grow (i3.new ht)
end
end RO
namespace RO
open PySem L2 RM
section
variable {P:Program}{w:World}{K:Frag}{mg:Str->Option Value}{base:Heap}{ca:Str->Addr}
def J9 {k:Nat}{f:Addr}{fd:FuncData}{ps:List Str}{sp:Sp}(F:fL P w K mg base FP k f fd ps sp):fL P w K mg base (mS P w) k f fd ps sp:=
 ⟨F.len,λA outer s H args us vs Q E hr he hb hv hs=>codeAny_mono (F.run A outer s H args us vs Q E hr he hb hv hs) λr s' h=>by
  cases r with
  |ok x=>cases x <;> exact h
  |error e=>exact h.elim⟩
def u4 {G H:Hp}(s:au G H){ws:List V}{ps:List Pr}(h:a9 K H ws ps):a9 K (mD G H) ws ps:=Paired.mapP h λv p ⟨a,e,q⟩=>⟨a,e,om s q⟩
def n8 {ds:List D}(h:de ds≠.bad):∃(n:Nat) (d:D) (ps:List Pr),ds= [.int n,d]/\pf d=some (ps.map ar)/\1<=n/\n<=8/\OM.Wn n ps/\de ds=.ok (.tuple ((OM.hX n (OM.Tr (OM.Mem ps))).map ar)) false:=by
 unfold de at h
 split at h
 ·rename_i n d
  cases q:pf d with
  |none=>rw[q] at h;exact absurd rfl h
  |some es=>
   rw[q] at h
   dsimp only at h
   cases q2:iq es with
   |none=>rw[q2] at h;exact absurd rfl h
   |some ps=>
    rw[q2] at h
    dsimp only at h
    by_cases c:1<=n/\n<=8/\OM.Wn n.toNat ps
    ·have e:((n.toNat:Nat):Int)=n:=by omega
     refine⟨n.toNat,d,ps,by rw[e],by rw[q,kE q2],by omega,by omega,c.2.2,?_⟩
     unfold de
     dsimp only
     rw[q]
     dsimp only
     rw[q2]
     dsimp only
     rw[Kl c]
    ·rw[Kw c] at h;exact absurd rfl h
 ·exact absurd rfl h
def vF {f g:Addr}{fd gd:FuncData}(F:jg K mg "closed" lN ["many","pairs"] f fd)(E:jg K mg "every_pair" jt ["many"] g gd)(B:jQ mg):cW P w K mg base ca "closed" ["many","pairs"] 3 de:=by
 refine⟨⟨f,fd,F.mg,F.F.kp,F.b,((J9 (yC F E (AR E B) B)).mono (by decide)).imp ?_⟩,λds h=>?_⟩
 ·rintro vs H Q X ⟨G,ds,s,hl,r,h⟩
  have hb:de ds≠.bad:=λz=>by rw[z] at h;exact h
  obtain⟨n,d,ps,rfl,hd,h1,h8,wn,e⟩:=n8 hb
  rw[e] at h
  cases r with
  |cons r1 r=>
   cases r with
   |cons r2 r=>
    cases r
    cases r1
    obtain⟨a,xs,rfl,hq,hr⟩:=(kW.seq (B:=none) (G:=G) (H:=G) (.inl r2) hd (au.refl _))
    refine⟨n,a,xs,ps,rfl,h1,h8,hq.elim (λq=>.inl (s.seq q)) (λq=>.inr (q.grow s.grow)),(hr.pairs).grow s.grow,wn,λH' t ws hh ht ht' hp=>?_⟩
    have s2:=s.trans hh
    refine h (.ref t) (mD G H') H' hh qC (uE s2) (λb m hb=>by rw[xi hh m];exact hb) ?_
    exact .tup (om s2 (.inl (.inl ht'))) (a9.rps (u4 s2 hp))
 ·obtain⟨n,d,ps,rfl,_⟩:=n8 h
  rfl
end
end RO
namespace HD
open PySem PySem.W
noncomputable abbrev zj:=@PySem.W.Fast.tw10156331382660048174
noncomputable abbrev Ft:=@PySem.W.Fast.tw11892475500146522536
noncomputable abbrev IJ:=@PySem.W.Fast.tw6613529449190102663
noncomputable abbrev Fw:=@PySem.W.Fast.tw14364793385576792824
noncomputable abbrev DK:=@PySem.W.Fast.tw17154629097778926822
noncomputable abbrev Az:=@PySem.W.Fast.tw12822647523644345616
noncomputable def Am (p:Program):Thread:=
 ⟨do
  let code <-DK p.main
  let frame <-Az code mainNs mainNs
  let _ <-run (.body (behindTheImports p) {scope:=p.main.scope,locals:=mainNs,globals:=mainNs,cells:=[],code,frame:=some frame})
  ret .none,
  .builtin "claim.caller" {},default,[]⟩
def Bh (p:Program):topStub p=Am p:=by
 unfold topStub Am DK Az
 rw[<-PySem.W.Fast.te17154629097778926822,<-PySem.W.Fast.te12822647523644345616]
noncomputable def nC (p:Program)(w:World)(n₀:Nat)(ann:Option Value):Nat->SharedT->Thread->Option SharedT
 | 0,_,_=>none
 |n + 1,s,t=>match through t with
  |true=>some s
  |false=>match IJ n₀ ann t with
   |false=>none
   |true=>match zj (Ft Fw) p w s t with
    |some (s',t')=>nC p w n₀ ann n s' t'
    |none=>none
theorem qA {p:Program}{w:World}{n₀:Nat}{ann:Option Value}:∀{n:Nat} {s s':SharedT} {t:Thread},nC p w n₀ ann n s t=some s'->topRun treeTable p w n₀ ann n s.abs t=some s'.abs
 | 0,_,_,_,h=>by cases h
 |n + 1,s,s',t,h=>by
  unfold nC at h
  unfold topRun
  cases ht:through t with
  |true=>rw[ht] at h;cases h;rfl
  |false=>
   rw[ht] at h
   have hq:IJ n₀ ann t=stepOk n₀ ann t:=by unfold IJ;rw[<-PySem.W.Fast.te6613529449190102663]
   dsimp only at h
   rw[hq] at h
   cases hk:stepOk n₀ ann t with
   |false=>rw[hk] at h;cases h
   |true=>
    rw[hk] at h
    have hq:zj (Ft Fw) p w s t=stepT (denote treeTable) p w s t:=by unfold zj Ft Fw;rw[<-PySem.W.Fast.te10156331382660048174,<-PySem.W.Fast.te11892475500146522536,<-PySem.W.Fast.te14364793385576792824]
    dsimp only at h
    rw[hq] at h
    cases hs:stepT (denote treeTable) p w s t with
    |none=>rw[hs] at h;cases h
    |some r=>obtain⟨s₂,t₂⟩:=r;rw[hs] at h;rw[stepT_spec hs];exact qA h
def treeOf (l:List Obj):BT:=(l.foldl (λ(x:BT×Nat) o=>(x.1.ins x.2 o,x.2 + 1)) (.nil,0)).1
noncomputable def Bm (P:Params):BT:=treeOf (boot_heap P).objs.toList
abbrev sZ:Nat:=11
abbrev Au:Life:={}
def boot_abs (P:Params):absHeap (Bm P) sZ Au=boot_heap P:=by kernel_rfl
def yO (w:World):((boot_heap w.params).isNs mainGlobals && (Array.mk ([]:List GenState)).size == 0,(boot_heap w.params).objs.size,(boot_heap w.params).nsMap mainGlobals "__annotations__")=(true,sZ,some (.ref 6)):=by kernel_rfl
noncomputable def A3 (w:World)(os:OsState):SharedT:=⟨Bm w.params,sZ,Au,Array.mk [],boot_drawn,boot_toks,os⟩
noncomputable def Dz (p:Program)(w:World)(s:Shared):Bool:=staticsOk (importedModules p.main.body) (boot_heap w.params) s.heap && namesBound p s.heap && gensDone s && laidKept (boot_heap w.params) s.heap
def Cq {p q:Program}{loose:List Str}{Xt:Shared->Bool}{α:Type}{Yf:Shared->α}{Ya:World->α}{N:Nat}{g0:Bool}
  (e:opening p=plainProg p.main.scope.names) (hN:Nat.ble 600 N=true) (f:∀s,fenceModules? p s=some s)
  (run:∀(w:World) (os:OsState),(nC p w sZ (some (.ref 6)) N (A3 w os) (Am p)).map (λs=>(Dz p w s.abs,openSeen q loose (importedModules p.main.body) Xt g0 s.abs,Yf s.abs))=some (true,openGood q loose,Ya w)):LeftO p q loose Xt Yf Ya N g0:=λw=>by
 obtain⟨⟨h,gs,d,k,os⟩,e,e'⟩:=Option.map_eq_some_iff.mp (boot_open e hN f w)
 obtain⟨rfl,rfl,rfl,rfl⟩:h=boot_heap w.params/\gs=Array.mk []/\d=boot_drawn/\k=boot_toks:=by simpa using e'
 obtain⟨z1,z2,z3⟩:_/\_/\_:=by simpa only [Prod.mk.injEq] using yO w
 obtain⟨s',r,ls⟩:=Option.map_eq_some_iff.mp (run w os)
 obtain⟨l1,l2,l3⟩:_/\_/\_:=by simpa only [Prod.mk.injEq] using ls
 have r:=qA r
 have ha:(A3 w os).abs=⟨boot_heap w.params,Array.mk [],boot_drawn,boot_toks,os⟩:=by
  show Shared.mk (absHeap (Bm w.params) sZ Au) _ _ _ _=_
  rw[boot_abs]
  rfl
 rw[ha,<-Bh] at r
 have t:topFrom treeTable p w N ⟨boot_heap w.params,Array.mk [],boot_drawn,boot_toks,os⟩=some s'.abs:=by
  unfold topFrom
  dsimp only
  rw[z1,z2,z3,r]
  show (match Dz p w s'.abs with |true=>_ |false=>_)=_
  rw[l1]
 unfold openEnds
 rw[e]
 show (topFrom treeTable p w N _).map _=_
 rw[t]
 exact congrArg some (Prod.ext l2 l3)
end HD
section
namespace RO
open PySem L2 RM
def wQ (K:Frag):Sp:=λvs H Q _=>∃(a:Addr) (ns:List Int),vs= [.ref a]/\iw K H a (ns.map V.int)/\∀H',au H H'->Q (.bl true) H'
def FO {K:Frag}{ca:Str->Addr}(vs:List V)(H:Hp)(Q:VK)(E:XK)(h:wQ K vs H Q E):zO K ca 1 E8 vs H Q E:=by
 obtain⟨a,ns,rfl,hS,q⟩:=h
 refine⟨H,[cS ns],au.refl _,rfl,.cons (.scr hS) .nil,?_⟩
 rw[G9]
 intro v G' H' s1 s2 s3 s4 fv
 have fv:Rp K G' v (.bool true):=fv
 cases fv
 exact q H' s1
def vK:bh "is_whole" RQ.jM ["thing"]:=λ_ _ _ _ _ _=>zU λ_=>rfl
def vm:bh "is_below" RQ.jI ["thing","bound"]:=λ_ _ _ _ _ _=>ln2 λ_ _=>rfl
def yq:bh "is_many" RQ.kC ["thing"]:=λ_ _ _ _ _ _=>zU λ_=>rfl
def yM:bh "is_pair" RQ.kn ["thing","many"]:=λ_ _ _ _ _ _=>ln2 λ_ _=>rfl
def rK:bh "every_pair" RQ.fu ["many"]:=λ_ _ _ _ _ _=>zU λ_=>rfl
def AH:bh "closed" lN ["many","pairs"]:=λ_ _ _ _ _ _=>ln2 λ_ _=>rfl
def wj:bh "has_ring" RQ.jD ["pairs"]:=λ_ _ _ _ _ _=>zU λ_=>rfl
def vA:bh "is_order" RQ.jF ["thing"]:=λ_ _ _ _ _ _=>zU λ_=>rfl
def so:bh "need_order" RQ.hJ ["thing"]:=λ_ _ _ _ _ _=>zU λ_=>rfl
def uv:bh "are_apart" RQ.iF ["order","a","b"]:=λ_ _ _ _ _ _=>Dx λ_ _ _=>rfl
def yy:bh "is_turn" RQ.kI ["thing","order"]:=λ_ _ _ _ _ _=>ln2 λ_ _=>rfl
def tM:bh "are_turns" RQ.iN ["thing","order"]:=λ_ _ _ _ _ _=>ln2 λ_ _=>rfl
def u6:bh "leads_on" RQ.jG ["order","turn","other"]:=λ_ _ _ _ _ _=>Dx λ_ _ _=>rfl
def rn:bh "goes_round" RQ.gR ["thing","order"]:=λ_ _ _ _ _ _=>ln2 λ_ _=>rfl
def rl:bh "need_count" RQ.gM ["thing"]:=λ_ _ _ _ _ _=>zU λ_=>rfl
def rT:bh "is_ring_of" RQ.gO ["thing","order","put"]:=λ_ _ _ _ _ _=>Dx λ_ _ _=>rfl
def EK:bh "bars" RQ.sO ["thing","order","puts"]:=λ_ _ _ _ _ _=>Dx λ_ _ _=>rfl
def ng:bh "is_case_paper" RQ.eG ["thing","order","count"]:=λ_ _ _ _ _ _=>Dx λ_ _ _=>rfl
def vk:bh "_law_box" RQ.jE ["script","k"]:=λ_ _ _ _ _ _=>ln2 λ_ _=>rfl
def tX:bh "_law_take" RQ.iQ ["box","many"]:=λ_ _ _ _ _ _=>ln2 λ_ _=>rfl
def qV:bh "_law_whole" RQ.gZ ["thing"]:=λ_ _ _ _ _ _=>zU λ_=>rfl
def vN:bh "_law_odd" RQ.jr ["box"]:=λ_ _ _ _ _ _=>zU λ_=>rfl
def nj:bh "_law_shuffled" RQ.eB ["box","some"]:=λ_ _ _ _ _ _=>ln2 λ_ _=>rfl
def uz:bh "_law_told" RQ.iK ["many","rows"]:=λ_ _ _ _ _ _=>ln2 λ_ _=>rfl
def rV:bh "_law_order" RQ.gQ ["box","most"]:=λ_ _ _ _ _ _=>ln2 λ_ _=>rfl
def rY:bh "_law_apart" RQ.gW ["order","a","b"]:=λ_ _ _ _ _ _=>Dx λ_ _ _=>rfl
def rE:bh "_law_turns" RQ.gN ["order"]:=λ_ _ _ _ _ _=>zU λ_=>rfl
def xZ:bh "_law_on" RQ.ko ["order","one","other"]:=λ_ _ _ _ _ _=>Dx λ_ _ _=>rfl
def my:bh "_law_turn_good" RQ.dg ["order","thing"]:=λ_ _ _ _ _ _=>ln2 λ_ _=>rfl
def tK:bh "_law_ring" RQ.iE ["order","thing"]:=λ_ _ _ _ _ _=>ln2 λ_ _=>rfl
def se:bh "_law_shows" RQ.gP ["thing","order","put"]:=λ_ _ _ _ _ _=>Dx λ_ _ _=>rfl
def ni:bh "_law_two_ring" RQ.dX ["order","some"]:=λ_ _ _ _ _ _=>ln2 λ_ _=>rfl
def rX:bh "_law_paper" RQ.gY ["box","order","put","deep"]:=λ_ _ _ _ _ _=>Kd λ_ _ _ _=>rfl
def uR:bh "_law_bent" RQ.iL ["box","paper","odd"]:=λ_ _ _ _ _ _=>Dx λ_ _ _=>rfl
def all_mk {l:PySem.W.OpenLaw}{w:World}{K:Frag}{h:Heap}{mg:Str->Option Value}{fa f35 x0 x1:Addr}(X:K.In h)(G:h.Ns mainGlobals mg)(hfa:mg "law"=some (.ref fa))
  {od35 an35:Option Addr} {sl35:Array (Option Value)} {oc35 kV35 dc35 pm35 cd35 ct35:Value} {tMOST_ROWS:Tok} {tMOST_THINGS:Tok}
  (F1:Fo K mg "is_whole" RQ.jM ["thing"])
  (F2:Fo K mg "is_below" RQ.jI ["thing","bound"])
  (F3:Fo K mg "is_many" RQ.kC ["thing"])
  (F4:Fo K mg "is_pair" RQ.kn ["thing","many"])
  (F5:Fo K mg "every_pair" RQ.fu ["many"])
  (F6:Fo K mg "closed" lN ["many","pairs"])
  (F7:Fo K mg "has_ring" RQ.jD ["pairs"])
  (F8:Fo K mg "is_order" RQ.jF ["thing"])
  (F9:Fo K mg "need_order" RQ.hJ ["thing"])
  (F10:Fo K mg "are_apart" RQ.iF ["order","a","b"])
  (F11:Fo K mg "is_turn" RQ.kI ["thing","order"])
  (F12:Fo K mg "are_turns" RQ.iN ["thing","order"])
  (F13:Fo K mg "leads_on" RQ.jG ["order","turn","other"])
  (F14:Fo K mg "goes_round" RQ.gR ["thing","order"])
  (F15:Fo K mg "need_count" RQ.gM ["thing"])
  (F16:Fo K mg "is_ring_of" RQ.gO ["thing","order","put"])
  (F17:Fo K mg "bars" RQ.sO ["thing","order","puts"])
  (F18:Fo K mg "is_case_paper" RQ.eG ["thing","order","count"])
  (F19:Fo K mg "_law_box" RQ.jE ["script","k"])
  (F20:Fo K mg "_law_take" RQ.iQ ["box","many"])
  (F21:Fo K mg "_law_whole" RQ.gZ ["thing"])
  (F22:Fo K mg "_law_odd" RQ.jr ["box"])
  (F23:Fo K mg "_law_shuffled" RQ.eB ["box","some"])
  (F24:Fo K mg "_law_told" RQ.iK ["many","rows"])
  (F25:Fo K mg "_law_order" RQ.gQ ["box","most"])
  (F26:Fo K mg "_law_apart" RQ.gW ["order","a","b"])
  (F27:Fo K mg "_law_turns" RQ.gN ["order"])
  (F28:Fo K mg "_law_on" RQ.ko ["order","one","other"])
  (F29:Fo K mg "_law_turn_good" RQ.dg ["order","thing"])
  (F30:Fo K mg "_law_ring" RQ.iE ["order","thing"])
  (F31:Fo K mg "_law_shows" RQ.gP ["thing","order","put"])
  (F32:Fo K mg "_law_two_ring" RQ.dX ["order","some"])
  (F33:Fo K mg "_law_paper" RQ.gY ["box","order","put","deep"])
  (F34:Fo K mg "_law_bent" RQ.iL ["box","paper","odd"])
  (a35:PySem.W.nsIn K mainGlobals "law"=some (some (.ref f35))) (l35:K.lookup f35=some ⟨oc35,od35,.func (PySem.W.fnOf "law" "law" (iP RQ.kR) (dY RQ.kR) (av RQ.kR) .none kV35 dc35 pm35 an35 cd35 ct35),sl35⟩) (c35:PySem.W.codeIn K cd35 "law"=true) (k35:PySem.W.keepIn K (.ref f35)=true)
  (zB:Jg K=true)
  (yMOST_ROWS:PySem.W.nsIn K mainGlobals "MOST_ROWS"=some (some (.int 8 tMOST_ROWS)))
  (yMOST_THINGS:PySem.W.nsIn K mainGlobals "MOST_THINGS"=some (some (.int 8 tMOST_THINGS)))
  (m0:PySem.W.nsIn K mainGlobals "NoNumber"=some (some (.ref x0)))
  (e0:PySem.W.excIn K x0 [.type "ValueError",.type "Exception",.type "BaseException",.type "object"] "ValueError.__new__"=true)
  (m1:PySem.W.nsIn K mainGlobals "NoOrder"=some (some (.ref x1)))
  (e1:PySem.W.excIn K x1 [.type "ValueError",.type "Exception",.type "BaseException",.type "object"] "ValueError.__new__"=true)
  :∃fd:FuncData,(∀(s:Shared) (v:Value),BindsTo s fd ⟨[v],[]⟩ [("script",v)])/\∀base:Heap,K.In base->base.Ns mainGlobals mg->fL l.prog w K mg base (mS l.prog w) 49 fa fd ["script"] (wQ K):=by
 have e:=hfa.symm.trans (Mb X G a35)
 cases e
 have B:jQ mg:=Hn X G zB
 have kc:=Mb X G yMOST_ROWS
 have iV:=Mb X G yMOST_THINGS
 obtain⟨f1,d1,bt⟩:=F1.ex
 obtain⟨f2,d2,bZ⟩:=F2.ex
 obtain⟨f3,d3,ic⟩:=F3.ex
 obtain⟨f4,d4,cy⟩:=F4.ex
 obtain⟨f5,d5,l9⟩:=F5.ex
 obtain⟨f6,d6,jo⟩:=F6.ex
 obtain⟨f7,d7,fN⟩:=F7.ex
 obtain⟨f8,d8,fU⟩:=F8.ex
 obtain⟨f9,d9,dq⟩:=F9.ex
 obtain⟨f10,d10,eT⟩:=F10.ex
 obtain⟨f11,d11,cK⟩:=F11.ex
 obtain⟨f12,d12,e8⟩:=F12.ex
 obtain⟨f13,d13,fK⟩:=F13.ex
 obtain⟨f14,d14,dv⟩:=F14.ex
 obtain⟨f15,d15,dk⟩:=F15.ex
 obtain⟨f16,d16,di⟩:=F16.ex
 obtain⟨f17,d17,gF⟩:=F17.ex
 obtain⟨f18,d18,cz⟩:=F18.ex
 obtain⟨f19,d19,fW⟩:=F19.ex
 obtain⟨f20,d20,aw⟩:=F20.ex
 obtain⟨f21,d21,bK⟩:=F21.ex
 obtain⟨f22,d22,fP⟩:=F22.ex
 obtain⟨f23,d23,bY⟩:=F23.ex
 obtain⟨f24,d24,eZ⟩:=F24.ex
 obtain⟨f25,d25,dD⟩:=F25.ex
 obtain⟨f26,d26,bJ⟩:=F26.ex
 obtain⟨f27,d27,dh⟩:=F27.ex
 obtain⟨f28,d28,cx⟩:=F28.ex
 obtain⟨f29,d29,aV⟩:=F29.ex
 obtain⟨f30,d30,eY⟩:=F30.ex
 obtain⟨f31,d31,bu⟩:=F31.ex
 obtain⟨f32,d32,cA⟩:=F32.ex
 obtain⟨f33,d33,bw⟩:=F33.ex
 obtain⟨f34,d34,bM⟩:=F34.ex
 have U35:=uZ (st:=RQ.kR) l35 c35 k35
 have Gn:jg K mg "law" RQ.kR ["script"] fa _:=⟨Mb X G a35,U35,U35.binds (ps:=["script"]) λ_ _ _ _ _ _=>zU λ_=>rfl⟩
 obtain⟨ca,hca⟩:∃ca:Str->Addr,ca "NoNumber"=x0/\ca "NoOrder"=x1:=⟨λs=>if s="NoNumber" then x0 else if s="NoOrder" then x1 else 0,by first |rfl |decide |simp,by first |rfl |decide |simp⟩
 have iu:Exc K mg ca "NoNumber":=⟨by rw[hca.1];exact Mb X G m0,by rw[hca.1];exact e0⟩
 have jf:Exc K mg ca "NoOrder":=⟨by rw[hca.2];exact Mb X G m1,by rw[hca.2];exact e1⟩
 refine⟨PySem.W.fnOf "law" "law" (iP RQ.kR) (dY RQ.kR) (av RQ.kR) .none kV35 dc35 pm35 an35 cd35 ct35,λs v=>.of_eq rfl,λbase _ _=>?_⟩
 have cN:=(RQ.rO (P:=l.prog) (w:=w) (base:=base) (ca:=ca) bt B).imp wH
 have c7:=(RQ.sL (P:=l.prog) (w:=w) (base:=base) (ca:=ca) bZ B cN).imp Cp
 have mH:=(RQ.ub (P:=l.prog) (w:=w) (base:=base) (ca:=ca) ic B cN iV).imp Fy
 have ve:=RQ.mQ (P:=l.prog) (w:=w) (base:=base) (ca:=ca) cy B c7
 have jj:=(RQ.mQ (P:=l.prog) (w:=w) (base:=base) (ca:=ca) cy B c7).imp Ej
 have B7:=RQ.nW (P:=l.prog) (w:=w) (base:=base) (ca:=ca) l9 B
 have oC:=vF (P:=l.prog) (w:=w) (base:=base) (ca:=ca) jo l9 B
 have kZ:=(RQ.rh (P:=l.prog) (w:=w) (base:=base) (ca:=ca) fN B).imp Fb
 have lC:=(RQ.rj (P:=l.prog) (w:=w) (base:=base) (ca:=ca) fU B mH jj oC kZ).imp vH
 have jB:=(RQ.pw (P:=l.prog) (w:=w) (base:=base) (ca:=ca) dq B lC jf).imp BN
 have kb:=RQ.pM (P:=l.prog) (w:=w) (base:=base) (ca:=ca) eT B
 have h9:=RQ.uy (P:=l.prog) (w:=w) (base:=base) (ca:=ca) cK B ve kb
 have j5:=RQ.pQ (P:=l.prog) (w:=w) (base:=base) (ca:=ca) e8 B h9
 have kX:=RQ.sf (P:=l.prog) (w:=w) (base:=base) (ca:=ca) fK B
 have jv:=RQ.n9 (P:=l.prog) (w:=w) (base:=base) (ca:=ca) dv B j5 kX
 have jJ:=RQ.ox (P:=l.prog) (w:=w) (base:=base) (ca:=ca) dk B cN iu kc
 have jw:=RQ.nV (P:=l.prog) (w:=w) (base:=base) (ca:=ca) di B jv
 have nX:=rS (P:=l.prog) (w:=w) (base:=base) (ca:=ca) (j:=7) gF (λk F' hk h=>RQ.zo hk gF B h c7 jw h9) 40
 have gJ:=RQ.lZ (P:=l.prog) (w:=w) (base:=base) (ca:=ca) cz B jB jJ nX
 have lF:=RQ.rB (P:=l.prog) (w:=w) (base:=base) (ca:=ca) fW B
 have aK:=RQ.p5 (P:=l.prog) (w:=w) (base:=base) aw B
 have dz:=RQ.o9 (P:=l.prog) (w:=w) (base:=base) (ca:=ca) bK B
 have k8:=RQ.rP (P:=l.prog) (w:=w) (base:=base) fP B aK
 have dW:=RQ.l0 (P:=l.prog) (w:=w) (base:=base) bY B aK
 have ki:=RQ.pR (P:=l.prog) (w:=w) (base:=base) (ca:=ca) eZ B
 have jz:=RQ.nS (P:=l.prog) (w:=w) (base:=base) (ca:=ca) dD B ki aK dW
 have dC:=RQ.ou (P:=l.prog) (w:=w) (base:=base) (ca:=ca) bJ B
 have jx:=RQ.n5 (P:=l.prog) (w:=w) (base:=base) (ca:=ca) dh B dC
 have fO:=RQ.tY (P:=l.prog) (w:=w) (base:=base) (ca:=ca) cx B
 have b8:=RQ.lD (P:=l.prog) (w:=w) (base:=base) (ca:=ca) aV B dz dC
 have j7:=RQ.p6 (P:=l.prog) (w:=w) (base:=base) (ca:=ca) eY B b8 fO
 have fH:=rS (P:=l.prog) (w:=w) (base:=base) (ca:=ca) (j:=3) bu (λk F' hk h=>RQ.pj hk bu B h dz j7 b8) 40
 have gK:=RQ.lU (P:=l.prog) (w:=w) (base:=base) (ca:=ca) cA B fO
 have fA:=oZ (P:=l.prog) (w:=w) (base:=base) (j:=2) bw (λk F' hk h=>RQ.pd (ca:=ca) hk bw B gK jx h aK) 40
 have gy:=oZ (P:=l.prog) (w:=w) (base:=base) (j:=1) bM (λk F' hk h=>RQ.pJ hk bM B h aK) 40
 have Gr:=RQ.B9 (P:=l.prog) (w:=w) (base:=base) (ca:=ca) Gn B lF gJ fH jz aK fA k8 gy
 exact fL.imp (sp:=zO K ca 1 E8) Gr FO
def walk {l:PySem.W.OpenLaw}{q:Program}{loose:List Str}{XP:(Str->Option Value)->Heap->Prop}{YP:World->Heap->Prop}{d:DefRec}{K:Params->Frag}(hn:l.most=some 63)(hdf:d.params.defaults= [])(hi:PyProof.Rows.importsNone q=true)
  (hY:∀(w:World) (h:Heap),YP w h->(K w.params).In h)
  (F:∀(w:World) (mg:Str->Option Value) (fa:Addr) (h:Heap),(K w.params).In h->h.Ns mainGlobals mg->mg d.name=some (.ref fa)->
   ∃fd:FuncData,(∀(s:Shared) (u:Value),BindsTo s fd ⟨[u],[]⟩ [("script",u)])/\∀base:Heap,(K w.params).In base->base.Ns mainGlobals mg->fL l.prog w (K w.params) mg base (mS l.prog w) 49 fa fd ["script"] (wQ (K w.params))) :
  PySem.W.WalkO q loose XP YP l.row.toRowW d [] (λf vs=>PySem.call f vs):=
 L2.C4 (n:=63) (k:=49) (x:="script") (CX:=λw=>mS l.prog w) (sp:=λw=>wQ (K w.params)) hn (by decide) hdf hi ⟨rfl,by decide,by decide,rfl⟩ hY F (λ_ _ a ns hl _ hS=>⟨a,ns,rfl,hS,λ_ _=>rfl⟩) λ_ _ _ _ _ z=>by
  obtain⟨_,_,_,_,_,_,_,_,_,z⟩:=z
  exact z
end RO
namespace HD
noncomputable def vw:PySem.Program:=PySem.W.view PySem.Challenge.pw_rowsorder_k42_case_papers_looked_at [1,2,3,4,5,6,8,9,10,12,13,14,15,16,18,19,20,21,23,24,25,26,27,29,30,31,32,33,34,35,36,37,38,39,40,41,42,43,44,45]
def Hu:PySem.Challenge.rw_rowsorder_k42_case_papers_looked_at.wellSaid=true:=by kernel_rfl
end HD
local macro_rules | `(tactic|o_head $H)=>`(tactic| (
 refine PySem.W.holds_open (q:=HD.vw) (loose:=[]) (Xt:=λs=>PySem.W.xlAt HD.vw [] s && PySem.W.recOk (PySem.W.RowW.records _) s) (XP:=PySem.W.XL HD.vw []) (Yf:=PySem.W.Hook.obs $H) (Ya:=PySem.W.Hook.val $H) (YP:=PySem.W.Hook.says $H) (N:=3540) ?hl (PySem.W.Hook.of $H) (PySem.W.Hook.keeps $H) (λs e=>PySem.W.xl_of s (Bool.and_eq_true_iff.mp e).1) PySem.W.XL.keeps (by rfl) (by rfl) (by rfl) (λs e=>PySem.W.recFacts_of (Bool.and_eq_true_iff.mp e).2) (by rfl) (by first |assumption |decide +kernel) (by decide +kernel) ⟨rfl,rfl,rfl,rfl,rfl,by decide +kernel⟩ ?hw ?hc
 case hl=>exact HD.Cq (by kernel_rfl) (by kernel_rfl) (λs=>by kernel_rfl) (λw os=>by kernel_rfl)))
open PySem PySem.W PyProof.Rows L2
set_option maxRecDepth 100000 in
set_option maxHeartbeats 0 in
theorem PySem.Challenge.cw_rowsorder_k42_case_papers_looked_at_holds : PySem.Challenge.rw_rowsorder_k42_case_papers_looked_at.Holds := by
 w_on;(refine holds_law HD.Hu λHu=>?_);k_head;(case hw=>w_witness2)
 k_fill
 refine RO.walk (l:=PySem.Challenge.rw_rowsorder_k42_case_papers_looked_at) rfl rfl ?hi (λw h Y=>PySem.W.kIn_of Y) ?F
 case hi=>kernel_rfl
 case F=>
  intro w mg fa h KX G hmg
  refine' RO.all_mk KX G hmg ?F1 ?F2 ?F3 ?F4 ?F5 ?F6 ?F7 ?F8 ?F9 ?F10 ?F11 ?F12 ?F13 ?F14 ?F15 ?F16 ?F17 ?F18 ?F19 ?F20 ?F21 ?F22 ?F23 ?F24 ?F25 ?F26 ?F27 ?F28 ?F29 ?F30 ?F31 ?F32 ?F33 ?F34 ?a35 ?l35 ?c35 ?k35 ?zB ?yMOST_ROWS ?yMOST_THINGS ?m0 ?e0 ?m1 ?e1
  case F1=>refine' bV KX G RO.vK ?a ?l ?c ?k;(case a=>k_is);(case l=>k_is);(case c=>k_is);(case k=>k_is)
  case F2=>refine' bV KX G RO.vm ?a ?l ?c ?k;(case a=>k_is);(case l=>k_is);(case c=>k_is);(case k=>k_is)
  case F3=>refine' bV KX G RO.yq ?a ?l ?c ?k;(case a=>k_is);(case l=>k_is);(case c=>k_is);(case k=>k_is)
  case F4=>refine' bV KX G RO.yM ?a ?l ?c ?k;(case a=>k_is);(case l=>k_is);(case c=>k_is);(case k=>k_is)
  case F5=>refine' bV KX G RO.rK ?a ?l ?c ?k;(case a=>k_is);(case l=>k_is);(case c=>k_is);(case k=>k_is)
  case F6=>refine' bV KX G RO.AH ?a ?l ?c ?k;(case a=>k_is);(case l=>k_is);(case c=>k_is);(case k=>k_is)
  case F7=>refine' bV KX G RO.wj ?a ?l ?c ?k;(case a=>k_is);(case l=>k_is);(case c=>k_is);(case k=>k_is)
  case F8=>refine' bV KX G RO.vA ?a ?l ?c ?k;(case a=>k_is);(case l=>k_is);(case c=>k_is);(case k=>k_is)
  case F9=>refine' bV KX G RO.so ?a ?l ?c ?k;(case a=>k_is);(case l=>k_is);(case c=>k_is);(case k=>k_is)
  case F10=>refine' bV KX G RO.uv ?a ?l ?c ?k;(case a=>k_is);(case l=>k_is);(case c=>k_is);(case k=>k_is)
  case F11=>refine' bV KX G RO.yy ?a ?l ?c ?k;(case a=>k_is);(case l=>k_is);(case c=>k_is);(case k=>k_is)
  case F12=>refine' bV KX G RO.tM ?a ?l ?c ?k;(case a=>k_is);(case l=>k_is);(case c=>k_is);(case k=>k_is)
  case F13=>refine' bV KX G RO.u6 ?a ?l ?c ?k;(case a=>k_is);(case l=>k_is);(case c=>k_is);(case k=>k_is)
  case F14=>refine' bV KX G RO.rn ?a ?l ?c ?k;(case a=>k_is);(case l=>k_is);(case c=>k_is);(case k=>k_is)
  case F15=>refine' bV KX G RO.rl ?a ?l ?c ?k;(case a=>k_is);(case l=>k_is);(case c=>k_is);(case k=>k_is)
  case F16=>refine' bV KX G RO.rT ?a ?l ?c ?k;(case a=>k_is);(case l=>k_is);(case c=>k_is);(case k=>k_is)
  case F17=>refine' bV KX G RO.EK ?a ?l ?c ?k;(case a=>k_is);(case l=>k_is);(case c=>k_is);(case k=>k_is)
  case F18=>refine' bV KX G RO.ng ?a ?l ?c ?k;(case a=>k_is);(case l=>k_is);(case c=>k_is);(case k=>k_is)
  case F19=>refine' bV KX G RO.vk ?a ?l ?c ?k;(case a=>k_is);(case l=>k_is);(case c=>k_is);(case k=>k_is)
  case F20=>refine' bV KX G RO.tX ?a ?l ?c ?k;(case a=>k_is);(case l=>k_is);(case c=>k_is);(case k=>k_is)
  case F21=>refine' bV KX G RO.qV ?a ?l ?c ?k;(case a=>k_is);(case l=>k_is);(case c=>k_is);(case k=>k_is)
  case F22=>refine' bV KX G RO.vN ?a ?l ?c ?k;(case a=>k_is);(case l=>k_is);(case c=>k_is);(case k=>k_is)
  case F23=>refine' bV KX G RO.nj ?a ?l ?c ?k;(case a=>k_is);(case l=>k_is);(case c=>k_is);(case k=>k_is)
  case F24=>refine' bV KX G RO.uz ?a ?l ?c ?k;(case a=>k_is);(case l=>k_is);(case c=>k_is);(case k=>k_is)
  case F25=>refine' bV KX G RO.rV ?a ?l ?c ?k;(case a=>k_is);(case l=>k_is);(case c=>k_is);(case k=>k_is)
  case F26=>refine' bV KX G RO.rY ?a ?l ?c ?k;(case a=>k_is);(case l=>k_is);(case c=>k_is);(case k=>k_is)
  case F27=>refine' bV KX G RO.rE ?a ?l ?c ?k;(case a=>k_is);(case l=>k_is);(case c=>k_is);(case k=>k_is)
  case F28=>refine' bV KX G RO.xZ ?a ?l ?c ?k;(case a=>k_is);(case l=>k_is);(case c=>k_is);(case k=>k_is)
  case F29=>refine' bV KX G RO.my ?a ?l ?c ?k;(case a=>k_is);(case l=>k_is);(case c=>k_is);(case k=>k_is)
  case F30=>refine' bV KX G RO.tK ?a ?l ?c ?k;(case a=>k_is);(case l=>k_is);(case c=>k_is);(case k=>k_is)
  case F31=>refine' bV KX G RO.se ?a ?l ?c ?k;(case a=>k_is);(case l=>k_is);(case c=>k_is);(case k=>k_is)
  case F32=>refine' bV KX G RO.ni ?a ?l ?c ?k;(case a=>k_is);(case l=>k_is);(case c=>k_is);(case k=>k_is)
  case F33=>refine' bV KX G RO.rX ?a ?l ?c ?k;(case a=>k_is);(case l=>k_is);(case c=>k_is);(case k=>k_is)
  case F34=>refine' bV KX G RO.uR ?a ?l ?c ?k;(case a=>k_is);(case l=>k_is);(case c=>k_is);(case k=>k_is)
  case a35=>k_is
  case l35=>k_is
  case c35=>k_is
  case k35=>k_is
  case zB=>kernel_rfl
  case yMOST_ROWS=>k_is
  case yMOST_THINGS=>k_is
  case m0=>k_is
  case e0=>kernel_rfl
  case m1=>k_is
  case e1=>kernel_rfl
end
