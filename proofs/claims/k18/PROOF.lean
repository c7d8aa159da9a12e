import PyProof.Rows.All
import Wide.All
import OpenK.AllK
import Wide.FinOn
import Lean
import PyProof.EqAt
import PyProof.EqKinds
import PyProof.TupleCall
import PySem.SetOps
import PyProof.SetKind
import PyProof.TupleKey
import PyProof.DictKinds
import PyProof.Rows.SetFrom
import PyProof.WalksMore
import KE.KSortTup
import PyProof.CollectWalk
import PyProof.ExcArgsOwn
import PyProof.Rows.CountFlat
import PyProof.Rows.SeqMore2
import PyProof.Rows.FStr
import PyProof.Rows.StrWeight2
import PyProof.Rows.StrNews
import PyProof.StrLawsTight
import PyProof.ExcBaseAll.ValueError
import PyProof.ZipIter
import PyProof.CallFns
import PyProof.Draws
import PyProof.EnumMake
import PyProof.SetRoads
import PyProof.Rows.SortWalk
import PyProof.SeqI3
import PyProof.Rows.SortShell
import PyProof.Rows.Range3
import KE.KStateDown
import PyProof.Rows.SumAny
import PyProof.ListRange
import PyProof.MaxThree
import PyProof.IsiH_list
import PyProof.RaisesAny
import KE.KDictOf
import PyProof.Rows.BitMore
import PySem.Challenge.RW_rowsorder_k18_chains_looked_at
set_option Elab.async false
set_option linter.all false
set_option maxRecDepth 100000
set_option maxHeartbeats 1000000
def J6:=@List.getElem?_eq_getElem
def J8:=@PySem.wpAny_bind
def J9:=@List.mem_cons_of_mem
def Ka:=@PySem.Heap.get?_push_of_some
def Kb:=@List.length_map
def Kc:=@PySem.wpAny_pure
def Kd:=@List.mem_cons_self
def Ke:=@List.mem_cons
def Kf:=@if_pos
def Kg:=@Nat.le_refl
def Kh:=@decide_eq_true
def Ki:=@if_neg
def Kj:=@List.mem_of_getElem?
def Kk:=@List.getElem?_map
def Kl:=@PySem.Heap.lt_size
def Km:=@List.getElem?_set_ne
def Kn:=@List.mem_map
def Ko:=@List.getD_eq_getElem?_getD
def Kq:=@Bool.and_eq_true
def Kr:=@decide_eq_false
def Ks:=@List.getElem?_eq_some_iff
def Ku:=@List.length_append
def Kv:=@List.size_toArray
def Kw:=@List.getElem?_set_self
def Kx:=@Bool.false_eq_true
def Ky:=@PySem.Heap.get?_push_size
def Kz:=@List.mem_singleton
def KA:=@List.mem_append
def KC:=@Bool.false_ne_true
def KD:=@List.mem_range
def KG:=@List.length_cons
def KH:=@PySem.sizeLine_eq
def KI:=@List.nodup_cons
def KJ:=@Array.getElem?_eq_getElem
def KL:=@Nat.lt_of_lt_of_le
def KN:=@Nat.ne_of_lt
def KO:=@List.getElem?_append_right
def KP:=@List.all_eq_true
def KQ:=@List.getElem?_append_left
def KR:=@List.mem_append_right
def KS:=@List.getElem_mem
def KU:=@Nat.lt_irrefl
def KW:=@List.mem_iff_getElem
def KY:=@Nat.zero_le
def KZ:=@if_false
def K0:=@decide_eq_true_eq
def K1:=@Array.getD_eq_getD_getElem?
def K2:=@List.map_cons
def K3:=@List.length_set
def K4:=@List.length_take
def K5:=@PySem.Heap.get?_update_self
def K6:=@Int.toNat_natCast
def K7:=@PySem.wpAny_setState_of
def K8:=@PyProof.Rows.F.plain_set_update_loop
def K9:=@PySem.W.kia_one
def Ld:=@Array.getElem?_eq_some_iff
def Lf:=@Nat.le_trans
def Lg:=@if_true
def Lj:=@List.mem_filter
def Lk:=@PySem.F.called_set
def Lm:=@List.toList_toArray
def Ln:=@List.pairwise_map
def Lo:=@List.take_add_one
def Lp:=@PySem.wpAny_holding
def Lr:=@Nat.lt_or_ge
def Ls:=@List.map_append
def Lu:=@PySem.Heap.get?_update_other
def Lv:=@List.take_of_length_le
def Lw:=@Nat.mul_le_mul
def Lz:=@PySem.boot_len
def LA:=@Bool.eq_iff_iff
def LB:=@List.pairwise_iff_getElem
def LC:=@List.Pairwise.imp_of_mem
def LD:=@PyProof.Rows.F.entry_set_update_loop
def LF:=@List.mem_append_left
def LG:=@PySem.Around.under_plainId
def LH:=@PySem.Heap.size_push
def LI:=@List.getElem?_replicate
def LJ:=@PySem.F.plainAttrs_list
def LK:=@PySem.wpAny_truthy_bool
def LL:=@PySem.codeAny_builtin
def LM:=@List.map_congr_left
def LN:=@PySem.wpAny_mono
def LO:=@List.mem_filterMap
def LP:=@Array.getElem?_toList
def LQ:=@List.mem_of_mem_take
def LR:=@List.set_eq_of_length_le
def LS:=@PySem.Value.isInt_shape
def LU:=@List.append_assoc
def LV:=@List.length_range
def LW:=@List.filterMap_cons
def LX:=@Array.length_toList
def LY:=@PySem.mem_of_lookup
def LZ:=@List.length_pos_iff
def L0:=@List.nodup_range
def L1:=@List.not_mem_nil
def L3:=@Int.emod_lt_of_pos
def L4:=@PySem.wpAny_passesOwn
def L5:=@List.append_nil
def L6:=@List.length_replicate
def L7:=@Int.emod_nonneg
def L8:=@List.take_append_drop
def L9:=@List.length_filter_le
def Ma:=@List.getElem?_eq_none
def Mb:=@List.nodup_iff_pairwise_ne
def Mc:=@List.ext_getElem?
def Me:=@Bool.not_eq_true'
def Mf:=@Array.mem_toList_iff
def Mg:=@List.getElem?_eq_none_iff
def Mh:=@List.drop_eq_getElem_cons
def Mi:=@PySem.codeAny_mono
def Mj:=@List.length_drop
def Mk:=@Nat.zero_add
def Ml:=@PySem.wpAny_call_entry
def Mm:=@PySem.F.slot_list_append
def Mn:=@PySem.F.type_list_append
def Mo:=@Int.zero_add
def Mp:=@List.replicate_succ
def Mq:=@Int.toNat_of_nonneg
def Mr:=@List.filter_cons_of_pos
def Ms:=@List.filter_cons_of_neg
def Mt:=@Bool.not_true
def Mu:=@Bool.and_self
def Mv:=@List.any_cons
def Mw:=@List.all_cons
def My:=@PySem.strLen_append
def Mz:=@List.length_nil
def MA:=@Array.getElem?_eq_none
def MB:=@PySem.SeqAt.canLay_of_shaped
def MC:=@PySem.wpAny_pyIter_list
def MD:=@List.flatten_cons
def ME:=@Nat.lt_trichotomy
def MF:=@Nat.lt_succ_of_lt
def MG:=@PySem.wpAny_newObj_type
def MH:=@List.getElem?_toArray
def MI:=@PySem.wpAny_setField
def MJ:=@PyProof.Rows.callWith_type1
def MK:=@PySem.wpAny_askSetting
def ML:=@List.lookup_cons
def MM:=@List.drop_length
def MN:=@Nat.le_succ
def MO:=@List.filter_sublist
def MP:=@List.getElem?_take_of_lt
def MQ:=@List.length_erase_of_mem
def MR:=@PySem.putSet_of
def MS:=@PySem.wpAny_pyIter_tuple
def MT:=@List.eq_of_mem_replicate
def MU:=@PySem.isSubtype_type
def MV:=@Bool.and_false
def MW:=@List.reverse_cons
def MX:=@PySem.wpAny_storeSet_of
def MY:=@List.flatMap_cons
def MZ:=@of_decide_eq_true
def M1:=@List.idxOf_append
open List (foldl_cons nodup_nil map_map set_set)
open PySem.W (Frag)
open PySem.PyData (int)
section
set_option Elab.async false
namespace L2
open PySem PySem.Spec PyProof.Rows
abbrev Key:=Sum Int Str
def oz:Key->Value->Bool
 | .inl k,v=>Value.isInt k v
 | .inr x,v=>Value.isStrOf x v
def Jp (w:World):Key->Int
 | .inl k=>hashInt k
 | .inr x=>hashStr w x
theorem bD:∀{k:Key} {v:Value},oz k v=true->(∃i t,k=Sum.inl i/\v=Value.int i t)\/(∃x t,k=Sum.inr x/\v=Value.str x t)
 | .inl i,v,h=>by
  obtain⟨t,e⟩:=LS (k:=i) (v:=v) h
  exact .inl ⟨i,t,rfl,e⟩
 | .inr x,v,h=>by
  obtain⟨t,e⟩:=Value.isStrOf_shape (x:=x) (v:=v) h
  exact .inr ⟨x,t,rfl,e⟩
def yM (i:Int)(t:Tok):oz (.inl i) (.int i t)=true:=by simp[oz,Value.isInt]
def xT (x:Str)(t:Tok):oz (.inr x) (.str x t)=true:=by simp[oz,Value.isStrOf]
def Eg (a b:Int):decide ((Sum.inl a:Key)=Sum.inl b)=(a == b):=by
 by_cases e:a=b
 ·subst e;simp
 ·have h:¬(Sum.inl a:Key)=Sum.inl b:=λq=>e (Sum.inl.inj q)
  rw[Kr h]
  exact (beq_eq_false_iff_ne.mpr e).symm
def FO (a b:Str):decide ((Sum.inr a:Key)=Sum.inr b)=decide (a=b):=by
 by_cases e:a=b
 ·subst e;simp
 ·have h:¬(Sum.inr a:Key)=Sum.inr b:=λq=>e (Sum.inr.inj q)
  rw[Kr h,Kr e]
def EV (a:Int)(b:Str):decide ((Sum.inl a:Key)=Sum.inr b)=false:=Kr (λq=>nomatch q)
def Fy (a:Str)(b:Int):decide ((Sum.inr a:Key)=Sum.inl b)=false:=Kr (λq=>nomatch q)
def cU (prog:Program)(w:World):PySem.KeyKind prog w Key where
 is:=oz
 hash:=Jp w
 inj:=λv a b ha hb=>by
  rcases bD ha with⟨i,t,rfl,rfl⟩ | ⟨x,t,rfl,rfl⟩
  ·rcases bD hb with⟨j,u,rfl,e⟩ | ⟨y,u,rfl,e⟩
   ·injection e with e1 _;rw[e1]
   ·exact nomatch e
  ·rcases bD hb with⟨j,u,rfl,e⟩ | ⟨y,u,rfl,e⟩
   ·exact nomatch e
   ·injection e with e1 _;rw[e1]
 byValue:=λk v h=>by
  rcases bD h with⟨i,t,rfl,rfl⟩ | ⟨x,t,rfl,rfl⟩ <;> rfl
 pyHash:=λhv h=>by
  rcases bD hv with⟨i,t,rfl,rfl⟩ | ⟨x,t,rfl,rfl⟩
  ·exact wpAny_pyHash_int h
  ·exact wpAny_pyHash_str h
 eqBool:=λhu hv h=>by
  rcases bD hu with⟨i,t,rfl,rfl⟩ | ⟨x,t,rfl,rfl⟩
  ·rcases bD hv with⟨j,u,rfl,rfl⟩ | ⟨y,u,rfl,rfl⟩
   ·rw[Eg] at h;exact wpAny_eqBool_int h
   ·rw[EV] at h;exact SeqAt.EqAt.int_str i t y u _ _ _ _ h
  ·rcases bD hv with⟨j,u,rfl,rfl⟩ | ⟨y,u,rfl,rfl⟩
   ·rw[Fy] at h;exact SeqAt.EqAt.str_int x t j u _ _ _ _ h
   ·rw[FO] at h;exact wpAny_eqBool_str h
 «strs»:=λk x t v h=>by
  rcases bD h with⟨i,u,rfl,e⟩ | ⟨y,u,rfl,e⟩
  ·exact nomatch e
  ·injection e with e1 _
   subst e1
   cases v <;> rfl
def uz (prog:Program)(w:World)(i:Int)(t:Tok):(cU prog w).is (.inl i) (.int i t)=true:=yM i t
def uc (prog:Program)(w:World)(x:Str)(t:Tok):(cU prog w).is (.inr x) (.str x t)=true:=xT x t
inductive V where
 |non |bl (b:Bool) |int (i:Int) |str (x:Str) |byt (b:Array UInt8) |flt (b:UInt64) |ref (a:Addr) |ty (n:String)
 deriving DecidableEq
def RelV:V->Value->Prop
 | .non,u=>u=Value.none
 | .bl b,u=>u=Value.bool b
 | .int i,u=>∃t,u=Value.int i t
 | .str x,u=>∃t,u=Value.str x t
 | .byt b,u=>∃t,u=Value.bytes b t
 | .flt b,u=>∃t,u=Value.float b t
 | .ref a,u=>u=Value.ref a
 | .ty n,u=>u=Value.type n
abbrev Vals:List V->List Value->Prop:=Paired RelV
def Vals.length {xs:List V}{us:List Value}(r:Vals xs us):xs.length=us.length:=Paired.length r
theorem Vals.get:∀{xs:List V} {us:List Value} {i:Nat} {x:V},Vals xs us->xs[i]? =some x->∃u,us[i]? =some u/\RelV x u
 |_,_,_,_,.nil,e=>by simp at e
 |_,_,0,_,.cons r _,e=>by simp at e;subst e;exact⟨_,rfl,r⟩
 |_,_,i + 1,x,.cons _ t,e=>by
  obtain⟨u,h1,h2⟩:=Vals.get (i:=i) (x:=x) t (by simpa using e)
  exact⟨u,by simpa using h1,h2⟩
theorem Vals.set {x:V}{u:Value}(r:RelV x u):∀{xs:List V} {us:List Value} (i:Nat),Vals xs us->Vals (xs.set i x) (us.set i u)
 |_,_,_,.nil=>.nil
 |_,_,0,.cons _ t=>.cons r t
 |_,_,i + 1,.cons q t=>.cons q (Vals.set r i t)
theorem Vals.append:∀{xs ys:List V} {us ws:List Value},Vals xs us->Vals ys ws->Vals (xs ++ ys) (us ++ ws)
 |_,_,_,_,.nil,s=>s
 |_,_,_,_,.cons r t,s=>.cons r (Vals.append t s)
theorem Vals.take:∀{xs:List V} {us:List Value} (n:Nat),Vals xs us->Vals (xs.take n) (us.take n)
 |_,_,0,_=>.nil
 |_,_,_ + 1,.nil=>.nil
 |_,_,n + 1,.cons r t=>.cons r (Vals.take n t)
theorem Vals.drop:∀{xs:List V} {us:List Value} (n:Nat),Vals xs us->Vals (xs.drop n) (us.drop n)
 |_,_,0,r=>r
 |_,_,_ + 1,.nil=>.nil
 |_,_,n + 1,.cons _ t=>Vals.drop n t
def zj:Option V->Option Value->Prop
 |some v,some u=>RelV v u
 |none,none=>True
 |_,_=>False
def KV {κ:Type}:List (κ×V)->List (κ×Value)->Prop:=Paired λ(p:κ×V) (q:κ×Value)=>p.1=q.1/\RelV p.2 q.2
def kV:Key->V
 | .inl i=>.int i
 | .inr x=>.str x
inductive HO where
 |lst (xs:List V)
 |tup (xs:List V)
 |dK (kvs:List (Key×V)) |dT (kvs:List (List Key×V))
 |set (S:Int->Bool) (n:Nat)
 |ins (C dx:Addr) (fs:List (Str×V))
 |own (x:Addr)
 |xd (fs:List (Str×V))
 |met (f x:Addr)
 |iB (lo hi:Int)
 |aQ (o:Obj) (u:HO)
 |tbl (ps:Array Value)
 |ext (φ:Heap->Prop)
abbrev Hp:=Addr->Option HO
def upd (H:Hp)(a:Addr)(o:HO):Hp:=λb=>if b=a then some o else H b
def ak {H:Hp}{a:Addr}{o:HO}:upd H a o a=some o:=by unfold upd;rw[Kf rfl]
def aq {H:Hp}{a b:Addr}{o:HO}(h:b≠a):upd H a o b=H b:=by unfold upd;rw[Ki h]
def CZ {H:Hp}{a:Addr}{o u:HO}:upd (upd H a o) a u=upd H a u:=by
 funext b;unfold upd;split <;> rfl
def DS {H:Hp}{a b:Addr}{o u:HO}(h:H a=some o)(h':H b=some u)(d:o≠u):a≠b:=by
 intro e;subst e;rw[h] at h';exact d (Option.some.inj h')
def ax {H:Hp}{a b:Addr}{o:HO}(h:H a=some o)(h':H b=none):a≠b:=by
 intro e;subst e;rw[h] at h';cases h'
section
variable (P:Program)(w:World)
def u6 (h:Heap)(a:Addr)(items:Array Value):Prop:=∃o,h.get? a=some o/\o.cls=.type "tuple"/\∃n,o.data=.seq items n/\o.dict=none
def u6.isTup {h:Heap}{a:Addr}{items:Array Value}(x:u6 h a items):IsTup h a items:=let ⟨o,e,c,n,d,_⟩:=x;⟨o,e,c,n,d⟩
def u6.new (h:Heap)(items:Array Value):u6 (h.push {cls:=.type "tuple",data:=.seq items}) h.objs.size items:=⟨_,Ky _ rfl,rfl,_,rfl,rfl⟩
def bA (H:Hp)(h:Heap)(a:Addr):HO->Prop
 | .lst xs=>xs.length<=sizeLine/\∃(its:List Value) (n:Nat),Vals xs its/\h.get? a=some {cls:=.type "list",data:=.seq its.toArray n}
 | .tup xs=>xs.length<=sizeLine/\∃its:List Value,Vals xs its/\u6 h a its.toArray
 | .dK kvs=>kvs.length<=sizeLine/\(a == sysModules)=false/\∃vs,KV kvs vs/\h.DictOf (cU P w) a vs
 | .dT kvs=>kvs.length<=sizeLine/\(a == sysModules)=false/\∃xs:List (List Key×Addr×Value),
   Paired (λ(p:List Key×V) (q:List Key×Addr×Value)=>p.1=q.1/\(H q.2.1=some (.tup (p.1.map kV))\/∃o,H q.2.1=some (.aQ o (.tup (p.1.map kV))))/\RelV p.2 q.2.2) kvs xs/\
   ∃o es ep,h.get? a=some o/\o.ExactDict/\o.data=.dict es ep/\es.toList=xs.map (entryOfKey (tupleKind (cU P w)))/\(xs.map (·.1)).Nodup
 | .set S n=>h.SetOf (intKind P w) a S n
 | .ins C dx fs=>H dx=some (.own a)/\fs.length<=1000/\dx≠a/\h.get? a=some (PySem.W.instObj C dx)/\
   ∃mA,h.Ns1 dx mA/\(∀f,zj (fs.lookup f) (mA f))/\PySem.Within mA (fs.map (·.1))
 | .own _=>∃o,h.get? a=some o
 | .xd fs=>∃mA,h.Ns1 a mA/\∀f,zj (fs.lookup f) (mA f)
 | .iB lo hi=>∃t u v,h.get? a=some {cls:=.type "range",data:=.fields #[.int lo t,.int hi u,.int 1 v]}
 | .aQ o u=>h.get? a=some o/\bA H h a u
 | .tbl ps=>h.get? a=some {cls:=.none,data:=.fields ps}
 | .met f x=>h.get? a=some (PySem.W.methodObj (.ref f) (.ref x))
 | .ext φ=>φ h/\(∃o,h.get? a=some o)/\∀h1 h2:Heap,φ h1->(∀o,h1.get? a=some o->h2.get? a=some o)->φ h2
def jP (H:Hp)(h:Heap):Prop:=∀a o,H a=some o->bA P w H h a o
end
section
variable {P:Program}{w:World}{H H':Hp}{h h':Heap}{a:Addr}{o:HO}
theorem bA.lt (x:bA P w H h a o):a < h.objs.size:=by
 cases o with
 |lst xs=>obtain⟨_,_,_,_,e⟩:=x;exact Kl e
 |tup xs=>obtain⟨_,_,_,p⟩:=x;exact p.isTup.lt
 |dK kvs=>obtain⟨_,_,_,_,o,_,_,e,_⟩:=x;exact Kl e
 |dT kvs=>obtain⟨_,_,_,_,o,_,_,e,_⟩:=x;exact Kl e
 |set S n=>obtain⟨o,_,_,_,e,_⟩:=x;exact Kl e
 |ins C dx fs=>obtain⟨_,_,_,e,_⟩:=x;exact Kl e
 |own y=>obtain⟨_,e⟩:=x;exact Kl e
 |xd fs=>obtain⟨_,⟨_,_,_,e,_⟩,_⟩:=x;exact Kl e
 |iB lo hi=>obtain⟨_,_,_,e⟩:=x;exact Kl e
 |aQ ob u=>obtain⟨e,_⟩:=x;exact Kl e
 |tbl ps=>exact Kl (show h.get? a=some _ from x)
 |met f y=>exact Kl (show h.get? a=some _ from x)
 |ext φ=>obtain⟨_,⟨_,e⟩,_⟩:=x;exact Kl e
theorem Paired.mapP {α β:Type}{F G:α->β->Prop}:∀{l₁:List α} {l₂:List β},Paired F l₁ l₂->(∀a b,F a b->G a b)->Paired G l₁ l₂
 |_,_,.nil,_=>.nil
 |_,_,.cons r t,f=>.cons (f _ _ r) (Paired.mapP t f)
theorem bA.stay (x:bA P w H h a o)(k:∀b u,(b=a\/H b=some (.own a))->h.get? b=some u->h'.get? b=some u)
  (ho:∀b,H b=some (.own a)->H' b=some (.own a)) (ht:∀b xs,(H b=some (.tup xs)\/∃o,H b=some (.aQ o (.tup xs)))->(H' b=some (.tup xs)\/∃o,H' b=some (.aQ o (.tup xs)))):bA P w H' h' a o:=by
 induction o with
 |lst xs=>obtain⟨z,its,n,r,e⟩:=x;exact⟨z,its,n,r,k _ _ (.inl rfl) e⟩
 |tup xs=>obtain⟨z,its,r,ob,e,c⟩:=x;exact⟨z,its,r,ob,k _ _ (.inl rfl) e,c⟩
 |dK kvs=>obtain⟨z,y,vs,r,ob,es,ep,e,c⟩:=x;exact⟨z,y,vs,r,ob,es,ep,k _ _ (.inl rfl) e,c⟩
 |dT kvs=>
  obtain⟨z,y,xs,r,ob,es,ep,e,c⟩:=x
  exact⟨z,y,xs,Paired.mapP r λp q z=>⟨z.1,ht _ _ z.2.1,z.2.2⟩,ob,es,ep,k _ _ (.inl rfl) e,c⟩
 |set S n=>obtain⟨ob,es,ep,t,e,c⟩:=x;exact⟨ob,es,ep,t,k _ _ (.inl rfl) e,c⟩
 |ins C dx fs=>
  obtain⟨d,z,ne,e,mA,⟨od,es,ep,e2,c⟩,r⟩:=x
  exact⟨ho _ d,z,ne,k _ _ (.inl rfl) e,mA,⟨od,es,ep,k _ _ (.inr d) e2,c⟩,r⟩
 |own y=>obtain⟨ob,e⟩:=x;exact⟨ob,k _ _ (.inl rfl) e⟩
 |xd fs=>obtain⟨mA,⟨od,es,ep,e,c⟩,r⟩:=x;exact⟨mA,⟨od,es,ep,k _ _ (.inl rfl) e,c⟩,r⟩
 |iB lo hi=>obtain⟨t,u,v,e⟩:=x;exact⟨t,u,v,k _ _ (.inl rfl) e⟩
 |aQ ob u ih=>obtain⟨e,q⟩:=x;exact⟨k _ _ (.inl rfl) e,ih q⟩
 |tbl ps=>
  have e:h.get? a=some {cls:=.none,data:=.fields ps}:=x
  show h'.get? a=some {cls:=.none,data:=.fields ps}
  exact k a _ (.inl rfl) e
 |met f y=>
  have e:h.get? a=some (PySem.W.methodObj (.ref f) (.ref y)):=x
  show h'.get? a=some (PySem.W.methodObj (.ref f) (.ref y))
  exact k a _ (.inl rfl) e
 |ext φ=>obtain⟨p,⟨o,e⟩,st⟩:=x;exact⟨st _ _ p λo q=>k _ _ (.inl rfl) q,⟨o,k _ _ (.inl rfl) e⟩,st⟩
def jP.lt (x:jP P w H h)(e:H a=some o):a < h.objs.size:=(x a o e).lt
theorem jP.fresh (x:jP P w H h)(e:h.objs.size<=a):H a=none:=by
 cases q:H a with
 |none=>rfl
 |some u=>exact absurd (KL (x.lt q) e) (KU _)
def jP.kept (x:jP P w H h)(k:∀b u,h.get? b=some u->h'.get? b=some u):jP P w H h':=λa o e=>
 (x a o e).stay (λb u _ q=>k b u q) (λ_ q=>q) λ_ _ q=>q
def jP.laid (x:jP P w H h)(k:∀b u,h.get? b=some u->h'.get? b=some u)(hp:h.objs.size<=a)(new:bA P w (upd H a o) h' a o):jP P w (upd H a o) h':=λb u e=>by
 have hn:=x.fresh hp
 by_cases hb:b=a
 ·subst hb;rw[ak] at e;cases e;exact new
 ·rw[aq hb] at e
  exact (x b u e).stay (λc v _ q=>k c v q) (λc q=>by rw[aq (ax q hn)];exact q) λc xs q=>q.imp (λq=>by rw[aq (ax q hn)];exact q) λ⟨o,q⟩=>⟨o,by rw[aq (ax q hn)];exact q⟩
end
def Rd (H:Hp)(a:Addr)(u:HO):Prop:=H a=some u\/∃o,H a=some (.aQ o u)
def Rd.ok {P:Program}{w:World}{H:Hp}{h:Heap}{a:Addr}{u:HO}(r:Rd H a u)(x:jP P w H h):bA P w H h a u:=by
 rcases r with r | ⟨o,r⟩
 ·exact x a u r
 ·obtain⟨_,q⟩:=x a _ r
  exact q
def GG:Option HO->Prop
 |some (.lst _)=>True
 |some (.dK _)=>True
 |some (.dT _)=>True
 |some (.set _ _)=>True
 |some (.ins _ _ _)=>True
 |some (.ext _)=>True
 |_=>False
section
variable {P:Program}{w:World}{H:Hp}{h h':Heap}{x e:Addr}{o':HO}
def jP.write (ok:jP P w H h)(mu:GG (H x))(he:e=x\/H e=some (.own x))(k:∀b u,b≠e->h.get? b=some u->h'.get? b=some u)(heo:∃u,h'.get? e=some u)
  (new:bA P w (upd H x o') h' x o'):jP P w (upd H x o') h':=λb u q=>by
 have nown:∀c y,H c=some (.own y)->c≠x:=λc y r z=>by subst z;rw[r] at mu;exact mu
 have ntup:∀c xs,H c=some (.tup xs)->c≠x:=λc xs r z=>by subst z;rw[r] at mu;exact mu
 by_cases hb:b=x
 ·subst hb;rw[ak] at q;cases q;exact new
 ·rw[aq hb] at q
  by_cases hbe:b=e
  ·have q':H b=some (.own x):=by
    rcases he with z |z
    ·exact absurd (hbe.trans z) hb
    ·rw[hbe];exact z
   rw[q] at q';cases q'
   obtain⟨v,hv⟩:=heo
   exact⟨v,by rw[hbe];exact hv⟩
  ·refine (ok b u q).stay (λc v hc r=>k c v ?_ r) (λc r=>by rw[aq (nown c b r)];exact r) λc xs r=>r.imp (λr=>by rw[aq (ntup c xs r)];exact r) λ⟨o,r⟩=>⟨o,by rw[aq (λz=>by subst z;rw[r] at mu;exact mu)];exact r⟩
   rcases hc with rfl |hc
   ·exact hbe
   ·rintro rfl
    rcases he with z |z
    ·exact nown c b hc z
    ·rw[hc] at z;cases z;exact hb rfl
end
structure Un (fs ex:List Addr)(H H':Hp)(h h':Heap):Prop where
 keep:∀b o,h.get? b=some o->H b=none->b∉fs->b∉ex->h'.get? b=some o
 slot:∀b o,h.get? b=some o->H b=none->b∈fs->b∉ex->∃sl,h'.get? b=some {o with slots:=sl}
 free:∀b o,h.get? b=some o->H b=none->b∉ex->H' b=none
 there:∀b o,h.get? b=some o->b∉ex->∃o',h'.get? b=some o'
 tups:∀b xs,H b=some (.tup xs)->H' b=some (.tup xs)
 frzs:∀b o u,H b=some (.aQ o u)->H' b=some (.aQ o u)
 tbls:∀b ps,H b=some (.tbl ps)->∃more,H' b=some (.tbl (ps ++ more))
section
variable {fs fs' ex ex':List Addr}{H H1 H2:Hp}{h h1 h2 h':Heap}{a x e:Addr}{o:HO}
def Un.any (u:Un fs ex H H1 h h1){b:Addr}{ob:Obj}(q:h.get? b=some ob)(n:H b=none)(hx:b∉ex):∃sl,h1.get? b=some {ob with slots:=sl}:=by
 by_cases hb:b∈fs
 ·exact u.slot b ob q n hb hx
 ·exact⟨ob.slots,u.keep b ob q n hb hx⟩
def Un.kept (k:∀b u,h.get? b=some u->h'.get? b=some u):Un fs ex H H h h':=
 ⟨λb ob q _ _ _=>k b ob q,λb ob q _ _ _=>⟨ob.slots,k b ob q⟩,λ_ _ _ n _=>n,λb ob q _=>⟨ob,k b ob q⟩,λ_ _ q=>q,λ_ _ _ q=>q,λ_ ps q=>⟨#[],by rw[q];simp⟩⟩
def Un.refl:Un fs ex H H h h:=Un.kept λ_ _ q=>q
def Un.laid (k:∀b u,h.get? b=some u->h'.get? b=some u)(hp:h.objs.size<=a)(hn:H a=none):Un fs ex H (upd H a o) h h' where
 keep:=λb u q _ _ _=>k b u q
 slot:=λb u q _ _ _=>⟨u.slots,k b u q⟩
 free:=λb u q n _=>by rw[aq (KN (KL (Kl q) hp))];exact n
 there:=λb u q _=>⟨u,k b u q⟩
 tups:=λb xs q=>by rw[aq (ax q hn)];exact q
 frzs:=λb u xs q=>by rw[aq (ax q hn)];exact q
 tbls:=λb ps q=>⟨#[],by rw[aq (ax q hn),q];simp⟩
def Un.write (mu:GG (H x))(he:e=x\/H e=some (.own x))(k:∀b u,b≠e->h.get? b=some u->h'.get? b=some u)(heo:∃u,h'.get? e=some u):Un fs ex H (upd H x o) h h':=by
 have hx:∀b,H b=none->b≠x:=λb n z=>by subst z;rw[n] at mu;exact mu
 have hb:∀b,H b=none->b≠e:=λb n z=>by
  subst z
  rcases he with r |r
  ·exact hx b n r
  ·rw[n] at r;cases r
 have hm:∀b u,H b=some u->¬GG (some u)->b≠x:=λb u q nm z=>by subst z;rw[q] at mu;exact nm mu
 refine⟨λb u q n _ _=>k b u (hb b n) q,λb u q n _ _=>⟨u.slots,k b u (hb b n) q⟩,λb u q n _=>by rw[aq (hx b n)];exact n,λb u q _=>?_,
  λb xs q=>by rw[aq (hm b _ q λz=>z)];exact q,λb u xs q=>by rw[aq (hm b _ q λz=>z)];exact q,λb ps q=>⟨#[],by rw[aq (hm b _ q λz=>z),q];simp⟩⟩
 by_cases hbe:b=e
 ·subst hbe;exact heo
 ·exact⟨u,k b u hbe q⟩
end
def Im (h:Heap)(H:Hp):List Addr:=(List.range h.objs.size).filter λa=>(H a).isSome
def rh (h:Heap)(H:Hp):Heap:=PySem.W.hideAll h (Im h H)
def yw (h:Heap)(H:Hp):(rh h H).objs.size=h.objs.size:=PySem.W.hideAll_size _ _
def Bj {h:Heap}{H:Hp}{b:Addr}{o:Obj}(e:h.get? b=some o)(n:H b=none):(rh h H).get? b=some o:=
 PySem.W.hideAll_get _ e λhm=>by
  have q:(H b).isSome=true:=(Lj.mp hm).2
  rw[n] at q;simp at q
theorem Ci {h:Heap}{H:Hp}{b:Addr}{o:Obj}(e:(rh h H).get? b=some o):h.get? b=some o/\H b=none:=by
 have e':h.get? b=some o:=PySem.W.of_hideAll (Im h H) e
 refine⟨e',?_⟩
 cases q:H b with
 |none=>rfl
 |some x=>
  have hm:b∈Im h H:=Lj.mpr ⟨KD.mpr (Kl e'),by simp[q]⟩
  have z:(rh h H).get? b=none:=PySem.W.hideAll_none (Im h H) hm
  rw[z] at e;cases e
def B6 (g h:Heap)(L:Addr):List (Addr×Obj):=(List.range h.objs.size).filterMap λa=>if a=L\/(g.get? a).isSome=true then none else (h.get? a).map λo=>(a,o)
def rest (g h:Heap)(L d:Addr):List (Addr×Obj):=(B6 g h L).filter λp=>decide (p.1≠d)
structure Mod (K:Frag)(mg:Str->Option Value)(base:Heap):Prop where
 kin:K.In base
 glob:base.Ns mainGlobals mg
 blt:∃mb,base.Ns builtinsNs mb/\∀x:Str,x≠"__name__"->mb x=bootBuiltins x
 nolimit:base.NoLimit
 sys:∃mm,base.Ns sysModules mm
structure Cx where
 prog:Program
 w:World
 K:Frag
 mg:Str->Option Value
 base:Heap
 A:Around
 N:List Str
 s₀:Shared
 H₀:Hp
 env:Env
 outer:List Env
 stack:List Env
 ex:List Addr
 fn:Str->Bool
 calm:Bool
 pn:List (Addr×Obj)
 xe:Value->Shared->Prop
def g9 (l:List Env):List Addr:=l.filterMap (·.frame)
abbrev Cx.fs (X:Cx):List Addr:=g9 X.outer
def qP (sc:Scope)(x:Str):Prop:=sc.names.lookup x=some .local\/sc.names.lookup x=some .cell\/sc.names.lookup x=some .free
def Loc (sc:Scope)(x:Str):Prop:=sc.names.lookup x=some .local\/sc.names.lookup x=some .cell
def Look (env:Env)(h:Heap)(m:Str->Option Value)(x:Str)(u:Value):Prop:=
 (env.kindOf x=some .local/\m x=some u)\/((env.kindOf x=some .cell\/env.kindOf x=some .free)/\∃c,env.cells.lookup x=some c/\h.IsCell c (some u))
structure Cx.Ok (X:Cx):Prop where
 mod:Mod X.K X.mg X.base
 kind:X.env.scope.kind=.function
 glob:X.env.globals=mainGlobals
 blt:X.env.builtins=builtinsNs
 above:X.s₀.heap.objs.size<=X.env.locals
 inj:∀x y c,X.env.cells.lookup x=some c->X.env.cells.lookup y=some c->x=y
 has:∀x,(X.env.kindOf x=some .cell\/X.env.kindOf x=some .free)->∃c,X.env.cells.lookup x=some c
 cab:∀x c,X.fn x=true->X.env.cells.lookup x=some c->X.s₀.heap.objs.size<=c
 hd:X.calm=true->X.A.handled=none
 frames:X.A.frames=some X.stack
 stk:X.stack=X.outer\/(X.stack=X.env :: X.outer/\X.env.frame=some X.env.locals)
 exf:∀b∈X.ex,b≠X.env.locals/\∀x c,X.env.cells.lookup x=some c->c≠b
 bs:∀b o,X.base.get? b=some o->X.s₀.heap.get? b=some o/\X.H₀ b=none
 bsz:X.base.objs.size<=X.s₀.heap.objs.size
 noex:∀b o,X.base.get? b=some o->b∉X.ex
 exfs:∀b∈X.ex,b∉X.fs
 funs:X.s₀.heap.FunFrames X.base X.outer
 frf:∀b∈X.fs,X.H₀ b=none
structure Inv (X:Cx)(pins:List (Addr×Obj))(σ:List (Option V))(H:Hp)(s:Shared):Prop where
 ok:X.Ok
 os:s.os=X.s₀.os
 bare:AllBare s.gens
 base:Un X.fs X.ex X.H₀ H X.s₀.heap s.heap
 loc:∃m,s.heap.Ns X.env.locals m/\∀(i:Nat) (x:Str) (v:V),X.N[i]? =some x->σ[i]? =some (some v)->qP X.env.scope x->∃u,RelV v u/\Look X.env s.heap m x u
 cell:∀x c,X.env.cells.lookup x=some c->∃v,s.heap.IsCell c v
 free:H X.env.locals=none
 freeC:∀x c,X.env.cells.lookup x=some c->H c=none
 pin:∀p∈X.pn ++ pins,s.heap.get? p.1=some p.2/\H p.1=none/\p.1≠X.env.locals/\p.1∉X.fs/\∀v,p.2.data≠.cell v
 hok:jP X.prog X.w H s.heap
 len:σ.length=X.N.length
section
variable {X:Cx}{pins:List (Addr×Obj)}{σ:List (Option V)}{H H':Hp}{s:Shared}{h':Heap}
def Cx.Ok.nofr (ok:X.Ok){b:Addr}{o:Obj}(e:X.base.get? b=some o):b∉X.fs:=λhb=>by
 have:=(ok.funs.mem hb).1
 rw[e] at this;cases this
def Inv.bs (I:Inv X pins σ H s):∀b o,X.base.get? b=some o->s.heap.get? b=some o/\H b=none:=λb o e=>
 ⟨I.base.keep b o (I.ok.bs b o e).1 (I.ok.bs b o e).2 (I.ok.nofr e) (I.ok.noex b o e),I.base.free b o (I.ok.bs b o e).1 (I.ok.bs b o e).2 (I.ok.noex b o e)⟩
def Inv.bk (I:Inv X pins σ H s):∀b o,X.base.get? b=some o->s.heap.get? b=some o:=λb o e=>(I.bs b o e).1
def Inv.mod (I:Inv X pins σ H s):Mod X.K X.mg X.base:=I.ok.mod
def Inv.kIn (I:Inv X pins σ H s):X.K.In s.heap:=I.ok.mod.kin.keeps I.bk
def Inv.lt (I:Inv X pins σ H s):X.env.locals < s.heap.objs.size:=let ⟨_,hn,_⟩:=I.loc;hn.lt
def Inv.sz (I:Inv X pins σ H s):X.s₀.heap.objs.size<=s.heap.objs.size:=Lf I.ok.above (Nat.le_of_lt I.lt)
def Inv.nofs (I:Inv X pins σ H s){a:Addr}(h:s.heap.objs.size<=a):a∉X.fs:=λhb=>by
 obtain⟨_,o,ho,_⟩:=I.ok.funs.mem hb
 exact absurd (KL (Kl ho) (Lf I.sz h)) (KU _)
def Inv.cne (I:Inv X pins σ H s):∀x c,X.env.cells.lookup x=some c->c≠X.env.locals:=λx c e z=>by
 obtain⟨v,o,ho,hd⟩:=I.cell x c e
 obtain⟨m,⟨o',es,ep,ho',hd',_⟩,_⟩:=I.loc
 rw[z,ho'] at ho;cases ho;rw[hd'] at hd;cases hd
def Inv.funs (I:Inv X pins σ H s):s.heap.FunFrames X.base X.outer:=by
 have all:∀(l:List Env),(∀b∈g9 l,b∈X.fs)->X.s₀.heap.FunFrames X.base l->s.heap.FunFrames X.base l:=by
  intro l
  induction l with
  |nil=>intro _ _;trivial
  |cons env r ih=>
   intro hs hl
   obtain⟨hk,⟨L,o,hf,hn,ho,hd⟩,hr⟩:=hl
   have hL:L∈X.fs:=hs L (by unfold g9;rw[LW,hf];exact Kd)
   obtain⟨sl,e⟩:=I.base.slot L o ho (I.ok.frf L hL) hL λz=>I.ok.exfs L z hL
   exact⟨hk,⟨L,_,hf,hn,e,hd⟩,ih (λb hb=>hs b (by unfold g9;rw[LW,hf];exact J9 _ hb)) hr⟩
 exact all X.outer (λ_ hb=>hb) I.ok.funs
def Inv.stack (I:Inv X pins σ H s):s.heap.FunFrames X.base X.stack:=by
 rcases I.ok.stk with e | ⟨e,hf⟩
 ·rw[e];exact I.funs
 ·rw[e]
  obtain⟨m,hn,_⟩:=I.loc
  refine .cons (by rw[I.ok.kind];decide) hf hn ?_ I.funs
  exact Heap.get?_none_of_le (Lf I.ok.bsz I.ok.above)
def Inv.stkSub (I:Inv X pins σ H s):∀b∈g9 X.stack,b∈X.env.locals :: X.fs:=λb hb=>by
 rcases I.ok.stk with e | ⟨e,hf⟩
 ·rw[e] at hb;exact J9 _ hb
 ·rw[e] at hb
  unfold g9 at hb
  rw[LW,hf] at hb
  exact hb
def Inv.stkFree (I:Inv X pins σ H s):∀b∈g9 X.stack,H b=none:=λb hb=>by
 rcases Ke.mp (I.stkSub b hb) with e |hb
 ·rw[e];exact I.free
 ·obtain⟨_,o,ho,_⟩:=I.ok.funs.mem hb
  exact I.base.free b o ho (I.ok.frf b hb) λz=>I.ok.exfs b z hb
def Inv.step {g':Array GenState}{t':Nat}{d':Drawn}{ch:List Addr}(I:Inv X pins σ H s)
  (hch:∀b∈ch,(b∈X.ex\/X.s₀.heap.objs.size<=b)/\b≠X.env.locals/\(∀x c,X.env.cells.lookup x=some c->c≠b)/\∀p∈X.pn ++ pins,p.1≠b)
  (keep:∀b o,b≠X.env.locals->b∉X.fs->b∉ch->s.heap.get? b=some o->H b=none->h'.get? b=some o)
  (slot:∀b o,b≠X.env.locals->b∈X.fs->b∉ch->s.heap.get? b=some o->H b=none->∃sl,h'.get? b=some {o with slots:=sl}) (free:∀b o,b∉ch->s.heap.get? b=some o->H b=none->H' b=none)
  (there:∀b o,b∉ch->s.heap.get? b=some o->∃o',h'.get? b=some o')
  (tups:∀b xs,H b=some (.tup xs)->H' b=some (.tup xs)) (frzs:∀b o u,H b=some (.aQ o u)->H' b=some (.aQ o u)) (tbls:∀b ps,H b=some (.tbl ps)->∃more,H' b=some (.tbl (ps ++ more)))
  (ns:∀m,s.heap.Ns X.env.locals m->h'.Ns X.env.locals m) (hok:jP X.prog X.w H' h') (hg:AllBare g') :
  Inv X pins σ H' {s with heap:=h',gens:=g',drawn:=d',toks:=t'}:=by
 have neL:∀b o,X.s₀.heap.get? b=some o->b≠X.env.locals:=λb o e=>KN (KL (Kl e) I.ok.above)
 have neC:∀b o,X.s₀.heap.get? b=some o->b∉X.ex->b∉ch:=λb o e hx hb=>by
  rcases (hch b hb).1 with z |z
  ·exact hx z
  ·exact absurd (KL (Kl e) z) (KU _)
 have cellK:∀x c,X.env.cells.lookup x=some c->∀v,s.heap.IsCell c v->h'.IsCell c v:=λx c e v ⟨o,ho,hd⟩=>by
  have nch:c∉ch:=λz=>(hch c z).2.2.1 x c e rfl
  by_cases hc:c∈X.fs
  ·obtain⟨sl,q⟩:=slot c o (I.cne x c e) hc nch ho (I.freeC x c e)
   exact⟨_,q,hd⟩
  ·exact⟨o,keep c o (I.cne x c e) hc nch ho (I.freeC x c e),hd⟩
 refine⟨I.ok,I.os,hg,⟨λb o e n hb hx=>?_,λb o e n hb hx=>?_,λb o e n hx=>?_,λb o e hx=>?_,λb xs e=>tups b xs (I.base.tups b xs e),λb o xs e=>frzs b o xs (I.base.frzs b o xs e),λb ps e=>?_⟩,?_,λx c e=>?_,?_,λx c e=>?_,λp hp=>?_,hok,I.len⟩
 ·exact keep b o (neL b o e) hb (neC b o e hx) (I.base.keep b o e n hb hx) (I.base.free b o e n hx)
 ·obtain⟨sl,e1⟩:=I.base.slot b o e n hb hx
  obtain⟨sl',e2⟩:=slot b _ (neL b o e) hb (neC b o e hx) e1 (I.base.free b o e n hx)
  exact⟨sl',e2⟩
 ·obtain⟨o',e1⟩:=I.base.there b o e hx
  exact free b o' (neC b o e hx) e1 (I.base.free b o e n hx)
 ·obtain⟨o',e1⟩:=I.base.there b o e hx
  exact there b o' (neC b o e hx) e1
 ·obtain⟨m1,e1⟩:=I.base.tbls b ps e
  obtain⟨m2,e2⟩:=tbls b _ e1
  exact⟨m1 ++ m2,by rw[e2,Array.append_assoc]⟩
 ·obtain⟨m,hn,hl⟩:=I.loc
  refine⟨m,ns m hn,λi x v e1 e2 e3=>?_⟩
  obtain⟨u,r,l⟩:=hl i x v e1 e2 e3
  refine⟨u,r,?_⟩
  rcases l with l | ⟨k,c,e,z⟩
  ·exact .inl l
  ·exact .inr ⟨k,c,e,cellK x c e _ z⟩
 ·obtain⟨v,z⟩:=I.cell x c e
  exact⟨v,cellK x c e v z⟩
 ·obtain⟨m,⟨o,_,_,ho,_⟩,_⟩:=I.loc
  exact free _ o (λz=>(hch _ z).2.1 rfl) ho I.free
 ·obtain⟨v,o,ho,hd⟩:=I.cell x c e
  exact free c o (λz=>(hch c z).2.2.1 x c e rfl) ho (I.freeC x c e)
 ·obtain⟨e,n,ne,nf,d⟩:=I.pin p hp
  have nch:p.1∉ch:=λz=>(hch p.1 z).2.2.2 p hp rfl
  exact⟨keep p.1 p.2 ne nf nch e n,free p.1 p.2 nch e n,ne,nf,d⟩
def Inv.un {t':Nat}(I:Inv X pins σ H s)(u:Un X.fs [] H H' s.heap h')(hok:jP X.prog X.w H' h'):Inv X pins σ H' {s with heap:=h',toks:=t'}:=by
 obtain⟨m,⟨o,es,ep,ho,r⟩,_⟩:=id I.loc
 obtain⟨sl,hL⟩:=u.any ho I.free (by simp)
 exact I.step (g':=s.gens) (d':=s.drawn) (ch:=[]) (λ_ z=>nomatch z) (λb o _ hb _ e n=>u.keep b o e n hb (by simp)) (λb o _ hb _ e n=>u.slot b o e n hb (by simp)) (λb o _ e n=>u.free b o e n (by simp)) (λb o _ e=>u.there b o e (by simp)) u.tups u.frzs u.tbls (λm' hm=>by
  obtain⟨o',es',ep',ho',r'⟩:=hm
  rw[ho] at ho';cases ho'
  exact⟨_,es',ep',hL,r'⟩) hok I.bare
def Inv.call {g':Array GenState}{t':Nat}{d':Drawn}{ch:List Addr}(I:Inv X pins σ H s)(u:Un (g9 X.stack) ch H H' s.heap h')(hok:jP X.prog X.w H' h')(hg:AllBare g')
  (hch:∀b∈ch,(b∈X.ex\/X.s₀.heap.objs.size<=b)/\b≠X.env.locals/\(∀x c,X.env.cells.lookup x=some c->c≠b)/\∀p∈X.pn ++ pins,p.1≠b) :
  Inv X pins σ H' {s with heap:=h',gens:=g',drawn:=d',toks:=t'}:=by
 obtain⟨m,⟨o,es,ep,ho,r⟩,_⟩:=id I.loc
 obtain⟨sl,hL⟩:=u.any ho I.free λz=>(hch _ z).2.1 rfl
 exact I.step (ch:=ch) hch (λb o hL hb hc e n=>u.keep b o e n (λz=>(Ke.mp (I.stkSub b z)).elim hL hb) hc) (λb o _ _ hc e n=>u.any e n hc) (λb o hc e n=>u.free b o e n hc) (λb o hc e=>u.there b o e hc) u.tups u.frzs u.tbls (λm' hm=>by
  obtain⟨o',es',ep',ho',r'⟩:=hm
  rw[ho] at ho';cases ho'
  exact⟨_,es',ep',hL,r'⟩) hok hg
def Inv.turned {t':Nat}{it:Addr}(I:Inv X pins σ H s)(k:∀b o,b≠it->s.heap.get? b=some o->h'.get? b=some o)(hn:H it=none)(hL:it≠X.env.locals)
  (h1:it∈X.ex\/X.s₀.heap.objs.size<=it) (h2:∀x c,X.env.cells.lookup x=some c->c≠it) (h3:∀p∈X.pn ++ pins,p.1≠it):Inv X pins σ H {s with heap:=h',toks:=t'}:=by
 have nit:∀b u,H b=some u->b≠it:=λb u e z=>by rw[z,hn] at e;cases e
 refine I.step (g':=s.gens) (d':=s.drawn) (ch:=[it]) (λb hb=>?_) (λb o _ _ hc e _=>k b o (λz=>hc (by simp[z])) e) (λb o _ _ hc e _=>⟨o.slots,k b o (λz=>hc (by simp[z])) e⟩) (λ_ _ _ _ n=>n)
  (λb o hc e=>⟨o,k b o (λz=>hc (by simp[z])) e⟩) (λ_ _ e=>e) (λ_ _ _ e=>e) (λb ps e=>⟨#[],by rw[e];simp⟩) (λm hm=>?_) (λb u e=>?_) I.bare
 ·have e:b=it:=by simpa using hb
  subst e
  exact⟨h1,hL,h2,h3⟩
 ·obtain⟨o,es,ep,ho,r⟩:=hm
  exact⟨o,es,ep,k _ o (Ne.symm hL) ho,r⟩
 ·refine (I.hok b u e).stay (λc v hc q=>k c v ?_ q) (λ_ q=>q) λ_ _ q=>q
  rcases hc with z |z
  ·rw[z];exact nit b u e
  ·exact nit c _ z
def Inv.tok (I:Inv X pins σ H s)(t:Nat):Inv X pins σ H {s with toks:=t}:=I.un (h':=s.heap) (t':=t) Un.refl I.hok
def Inv.kept {t':Nat}(I:Inv X pins σ H s)(k:∀b u,s.heap.get? b=some u->h'.get? b=some u):Inv X pins σ H {s with heap:=h',toks:=t'}:=I.un (Un.kept k) (I.hok.kept k)
def Inv.laid {a:Addr}{o:HO}{t':Nat}(I:Inv X pins σ H s)(k:∀b u,s.heap.get? b=some u->h'.get? b=some u)(hp:s.heap.objs.size<=a)(new:bA X.prog X.w (upd H a o) h' a o) :
  Inv X pins σ (upd H a o) {s with heap:=h',toks:=t'}:=I.un (Un.laid k hp (I.hok.fresh hp)) (I.hok.laid k hp new)
def Inv.write {x e:Addr}{o:HO}{t':Nat}(I:Inv X pins σ H s)(mu:GG (H x))(he:e=x\/H e=some (.own x))(k:∀b u,b≠e->s.heap.get? b=some u->h'.get? b=some u)(heo:∃u,h'.get? e=some u)
  (new:bA X.prog X.w (upd H x o) h' x o):Inv X pins σ (upd H x o) {s with heap:=h',toks:=t'}:=I.un (Un.write mu he k heo) (I.hok.write mu he k heo new)
def Inv.pins_of {pins':List (Addr×Obj)}(I:Inv X pins σ H s)(h:∀p∈pins',s.heap.get? p.1=some p.2/\H p.1=none/\p.1≠X.env.locals/\p.1∉X.fs/\∀v,p.2.data≠.cell v):Inv X pins' σ H s:=
 ⟨I.ok,I.os,I.bare,I.base,I.loc,I.cell,I.free,I.freeC,λp hp=>(KA.mp hp).elim (λz=>I.pin p (LF _ z)) (h p),I.hok,I.len⟩
def ue {N:List Str}(hN:N.Nodup){i j:Nat}{x:Str}(a:N[i]? =some x)(b:N[j]? =some x):i=j:=by
 obtain⟨h1,e1⟩:=Ks.mp a
 obtain⟨h2,e2⟩:=Ks.mp b
 exact (List.getElem_inj hN).mp (e1.trans e2.symm)
def pE {M:Model}{A:Around}{E:Value->Shared->Prop}{i:Nat}{x:Str}{v:V}{u:Value}{Q:Unit->Shared->Prop}(I:Inv X pins σ H s)(hN:X.N.Nodup)(hi:X.N[i]? =some x)(hx:Loc X.env.scope x)(r:RelV v u)
  (h:∀s',Inv X pins (σ.set i (some v)) H s'->(∃a,Heap.SameBut a s.heap s'.heap/\(a=X.env.locals\/X.env.cells.lookup x=some a))->Q () s') (hf:X.fn x=true\/X.env.scope.names.lookup x=some .local:=by first |exact .inl rfl |exact .inr rfl |assumption):wpAny M A (storeName X.env x u) Q E s:=by
 obtain⟨m,hn,hl⟩:=id I.loc
 have hcls:(X.env.scope.kind == .class || (X.env.scope.kind == .module && X.env.locals != X.env.globals))=false:=by rw[I.ok.kind];rfl
 have hiσ:i < σ.length:=by rw[I.len];exact (Ks.mp hi).1
 have cne:=I.cne
 have tracked:∀{a:Addr} {h':Heap},(∃o,s.heap.get? a=some o/\H a=none)->Heap.SameBut a s.heap h'->jP X.prog X.w H h':=λ{a h'} ha hs b ob e=>by
  obtain⟨_,_,hfree⟩:=ha
  refine (I.hok b ob e).stay (λc w' hc q=>(hs.2 c ?_).trans q) (λ_ q=>q) λ_ _ q=>q
  rintro rfl
  rcases hc with rfl |hc
  ·rw[hfree] at e;cases e
  ·rw[hfree] at hc;cases hc
 rcases hx with hk |hk
 ·refine wpAny_storeName_local hk hn (λh' hn' hs=>?_) hcls
  obtain⟨oL,_,_,hoL,_⟩:=id hn
  refine h _ ⟨I.ok,I.os,I.bare,⟨λb o e n hb hx=>?_,λb o e n hb hx=>?_,I.base.free,λb o e hx=>?_,I.base.tups,I.base.frzs,I.base.tbls⟩,⟨_,hn',λj y v' e1 e2 e3=>?_⟩,λy c e=>?_,I.free,I.freeC,λp hp=>?_,tracked ⟨oL,hoL,I.free⟩ hs,by simpa using I.len⟩ ⟨_,hs,.inl rfl⟩
  ·exact (hs.2 b (KN (KL (Kl e) I.ok.above))).trans (I.base.keep b o e n hb hx)
  ·obtain⟨sl,e1⟩:=I.base.slot b o e n hb hx
   exact⟨sl,(hs.2 b (KN (KL (Kl e) I.ok.above))).trans e1⟩
  ·obtain⟨o',e1⟩:=I.base.there b o e hx
   exact⟨o',(hs.2 b (KN (KL (Kl e) I.ok.above))).trans e1⟩
  ·by_cases hj:j=i
   ·subst hj
    rw[hi] at e1;cases e1
    rw[Kw hiσ] at e2
    cases e2
    exact⟨u,r,.inl ⟨hk,by simp⟩⟩
   ·rw[Km (Ne.symm hj)] at e2
    obtain⟨u',r',q⟩:=hl j y v' e1 e2 e3
    refine⟨u',r',?_⟩
    rcases q with⟨k,e⟩ | ⟨k,c,e,z⟩
    ·refine .inl ⟨k,?_⟩
     have:y≠x:=λe=>hj (ue hN e1 (e▸hi))
     simp[this,e]
    ·exact .inr ⟨k,c,e,z.sameBut hs (cne y c e)⟩
  ·obtain⟨w',z⟩:=I.cell y c e
   exact⟨w',z.sameBut hs (cne y c e)⟩
  ·obtain⟨e,n,ne,nf,d⟩:=I.pin p hp
   exact⟨(hs.2 p.1 ne).trans e,n,ne,nf,d⟩
 ·have hfn:X.fn x=true:=by
   rcases hf with z |z
   ·exact z
   ·rw[z] at hk;cases hk
  obtain⟨c,hc⟩:=I.ok.has x (.inl hk)
  obtain⟨w',z⟩:=I.cell x c hc
  refine wpAny_storeName_cell I.ok.kind hk hc z (λh' hc' hs=>?_)
  obtain⟨oc,hoc,hocd⟩:=id z
  refine h {s with heap:=h'} ⟨I.ok,I.os,I.bare,⟨λb o e n hb hx=>?_,λb o e n hb hx=>?_,I.base.free,λb o e hx=>?_,I.base.tups,I.base.frzs,I.base.tbls⟩,⟨m,hn.sameBut hs (Ne.symm (cne x c hc)),λj y v' e1 e2 e3=>?_⟩,λy c' e=>?_,I.free,I.freeC,λp hp=>?_,tracked ⟨oc,hoc,I.freeC x c hc⟩ hs,by simpa using I.len⟩ ⟨c,hs,.inr hc⟩
  ·exact (hs.2 b (KN (KL (Kl e) (I.ok.cab x c hfn hc)))).trans (I.base.keep b o e n hb hx)
  ·obtain⟨sl,e1⟩:=I.base.slot b o e n hb hx
   exact⟨sl,(hs.2 b (KN (KL (Kl e) (I.ok.cab x c hfn hc)))).trans e1⟩
  ·obtain⟨o',e1⟩:=I.base.there b o e hx
   exact⟨o',(hs.2 b (KN (KL (Kl e) (I.ok.cab x c hfn hc)))).trans e1⟩
  ·by_cases hj:j=i
   ·subst hj
    rw[hi] at e1;cases e1
    rw[Kw hiσ] at e2
    cases e2
    exact⟨u,r,.inr ⟨.inl hk,c,hc,hc'⟩⟩
   ·rw[Km (Ne.symm hj)] at e2
    obtain⟨u',r',q⟩:=hl j y v' e1 e2 e3
    refine⟨u',r',?_⟩
    rcases q with q | ⟨k,c',e,z'⟩
    ·exact .inl q
    ·refine .inr ⟨k,c',e,z'.sameBut hs ?_⟩
     rintro rfl
     exact hj (ue hN e1 (I.ok.inj _ _ _ e hc▸hi))
  ·by_cases hcc:c'=c
   ·subst hcc;exact⟨_,hc'⟩
   ·obtain⟨w2,z2⟩:=I.cell y c' e
    exact⟨w2,z2.sameBut hs hcc⟩
  ·obtain⟨e,n,ne,nf,d⟩:=I.pin p hp
   refine⟨(hs.2 p.1 ?_).trans e,n,ne,nf,d⟩
   intro q
   rw[q,hoc] at e
   have q':oc=p.2:=Option.some.inj e
   exact d w' (by rw[<-q'];exact hocd)
def sP {M:Model}{A:Around}{E:Value->Shared->Prop}{i:Nat}{x:Str}{v:V}{u:Value}{Q:Unit->Shared->Prop}(I:Inv X pins σ H s)(hN:X.N.Nodup)(hi:X.N[i]? =some x)(hx:Loc X.env.scope x)(r:RelV v u)
  (h:∀s',Inv X pins (σ.set i (some v)) H s'->Q () s') (hf:X.fn x=true\/X.env.scope.names.lookup x=some .local:=by first |exact .inl rfl |exact .inr rfl |assumption):wpAny M A (storeName X.env x u) Q E s:=
 pE I hN hi hx r (λs' I' _=>h s' I') hf
def Inv.call' {s':Shared}{ch:List Addr}(I:Inv X pins σ H s)(ho:s'.os=s.os)(u:Un (g9 X.stack) ch H H' s.heap s'.heap)(hok:jP X.prog X.w H' s'.heap)(hg:AllBare s'.gens)
  (hch:∀b∈ch,(b∈X.ex\/X.s₀.heap.objs.size<=b)/\b≠X.env.locals/\(∀x c,X.env.cells.lookup x=some c->c≠b)/\∀p∈X.pn ++ pins,p.1≠b):Inv X pins σ H' s':=by
 obtain⟨h',g',d',t',o'⟩:=s'
 have e:o'=s.os:=ho
 subst e
 exact I.call (g':=g') (t':=t') (d':=d') u hok hg hch
end
abbrev XK:=Value->Option Addr->Hp->Prop
abbrev St:=List (Option V)
abbrev VK:=V->Hp->Prop
abbrev TE:=St->Hp->VK->Prop
abbrev TT:=St->Hp->(Bool->Hp->Prop)->Prop
abbrev TA:=St->Hp->(List V->Hp->Prop)->Prop
structure Ends where
 nx:St->Hp->Prop
 rt:VK
 bk:St->Hp->Prop:=λ_ _=>False
 ct:St->Hp->Prop:=λ_ _=>False
abbrev TS:=Ends->St->Hp->Prop
def EP (X:Cx)(pins:List (Addr×Obj))(σ:St)(Q:VK)(u:Value)(s':Shared):Prop:=∃v H',Inv X pins σ H' s'/\RelV v u/\Q v H'
def TP (X:Cx)(pins:List (Addr×Obj))(σ:St)(Q:Bool->Hp->Prop)(b:Bool)(s':Shared):Prop:=∃H',Inv X pins σ H' s'/\Q b H'
def AP (X:Cx)(pins:List (Addr×Obj))(σ:St)(Q:List V->Hp->Prop)(us:List Value)(s':Shared):Prop:=∃vs H',Inv X pins σ H' s'/\Vals vs us/\Q vs H'
def SP (X:Cx)(pins:List (Addr×Obj))(D:Ends)(f:Flow)(s':Shared):Prop:=
 match f with
 | .next=>∃σ' H',Inv X pins σ' H' s'/\D.nx σ' H'
 | .brk=>∃σ' H',Inv X pins σ' H' s'/\D.bk σ' H'
 | .cont=>∃σ' H',Inv X pins σ' H' s'/\D.ct σ' H'
 | .ret u=>∃v σ' H',Inv X pins σ' H' s'/\RelV v u/\D.rt v H'
def PE (X:Cx)(e:Expr)(t:TE):Prop:=
 ∀(pins:List (Addr×Obj)) (s:Shared) (σ:St) (H:Hp) (Q:VK),Inv X pins σ H s->t σ H Q->wpAny (model X.prog X.w) X.A (eval e X.env) (EP X pins σ Q) X.xe s
def PT (X:Cx)(e:Expr)(t:TT):Prop:=
 ∀(pins:List (Addr×Obj)) (s:Shared) (σ:St) (H:Hp) (Q:Bool->Hp->Prop),Inv X pins σ H s->t σ H Q->wpAny (model X.prog X.w) X.A (isTrue e X.env (eval e X.env)) (TP X pins σ Q) X.xe s
def PW (X:Cx)(e:Expr)(t:TT):Prop:=
 ∀(whole:Sem Value) (pins:List (Addr×Obj)) (s:Shared) (σ:St) (H:Hp) (Q:Bool->Hp->Prop),Inv X pins σ H s->t σ H Q->wpAny (model X.prog X.w) X.A (isTrue e X.env whole) (TP X pins σ Q) X.xe s
def PW.pt {X:Cx}{e:Expr}{t:TT}(h:PW X e t):PT X e t:=h _
def PA (X:Cx)(es:List Expr)(t:TA):Prop:=
 ∀(pos:Pos) (pins:List (Addr×Obj)) (s:Shared) (σ:St) (H:Hp) (Q:List V->Hp->Prop),Inv X pins σ H s->t σ H Q->wpAny (model X.prog X.w) X.A (spliced (backTo pos (starEach es X.env))) (AP X pins σ Q) X.xe s
def PS (X:Cx)(st:Stmt)(t:TS):Prop:=
 ∀(pins:List (Addr×Obj)) (s:Shared) (σ:St) (H:Hp) (D:Ends),Inv X pins σ H s->t D σ H->wpAny (model X.prog X.w) X.A (exec st X.env) (SP X pins D) X.xe s
def qd (X:Cx)(st:List Stmt)(t:TS):Prop:=
 ∀(pins:List (Addr×Obj)) (s:Shared) (σ:St) (H:Hp) (D:Ends),Inv X pins σ H s->t D σ H->wpAny (model X.prog X.w) X.A (execs st X.env) (SP X pins D) X.xe s
def b7 {α:Type}{t:Sem α}{Q Q':α->Shared->Prop}{M:Model}{A:Around}{E:Value->Shared->Prop}{s:Shared}(h:wpAny M A t Q E s)(hQ:∀a s,Q a s->Q' a s):wpAny M A t Q' E s:=LN h hQ λ_ _ x=>x
section
variable {X:Cx}
def bin {a b:Expr}{ta tb:TE}(ha:PE X a ta)(hb:PE X b tb){pins:List (Addr×Obj)}{s:Shared}{σ:St}{H:Hp}{R:V->V->Hp->Prop}(I:Inv X pins σ H s)(h:ta σ H λx H1=>tb σ H1 λy H2=>R x y H2)
  {α:Type} {Q:α->Shared->Prop} {f:Value->Value->Sem α}
  (hf:∀v u s2 x y H2,Inv X pins σ H2 s2->RelV x v->RelV y u->R x y H2->wpAny (model X.prog X.w) X.A (f v u) Q X.xe s2) :
  wpAny (model X.prog X.w) X.A (eval a X.env) (λv s₁=>wpAny (model X.prog X.w) X.A (eval b X.env) (λu s₂=>wpAny (model X.prog X.w) X.A (f v u) Q X.xe s₂) X.xe s₁) X.xe s:=by
 refine b7 (ha pins s σ H _ I h) λv s1 ⟨x,H1,I1,r1,q1⟩=>?_
 refine b7 (hb pins s1 σ H1 _ I1 q1) λu s2 ⟨y,H2,I2,r2,q2⟩=>?_
 exact hf v u s2 x y H2 I2 r1 r2 q2
def rm (i:Nat):TE:=λσ H Q=>∃v,σ[i]? =some (some v)/\Q v H
def tC (v:V):TE:=λ_ H Q=>Q v H
def cM {i:Nat}{x:Str}{pos:Pos}(hN:X.N[i]? =some x)(hv:qP X.env.scope x)(hd:(x == ("__debug__":Str))=false:=by decide)(hcd:(x == ("__classdict__":Str))=false:=by decide):PE X (.Name x pos) (rm i):=by
 intro pins s σ H Q I h
 obtain⟨v,e,h⟩:=h
 obtain⟨m,hn,hl⟩:=I.loc
 obtain⟨u,r,l⟩:=hl i x v hN e hv
 have fin:EP X pins σ Q u s:=⟨v,H,I,r,h⟩
 rcases l with⟨hk,hm⟩ | ⟨hk,c,hc,hcell⟩
 ·exact wpAny_Name (wpAny_loadName_local I.ok.kind hk hn hm fin) hd
 ·rcases hk with hk |hk
  ·exact wpAny_Name (wpAny_loadName_cell I.ok.kind hk hc hcell fin) hd
  ·exact wpAny_Name (wpAny_loadName_free I.ok.kind hk hc hcell fin hcd) hd
def nZ {i j pos}:PE X (.Constant (.int i) j pos) (tC (.int i)):=λ_ _ _ H _ I h=>wpAny_Constant_int ⟨.int i,H,I.tok _,⟨_,rfl⟩,h⟩
def wG {b j pos}:PE X (.Constant (.bool b) j pos) (tC (.bl b)):=λ_ _ _ H _ I h=>Constant_bool ⟨.bl b,H,I,rfl,h⟩
def FQ {j pos}:PE X (.Constant .none j pos) (tC .non):=λ_ _ _ H _ I h=>Constant_none ⟨.non,H,I,rfl,h⟩
def zX {x j pos}:PE X (.Constant (.str x) j pos) (tC (.str x)):=λ_ _ _ H _ I h=>Calls.Constant_str ⟨.str x,H,I.tok _,⟨_,rfl⟩,h⟩
def Gl (X:Cx)(x:Str):Prop:=X.env.kindOf x=some .globalImplicit
def qI {E:Value->Shared->Prop}{pins:List (Addr×Obj)}{s:Shared}{σ:St}{H:Hp}{x:Str}{u:Value}{pos:Pos}{Q:Value->Shared->Prop}(I:Inv X pins σ H s)(hg:Gl X x)(hm:X.mg x=some u)(h:Q u s)
  (hd:(x == ("__debug__":Str))=false:=by decide):wpAny (model X.prog X.w) X.A (eval (.Name x pos) X.env) Q E s:=
 Calls.Name_function_global I.ok.kind hg (Calls.loadGlobal_global (by rw[I.ok.glob];exact I.mod.glob.keeps I.bk) hm h) hd
def nR {E:Value->Shared->Prop}{pins:List (Addr×Obj)}{s:Shared}{σ:St}{H:Hp}{x:Str}{u:Value}{pos:Pos}{Q:Value->Shared->Prop}(I:Inv X pins σ H s)(hg:Gl X x)(hm:X.mg x=none)(hv:bootBuiltins x=some u)(h:Q u s)
  (hn:x≠"__name__":=by decide) (hd:(x == ("__debug__":Str))=false:=by decide):wpAny (model X.prog X.w) X.A (eval (.Name x pos) X.env) Q E s:=by
 obtain⟨mb,h1,h2⟩:=I.mod.blt
 exact Calls.Name_function_global I.ok.kind hg (Calls.loadGlobal_builtin (by rw[I.ok.glob];exact I.mod.glob.keeps I.bk) hm (by rw[I.ok.blt];exact h1.keeps I.bk) ((h2 x hn).trans hv) h) hd
def CV {x:Str}{v:V}{u:Value}{pos:Pos}(hg:Gl X x)(hm:X.mg x=some u)(r:RelV v u)(hd:(x == ("__debug__":Str))=false:=by decide):PE X (.Name x pos) (tC v):=
 λ_ _ _ H _ I h=>qI I hg hm ⟨v,H,I,r,h⟩ hd
def BK {x:Str}{v:V}{u:Value}{pos:Pos}(hg:Gl X x)(hm:X.mg x=none)(hv:bootBuiltins x=some u)(r:RelV v u)(hn:x≠"__name__":=by decide)(hd:(x == ("__debug__":Str))=false:=by decide):PE X (.Name x pos) (tC v):=
 λ_ _ _ H _ I h=>nR I hg hm hv ⟨v,H,I,r,h⟩ hn hd
variable {a b:Expr}{ta tb:TE}{pos:Pos}
def PC (X:Cx)(op:CmpOp)(a b:Expr)(t:TE):Prop:=
 ∀(pins:List (Addr×Obj)) (s:Shared) (σ:St) (H:Hp) (Q:VK),Inv X pins σ H s->t σ H Q->
  wpAny (model X.prog X.w) X.A (eval a X.env) (λv s₁=>wpAny (model X.prog X.w) X.A (eval b X.env) (λu s₂=>wpAny (model X.prog X.w) X.A (compareOp op v u) (EP X pins σ Q) X.xe s₂) X.xe s₁) X.xe s
def z9 (b:Expr){op:CmpOp}(h:op≠.In)(h2:op≠.NotIn):behindInMarks op b=false:=by
 have e1:(op == CmpOp.In)=false:=by cases op <;> first |rfl |exact absurd rfl h
 have e2:(op == CmpOp.NotIn)=false:=by cases op <;> first |rfl |exact absurd rfl h2
 cases b <;> simp[behindInMarks,e1,e2]
def tB (t:TE):TT:=λσ H Q=>t σ H λx H1=>∃c,x=.bl c/\Q c H1
def Jl {op:CmpOp}{t:TE}(h:PC X op a b t)(h1:behindInMarks op b=false:=by first |exact z9 _ (by decide) (by decide) |rfl):PT X (.Compare a [op] [b] pos) (tB t):=by
 intro pins s σ H Q I hw
 refine wpAny_isTrue_Compare1 (b7 (h pins s σ H _ I hw) λv s1 h1=>b7 h1 λu s2 h2=>b7 h2 λc s3 ⟨x,H1,I1,r1,q1⟩=>?_) h1
 obtain⟨d,rfl,q⟩:=q1
 cases r1
 exact LK ⟨H1,I1,q⟩
def vS {e:Expr}{t:TE}(h:PE X e t)(he:∀whole,isTrue e X.env whole=(do let v <-whole;standAt e.pos;holding [v] (truthy v)):=by intro _;rfl):PT X e (tB t):=by
 intro pins s σ H Q I hw
 refine isTrue_plain (b7 (h pins s σ H _ I hw) λv s1 ⟨x,H1,I1,r1,q1⟩=>?_) (he _)
 obtain⟨d,rfl,q⟩:=q1
 cases r1
 exact LK ⟨H1,I1,q⟩
variable {tA tB':TT}{rest:List Expr}
def Je (t u:TT):TT:=λσ H Q=>t σ H λc H1=>if c=true then u σ H1 Q else Q false H1
def JV (t u:TT):TT:=λσ H Q=>t σ H λc H1=>if c=true then Q true H1 else u σ H1 Q
def II (t:TT):TT:=λσ H Q=>t σ H λc H1=>Q (!c) H1
theorem wj (ha:PT X a tA):PW X (.BoolOp .And [a] pos) tA:=by
 intro wh pins s σ H Q I h
 refine isTrue_and (b7 (ha pins s σ H Q I h) λc s1 e=>?_)
 cases c with
 |true=>exact isTrue_and_nil e
 |false=>exact e
theorem EN (ha:PT X a tA):PW X (.BoolOp .Or [a] pos) tA:=by
 intro wh pins s σ H Q I h
 refine isTrue_or (b7 (ha pins s σ H Q I h) λc s1 e=>?_)
 cases c with
 |false=>exact isTrue_or_nil e
 |true=>exact e
theorem Bm (ha:PT X a tA)(hb:PW X (.BoolOp .And (b :: rest) pos) tB'):PW X (.BoolOp .And (a :: b :: rest) pos) (Je tA tB'):=by
 intro wh pins s σ H Q I h
 refine isTrue_and (b7 (ha pins s σ H _ I h) λc s1 ⟨H1,I1,q1⟩=>?_)
 cases c with
 |true=>exact hb wh pins s1 σ H1 Q I1 q1
 |false=>exact⟨H1,I1,q1⟩
theorem Gw (ha:PT X a tA)(hb:PW X (.BoolOp .Or (b :: rest) pos) tB'):PW X (.BoolOp .Or (a :: b :: rest) pos) (JV tA tB'):=by
 intro wh pins s σ H Q I h
 refine isTrue_or (b7 (ha pins s σ H _ I h) λc s1 ⟨H1,I1,q1⟩=>?_)
 cases c with
 |true=>exact⟨H1,I1,q1⟩
 |false=>exact hb wh pins s1 σ H1 Q I1 q1
def Fs (ha:PT X a tA):PT X (.UnaryOp .Not a pos) (II tA):=by
 intro pins s σ H Q I h
 exact isTrue_not (ha pins s σ H (λc H1=>Q (!c) H1) I h)
def He (ta tb:TE):TE:=λσ H Q=>ta σ H λx H1=>∃c,x=.bl c/\if c=true then tb σ H1 Q else Q (.bl false) H1
def Hs (ta:TE):TE:=λσ H Q=>ta σ H λx H1=>∃c,x=.bl c/\Q (.bl (!c)) H1
def D8 {op}{t:TE}(h:PE X a t):PE X (.BoolOp op [a] pos) t:=λpins s σ H Q I hw=>BoolOp_one (h pins s σ H Q I hw)
theorem FF (ha:PE X a ta)(hb:PE X (.BoolOp .And (b :: rest) pos) tb):PE X (.BoolOp .And (a :: b :: rest) pos) (He ta tb):=by
 intro pins s σ H Q I h
 refine BoolOp_and (b7 (ha pins s σ H _ I h) λv s1 ⟨x,H1,I1,r1,q1⟩=>?_)
 obtain⟨c,rfl,q1⟩:=q1
 cases r1
 refine LK ?_
 cases c with
 |true=>exact hb pins s1 σ H1 Q I1 q1
 |false=>exact⟨.bl false,H1,I1,rfl,q1⟩
def Fm (ha:PE X a ta):PE X (.UnaryOp .Not a pos) (Hs ta):=by
 intro pins s σ H Q I h
 refine UnaryOp_ (b7 (ha pins s σ H _ I h) λv s1 ⟨x,H1,I1,r1,q1⟩=>?_)
 obtain⟨c,rfl,q1⟩:=q1
 cases r1
 exact not_of (LK ⟨.bl (!c),H1,I1,rfl,q1⟩)
end
def fQ (K:Frag)(H:Hp)(a:Addr)(xs:List V):Prop:=
 Rd H a (.lst xs)\/
  ∃(o:Obj) (its:Array Value) (n:Nat),K.lookup a=some o/\o.cls=.type "list"/\o.dict=none/\o.data=.seq its n/\its.size<=sizeLine/\Vals xs its.toList
def gk (K:Frag)(H:Hp)(a:Addr)(xs:List V):Prop:=
 Rd H a (.tup xs)\/
  ∃(o:Obj) (its:Array Value) (n:Nat),K.lookup a=some o/\o.cls=.type "tuple"/\o.data=.seq its n/\its.size<=sizeLine/\Vals xs its.toList/\o.dict=none
def Jt:Value->Option V
 | .none=>some .non
 | .bool b=>some (.bl b)
 | .int i _=>some (.int i)
 | .str x _=>some (.str x)
 | .bytes b _=>some (.byt b)
 | .float b _=>some (.flt b)
 | .ref a=>some (.ref a)
 | .type n=>some (.ty n)
 |_=>none
theorem RelV.abs {x:V}{u:Value}(r:RelV x u):Jt u=some x:=by
 cases x with
 |non=>cases r;rfl
 |bl _=>cases r;rfl
 |int _=>obtain⟨t,rfl⟩:=r;rfl
 |str _=>obtain⟨t,rfl⟩:=r;rfl
 |byt _=>obtain⟨t,rfl⟩:=r;rfl
 |flt _=>obtain⟨t,rfl⟩:=r;rfl
 |ref _=>cases r;rfl
 |ty _=>cases r;rfl
def RelV.inj {x y:V}{u:Value}(r:RelV x u)(q:RelV y u):x=y:=Option.some.inj (r.abs.symm.trans q.abs)
theorem Vals.inj:∀{xs ys:List V} {us:List Value},Vals xs us->Vals ys us->xs=ys
 |_,_,_,.nil,.nil=>rfl
 |_,_,_,.cons r t,.cons r' t'=>by rw[r.inj r',Vals.inj t t']
section
variable {X:Cx}{pins:List (Addr×Obj)}{σ:St}{H:Hp}{s:Shared}{a:Addr}{xs ys:List V}
def Inv.list (I:Inv X pins σ H s)(h:fQ X.K H a xs):∃its:List Value,Vals xs its/\PlainL s.heap a its.toArray/\xs.length<=sizeLine:=by
 rcases h with h | ⟨o,its,n,hk,hc,hd,hs,hz,r⟩
 ·obtain⟨z,its,n,r,e⟩:=h.ok I.hok
  exact⟨its,r,⟨_,n,e,rfl,rfl,rfl⟩,z⟩
 ·refine⟨its.toList,r,⟨o,n,I.kIn a o hk,hc,hd,by simpa using hs⟩,?_⟩
  have e:=r.length
  simp only[LX] at e
  omega
def Inv.tuple (I:Inv X pins σ H s)(h:gk X.K H a xs):∃its:List Value,Vals xs its/\IsTup s.heap a its.toArray/\xs.length<=sizeLine:=by
 rcases h with h | ⟨o,its,n,hk,hc,hs,hz,r,_⟩
 ·obtain⟨z,its,r,p⟩:=h.ok I.hok
  exact⟨its,r,p.isTup,z⟩
 ·refine⟨its.toList,r,⟨o,I.kIn a o hk,hc,n,by simpa using hs⟩,?_⟩
  have e:=r.length
  simp only[LX] at e
  omega
def Inv.list_inj (I:Inv X pins σ H s)(h:fQ X.K H a xs)(h':fQ X.K H a ys):xs=ys:=by
 obtain⟨its,r,⟨o,n,e,_,_,d⟩,_⟩:=I.list h
 obtain⟨its',r',⟨o',n',e',_,_,d'⟩,_⟩:=I.list h'
 rw[e] at e';cases e'
 rw[d] at d'
 injection d' with d1 _
 have:its=its':=by simpa using congrArg Array.toList d1
 subst this
 exact r.inj r'
def Inv.tuple_inj (I:Inv X pins σ H s)(h:gk X.K H a xs)(h':gk X.K H a ys):xs=ys:=by
 obtain⟨its,r,⟨o,e,_,n,d⟩,_⟩:=I.tuple h
 obtain⟨its',r',⟨o',e',_,n',d'⟩,_⟩:=I.tuple h'
 rw[e] at e';cases e'
 rw[d] at d'
 injection d' with d1 _
 have:its=its':=by simpa using congrArg Array.toList d1
 subst this
 exact r.inj r'
end
abbrev Cx.wish (X:Cx)(E:Value->Shared->Prop):Cx:={X with xe:=E}
abbrev Cx.nox (X:Cx):Cx:=X.wish λ_ _=>False
def Cx.Ok.wish {X:Cx}(ok:X.Ok)(E:Value->Shared->Prop):(X.wish E).Ok:=
 ⟨ok.mod,ok.kind,ok.glob,ok.blt,ok.above,ok.inj,ok.has,ok.cab,ok.hd,ok.frames,ok.stk,ok.exf,ok.bs,ok.bsz,ok.noex,ok.exfs,ok.funs,ok.frf⟩
def Cx.Ok.unwish {X:Cx}{E:Value->Shared->Prop}(ok:(X.wish E).Ok):X.Ok:=
 ⟨ok.mod,ok.kind,ok.glob,ok.blt,ok.above,ok.inj,ok.has,ok.cab,ok.hd,ok.frames,ok.stk,ok.exf,ok.bs,ok.bsz,ok.noex,ok.exfs,ok.funs,ok.frf⟩
section
variable {X:Cx}{pins:List (Addr×Obj)}{σ:St}{H:Hp}{s:Shared}{E:Value->Shared->Prop}
def Inv.wish (I:Inv X pins σ H s)(E:Value->Shared->Prop):Inv (X.wish E) pins σ H s:=⟨I.ok.wish E,I.os,I.bare,I.base,I.loc,I.cell,I.free,I.freeC,I.pin,I.hok,I.len⟩
def Inv.unwish (I:Inv (X.wish E) pins σ H s):Inv X pins σ H s:=⟨I.ok.unwish,I.os,I.bare,I.base,I.loc,I.cell,I.free,I.freeC,I.pin,I.hok,I.len⟩
theorem SP.unwish {D:Ends}{f:Flow}{s':Shared}(h:SP (X.wish E) pins D f s'):SP X pins D f s':=by
 cases f with
 |next=>obtain⟨σ',H',I,q⟩:=h;exact⟨σ',H',I.unwish,q⟩
 |brk=>obtain⟨σ',H',I,q⟩:=h;exact⟨σ',H',I.unwish,q⟩
 |cont=>obtain⟨σ',H',I,q⟩:=h;exact⟨σ',H',I.unwish,q⟩
 |ret u=>obtain⟨v,σ',H',I,r,q⟩:=h;exact⟨v,σ',H',I.unwish,r,q⟩
def qd.nox {st:List Stmt}{t:TS}(h:qd X.nox st t):qd X st t:=λpins s σ H D I hw=>
 LN (h pins s σ H D (I.wish _) hw) (λ_ _ q=>q.unwish) λ_ _ z=>False.elim z
end
section
variable {X:Cx}{st:Stmt}{rest:List Stmt}{t u:TS}{e:Expr}{te:TE}{pos:Pos}
def Gv:TS:=λD σ H=>D.nx σ H
def GN (t u:TS):TS:=λD σ H=>t {D with nx:=u D} σ H
def xN:qd X [] Gv:=λ_ _ σ H _ I h=>wpAny_execs_nil ⟨σ,H,I,h⟩
theorem eT (h1:PS X st t)(h2:qd X rest u):qd X (st :: rest) (GN t u):=by
 intro pins s σ H D I h
 refine wpAny_execs_cons (b7 (h1 pins s σ H {D with nx:=u D} I h) λf s1 q=>?_)
 cases f with
 |next=>
  obtain⟨σ',H',I',q⟩:=q
  exact h2 pins s1 σ' H' D I' q
 |ret v=>exact q
 |brk=>exact q
 |cont=>exact q
theorem dk (h1:PS X st t):qd X [st] t:=by
 intro pins s σ H D I h
 refine wpAny_execs_cons (b7 (h1 pins s σ H D I h) λf s1 q=>?_)
 cases f with
 |next=>exact wpAny_execs_nil q
 |ret v=>exact q
 |brk=>exact q
 |cont=>exact q
def Inv.quiet {pins:List (Addr×Obj)}{σ:St}{H:Hp}{s:Shared}(I:Inv X pins σ H s):interactive X.env=false:=by simp[interactive,I.ok.kind]
def Gh (te:TE):TS:=λD σ H=>te σ H λ_ H1=>D.nx σ H1
def jM (he:PE X e te)(hs:swapsWith e none pos.line X.env=pure false:=by rfl):PS X (.Expr e pos) (Gh te):=by
 intro pins s σ H D I h
 exact wpAny_Expr_any (b7 (he pins s σ H _ I h) λv s1 ⟨x,H1,I1,r1,q1⟩=>⟨σ,H1,I1,q1⟩) I.quiet hs
def Jo (te:TE):TS:=λD σ H=>te σ H D.rt
def lR (he:PE X e te):PS X (.Return (some e) pos) (Jo te):=by
 intro pins s σ H D I h
 exact wpAny_Return_some (b7 (he pins s σ H _ I h) λv s1 ⟨x,H1,I1,r1,q1⟩=>⟨x,σ,H1,I1,r1,q1⟩)
def GX (c:TT)(t u:TS):TS:=λD σ H=>c σ H λb H1=>if b=true then t D σ H1 else u D σ H1
theorem Au {c:Expr}{a b:List Stmt}{tc:TT}(hc:PT X c tc)(ha:qd X a t)(hb:qd X b u):PS X (.If c a b pos) (GX tc t u):=by
 intro pins s σ H D I h
 refine wpAny_If (b7 (hc pins s σ H _ I h) λd s1 ⟨H1,I1,q1⟩=>?_)
 cases d with
 |true=>exact ha pins s1 σ H1 D I1 q1
 |false=>exact hb pins s1 σ H1 D I1 q1
end
abbrev TG:=V->St->Hp->(St->Hp->Prop)->Prop
abbrev EF:=List V->St->Hp->(St->Hp->Prop)->Prop
def PG (X:Cx)(target:Expr)(t:TG):Prop:=
 ∀(pins:List (Addr×Obj)) (s:Shared) (σ:St) (H:Hp) (v:V) (u:Value) (Q:St->Hp->Prop),Inv X pins σ H s->RelV v u->t v σ H Q->
  wpAny (model X.prog X.w) X.A (assign target X.env u) (λ_ s'=>∃σ' H',Inv X pins σ' H' s'/\Q σ' H') X.xe s
def HX (X:Cx)(ts:List Expr)(t:EF):Prop:=
 ∀(pins:List (Addr×Obj)) (s:Shared) (σ:St) (H:Hp) (vs:List V) (us:List Value) (Q:St->Hp->Prop),Inv X pins σ H s->Vals vs us->t vs σ H Q->
  wpAny (model X.prog X.w) X.A (assignInOrder ((assignEach ts X.env).map (·.2)) us) (λ_ s'=>∃σ' H',Inv X pins σ' H' s'/\Q σ' H') X.xe s
abbrev EL:=V->V->V->Hp->(Hp->Prop)->Prop
def qx (X:Cx)(t:EL):Prop:=
 ∀(pins:List (Addr×Obj)) (s:Shared) (σ:St) (H:Hp) (o i v:V) (ov iv u:Value) (Q:Hp->Prop),Inv X pins σ H s->RelV o ov->RelV i iv->RelV v u->t o i v H Q->
  wpAny (model X.prog X.w) X.A (setItem ov iv u) (λ_ s'=>∃H',Inv X pins σ H' s'/\Q H') X.xe s
section
variable {X:Cx}{pos:Pos}
def gL (i:Nat):TG:=λv σ H Q=>Q (σ.set i (some v)) H
def bR {i:Nat}{x:Str}(hN:X.N.Nodup)(hi:X.N[i]? =some x)(hx:Loc X.env.scope x)(hf:X.fn x=true\/X.env.scope.names.lookup x=some .local:=by first |exact .inl rfl |exact .inr rfl |assumption):PG X (.Name x pos) (gL i):=by
 intro pins s σ H v u Q I r h
 exact wpAny_assign_Name (sP I hN hi hx r (λs' I'=>⟨_,H,I',h⟩) hf)
def Dh:EF:=λvs σ H Q=>vs= []/\Q σ H
def nq (t:TG)(u:EF):EF:=λvs σ H Q=>∃v r,vs=v :: r/\t v σ H λσ' H'=>u r σ' H' Q
def kX:HX X [] Dh:=by
 intro pins s σ H vs us Q I r h
 obtain⟨e,h⟩:=h
 subst e
 cases r
 exact assignInOrder_nil ⟨σ,H,I,h⟩
theorem cQ {e:Expr}{es:List Expr}{t:TG}{u:EF}(h1:PG X e t)(h2:HX X es u)
  (hs:(assignEach (e :: es) X.env).map (·.2)=assign e X.env :: (assignEach es X.env).map (·.2):=by rfl):HX X (e :: es) (nq t u):=by
 intro pins s σ H vs us Q I r h
 obtain⟨v,vr,e1,h⟩:=h
 subst e1
 cases r with
 |cons r rr=>
  rw[hs]
  refine assignInOrder_cons (b7 (h1 pins s σ H _ _ _ I r h) λ_ s1 ⟨σ1,H1,I1,q1⟩=>?_)
  exact h2 pins s1 σ1 H1 _ _ Q I1 rr q1
def C0 (K:Frag)(n:Nat)(t:EF):TG:=λv σ H Q=>∃a xs,v=.ref a/\gk K H a xs/\xs.length=n/\t xs σ H Q
def nD {es:List Expr}{k:Nat}{t:EF}{n:Nat}(hc:X.calm=true)(h:HX X es t)
  (hn:(assignEach es X.env).length=n:=by rfl) (hst:(assignEach es X.env).findIdx? (·.1)=none:=by rfl):PG X (.Tuple es k pos) (C0 X.K n t):=by
 intro pins s σ H v u Q I r hw
 obtain⟨a,xs,e1,hq,hl,hw⟩:=hw
 subst e1
 cases r
 obtain⟨its,rv,ht,hz⟩:=I.tuple hq
 refine assign_Tuple_tuple (I.ok.hd hc) ht (by simp[hn,<-hl,rv.length]) hst λh' hx=>?_
 have I1:Inv X pins σ H {s with heap:=h'}:=I.kept (t':=s.toks) λb o e=>hx b o (KN (Kl e)) e
 exact h pins _ σ H xs _ Q I1 (by simpa using rv) hw
def IY (to ti:TE)(t:EL):TG:=λv σ H Q=>to σ H λo H1=>ti σ H1 λi H2=>t o i v H2 λH3=>Q σ H3
def vL {o i:Expr}{to ti:TE}{t:EL}(ho:PE X o to)(hi:PE X i ti)(hs:qx X t)
  (ha:∀v,assign (.Subscript o i pos) X.env v=(do
   let ov <-holding [v] (eval o X.env)
   let iv <-holding [v,ov] (eval i X.env)
   standAt pos
   holding [v,ov,iv] (setItem ov iv v)
   release [v,ov,iv] []):=by intro _;rfl):PG X (.Subscript o i pos) (IY to ti t):=by
 intro pins s σ H v u Q I r h
 rw[ha]
 refine J8 (Lp (b7 (ho pins s σ H _ I h) λov s1 ⟨x,H1,I1,r1,q1⟩=>?_))
 refine J8 (Lp (b7 (hi pins s1 σ H1 _ I1 q1) λiv s2 ⟨y,H2,I2,r2,q2⟩=>?_))
 refine J8 (wpAny_standAt (J8 (Lp (b7 (hs pins s2 σ H2 x y v ov iv u _ I2 r1 r2 r q2) λ_ s3 ⟨H3,I3,q3⟩=>?_))))
 exact wpAny_release ⟨σ,H3,I3,q3⟩
def Hl (te:TE)(g:TG):TS:=λD σ H=>te σ H λx H1=>g x σ H1 D.nx
def qw {tg e:Expr}{te:TE}{g:TG}(he:PE X e te)(hg:PG X tg g)(hs:swapsWithSole [tg] e pos.line X.env=pure false:=by rfl)(hw:swappedStores [tg] e X.env=pure none:=by rfl)
  (h1:(assignEach [tg] X.env).map (·.2)= [assign tg X.env]:=by rfl):PS X (.Assign [tg] e pos) (Hl te g):=by
 intro pins s σ H D I h
 refine wpAny_Assign_stores (b7 (he pins s σ H _ I h) λv s1 ⟨x,H1,I1,r1,q1⟩=>?_) hs hw
 rw[h1]
 exact b7 (hg pins s1 σ H1 x v _ I1 r1 q1) λ_ s2 q=>q
def nt {i:Nat}{x:Str}{e:Expr}{te:TE}{pos':Pos}(hN:X.N.Nodup)(hi:X.N[i]? =some x)(hx:Loc X.env.scope x)(he:PE X e te)(hs:swapsWith e (some (.Name x pos')) pos.line X.env=pure false:=by rfl)(hf:X.fn x=true\/X.env.scope.names.lookup x=some .local:=by first |exact .inl rfl |exact .inr rfl |assumption) :
  PS X (.Assign [.Name x pos'] e pos) (Hl te (gL i)):=by
 intro pins s σ H D I h
 refine wpAny_Assign_Name (b7 (he pins s σ H _ I h) λv s1 ⟨y,H1,I1,r1,q1⟩=>?_) hs
 exact sP I1 hN hi hx r1 (λs2 I2=>⟨_,H1,I2,q1⟩) hf
end
section
variable {X:Cx}{pos:Pos}
def FA (c:TT)(tb:TS):TS:=λD σ H=>∃W:Nat->St->Hp->Prop,(∃m,W m σ H)/\∀m σ H,W m σ H->
 c σ H λb H1=>if b=true then ∃N:St->Hp->Prop,(∀σ' H',N σ' H'->∃m',m' < m/\W m' σ' H')/\tb {D with nx:=N,ct:=N,bk:=D.nx} σ H1 else D.nx σ H1
theorem zG {c:Expr}{body:List Stmt}{tc:TT}{tb:TS}(hp:PassesOwn (model X.prog X.w) X.A X.env X.xe)(hc:PT X c tc)(hb:qd X body tb):PS X (.While c body [] pos) (FA tc tb):=by
 intro pins s σ H D I h
 obtain⟨W,⟨m0,w0⟩,turn⟩:=h
 refine wpAny_While (codeAny_whileLoop (λn s'=>∃σ' H',Inv X pins σ' H' s'/\W n σ' H') ?_ m0 ⟨σ,H,I,w0⟩)
 rintro n s1 ⟨σ1,H1,I1,w1⟩
 refine L4 hp (b7 (hc pins s1 σ1 H1 _ I1 (turn n σ1 H1 w1)) λb s2 ⟨H2,I2,q2⟩=>?_)
 cases b with
 |true=>
  obtain⟨N,hN,q2⟩:=q2
  rw[Kf rfl]
  refine L4 hp (b7 (hb pins s2 σ1 H2 _ I2 q2) λf s3 q3=>?_)
  cases f with
  |next=>
   obtain⟨σ3,H3,I3,n3⟩:=q3
   obtain⟨m',hm,w3⟩:=hN σ3 H3 n3
   exact⟨m',hm,σ3,H3,I3,w3⟩
  |cont=>
   obtain⟨σ3,H3,I3,n3⟩:=q3
   obtain⟨m',hm,w3⟩:=hN σ3 H3 n3
   exact⟨m',hm,σ3,H3,I3,w3⟩
  |brk=>exact q3
  |ret v=>exact q3
 |false=>
  rw[Ki KC]
  exact wpAny_execs_nil ⟨σ1,H2,I2,q2⟩
end
structure It where
 go:Nat->Hp->Prop
 yld:Nat->Hp->V->Hp->Prop
 stop:Nat->Hp->Prop
def oP (X:Cx)(pins:List (Addr×Obj))(H:Hp)(b:Addr):Prop:=
 H b=none/\b≠X.env.locals/\b∉X.fs/\(b∈X.ex\/X.s₀.heap.objs.size<=b)/\(∀x c,X.env.cells.lookup x=some c->c≠b)/\∀p∈X.pn ++ pins,p.1≠b
def Inv.fpOk {X:Cx}{pins:List (Addr×Obj)}{σ:St}{H H':Hp}{s:Shared}{b:Addr}(I:Inv X pins σ H s)(hb:s.heap.objs.size<=b)(hn:H' b=none):oP X pins H' b:=by
 refine⟨hn,Nat.ne_of_gt (KL I.lt hb),I.nofs hb,.inr (Lf I.sz hb),λx c e z=>?_,λp hp z=>?_⟩
 ·obtain⟨v,q⟩:=I.cell x c e
  exact absurd (KL q.lt (by rw[z];exact hb)) (KU _)
 ·exact absurd (KL (Kl (I.pin p hp).1) (by rw[z];exact hb)) (KU _)
structure Turn (P:Program)(w:World)(K:Frag)(tg:Expr)(J:It)(fp:List Addr)(it:Addr)(tn:Nat->Heap->Prop):Prop where
 mem:it∈fp
 obj:∀i h,tn i h->∀b∈fp,∃o,h.get? b=some o/\∀v,o.data≠.cell v
 keep:∀i h h',tn i h->(∀b∈fp,∀o,h.get? b=some o->h'.get? b=some o)->tn i h'
 item:∀(X:Cx),X.prog=P->X.w=w->X.K=K->X.calm=true->∀(i:Nat) (pins:List (Addr×Obj)) (s:Shared) (σ:St) (H:Hp) (E:Value->Shared->Prop),Inv X pins σ H s->(∀b∈fp,oP X pins H b)->tn i s.heap->J.go i H->
  wpAny (model P w) X.A (pyNext (.ref it)) (λr s1=>∃u,r=some u/\
   wpAny (model P w) X.A (letOwnedTupleGo tg (.ref it) u) (λ_ s2=>∃x H',Inv X pins σ H' s2/\RelV x u/\J.yld i H x H'/\tn (i + 1) s2.heap/\∀b∈fp,H' b=none) E s1) E s
 done:∀(X:Cx),X.prog=P->X.w=w->X.K=K->X.calm=true->∀(i:Nat) (pins:List (Addr×Obj)) (s:Shared) (σ:St) (H:Hp) (E:Value->Shared->Prop),Inv X pins σ H s->(∀b∈fp,oP X pins H b)->tn i s.heap->J.stop i H->
  wpAny (model P w) X.A (pyNext (.ref it)) (λr s1=>r=none/\Inv X pins σ H s1) E s
 self:∀(A:Around) (i:Nat) (s:Shared) (Q:Value->Shared->Prop) (E:Value->Shared->Prop),tn i s.heap->Q (.ref it) s->wpAny (model P w) A (pyIter (.ref it)) Q E s
abbrev TI:=St->Hp->(It->Hp->Prop)->Prop
def JJ (X:Cx)(pins:List (Addr×Obj))(σ:St)(tg:Expr)(R:It->Hp->Prop)(itv:Value)(s2:Shared):Prop:=
 ∃(it:Addr) (fp:List Addr) (tn:Nat->Heap->Prop) (J:It) (H':Hp),itv=.ref it/\Inv X pins σ H' s2/\Turn X.prog X.w X.K tg J fp it tn/\tn 0 s2.heap/\(∀b∈fp,oP X pins H' b)/\R J H'
def PI (X:Cx)(tg iter:Expr)(wi:TI):Prop:=
 ∀(pins:List (Addr×Obj)) (s:Shared) (σ:St) (H:Hp) (R:It->Hp->Prop),Inv X pins σ H s->wi σ H R->
  wpAny (model X.prog X.w) X.A (eval iter X.env) (λv s1=>wpAny (model X.prog X.w) X.A (pyIter v) (JJ X pins σ tg R) X.xe s1) X.xe s
def Aq {M:Model}{A:Around}{E:Value->Shared->Prop}{s:Shared}{tg:Expr}{it:Addr}{u:Value}{o:Obj}{n:String}{vs:Array Value}{Q:Unit->Shared->Prop}(ho:s.heap.get? it=some o)(hc:o.cls=.type n)(hd:o.data=.fields vs)
  (hn: ["enumerate","zip","dict_itemiterator","dict_reverseitemiterator","odict_iterator","itertools.zip_longest","itertools.pairwise"].contains n=false) (hQ:Q () s):wpAny M A (letOwnedTupleGo tg (.ref it) u) Q E s:=by
 unfold letOwnedTupleGo
 cases tg <;> first
  |exact Kc hQ
  | (cases u <;> first
    |exact Kc hQ
    | (refine J8 (wpAny_load ho ?_)
       rw[hc,hd]
       show wpAny M A (if (["enumerate","zip","dict_itemiterator","dict_reverseitemiterator","odict_iterator","itertools.zip_longest","itertools.pairwise"].contains n && vs[0]? == some (rawInt _))=true then _ else _) Q E s
       rw[Ki (by intro h;rw[hn,Bool.false_and] at h;cases h)]
       exact Kc hQ))
def yS (K:Frag)(a:Addr):It:=
 ⟨λi H=>∃xs x,fQ K H a xs/\xs[i]? =some x,λi H x H'=>H'=H/\∀xs,fQ K H a xs->xs[i]? =some x,λi H=>∃xs,fQ K H a xs/\xs.length<=i⟩
def Dz (K:Frag)(a:Addr):It:=
 ⟨λi H=>∃xs x,gk K H a xs/\xs[i]? =some x,λi H x H'=>H'=H/\∀xs,gk K H a xs->xs[i]? =some x,λi H=>∃xs,gk K H a xs/\xs.length<=i⟩
def yv (lo:Int)(n:Nat):It:=⟨λi _=>i < n,λi H x H'=>H'=H/\x=.int (lo + i),λi _=>n<=i⟩
def lE {P:Program}{w:World}{K:Frag}{tg:Expr}(a it:Addr):Turn P w K tg (yS K a) [it] it (λi h=>h.IsListIter it a i) where
 mem:=by simp
 obj:=λi h st b hb=>by
  have e:b=it:=by simpa using hb
  subst e
  obtain⟨o,e,c,d⟩:=st
  exact⟨o,e,λv z=>by rw[d] at z;cases z⟩
 keep:=λi h h' st k=>st.at λo e=>k it (by simp) o e
 item:=by
  intro X hP hw hK hc i pins s σ H E I hf st hg
  subst hP hw hK
  obtain⟨xs,x,hq,hx⟩:=hg
  obtain⟨its,rv,p,hz⟩:=I.list hq
  obtain⟨u,hu,ru⟩:=rv.get hx
  obtain⟨f0,f1,f2,f3,f4,f5⟩:=hf it (by simp)
  refine wpAny_pyNext_list_item st p.isList (x:=u) (by simpa using hu) λh' st' sb=>?_
  have I1:Inv X pins σ H {s with heap:=h'}:=I.turned (t':=s.toks) (λb o hb e=>(sb.2 b hb).trans e) f0 f1 f3 f4 f5
  obtain⟨o,e,c,d⟩:=id st'
  exact⟨u,rfl,Aq (s:={s with heap:=h'}) e c d (by decide) ⟨x,H,I1,ru,⟨rfl,λys hy=>by rw[I.list_inj hy hq];exact hx⟩,st',λb hb=>(hf b hb).1⟩⟩
 done:=by
  intro X hP hw hK hc i pins s σ H E I hf st hg
  subst hP hw hK
  obtain⟨xs,hq,hx⟩:=hg
  obtain⟨its,rv,p,hz⟩:=I.list hq
  obtain⟨f0,f1,f2,f3,f4,f5⟩:=hf it (by simp)
  have hl:=rv.length
  exact wpAny_pyNext_list_end (I.ok.hd hc) st p.isList (by simp;omega) λh' eb=>⟨rfl,I.turned (t':=s.toks) (λb o hb e=>eb b o hb e) f0 f1 f3 f4 f5⟩
 self:=λ_ _ _ _ _ st h=>wpAny_pyIter_listiter st h
def og {P:Program}{w:World}{K:Frag}{tg:Expr}(a it:Addr):Turn P w K tg (Dz K a) [it] it (λi h=>h.IsTupleIter it a i) where
 mem:=by simp
 obj:=λi h st b hb=>by
  have e:b=it:=by simpa using hb
  subst e
  obtain⟨o,e,c,d⟩:=st
  exact⟨o,e,λv z=>by rw[d] at z;cases z⟩
 keep:=λi h h' st k=>st.at λo e=>k it (by simp) o e
 item:=by
  intro X hP hw hK hc i pins s σ H E I hf st hg
  subst hP hw hK
  obtain⟨xs,x,hq,hx⟩:=hg
  obtain⟨its,rv,p,hz⟩:=I.tuple hq
  obtain⟨u,hu,ru⟩:=rv.get hx
  obtain⟨f0,f1,f2,f3,f4,f5⟩:=hf it (by simp)
  refine wpAny_pyNext_tuple_item st (show s.heap.IsTuple a its.toArray from p) (x:=u) (by simpa using hu) λh' st' sb=>?_
  have I1:Inv X pins σ H {s with heap:=h'}:=I.turned (t':=s.toks) (λb o hb e=>(sb.2 b hb).trans e) f0 f1 f3 f4 f5
  obtain⟨o,e,c,d⟩:=id st'
  exact⟨u,rfl,Aq (s:={s with heap:=h'}) e c d (by decide) ⟨x,H,I1,ru,⟨rfl,λys hy=>by rw[I.tuple_inj hy hq];exact hx⟩,st',λb hb=>(hf b hb).1⟩⟩
 done:=by
  intro X hP hw hK hc i pins s σ H E I hf st hg
  subst hP hw hK
  obtain⟨xs,hq,hx⟩:=hg
  obtain⟨its,rv,p,hz⟩:=I.tuple hq
  obtain⟨f0,f1,f2,f3,f4,f5⟩:=hf it (by simp)
  have hl:=rv.length
  exact wpAny_pyNext_tuple_end (I.ok.hd hc) st (show s.heap.IsTuple a its.toArray from p) (by simp;omega) λh' eb=>⟨rfl,I.turned (t':=s.toks) (λb o hb e=>eb b o hb e) f0 f1 f3 f4 f5⟩
 self:=λ_ _ _ _ _ st h=>wpAny_pyIter_tupleiter st h
def uE {P:Program}{w:World}{K:Frag}{tg:Expr}(it:Addr)(lo:Int)(n:Nat):Turn P w K tg (yv lo n) [it] it (λi h=>IsRangeIter h it (lo + (i:Nat) * 1) ((n:Int) - (i:Nat)) 1) where
 mem:=by simp
 obj:=λi h st b hb=>by
  have e:b=it:=by simpa using hb
  subst e
  exact⟨_,st,λv z=>by
   have z':Data.fields _=Data.cell v:=z
   cases z'⟩
 keep:=λi h h' st k=>k it (by simp) _ st
 item:=by
  intro X hP hw hK hc i pins s σ H E I hf st hg
  subst hP hw hK
  obtain⟨f0,f1,f2,f3,f4,f5⟩:=hf it (by simp)
  have W:=Walks.range (prog:=X.prog) (w:=X.w) (I.ok.hd hc) it lo 1 n
  refine W.item i s _ _ hg st λv h' tk hv st' kk=>?_
  obtain⟨t,rfl⟩:=hv
  have I1:Inv X pins σ H {s with heap:=h',toks:=tk}:=I.turned (λb o hb e=>kk b o (by simpa using hb) e) f0 f1 f3 f4 f5
  refine⟨_,rfl,Aq (s:={s with heap:=h',toks:=tk}) (n:="range_iterator") st' rfl rfl (by decide) ⟨.int (lo + i),H,I1,⟨t,?_⟩,⟨rfl,rfl⟩,st',λb hb=>(hf b hb).1⟩⟩
  rw[Int.mul_one]
 done:=by
  intro X hP hw hK hc i pins s σ H E I hf st hg
  subst hP hw hK
  obtain⟨f0,f1,f2,f3,f4,f5⟩:=hf it (by simp)
  exact wpAny_pyNext_range_end (I.ok.hd hc) st (by have:n<=i:=hg;omega) λh' eb=>⟨rfl,I.turned (t':=s.toks) (λb o hb e=>eb b o hb e) f0 f1 f3 f4 f5⟩
 self:=λ_ _ _ _ _ st h=>wpAny_pyIter_rangeiter st h
section
variable {X:Cx}{tg:Expr}
def Hn (K:Frag)(tl:TE):TI:=λσ H R=>tl σ H λx H1=>∃a,x=.ref a/\(∃xs,fQ K H1 a xs)/\R (yS K a) H1
def wz {l:Expr}{tl:TE}(hl:PE X l tl):PI X tg l (Hn X.K tl):=by
 intro pins s σ H R I h
 refine b7 (hl pins s σ H _ I h) λv s1 ⟨x,H1,I1,r1,q1⟩=>?_
 obtain⟨a,e,⟨xs,hq⟩,q⟩:=q1
 subst e
 cases r1
 obtain⟨its,rv,p,hz⟩:=I1.list hq
 refine MC p.isList ?_
 refine⟨s1.heap.objs.size,[s1.heap.objs.size],_,_,H1,rfl,I1.kept (t':=s1.toks) λb o e=>Ka _ e,lE a _,⟨_,Ky _ rfl,rfl,rfl⟩,λb hb=>?_,q⟩
 have e:b=s1.heap.objs.size:=by simpa using hb
 subst e
 exact I1.fpOk (Kg _) (I1.hok.fresh (Kg _))
def sR {pins:List (Addr×Obj)}{σ:St}{H:Hp}{s:Shared}{R:It->Hp->Prop}{E:Value->Shared->Prop}{lo hi:Int}{t u v:Tok}{tk:Nat}(I:Inv X pins σ H s)(h1: -(2 ^ 62)<=lo)(h2:lo < 2 ^ 62)(h3: -(2 ^ 62)<=hi)(h4:hi < 2 ^ 62)
  (q:R (yv lo (hi - lo).toNat) H):wpAny (model X.prog X.w) X.A (pyIter (.ref s.heap.objs.size)) (JJ X pins σ tg R) E {s with heap:=s.heap.push {cls:=.type "range",data:=.fields #[.int lo t,.int hi u,.int 1 v]},toks:=tk}:=by
 refine wpAny_pyIter_range (IsRange.new ..) (small_one h1 h2 h3 h4) ?_
 have I1:Inv X pins σ H {s with heap:=s.heap.push {cls:=.type "range",data:=.fields #[.int lo t,.int hi u,.int 1 v]},toks:=tk}:=I.kept λb o e=>Ka _ e
 refine⟨(s.heap.push {cls:=.type "range",data:=.fields #[.int lo t,.int hi u,.int 1 v]}).objs.size,[(s.heap.push {cls:=.type "range",data:=.fields #[.int lo t,.int hi u,.int 1 v]}).objs.size],_,_,H,rfl,
  I1.kept (t':=tk) λb o e=>Ka _ e,uE _ lo (hi - lo).toNat,?_,λb hb=>?_,q⟩
 ·have e1:lo + ((0:Nat):Int) * 1=lo:=by simp
  have e2:(((hi - lo).toNat:Nat):Int) - ((0:Nat):Int)=Builtin.Range.rangeSize lo hi 1:=by rw[rangeSize_one];split <;> omega
  show IsRangeIter _ _ (lo + ((0:Nat):Int) * 1) ((((hi - lo).toNat:Nat):Int) - ((0:Nat):Int)) 1
  rw[e1,e2]
  exact Ky _ rfl
 ·have e:b=(s.heap.push {cls:=.type "range",data:=.fields #[.int lo t,.int hi u,.int 1 v]}).objs.size:=by simpa using hb
  subst e
  exact I1.fpOk (Kg _) (I1.hok.fresh (Kg _))
def Gj (ta:TA):TI:=λσ H R=>ta σ H λvs H1=>∃j:Int,vs= [.int j]/\ -(2 ^ 62)<=j/\j < 2 ^ 62/\R (yv 0 j.toNat) H1
def GS (ta:TA):TI:=λσ H R=>ta σ H λvs H1=>∃i j:Int,vs= [.int i,.int j]/\(-(2 ^ 62)<=i/\i < 2 ^ 62/\ -(2 ^ 62)<=j/\j < 2 ^ 62)/\R (yv i (j - i).toNat) H1
theorem jI {a:Expr}{ta:TA}{p pos:Pos}(hg:Gl X "range")(hm:X.mg "range"=none)(ha:PA X [a] ta)(hs:starEach [a] X.env= [(false,eval a X.env)]:=by rfl):PI X tg (.Call (.Name "range" p) [a] [] pos) (Gj ta):=by
 intro pins s σ H R I h
 refine Call_ (nR I hg hm boot_range (MJ (b7 (ha pos pins s σ H _ I h) λus s1 ⟨vs,H1,I1,r1,q1⟩=>?_) hs rfl))
 obtain⟨j,e,q1,q2,q⟩:=q1
 subst e
 cases r1 with
 |cons r rr=>
  cases rr
  obtain⟨t,rfl⟩:=r
  exact call_range_1 (sR I1 (by omega) (by omega) q1 q2 (by simpa using q))
theorem yZ {a b:Expr}{ta:TA}{p pos:Pos}(hg:Gl X "range")(hm:X.mg "range"=none)(ha:PA X [a,b] ta)(hs:starEach [a,b] X.env= [(false,eval a X.env),(false,eval b X.env)]:=by rfl)(hs2:starEach [b] X.env= [(false,eval b X.env)]:=by rfl) :
  PI X tg (.Call (.Name "range" p) [a,b] [] pos) (GS ta):=by
 intro pins s σ H R I h
 refine Call_ (nR I hg hm boot_range (MJ (b7 (ha pos pins s σ H _ I h) λus s1 ⟨vs,H1,I1,r1,q1⟩=>?_) (by rw[hs,hs2]) (by rw[hs2];rfl)))
 obtain⟨i,j,e,⟨q1,q2,q3,q4⟩,q⟩:=q1
 subst e
 cases r1 with
 |cons r rr=>
  cases rr with
  |cons r' rr=>
   cases rr
   obtain⟨t,rfl⟩:=r
   obtain⟨t',rfl⟩:=r'
   exact call_range_2 (sR I1 q1 q2 q3 q4 q)
def Js (wi:TI)(g:TG)(tb:TS):TS:=λD σ H=>wi σ H λJ H1=>∃W:Nat->Nat->St->Hp->Prop,(∃m,W 0 m σ H1)/\∀i m σ H,W i m σ H->
 (J.stop i H/\D.nx σ H)\/(J.go i H/\∃N:St->Hp->Prop,(∀σ' H',N σ' H'->∃m',m' < m/\W (i + 1) m' σ' H')/\∀x H',J.yld i H x H'->g x σ H' λσ2 H2=>tb {D with nx:=N,ct:=N,bk:=D.nx} σ2 H2)
def oD (fp:List Addr)(h:Heap):List (Addr×Obj):=fp.filterMap λb=>(h.get? b).map λo=>(b,o)
def iC {fp:List Addr}{h:Heap}{b:Addr}{o:Obj}(hb:b∈fp)(e:h.get? b=some o):(b,o)∈oD fp h:=LO.mpr ⟨b,hb,by rw[e];rfl⟩
theorem yq {fp:List Addr}{h:Heap}{p:Addr×Obj}(hp:p∈oD fp h):p.1∈fp/\h.get? p.1=some p.2:=by
 obtain⟨b,hb,e⟩:=LO.mp hp
 cases q:h.get? b with
 |none=>rw[q] at e;cases e
 |some o=>
  rw[q] at e
  have e':(b,o)=p:=Option.some.inj e
  subst e'
  exact⟨hb,q⟩
def Inv.pinned {pins:List (Addr×Obj)}{σ:St}{H:Hp}{s:Shared}{fp:List Addr}(I:Inv X pins σ H s)(hf:∀b∈fp,oP X pins H b)(ho:∀b∈fp,∃o,s.heap.get? b=some o/\∀v,o.data≠.cell v):Inv X (pins ++ oD fp s.heap) σ H s:=
 I.pins_of λp hp=>(KA.mp hp).elim (λz=>I.pin p (KR _ z)) λz=>by
  obtain⟨hb,e⟩:=yq z
  obtain⟨f0,f1,f2,_⟩:=hf p.1 hb
  obtain⟨o,e',d⟩:=ho p.1 hb
  rw[e] at e';cases e'
  exact⟨e,f0,f1,f2,d⟩
def Inv.unpinned {pins pl:List (Addr×Obj)}{σ:St}{H:Hp}{s:Shared}(I:Inv X (pins ++ pl) σ H s):Inv X pins σ H s:=I.pins_of λp hp=>I.pin p (KR _ (LF _ hp))
def ny {iter:Expr}{body:List Stmt}{wi:TI}{g:TG}{tb:TS}{pos:Pos}(hp:PassesOwn (model X.prog X.w) X.A X.env X.xe)(hc:X.calm=true)(hi:PI X tg iter wi)(hg:PG X tg g)(hb:qd X body tb)
  (hs:∀x,foldedSetIterable iter X.env x=pure x:=by intro _;rfl):PS X (.For tg iter body [] pos) (Js wi g tb):=by
 intro pins s σ H D I h
 refine wpAny_For (b7 (hi pins s σ H _ I h) λv s1 h1=>b7 h1 λitv s2 h2=>?_) hs
 obtain⟨it,fp,tn,J,H2,e,I2,T,st2,f2,W,⟨m0,w0⟩,turn⟩:=h2
 subst e
 have stat:∀{H':Hp},(∀b∈fp,H' b=none)->∀b∈fp,oP X pins H' b:=λhn b hb=>⟨hn b hb,(f2 b hb).2⟩
 refine codeAny_forLoop_any (λn s'=>∃i σ' H',Inv X pins σ' H' s'/\tn i s'.heap/\(∀b∈fp,H' b=none)/\W i n σ' H') ?_ m0 ⟨0,σ,H2,I2,st2,λb hb=>(f2 b hb).1,w0⟩
 rintro n s3 ⟨i,σ3,H3,I3,st3,fr3,w3⟩
 rcases turn i n σ3 H3 w3 with⟨stop,qn⟩ | ⟨go,N,hN,step⟩
 ·refine L4 hp (b7 (T.done X rfl rfl rfl hc i pins s3 σ3 H3 X.xe I3 (stat fr3) st3 stop) λr s4 ⟨hr,I4⟩=>?_)
  subst hr
  exact wpAny_execs_nil ⟨σ3,H3,I4,qn⟩
 ·refine L4 hp (b7 (T.item X rfl rfl rfl hc i pins s3 σ3 H3 X.xe I3 (stat fr3) st3 go) λr s4 ⟨u,hr,h4⟩=>?_)
  subst hr
  refine L4 hp (b7 h4 λ_ s5 ⟨x,H5,I5,r5,y5,st5,fr5⟩=>?_)
  have I5':=I5.pinned (stat fr5) (T.obj _ _ st5)
  refine L4 hp (b7 (hg _ s5 σ3 H5 x u _ I5' r5 (step x H5 y5)) λ_ s6 ⟨σ6,H6,I6,q6⟩=>?_)
  refine L4 hp (b7 (hb _ s6 σ6 H6 _ I6 q6) λf s7 q7=>?_)
  have again:∀{σ7:St} {H7:Hp},Inv X (pins ++ oD fp s5.heap) σ7 H7 s7->N σ7 H7->∃m,m < n/\∃i σ' H',Inv X pins σ' H' s7/\tn i s7.heap/\(∀b∈fp,H' b=none)/\W i m σ' H':=λ{σ7 H7} I7 n7=>by
   obtain⟨m',hm,w7⟩:=hN σ7 H7 n7
   refine⟨m',hm,i + 1,σ7,H7,I7.unpinned,T.keep _ _ _ st5 λb hb o e=>(I7.pin (b,o) (KR _ (KR _ (iC hb e)))).1,λb hb=>?_,w7⟩
   obtain⟨o,e,d⟩:=T.obj _ _ st5 b hb
   exact (I7.pin (b,o) (KR _ (KR _ (iC hb e)))).2.1
  cases f with
  |next=>obtain⟨σ7,H7,I7,n7⟩:=q7;exact again I7 n7
  |cont=>obtain⟨σ7,H7,I7,n7⟩:=q7;exact again I7 n7
  |brk=>obtain⟨σ7,H7,I7,q7⟩:=q7;exact⟨σ7,H7,I7.unpinned,q7⟩
  |ret v=>obtain⟨x7,σ7,H7,I7,r7,q7⟩:=q7;exact⟨x7,σ7,H7,I7.unpinned,r7,q7⟩
end
def sy {K:Frag}{a:Addr}{xs:List V}{g:TG}{tb:TS}{D:Ends}{σ:St}{H:Hp}(Pv:Nat->St->Hp->Prop)(h0:Pv 0 σ H)(hl:∀i σ H,i<=xs.length->Pv i σ H->fQ K H a xs)
  (hs:∀i x σ H,xs[i]? =some x->Pv i σ H->g x σ H λσ2 H2=>tb {D with nx:=Pv (i + 1),ct:=Pv (i + 1),bk:=D.nx} σ2 H2) (hd:∀σ H,Pv xs.length σ H->D.nx σ H) :
  ∃W:Nat->Nat->St->Hp->Prop,(∃m,W 0 m σ H)/\∀i m σ H,W i m σ H->
   ((yS K a).stop i H/\D.nx σ H)\/((yS K a).go i H/\∃N:St->Hp->Prop,(∀σ' H',N σ' H'->∃m',m' < m/\W (i + 1) m' σ' H')/\∀x H',(yS K a).yld i H x H'->g x σ H' λσ2 H2=>tb {D with nx:=N,ct:=N,bk:=D.nx} σ2 H2):=by
 refine⟨λi m σ H=>m=xs.length - i/\i<=xs.length/\Pv i σ H,⟨xs.length,by simp,KY _,h0⟩,?_⟩
 rintro i m σ H ⟨rfl,hi,p⟩
 have q:=hl i σ H hi p
 by_cases hlt:i < xs.length
 ·refine .inr ⟨⟨xs,xs[i],q,by simp[hlt]⟩,Pv (i + 1),λσ' H' p'=>⟨xs.length - (i + 1),by omega,rfl,hlt,p'⟩,λx H' y=>?_⟩
  obtain⟨e,y⟩:=y
  subst e
  exact hs i x σ _ (y xs q) p
 ·have e:i=xs.length:=by omega
  subst e
  exact .inl ⟨⟨xs,q,Kg _⟩,hd σ H p⟩
def CW {K:Frag}{a:Addr}{xs:List V}{g:TG}{tb:TS}{D:Ends}{σ:St}{H:Hp}(Pv:Nat->St->Hp->Prop)(h0:Pv 0 σ H)(hl:∀i σ H,i<=xs.length->Pv i σ H->gk K H a xs)
  (hs:∀i x σ H,xs[i]? =some x->Pv i σ H->g x σ H λσ2 H2=>tb {D with nx:=Pv (i + 1),ct:=Pv (i + 1),bk:=D.nx} σ2 H2) (hd:∀σ H,Pv xs.length σ H->D.nx σ H) :
  ∃W:Nat->Nat->St->Hp->Prop,(∃m,W 0 m σ H)/\∀i m σ H,W i m σ H->
   ((Dz K a).stop i H/\D.nx σ H)\/((Dz K a).go i H/\∃N:St->Hp->Prop,(∀σ' H',N σ' H'->∃m',m' < m/\W (i + 1) m' σ' H')/\∀x H',(Dz K a).yld i H x H'->g x σ H' λσ2 H2=>tb {D with nx:=N,ct:=N,bk:=D.nx} σ2 H2):=by
 refine⟨λi m σ H=>m=xs.length - i/\i<=xs.length/\Pv i σ H,⟨xs.length,by simp,KY _,h0⟩,?_⟩
 rintro i m σ H ⟨rfl,hi,p⟩
 have q:=hl i σ H hi p
 by_cases hlt:i < xs.length
 ·refine .inr ⟨⟨xs,xs[i],q,by simp[hlt]⟩,Pv (i + 1),λσ' H' p'=>⟨xs.length - (i + 1),by omega,rfl,hlt,p'⟩,λx H' y=>?_⟩
  obtain⟨e,y⟩:=y
  subst e
  exact hs i x σ _ (y xs q) p
 ·have e:i=xs.length:=by omega
  subst e
  exact .inl ⟨⟨xs,q,Kg _⟩,hd σ H p⟩
def yP {lo:Int}{n:Nat}{g:TG}{tb:TS}{D:Ends}{σ:St}{H:Hp}(Pv:Nat->St->Hp->Prop)(h0:Pv 0 σ H)
  (hs:∀i σ H,i < n->Pv i σ H->g (.int (lo + i)) σ H λσ2 H2=>tb {D with nx:=Pv (i + 1),ct:=Pv (i + 1),bk:=D.nx} σ2 H2) (hd:∀σ H,Pv n σ H->D.nx σ H) :
  ∃W:Nat->Nat->St->Hp->Prop,(∃m,W 0 m σ H)/\∀i m σ H,W i m σ H->
   ((yv lo n).stop i H/\D.nx σ H)\/((yv lo n).go i H/\∃N:St->Hp->Prop,(∀σ' H',N σ' H'->∃m',m' < m/\W (i + 1) m' σ' H')/\∀x H',(yv lo n).yld i H x H'->g x σ H' λσ2 H2=>tb {D with nx:=N,ct:=N,bk:=D.nx} σ2 H2):=by
 refine⟨λi m σ H=>m=n - i/\i<=n/\Pv i σ H,⟨n,by simp,KY _,h0⟩,?_⟩
 rintro i m σ H ⟨rfl,hi,p⟩
 by_cases hlt:i < n
 ·refine .inr ⟨hlt,Pv (i + 1),λσ' H' p'=>⟨n - (i + 1),by omega,rfl,hlt,p'⟩,λx H' y=>?_⟩
  obtain⟨e,y⟩:=y
  subst e y
  exact hs i σ _ hlt p
 ·have e:i=n:=by omega
  subst e
  exact .inl ⟨Kg _,hd σ H p⟩
abbrev R2:=V->V->Hp->VK->Prop
def lu (X:Cx)(f:Value->Value->Sem Value)(r:R2):Prop:=
 ∀(pins:List (Addr×Obj)) (s:Shared) (σ:St) (H:Hp) (x y:V) (v u:Value) (Q:VK),Inv X pins σ H s->RelV x v->RelV y u->r x y H Q->
  wpAny (model X.prog X.w) X.A (f v u) (EP X pins σ Q) X.xe s
def HP (X:Cx)(f:Value->Sem Value)(r:V->Hp->VK->Prop):Prop:=
 ∀(pins:List (Addr×Obj)) (s:Shared) (σ:St) (H:Hp) (x:V) (v:Value) (Q:VK),Inv X pins σ H s->RelV x v->r x H Q->
  wpAny (model X.prog X.w) X.A (f v) (EP X pins σ Q) X.xe s
def b6 (X:Cx)(f:Value)(r:List V->Hp->VK->Prop):Prop:=
 ∀(pins:List (Addr×Obj)) (s:Shared) (σ:St) (H:Hp) (xs:List V) (us:List Value) (Q:VK),Inv X pins σ H s->Vals xs us->r xs H Q->
  wpAny (model X.prog X.w) X.A (call f us) (EP X pins σ Q) X.xe s
def Ju (X:Cx)(r:V->Hp->(Bool->Hp->Prop)->Prop):Prop:=
 ∀(pins:List (Addr×Obj)) (s:Shared) (σ:St) (H:Hp) (x:V) (v:Value) (Q:Bool->Hp->Prop),Inv X pins σ H s->RelV x v->r x H Q->
  wpAny (model X.prog X.w) X.A (truthy v) (TP X pins σ Q) X.xe s
def Ig (r:R2)(ta tb:TE):TE:=λσ H Q=>ta σ H λx H1=>tb σ H1 λy H2=>r x y H2 Q
def JS (r:V->Hp->VK->Prop)(ta:TE):TE:=λσ H Q=>ta σ H λx H1=>r x H1 Q
def rI (C:Int->Int->Prop)(g:Int->Int->V):R2:=λx y H Q=>∃i j,x=.int i/\y=.int j/\C i j/\Q (g i j) H
def yU (g:Int->Int->V):R2:=λx y H Q=>∃i j,x=.int i/\y=.int j/\Q (g i j) H
def rU (g:Int->V):V->Hp->VK->Prop:=λx H Q=>∃i,x=.int i/\Q (g i) H
section
variable {X:Cx}{a b c:Expr}{ta tb tc:TE}{pos:Pos}
def E2 (ha:PE X a ta)(hb:PE X b tb){pins:List (Addr×Obj)}{s:Shared}{σ:St}{H:Hp}{R:V->V->Hp->Prop}(I:Inv X pins σ H s)
  (h:ta σ H λx H1=>tb σ H1 λy H2=>R x y H2) {Q:Value->Shared->Prop} {f:Value->Value->Sem Value}
  (hf:∀v u s2 x y H2,Inv X pins σ H2 s2->RelV x v->RelV y u->R x y H2->wpAny (model X.prog X.w) X.A (f v u) Q X.xe s2) :
  wpAny (model X.prog X.w) X.A (eval a X.env) (λv s₁=>wpAny (model X.prog X.w) X.A (eval b X.env) (λu s₂=>wpAny (model X.prog X.w) X.A (f v u) Q X.xe s₂) X.xe s₁) X.xe s:=by
 refine b7 (ha pins s σ H _ I h) λv s1 ⟨x,H1,I1,r1,q1⟩=>?_
 refine b7 (hb pins s1 σ H1 _ I1 q1) λu s2 ⟨y,H2,I2,r2,q2⟩=>?_
 exact hf v u s2 x y H2 I2 r1 r2 q2
def sZ {op:Operator}{r:R2}(ho:lu X (binaryOp op) r)(ha:PE X a ta)(hb:PE X b tb):PE X (.BinOp a op b pos) (Ig r ta tb):=by
 intro pins s σ H Q I h
 exact wpAny_BinOp (E2 ha hb I h λv u s2 x y H2 I2 rx ry q=>ho pins s2 σ H2 x y v u Q I2 rx ry q)
def D6 {op:UnaryOp}{r:V->Hp->VK->Prop}(ho:HP X (unaryOp op) r)(ha:PE X a ta):PE X (.UnaryOp op a pos) (JS r ta):=by
 intro pins s σ H Q I h
 exact UnaryOp_ (b7 (ha pins s σ H _ I h) λv s1 ⟨x,H1,I1,r1,q1⟩=>ho pins s1 σ H1 x v Q I1 r1 q1)
def HY {f:Value->Value->Sem Value}{C:Int->Int->Prop}{g:Int->Int->Int}
  (rule:∀(i j:Int) (t u:Tok) (s:Shared) (Q:Value->Shared->Prop) (E:Value->Shared->Prop),C i j->Q (.int (g i j) s.toks) {s with toks:=s.toks + 1}->wpAny (model X.prog X.w) X.A (f (.int i t) (.int j u)) Q E s) :
  lu X f (rI C λi j=>.int (g i j)):=by
 intro pins s σ H x y v u Q I rx ry h
 obtain⟨i,j,rfl,rfl,hc,q⟩:=h
 obtain⟨t,rfl⟩:=rx
 obtain⟨t',rfl⟩:=ry
 exact rule i j t t' s _ _ hc ⟨.int (g i j),H,I.tok _,⟨_,rfl⟩,q⟩
def IZ {f:Value->Value->Sem Value}{g:Int->Int->Int}
  (rule:∀(i j:Int) (t u:Tok) (s:Shared) (Q:Value->Shared->Prop) (E:Value->Shared->Prop),Q (.int (g i j) s.toks) {s with toks:=s.toks + 1}->wpAny (model X.prog X.w) X.A (f (.int i t) (.int j u)) Q E s) :
  lu X f (yU λi j=>.int (g i j)):=by
 intro pins s σ H x y v u Q I rx ry h
 obtain⟨i,j,rfl,rfl,q⟩:=h
 obtain⟨t,rfl⟩:=rx
 obtain⟨t',rfl⟩:=ry
 exact rule i j t t' s _ _ ⟨.int (g i j),H,I.tok _,⟨_,rfl⟩,q⟩
def CI {f:Value->Value->Sem Value}{g:Int->Int->Bool}
  (rule:∀(i j:Int) (t u:Tok) (s:Shared) (Q:Value->Shared->Prop) (E:Value->Shared->Prop),Q (.bool (g i j)) s->wpAny (model X.prog X.w) X.A (f (.int i t) (.int j u)) Q E s) :
  lu X f (yU λi j=>.bl (g i j)):=by
 intro pins s σ H x y v u Q I rx ry h
 obtain⟨i,j,rfl,rfl,q⟩:=h
 obtain⟨t,rfl⟩:=rx
 obtain⟨t',rfl⟩:=ry
 exact rule i j t t' s _ _ ⟨.bl (g i j),H,I,rfl,q⟩
def BL (i j:Int):Prop:=0 < j/\j < 1073741824
def Fp (i j:Int):Prop:=0<=j/\j<=1000000/\i.natAbs < 2 ^ 64
def zN (i j:Int):Prop:=(-(2 ^ 64) < i/\i < 2 ^ 64)\/(-(2 ^ 64) < j/\j < 2 ^ 64)
def zN.ok {i j:Int}(h:zN i j):IntMulOk i j:=by
 rcases h with⟨h1,h2⟩ | ⟨h1,h2⟩
 ·exact .of_left (intBits_le_64 h1 h2)
 ·exact .of_right (intBits_le_64 h1 h2)
def jC:lu X (binaryOp .Add) (yU λi j=>.int (i + j)):=IZ λ_ _ _ _ _ _ _ q=>add_int q
def ji:lu X (binaryOp .Mult) (rI zN λi j=>.int (i * j)):=HY λ_ _ _ _ _ _ _ hc q=>mul_int q hc.ok
def kC:lu X (binaryOp .FloorDiv) (rI BL λi j=>.int (i / j)):=HY λi j _ _ _ _ _ hc q=>by
 have h1:(0:Int) < j:=hc.1
 have h2:j < 1073741824:=hc.2
 exact floordiv_int (by omega) (by rw[Int.fdiv_eq_ediv_of_nonneg i (by omega)];exact q) (.inl (PyProof.noPylong_small (by omega)))
def kn:lu X (binaryOp .Mod) (rI (λ_ j=>0 < j) λi j=>.int (i % j)):=HY λi j _ _ _ _ _ hc q=>by
 have h1:(0:Int) < j:=hc
 exact mod_int' (by omega) (by rw[Int.fmod_eq_emod_of_nonneg i (by omega)];exact q)
def EE:lu X (binaryOp .Pow) (rI Fp λi j=>.int (i ^ j.toNat)):=HY λ_ _ _ _ _ _ _ hc q=>pow_int_small hc.1 hc.2.1 hc.2.2 q
def J3 {f:Value->Sem Value}{g:Int->Int}
  (rule:∀(i:Int) (t:Tok) (s:Shared) (Q:Value->Shared->Prop) (E:Value->Shared->Prop),Q (.int (g i) s.toks) {s with toks:=s.toks + 1}->wpAny (model X.prog X.w) X.A (f (.int i t)) Q E s) :
  HP X f (rU λi=>.int (g i)):=by
 intro pins s σ H x v Q I rx h
 obtain⟨i,rfl,q⟩:=h
 obtain⟨t,rfl⟩:=rx
 exact rule i t s _ _ ⟨.int (g i),H,I.tok _,⟨_,rfl⟩,q⟩
def ox:HP X (unaryOp .USub) (rU λi=>.int (-i)):=J3 λ_ _ _ _ _ q=>neg_int q
end
def Iq:V->V->Bool
 | .non,.non=>true | .non,.int _=>true | .int _,.non=>true | .non,.bl _=>true | .bl _,.non=>true | .non,.str _=>true | .str _,.non=>true
 | .int _,.int _=>true | .bl _,.bl _=>true | .str _,.str _=>true | .byt _,.byt _=>true
 | .int _,.str _=>true | .str _,.int _=>true | .bl _,.str _=>true | .str _,.bl _=>true
 |_,_=>false
def JC:R2:=λx y H Q=>Iq x y=true/\Q (.bl (!decide (x=y))) H
def C2 {i j:Int}:decide (V.int i=V.int j)=(i == j):=by
 rw[LA]
 simp
def Fb {i j:Bool}:decide (V.bl i=V.bl j)=(i == j):=by
 rw[LA]
 simp
def Dr {i j:Str}:decide (V.str i=V.str j)=(i == j):=by
 rw[LA]
 simp
def CQ {i j:Array UInt8}:decide (V.byt i=V.byt j)=(i.toList == j.toList):=by
 rw[LA]
 cases i
 cases j
 simp
section
variable {X:Cx}{a b c:Expr}{ta tb tc:TE}{pos:Pos}
def cY {pins:List (Addr×Obj)}{σ:St}{H:Hp}{s:Shared}{Q:VK}{k k':Bool}(I:Inv X pins σ H s)(q:Q (.bl k) H)(e:k=k'):EP X pins σ Q (.bool k') s:=by
 subst e
 exact⟨.bl k,H,I,rfl,q⟩
theorem HG:lu X (compareOp .NotEq) JC:=by
 intro pins s σ H x y v u Q I rx ry h
 obtain⟨hs,q⟩:=h
 cases x with
 |non=>
  cases rx
  cases y with
  |non=>cases ry;exact PySem.EqNone.ne_none_none (cY I q (by simp))
  |bl j=>cases ry;exact PySem.EqNone.ne_none_bool (cY I q (by simp))
  |int j=>obtain⟨t',rfl⟩:=ry;exact PySem.EqNone.ne_none_int (cY I q (by simp))
  |str j=>obtain⟨t',rfl⟩:=ry;exact PySem.EqNone.ne_none_str (cY I q (by simp))
  |_=>exact absurd (show false=true from hs) KC
 |bl i=>
  cases rx
  cases y with
  |non=>cases ry;exact PySem.EqNone.ne_bool_none (cY I q (by simp))
  |bl j=>cases ry;exact ne_bool (cY I q (congrArg not Fb))
  |str j=>obtain⟨t',rfl⟩:=ry;exact PySem.EqMixed.ne_bool_str (cY I q (by simp))
  |_=>exact absurd (show false=true from hs) KC
 |int i=>
  obtain⟨t,rfl⟩:=rx
  cases y with
  |non=>cases ry;exact PySem.EqNone.ne_int_none (cY I q (by simp))
  |int j=>obtain⟨t',rfl⟩:=ry;exact ne_int (cY I q (congrArg not C2))
  |str j=>obtain⟨t',rfl⟩:=ry;exact PySem.EqMixed.ne_int_str (cY I q (by simp))
  |_=>exact absurd (show false=true from hs) KC
 |str i=>
  obtain⟨t,rfl⟩:=rx
  cases y with
  |non=>cases ry;exact PySem.EqNone.ne_str_none (cY I q (by simp))
  |bl j=>cases ry;exact PySem.EqMixed.ne_str_bool (cY I q (by simp))
  |int j=>obtain⟨t',rfl⟩:=ry;exact PySem.EqMixed.ne_str_int (cY I q (by simp))
  |str j=>obtain⟨t',rfl⟩:=ry;exact ne_str (cY I q (congrArg not Dr))
  |_=>exact absurd (show false=true from hs) KC
 |byt i=>
  obtain⟨t,rfl⟩:=rx
  cases y with
  |byt j=>obtain⟨t',rfl⟩:=ry;exact PySem.W.ne_bytes (cY I q (congrArg not CQ))
  |_=>exact absurd (show false=true from hs) KC
 |_=>cases y <;> exact absurd (show false=true from hs) KC
def wL:lu X (compareOp .Lt) (yU λi j=>.bl (decide (i < j))):=CI λ_ _ _ _ _ _ _ q=>lt_int q
def zt:lu X (compareOp .LtE) (yU λi j=>.bl (decide (i<=j))):=CI λ_ _ _ _ _ _ _ q=>le_int q
def Hh:lu X (compareOp .Gt) (yU λi j=>.bl (decide (j < i))):=CI λ_ _ _ _ _ _ _ q=>gt_int q
def GD:lu X (compareOp .GtE) (yU λi j=>.bl (decide (j<=i))):=CI λ_ _ _ _ _ _ _ q=>ge_int q
def ba (b:Expr){op:CmpOp}(h:op≠.In:=by decide)(h2:op≠.NotIn:=by decide):behindInMarks op b=false:=by
 have e1:(op == CmpOp.In)=false:=by cases op <;> first |rfl |exact absurd rfl h
 have e2:(op == CmpOp.NotIn)=false:=by cases op <;> first |rfl |exact absurd rfl h2
 cases b <;> simp[behindInMarks,e1,e2]
def Cy {op:CmpOp}{r:R2}(ho:lu X (compareOp op) r)(ha:PE X a ta)(hb:PE X b tb)(hm:behindInMarks op b=false):PE X (.Compare a [op] [b] pos) (Ig r ta tb):=by
 intro pins s σ H Q I h
 exact wpAny_Compare1 (E2 ha hb I h λv u s2 x y H2 I2 rx ry q=>ho pins s2 σ H2 x y v u Q I2 rx ry q) hm
def Hu (t:TE):TT:=λσ H Q=>t σ H λx H'=>∃k,x=.bl k/\Q k H'
def Cf {op:CmpOp}{r:R2}(ho:lu X (compareOp op) r)(ha:PE X a ta)(hb:PE X b tb)(hm:behindInMarks op b=false):PT X (.Compare a [op] [b] pos) (Hu (Ig r ta tb)):=by
 intro pins s σ H Q I h
 refine wpAny_isTrue_Compare1 (b7 (ha pins s σ H _ I h) λv s1 ⟨x,H1,I1,r1,q1⟩=>b7 (hb pins s1 σ H1 _ I1 q1) λu s2 ⟨y,H2,I2,r2,q2⟩=>
  b7 (ho pins s2 σ H2 x y v u _ I2 r1 r2 q2) λc s3 ⟨z,H3,I3,r3,k,e,q3⟩=>?_) hm
 subst e
 cases r3
 exact LK ⟨H3,I3,q3⟩
def D9 (r r':R2)(ta tb tc:TE):TE:=λσ H Q=>ta σ H λx H1=>tb σ H1 λy H2=>r x y H2 λz H3=>∃k,z=.bl k/\
 (if k=true then tc σ H3 λw' H4=>r' y w' H4 Q else Q (.bl false) H3)
theorem AN {op op':CmpOp}{r r':R2}(ho:lu X (compareOp op) r)(ho':lu X (compareOp op') r')(ha:PE X a ta)(hb:PE X b tb)(hc:PE X c tc)
  (hm:lastMarks [op,op'] [b,c]=false:=by with_unfolding_all rfl):PE X (.Compare a [op,op'] [b,c] pos) (D9 r r' ta tb tc):=by
 intro pins s σ H Q I h
 refine Compare_chain (b7 (ha pins s σ H _ I h) λv s1 ⟨x,H1,I1,r1,q1⟩=>chain_link (b7 (hb pins s1 σ H1 _ I1 q1) λu s2 ⟨y,H2,I2,r2,q2⟩=>
  b7 (ho pins s2 σ H2 x y v u _ I2 r1 r2 q2) λd s3 ⟨z,H3,I3,r3,k,e,q3⟩=>?_)) hm
 subst e
 cases r3
 refine LK ?_
 cases k with
 |false=>exact ite_ff ⟨.bl false,H3,I3,rfl,q3⟩
 |true=>exact ite_tt (chain_last (b7 (hc pins s3 σ H3 _ I3 q3) λw' s4 ⟨z',H4,I4,r4,q4⟩=>ho' pins s4 σ H4 y z' u w' Q I4 r2 r4 q4))
def Gk (K:Frag)(x:V)(H:Hp)(k:Bool):Prop:=
 match x with
 | .non=>k=false
 | .bl b=>k=b
 | .int i=>k=(i != 0)
 | .str y=>y.length<=sizeLine/\k=((y.length:Int) != 0)
 | .byt y=>y.size<=sizeLine/\k=((y.size:Int) != 0)
 | .ref p=>(∃xs,fQ K H p xs/\k= !xs.isEmpty)\/(∃xs,gk K H p xs/\k= !xs.isEmpty)\/∃kvs,H p=some (.dK kvs)/\k= !kvs.isEmpty
 |_=>False
def ve {κ:Type}{kvs:List (κ×V)}{vs:List (κ×Value)}(r:KV kvs vs):(!vs.isEmpty)= !kvs.isEmpty:=by
 cases r <;> rfl
def oy {xs:List V}{its:List Value}(r:Vals xs its):(!its.toArray.isEmpty)= !xs.isEmpty:=by
 cases r <;> simp
def lU:(sizeLine:Nat) < 2 ^ 63:=by rw[KH];decide
theorem Fc:Ju X (λx H Q=>∃k,Gk X.K x H k/\Q k H):=by
 intro pins s σ H x v Q I rx h
 obtain⟨k,e,q⟩:=h
 have hl:=lU
 have hs:sizeLine=16777216:=KH
 cases x with
 |non=>
  cases rx
  have e':k=false:=e
  subst e'
  exact truthy_none ⟨H,I,q⟩
 |bl b=>
  cases rx
  have e':k=b:=e
  subst e'
  exact LK ⟨H,I,q⟩
 |int i=>
  obtain⟨t,rfl⟩:=rx
  have e':k=(i != 0):=e
  subst e'
  exact PySem.P.truthy_int ⟨H,I,q⟩
 |str y=>
  obtain⟨t,rfl⟩:=rx
  obtain⟨hy,e'⟩:y.length<=sizeLine/\k=((y.length:Int) != 0):=e
  subst e'
  exact PySem.P.truthy_str (by omega) ⟨H,I.tok _,q⟩
 |byt y=>
  obtain⟨t,rfl⟩:=rx
  obtain⟨hy,e'⟩:y.size<=sizeLine/\k=((y.size:Int) != 0):=e
  subst e'
  exact PySem.W.truthy_bytes (by omega) ⟨H,I.tok _,q⟩
 |ref p=>
  cases rx
  have e':(∃xs,fQ X.K H p xs/\k= !xs.isEmpty)\/(∃xs,gk X.K H p xs/\k= !xs.isEmpty)\/∃kvs,H p=some (.dK kvs)/\k= !kvs.isEmpty:=e
  rcases e' with⟨xs,hx,e'⟩ | ⟨xs,hx,e'⟩ | ⟨kvs,hx,e'⟩
  ·subst e'
   obtain⟨its,r,pl,hz⟩:=I.list hx
   have hlen:=r.length
   exact wpAny_truthy_list pl.isList (by simp only[Kv];omega) ⟨H,I.tok _,by rw[oy r];exact q⟩
  ·subst e'
   obtain⟨its,r,pl,hz⟩:=I.tuple hx
   have hlen:=r.length
   exact truthy_tuple pl (by simp only[Kv];omega) ⟨H,I.tok _,by rw[oy r];exact q⟩
  ·subst e'
   obtain⟨hz,hS,vs,r,m⟩:kvs.length<=sizeLine/\(p == sysModules)=false/\∃vs,KV kvs vs/\s.heap.DictOf (cU X.prog X.w) p vs:=I.hok p _ hx
   have hlen:kvs.length=vs.length:=Paired.length r
   exact wpAny_truthy_dict hS m (by omega) ⟨H,I.tok _,by rw[ve r];exact q⟩
 |_=>exact (show False from e).elim
def zZ (ha:PE X a ta)(he:∀whole,isTrue a X.env whole=(do let v <-whole;standAt a.pos;holding [v] (truthy v))) :
  PT X a (λσ H Q=>ta σ H λx H'=>∃k,Gk X.K x H' k/\Q k H'):=by
 intro pins s σ H Q I h
 exact isTrue_plain (b7 (ha pins s σ H _ I h) λv s1 ⟨x,H1,I1,r1,q1⟩=>Fc pins s1 σ H1 x v Q I1 r1 q1) (he _)
theorem vals1 {x:V}{us:List Value}(r:Vals [x] us):∃u,us= [u]/\RelV x u:=by
 cases r with
 |cons r1 r2=>cases r2;exact⟨_,rfl,r1⟩
theorem vals2 {x y:V}{us:List Value}(r:Vals [x,y] us):∃u w',us= [u,w']/\RelV x u/\RelV y w':=by
 cases r with
 |cons r1 r2=>
  cases r2 with
  |cons r3 r4=>cases r4;exact⟨_,_,rfl,r1,r3⟩
def An:b6 X (.builtin "abs") (λxs H Q=>∃i,xs= [.int i]/\Q (.int (if i < 0 then -i else i)) H):=by
 intro pins s σ H xs us Q I r h
 obtain⟨i,rfl,q⟩:=h
 obtain⟨u,rfl,t,rfl⟩:=vals1 r
 exact call_abs_int λu tk=>⟨.int (if i < 0 then -i else i),H,I.tok _,⟨_,rfl⟩,q⟩
def yQ (hc:X.calm=true):b6 X (.builtin "max") (λxs H Q=>∃i j,xs= [.int i,.int j]/\Q (.int (if j > i then j else i)) H):=by
 intro pins s σ H xs us Q I r h
 obtain⟨i,j,rfl,q⟩:=h
 obtain⟨u,w',rfl,⟨t,rfl⟩,⟨t',rfl⟩⟩:=vals2 r
 refine max_two_ints (I.ok.hd hc) λh' tk k=>⟨_,H,I.kept k,?_,q⟩
 by_cases hj:j > i
 ·rw[Kf hj,Kf hj];exact⟨_,rfl⟩
 ·rw[Ki hj,Ki hj];exact⟨_,rfl⟩
def yd (hc:X.calm=true):b6 X (.builtin "min") (λxs H Q=>∃i j,xs= [.int i,.int j]/\Q (.int (if j < i then j else i)) H):=by
 intro pins s σ H xs us Q I r h
 obtain⟨i,j,rfl,q⟩:=h
 obtain⟨u,w',rfl,⟨t,rfl⟩,⟨t',rfl⟩⟩:=vals2 r
 refine min_two_ints (I.ok.hd hc) λh' tk k=>⟨_,H,I.kept k,?_,q⟩
 by_cases hj:j < i
 ·rw[Kf hj,Kf hj];exact⟨_,rfl⟩
 ·rw[Ki hj,Ki hj];exact⟨_,rfl⟩
def GZ (K:Frag)(x:V)(H:Hp)(n:Nat):Prop:=
 match x with
 | .str y=>y.length<=sizeLine/\n=y.length
 | .byt y=>y.size<=sizeLine/\n=y.size
 | .ref p=>(∃xs,fQ K H p xs/\n=xs.length)\/∃xs,gk K H p xs/\n=xs.length
 |_=>False
theorem cw:b6 X (.builtin "len") (λxs H Q=>∃x n,xs= [x]/\GZ X.K x H n/\Q (.int n) H):=by
 intro pins s σ H xs us Q I r h
 obtain⟨x,n,rfl,e,q⟩:=h
 obtain⟨u,rfl,rx⟩:=vals1 r
 have hl:=lU
 have hs:sizeLine=16777216:=KH
 cases x with
 |str y=>
  obtain⟨t,rfl⟩:=rx
  obtain⟨hy,e'⟩:y.length<=sizeLine/\n=y.length:=e
  subst e'
  exact len_str (by omega) ⟨.int _,H,I.tok _,⟨_,rfl⟩,q⟩
 |byt y=>
  obtain⟨t,rfl⟩:=rx
  obtain⟨hy,e'⟩:y.size<=sizeLine/\n=y.size:=e
  subst e'
  exact PySem.W.len_bytes (by omega) ⟨.int _,H,I.tok _,⟨_,rfl⟩,q⟩
 |ref p=>
  cases rx
  have e':(∃xs,fQ X.K H p xs/\n=xs.length)\/∃xs,gk X.K H p xs/\n=xs.length:=e
  rcases e' with⟨xs,hx,e'⟩ | ⟨xs,hx,e'⟩
  ·subst e'
   obtain⟨its,r',pl,hz⟩:=I.list hx
   have hlen:=r'.length
   exact Calls.call_len_list pl.isList (by simp only[Kv];omega) ⟨.int xs.length,H,I.tok _,⟨_,by simp only[Kv];rw[hlen]⟩,q⟩
  ·subst e'
   obtain⟨its,r',pl,hz⟩:=I.tuple hx
   have hlen:=r'.length
   exact len_tuple pl (by simp only[Kv];omega) ⟨.int xs.length,H,I.tok _,⟨_,by simp only[Kv];rw[hlen]⟩,q⟩
 |_=>exact (show False from e).elim
def uo:b6 X (.builtin "divmod") (λxs H Q=>∃i j,xs= [.int i,.int j]/\BL i j/\∀p,H p=none->Q (.ref p) (upd H p (.tup [.int (i / j),.int (i % j)]))):=by
 intro pins s σ H xs us Q I r h
 obtain⟨i,j,rfl,⟨h1,h2⟩,q⟩:=h
 obtain⟨u,w',rfl,⟨t,rfl⟩,⟨t',rfl⟩⟩:=vals2 r
 refine divmod_int (by omega) ?_ (.inl (PyProof.noPylong_small (by omega)))
 rw[Int.fdiv_eq_ediv_of_nonneg i (by omega),Int.fmod_eq_emod_of_nonneg i (by omega)]
 have hn:H s.heap.objs.size=none:=I.hok.fresh (Kg _)
 refine⟨.ref s.heap.objs.size,_,?_,rfl,q _ hn⟩
 refine I.laid (λb o e=>Ka _ e) (Kg _) ⟨by simp only[KG,Mz];rw[KH];decide,[.int (i / j) s.toks,.int (i % j) (s.toks + 1)],.cons ⟨_,rfl⟩ (.cons ⟨_,rfl⟩ .nil),?_⟩
 exact⟨_,Ky s.heap rfl,rfl,0,rfl,rfl⟩
end
structure EY (h:Heap)(x dx C:Addr)(mA:Str->Option Value):Prop where
 obj:h.get? x=some (PySem.W.instObj C dx)
 ns:h.Ns1 dx mA
 ne:dx≠x
def yY {h:Heap}{dx:Addr}{mA:Str->Option Value}(n:h.Ns1 dx mA):∃od,h.get? dx=some od/\∀name,PySem.W.lookIn name od=some (mA name):=by
 obtain⟨o,es,ep,ho,hd,hk,_,hm⟩:=n
 refine⟨o,ho,λname=>?_⟩
 have e:=hm name
 unfold nsFind findBy at e
 rw[<-Array.find?_toList] at e
 unfold PySem.W.lookIn
 rw[hd]
 dsimp only
 split
 ·rename_i y q
  rw[q] at e
  exact congrArg some e
 ·rename_i q
  rw[q] at e
  have a:es.toList.any (·.refKey)=false:=by
   rw[List.any_eq_false]
   intro y hy
   obtain⟨z,t,hkey⟩:=hk y (Mf.mp hy)
   simp[DictEntry.refKey,hkey]
  have a':¬es.toList.any (·.refKey)=true:=by rw[a];exact KC
  rw[Ki a']
  exact congrArg some e
def EY.look {h:Heap}{x dx C:Addr}{mA:Str->Option Value}(I:EY h x dx C mA):∃od,PySem.W.InstAt h x (PySem.W.instObj C dx) C (some od)/\∀name,PySem.W.lookIn name od=some (mA name):=
 let ⟨od,ho,hl⟩:=yY I.ns
 ⟨od,⟨I.obj,rfl,rfl,ho⟩,hl⟩
section
variable {P:Program}{w:World}{H H':Hp}{h h':Heap}{a C dx:Addr}{fs fs':List (Str×V)}
def Dc (hok:jP P w H h)(e:H a=some (.ins C dx fs)):∃mA,EY h a dx C mA/\(∀f,zj (fs.lookup f) (mA f))/\PySem.Within mA (fs.map (·.1))/\fs.length<=1000/\H dx=some (.own a):=by
 obtain⟨d,z,ne,ob,mA,n,r,q⟩:=(show bA P w H h a (.ins C dx fs) from hok a _ e)
 exact⟨mA,⟨ob,n,ne⟩,r,q,z,d⟩
end
structure IX (K:Frag)(C:Addr):Prop where
 pg:PySem.W.plainGet K C Str.empty=true
 hd:PySem.W.hasDictIn K C=true
 po:PySem.W.plainOver K C=true
 sa:PySem.W.findIn K (.ref C) "__setattr__"=some (some (.builtin "object.__setattr__"))
def IX.get {K:Frag}{C:Addr}(c:IX K C)(f:Str):PySem.W.plainGet K C f=true:=c.pg
section
variable {X:Cx}{pins:List (Addr×Obj)}{σ:St}{H:Hp}{s:Shared}{A:Around}{E:Value->Shared->Prop}{Q:Value->Shared->Prop}{c:Value}{b:Bool}
inductive mG (K:Frag)(H:Hp):V->Value->Prop where
 |non:mG K H .non (.type "NoneType")
 |bl (x:Bool):mG K H (.bl x) (.type "bool")
 |int (i:Int):mG K H (.int i) (.type "int")
 |str (x:Str):mG K H (.str x) (.type "str")
 |flt (x:UInt64):mG K H (.flt x) (.type "float")
 |lst {a:Addr} {xs:List V} (e:H a=some (.lst xs)):mG K H (.ref a) (.type "list")
 |aQ {a:Addr} {o:Obj} {xs:List V} (e:H a=some (.aQ o (.lst xs))):mG K H (.ref a) (.type "list")
 |tup {a:Addr} {xs:List V} (e:H a=some (.tup xs)):mG K H (.ref a) (.type "tuple")
 |dK {a:Addr} {kvs:List (Key×V)} (e:H a=some (.dK kvs)):mG K H (.ref a) (.type "dict")
 |dT {a:Addr} {kvs:List (List Key×V)} (e:H a=some (.dT kvs)):mG K H (.ref a) (.type "dict")
 |ins {a C dx:Addr} {fs:List (Str×V)} (e:H a=some (.ins C dx fs)) (cl:IX K C) (ha:PySem.W.findIn K (.ref C) "__class__"=some (some (.builtin "object.__class__")))
   (hn:PySem.W.specialIn K (.builtin "object.__class__") "__get__"=some (some (.builtin "getset_descriptor.__get__"))) (htk:PySem.W.takesIn K (.builtin "object.__class__")=some true)
   (hm:PySem.W.mroIn K C (.type "object")=some true):mG K H (.ref a) (.ref C)
theorem hV {x:V}{u t:Value}(I:Inv X pins σ H s)(rx:RelV x u)(ty:mG X.K H x t)(e:PySem.W.kitOne X.K t c=some b)(h:∀tk,Q (.bool b) {s with toks:=tk}) :
  wpAny (model X.prog X.w) A (call (.builtin "isinstance") [u,c]) Q E s:=by
 cases ty with
 |non=>cases (show u=Value.none from rx);exact K9 PySem.W.kitx_none I.kIn True.intro e (λz=>nomatch z) h
 |bl y=>cases (show u=Value.bool y from rx);exact K9 PySem.W.kitx_bool I.kIn True.intro e (λz=>nomatch z) h
 |int i=>obtain⟨t,q⟩:=(show ∃t,u=Value.int i t from rx);cases q;exact K9 PySem.W.kitx_int I.kIn True.intro e (λz=>nomatch z) h
 |str y=>obtain⟨t,q⟩:=(show ∃t,u=Value.str y t from rx);cases q;exact K9 PySem.W.kitx_str I.kIn True.intro e (λz=>nomatch z) h
 |flt y=>obtain⟨t,q⟩:=(show ∃t,u=Value.float y t from rx);cases q;exact K9 PySem.W.kitx_float I.kIn True.intro e (λz=>nomatch z) h
 | @lst a xs ea=>
  cases (show u=Value.ref a from rx)
  obtain⟨_,_,n,_,h1⟩:=(show bA X.prog X.w H s.heap a (.lst xs) from I.hok a _ ea)
  exact K9 PySem.W.kitx_list I.kIn ⟨_,h1,rfl⟩ e (λz=>nomatch z) h
 | @aQ a ob xs ea=>
  cases (show u=Value.ref a from rx)
  obtain⟨_,_,_,n,_,h1⟩:=(show bA X.prog X.w H s.heap a (.aQ ob (.lst xs)) from I.hok a _ ea)
  exact K9 PySem.W.kitx_list I.kIn ⟨_,h1,rfl⟩ e (λz=>nomatch z) h
 | @tup a xs ea=>
  cases (show u=Value.ref a from rx)
  obtain⟨_,_,_,p⟩:=(show bA X.prog X.w H s.heap a (.tup xs) from I.hok a _ ea)
  obtain⟨o,h1,h2,_⟩:=p
  exact K9 PySem.W.kitx_tuple I.kIn ⟨o,h1,h2⟩ e (λz=>nomatch z) h
 | @dK a kvs ea=>
  cases (show u=Value.ref a from rx)
  obtain⟨_,_,vs,_,p⟩:=(show bA X.prog X.w H s.heap a (.dK kvs) from I.hok a _ ea)
  obtain⟨o,es,ep,h1,h2,_⟩:=p
  exact K9 PySem.W.kitx_dict I.kIn ⟨o,h1,h2.1⟩ e (λz=>nomatch z) h
 | @dT a kvs ea=>
  cases (show u=Value.ref a from rx)
  obtain⟨_,_,xs,_,o,es,ep,h1,h2,_⟩:=(show bA X.prog X.w H s.heap a (.dT kvs) from I.hok a _ ea)
  exact K9 PySem.W.kitx_dict I.kIn ⟨o,h1,h2.1⟩ e (λz=>nomatch z) h
 | @ins a C dx fs ea cl ha hn htk hm=>
  cases (show u=Value.ref a from rx)
  obtain⟨mA,O,_⟩:=Dc I.hok ea
  obtain⟨od,J,_⟩:=O.look
  exact K9 (PySem.W.kitx_own (cl.get _) cl.hd ha hn htk hm) I.kIn J e (λz=>nomatch z) h
end
structure dv (k:Nat)(A:Around):Prop where
 hd:A.handled=none
 dp:A.depth + 3 * k + 5 < recursionLimit
 un:A.units + 16 * k + 200 < cLine
 gd:A.guards=some []
def dv.mono {j k:Nat}{A:Around}(r:dv k A)(h:j<=k):dv j A:=⟨r.hd,by have:=r.dp;omega,by have:=r.un;omega,r.gd⟩
def dv.deeper {k:Nat}{A:Around}(r:dv (k + 1) A)(env:Env):dv k (A.deeper env):=
 ⟨r.hd,by have:=r.dp;show A.depth + 1 + 3 * k + 5 < _;omega,by have:=r.un;show A.units + 3 + 16 * k + 200 < _;omega,r.gd⟩
def dv.depth {k:Nat}{A:Around}(r:dv k A):A.depth < recursionLimit:=by have:=r.dp;omega
def dv.units {k:Nat}{A:Around}(r:dv k A):A.units + 64 < cLine:=by have:=r.un;omega
def Jb:TA:=λ_ H Q=>Q [] H
def Hx (ta:TE)(tr:TA):TA:=λσ H Q=>ta σ H λx H1=>tr σ H1 λxs H2=>Q (x :: xs) H2
section
variable {X:Cx}{e:Expr}{es:List Expr}{te:TE}{t:TA}{pos:Pos}
def a7:PA X [] Jb:=λ_ _ _ _ H Q I h=>Calls.spliced_nil ⟨[],H,I,.nil,h⟩
def aG (ha:PE X e te)(hr:PA X es t)(hs:starEach (e :: es) X.env=(false,eval e X.env) :: starEach es X.env:=by rfl):PA X (e :: es) (Hx te t):=by
 intro pos pins s σ H Q I h
 rw[hs]
 show wpAny _ _ (spliced ((false,eval e X.env) :: backTo pos (starEach es X.env))) _ _ s
 refine Calls.spliced_cons (b7 (ha pins s σ H _ I h) λu s1 ⟨x,H1,I1,r1,q1⟩=>?_)
 exact b7 (hr pos pins s1 σ H1 _ I1 q1) λus s2 ⟨xs,H2,I2,r2,q2⟩=>⟨x :: xs,H2,I2,.cons r1 r2,q2⟩
def Iu (t:TA):TE:=λσ H Q=>t σ H λxs H1=>xs.length<=sizeLine/\∀p,H1 p=none->Q (.ref p) (upd H1 p (.tup xs))
def Iy (t:TA):TE:=λσ H Q=>t σ H λxs H1=>xs.length<=sizeLine/\∀p,H1 p=none->Q (.ref p) (upd H1 p (.lst xs))
def vA {x1}(h:PA X es t):PE X (.Tuple es x1 pos) (Iu t):=by
 intro pins s σ H Q I hq
 refine wpAny_Tuple_spliced (b7 (h pos pins s σ H _ I hq) λus s1 ⟨xs,H1,I1,r,z,q⟩=>⟨by rw[<-r.length];exact z,?_⟩)
 have hf:H1 s1.heap.objs.size=none:=I1.hok.fresh (Kg _)
 refine⟨.ref s1.heap.objs.size,upd H1 s1.heap.objs.size (.tup xs),I1.laid (t':=s1.toks) (λb u e=>Ka _ e) (Kg _) ?_,rfl,q _ hf⟩
 exact⟨z,us,r,u6.new _ _⟩
def vE (h:PA X es t):PE X (.List es pos) (Iy t):=by
 intro pins s σ H Q I hq
 refine wpAny_List_spliced (b7 (h pos pins s σ H _ I hq) λus s1 ⟨xs,H1,I1,r,z,q⟩=>⟨by rw[<-r.length];exact z,?_⟩)
 have hf:H1 s1.heap.objs.size=none:=I1.hok.fresh (Kg _)
 refine⟨.ref s1.heap.objs.size,upd H1 s1.heap.objs.size (.lst xs),I1.laid (t':=s1.toks) (λb u e=>Ka _ e) (Kg _) ?_,rfl,q _ hf⟩
 exact⟨z,us,0,r,Ky _ rfl⟩
end
abbrev Sp:=List V->Hp->VK->XK->Prop
abbrev yL:=List Env->Hp->Shared->XK->Value->Shared->Prop
structure Cz (P:Program)(w:World)(K:Frag)(mg:Str->Option Value)(base:Heap)(A:Around)(outer:List Env)(s:Shared)(H:Hp):Prop where
 frames:A.frames=some outer
 mod:Mod K mg base
 bs:∀b o,base.get? b=some o->s.heap.get? b=some o/\H b=none
 bsz:base.objs.size<=s.heap.objs.size
 funs:s.heap.FunFrames base outer
 frf:∀b∈g9 outer,H b=none
 hok:jP P w H s.heap
 bare:AllBare s.gens
def CE (outer:List Env)(P:Program)(w:World)(H:Hp)(s:Shared)(Q:VK)(u:Value)(s':Shared):Prop:=
 ∃v H',s'.os=s.os/\AllBare s'.gens/\Un (g9 outer) [] H H' s.heap s'.heap/\jP P w H' s'.heap/\RelV v u/\Q v H'
def CR (CX:yL)(outer:List Env)(P:Program)(w:World)(H:Hp)(s:Shared)(Q:VK)(E:XK)(r:Result)(s':Shared):Prop:=
 match r with
 | .ok (.ret u)=>CE outer P w H s Q u s'
 | .ok _=>False
 | .error e=>CX outer H s E e s'
structure eV (P:Program)(w:World)(K:Frag)(mg:Str->Option Value)(base:Heap)(CX:yL)(k:Nat)(f:Addr)(fd:FuncData)(ps:List Str)(sp:Sp):Prop where
 len:∀vs H Q E,sp vs H Q E->vs.length=ps.length
 run:∀(A:Around) (outer:List Env) (s:Shared) (H:Hp) (args:Args) (us:List Value) (vs:List V) (Q:VK) (E:XK),dv k A->Cz P w K mg base A outer s H->BindsTo s fd args (ps.zip us)->Vals vs us->sp vs H Q E->
  codeAny (model P w) A (.call (.ref f) args) (CR CX outer P w H s Q E) s
def eV.mono {P:Program}{w:World}{K:Frag}{mg:Str->Option Value}{base:Heap}{CX:yL}{j k:Nat}{f:Addr}{fd:FuncData}{ps:List Str}{sp:Sp}(F:eV P w K mg base CX j f fd ps sp)(h:j<=k) :
  eV P w K mg base CX k f fd ps sp:=⟨F.len,λA outer s H args us vs Q E hr=>F.run A outer s H args us vs Q E (hr.mono h)⟩
def eV.imp {P:Program}{w:World}{K:Frag}{mg:Str->Option Value}{base:Heap}{CX:yL}{k:Nat}{f:Addr}{fd:FuncData}{ps:List Str}{sp sp':Sp}(F:eV P w K mg base CX k f fd ps sp)
  (h:∀vs H Q E,sp' vs H Q E->sp vs H Q E):eV P w K mg base CX k f fd ps sp':=
 ⟨λvs H Q E q=>F.len vs H Q E (h _ _ _ _ q),λA outer s H args us vs Q E hr he hb hv hs=>F.run A outer s H args us vs Q E hr he hb hv (h _ _ _ _ hs)⟩
section
variable {X:Cx}{pins:List (Addr×Obj)}{σ:St}{H:Hp}{s s':Shared}
def Inv.env0 (I:Inv X pins σ H s):Cz X.prog X.w X.K X.mg X.base X.A X.stack s H:=
 ⟨I.ok.frames,I.ok.mod,I.bs,Lf I.ok.bsz I.sz,I.stack,I.stkFree,I.hok,I.bare⟩
def Inv.after {Q:VK}{u:Value}(I:Inv X pins σ H s)(h:CE X.stack X.prog X.w H s Q u s'):EP X pins σ Q u s':=by
 obtain⟨v,H',os,bare,un,hok,r,q⟩:=h
 obtain⟨hh,g,d,t,os'⟩:=s'
 obtain rfl:os'=s.os:=os
 exact⟨v,H',I.call (h':=hh) (g':=g) (d':=d) (t':=t) (ch:=[]) un hok bare (λb z=>absurd z (by simp)),r,q⟩
end
def GP (sp:Sp)(dvs:List V)(E:XK)(t:TA):TE:=λσ H Q=>t σ H λvs H1=>sp (vs ++ dvs) H1 Q E
def Binds (K:Frag)(fd:FuncData)(ps:List Str)(ds:List Value):Prop:=
 ∀(s:Shared) (us:List Value),K.In s.heap->(us ++ ds).length=ps.length->BindsTo s fd ⟨us,[]⟩ (ps.zip (us ++ ds))
def Binds.all {K:Frag}{fd:FuncData}{ps:List Str}(h:∀us:List Value,us.length=ps.length->bindArgs fd ⟨us,[]⟩=pure (ps.zip us)):Binds K fd ps []:=λs us _ hl=>by
 rw[L5] at hl ⊢
 exact .of_eq (h us hl)
def Passes (CX:yL)(X:Cx)(E:XK):Prop:=∀(pins:List (Addr×Obj)) (σ:St) (H:Hp) (s:Shared) (e:Value) (s':Shared),Inv X pins σ H s->CX X.stack H s E e s'->X.xe e s'
section
variable {X:Cx}{CX:yL}{k:Nat}{f C:Addr}{fd:FuncData}{ps:List Str}{sp:Sp}{dvs:List V}{ds:List Value}{E:XK}{x m:Str}{p pos apos:Pos}{e o:Expr}{es:List Expr}{ta:TE}{t:TA}
theorem Es {pins:List (Addr×Obj)}{σ:St}{H:Hp}{s:Shared}{Q:VK}{us:List Value}{vs:List V}(F:eV X.prog X.w X.K X.mg X.base CX k f fd ps sp)(hr:dv k X.A)(hb:Binds X.K fd ps ds)(hd:Vals dvs ds)(hx:Passes CX X E)
  (I:Inv X pins σ H s) (r:Vals vs us) (h:sp (vs ++ dvs) H Q E):wpAny (model X.prog X.w) X.A (call (.ref f) us) (EP X pins σ Q) X.xe s:=by
 have r2:Vals (vs ++ dvs) (us ++ ds):=r.append hd
 have hl:(us ++ ds).length=ps.length:=by rw[<-r2.length];exact F.len _ _ _ _ h
 refine wpAny_call (Mi (F.run X.A X.stack s H ⟨us,[]⟩ (us ++ ds) (vs ++ dvs) Q E hr I.env0 (hb s us I.kIn hl) r2 h) λr s' hq=>?_)
 cases r with
 |error e=>exact hx pins σ H s e s' I hq
 |ok fl=>
  cases fl with
  |ret u=>exact I.after hq
  |next=>exact False.elim hq
  |brk=>exact False.elim hq
  |cont=>exact False.elim hq
def kF (F:eV X.prog X.w X.K X.mg X.base CX k f fd ps sp)(hr:dv k X.A)(hg:Gl X x)(hm:X.mg x=some (.ref f))(hk:PySem.W.keepIn X.K (.ref f)=true)(hb:Binds X.K fd ps ds)(hd:Vals dvs ds)(hx:Passes CX X E)
  (ha:PA X (e :: es) t) (hdb:(x == ("__debug__":Str))=false:=by decide) (he:starEach (e :: es) X.env=(false,eval e X.env) :: starEach es X.env:=by rfl) (hpl:(backTo pos (starEach es X.env)).any (·.1)=false:=by rfl) :
  PE X (.Call (.Name x p) (e :: es) [] pos) (GP sp dvs E t):=by
 intro pins s σ H Q I h
 refine wpAny_Call_Name_kw (qI I hg hm ?_ hdb)
 refine PySem.W.callWith_K (h₀:=X.base) I.ok.mod.kin hk (b7 (ha pos pins s σ H _ I h) λus s1 ⟨vs,H1,I1,r,q⟩=>⟨I1.kIn,?_⟩) he hpl
 exact Es F hr hb hd hx I1 r q
end
structure aI (N P:List Str)(sc:Scope):Prop where
 kind:sc.kind=.function
 co:sc.isCoroutine=false
 gen:sc.isGenerator=false
 nd:N.Nodup
 pre:N.take P.length=P
 par:∀x∈P,sc.names.lookup x=some .local\/sc.names.lookup x=some .cell
 nofree:∀y∈sc.names,y.2≠.free
theorem pN {kindOf:Str->Option NameKind}{x:Str}:∀{binds:List (Str×Value)} {m:Str->Option Value},(∀v,(x,v)∉binds)->bindL kindOf binds m x=m x
 | [],_,_=>rfl
 | (n,v) :: r,m,h=>by
  unfold bindL
  rw[pN λw hw=>h w (J9 _ hw)]
  split
  ·have:x≠n:=by rintro rfl;exact h v Kd
   simp[this]
  ·rfl
theorem pM {kindOf:Str->Option NameKind}{x:Str}:∀{binds:List (Str×Value)} {m:Str->Option Value},(∀v,(x,v)∉binds)->bindC kindOf binds m x=m x
 | [],_,_=>rfl
 | (n,v) :: r,m,h=>by
  unfold bindC
  rw[pM λw hw=>h w (J9 _ hw)]
  split
  ·rfl
  ·have:x≠n:=by rintro rfl;exact h v Kd
   simp[this]
theorem pW {kindOf:Str->Option NameKind}{x:Str}{v:Value}:∀{P:List Str} {vs:List Value} {i:Nat} {m:Str->Option Value},P.Nodup->P[i]? =some x->vs[i]? =some v->kindOf x=some .local->
  bindL kindOf (P.zip vs) m x=some v
 | [],_,_,_,_,h,_,_=>by simp at h
 |_ :: _,[],_,_,_,_,h,_=>by simp at h
 |p :: P,w :: vs,0,m,nd,h1,h2,hk=>by
  simp at h1 h2;subst h1;subst h2
  show bindL kindOf ((p,w) :: P.zip vs) m p=_
  unfold bindL
  rw[pN λv hv=>(KI.mp nd).1 (List.of_mem_zip hv).1,Kf hk]
  simp
 |p :: P,w :: vs,i + 1,m,nd,h1,h2,hk=>by
  show bindL kindOf ((p,w) :: P.zip vs) m x=_
  unfold bindL
  exact pW (i:=i) (KI.mp nd).2 (by simpa using h1) (by simpa using h2) hk
theorem qf {kindOf:Str->Option NameKind}{x:Str}{v:Value}:∀{P:List Str} {vs:List Value} {i:Nat} {m:Str->Option Value},P.Nodup->P[i]? =some x->vs[i]? =some v->kindOf x≠some .local->
  bindC kindOf (P.zip vs) m x=some v
 | [],_,_,_,_,h,_,_=>by simp at h
 |_ :: _,[],_,_,_,_,h,_=>by simp at h
 |p :: P,w :: vs,0,m,nd,h1,h2,hk=>by
  simp at h1 h2;subst h1;subst h2
  show bindC kindOf ((p,w) :: P.zip vs) m p=_
  unfold bindC
  rw[pM λv hv=>(KI.mp nd).1 (List.of_mem_zip hv).1,Ki hk]
  simp
 |p :: P,w :: vs,i + 1,m,nd,h1,h2,hk=>by
  show bindC kindOf ((p,w) :: P.zip vs) m x=_
  unfold bindC
  exact qf (i:=i) (KI.mp nd).2 (by simpa using h1) (by simpa using h2) hk
def start (N:List Str)(vs:List V):St:=vs.map some ++ List.replicate (N.length - vs.length) none
def jT (CX:yL)(P:Program)(w:World)(K:Frag)(mg:Str->Option Value)(base:Heap)(N:List Str)(qual:Str)(scope:Scope)(f:Addr)(cd:Value)(A:Around)(outer:List Env)(s:Shared)(H:Hp)(E:XK):Cx where
 prog:=P
 w:=w
 K:=K
 mg:=mg
 base:=base
 A:=A.deeper (envOfC qual scope s.heap.objs.size f cd)
 N:=N
 s₀:=s
 H₀:=H
 env:=envOfC qual scope s.heap.objs.size f cd
 outer:=outer
 stack:=envOfC qual scope s.heap.objs.size f cd :: outer
 ex:=[]
 calm:=true
 fn:=λ_=>true
 pn:=[]
 xe:=λe s'=>wpAny (model P w) (A.deeper (envOfC qual scope s.heap.objs.size f cd)) (leaving (envOfC qual scope s.heap.objs.size f cd) e) (λ_ s''=>CX outer H s E e s'') (λe' s''=>CX outer H s E e' s'') s'
def um {sc:Scope}{n:Nat}{x:Str}(h:sc.names.lookup x=some .cell):∃c,(cellsFrom n sc.names []).lookup x=some c:=by
 have q:=PySem.W.cellsFrom_some sc.names n [] (.inl h)
 exact Option.isSome_iff_exists.mp q
def xY {CX:yL}{P:Program}{w:World}{K:Frag}{mg:Str->Option Value}{base:Heap}{N ps:List Str}{qual:Str}{scope:Scope}{f:Addr}{cd:Value}{A:Around}{outer:List Env}{s s1:Shared}{H:Hp}{E:XK}{us:List Value}{vs:List V}
  (S:aI N ps scope) (hd:A.handled=none) (e0:Cz P w K mg base A outer s H) (hl:vs.length=ps.length) (r:Vals vs us)
  (x:InCallC s s.heap.objs.size (bindL (envOfC qual scope s.heap.objs.size f cd).kindOf (ps.zip us) λ_=>none) (cellsFrom (s.heap.objs.size + 1) scope.names []) (bindC (envOfC qual scope s.heap.objs.size f cd).kindOf (ps.zip us) λ_=>none) s1) :
  Inv (jT CX P w K mg base N qual scope f cd A outer s H E) [] (start N vs) H s1:=by
 have hpl:ps.length<=N.length:=by have:=congrArg List.length S.pre;rw[K4] at this;omega
 obtain⟨h1,tk,rfl,hk⟩:=x.done
 have noA:∀b:Addr,b∉(jT CX P w K mg base N qual scope f cd A outer s H E).ex:=λb z=>absurd (show b∈([]:List Addr) from z) (by simp)
 refine⟨⟨e0.mod,S.kind,rfl,rfl,Kg _,λy z c h1 h2=>?_,λy hy=>?_,λy c _ h=>?_,λ_=>hd,Around.frames_deeper e0.frames,.inr ⟨rfl,rfl⟩,λb z=>absurd z (noA b),e0.bs,e0.bsz,λb _ _=>noA b,λb z=>absurd z (noA b),e0.funs,e0.frf⟩,
  rfl,e0.bare,Un.kept hk,⟨_,x.toInCall.ns,λi y v h1 h2 h3=>?_⟩,λy c h=>⟨_,x.cell y c h⟩,e0.hok.fresh (Kg _),λy c h=>?_,λp hp=>absurd (show p∈([]:List (Addr×Obj)) from hp) (by simp),e0.hok.kept hk,?_⟩
 ·exact name_of_addr x.apart (LY h1) (LY h2)
 ·have hy:scope.names.lookup y=some .cell\/scope.names.lookup y=some .free:=hy
  rcases hy with hy |hy
  ·exact um hy
  ·exact absurd rfl (S.nofree _ (LY hy))
 ·exact Nat.le_of_lt (x.above y c (LY h))
 ·have hi:i < vs.length:=by
   unfold start at h2
   by_cases hi:i < vs.length
   ·exact hi
   ·rw[KO (by simpa using hi)] at h2
    rw[LI] at h2
    split at h2 <;> cases h2
  have ha:vs[i]? =some v:=by
   unfold start at h2
   rw[KQ (by simpa using hi),Kk] at h2
   cases e:vs[i]? with
   |none=>rw[e] at h2;cases h2
   |some a=>rw[e] at h2;cases h2;rfl
  obtain⟨u,hu,rv⟩:=r.get ha
  have hp:ps[i]? =some y:=by
   rw[<-S.pre,MP (by omega)];exact h1
  have ndP:ps.Nodup:=by rw[<-S.pre];exact S.nd.sublist (List.take_sublist _ _)
  refine⟨u,rv,?_⟩
  rcases S.par y (Kj hp) with k |k
  ·exact .inl ⟨k,pW ndP hp hu k⟩
  ·obtain⟨c,e⟩:=um (n:=s.heap.objs.size + 1) k
   refine .inr ⟨.inl k,c,e,?_⟩
   have q:=x.cell y c e
   rw[qf ndP hp hu (by show scope.names.lookup y≠_;rw[k];decide)] at q
   exact q
 ·exact e0.hok.fresh (Nat.le_of_lt (x.above y c (LY h)))
 ·unfold start
  show _=N.length
  rw[Ku,Kb,L6]
  omega
theorem D5 {CX:yL}{P:Program}{w:World}{K:Frag}{mg:Str->Option Value}{base:Heap}{k:Nat}{f:Addr}{name qual:Str}{params:Arguments}{body:List Stmt}{scope:Scope}{dV kV doc pm cdv ct oc:Value}{an od:Option Addr}
  {osl:Array (Option Value)} {N ps:List Str} {sp:Sp} (lk:K.lookup f=some ⟨oc,od,.func (PySem.W.fnOf name qual params body scope dV kV doc pm an cdv ct),osl⟩) (hcd:PySem.W.codeIn K cdv qual=true) (S:aI N ps scope)
  (len:∀vs H Q E,sp vs H Q E->vs.length=ps.length)
  (hbody:∀(A:Around) (outer:List Env) (s:Shared) (H:Hp) (vs:List V) (Q:VK) (E:XK),dv k (A.deeper (envOfC qual scope s.heap.objs.size f cdv))->sp vs H Q E->
   ∃t,qd (jT CX P w K mg base N qual scope f cdv A outer s H E) body t/\t {nx:=λ_ H'=>Q .non H',rt:=Q} (start N vs) H) :
  eV P w K mg base CX (k + 1) f (PySem.W.fnOf name qual params body scope dV kV doc pm an cdv ct) ps sp:=by
 refine⟨len,λA outer s H args us vs Q E hr e0 hb r hsp=>?_⟩
 have hl:=len _ _ _ _ hsp
 have KX:K.In s.heap:=e0.mod.kin.keeps λb o e=>(e0.bs b o e).1
 have lim:s.heap.NoLimit:=e0.mod.nolimit.keeps λb o e=>(e0.bs b o e).1
 have hkind:∀y∈ps.zip us,scope.names.lookup y.1=some .local\/(scope.names.lookup y.1=some .cell/\((cellsFrom (s.heap.objs.size + 1) scope.names []).lookup y.1).isSome=true):=λ⟨n,v⟩ hy=>by
  rcases S.par n (List.of_mem_zip hy).1 with q |q
  ·exact .inl q
  ·exact .inr ⟨q,PySem.W.cellsFrom_some _ _ _ (.inl q)⟩
 refine codeAny_call_function hr.depth (KX _ _ lk) rfl S.co S.gen rfl (PySem.W.codeRec_of KX hcd) (hb _ _ _ _ ?_)
 refine wpAny_newFunctionEnv_cells S.kind hkind λenv he s1 x=>?_
 subst he
 refine⟨lim.keeps x.toInCall.keep,codeAny_func ?_⟩
 obtain⟨t,ht,hq⟩:=hbody A outer s H vs Q E (hr.deeper _) hsp
 have I:Inv (jT CX P w K mg base N qual scope f cdv A outer s H E) [] (start N vs) H s1:=xY S hr.hd e0 hl r x
 refine LN (ht [] s1 (start N vs) H _ I hq) (λfl s' hs=>?_) λe s' hs=>hs
 have fin:∀{σ':St} {H':Hp} {v:V} {u:Value},Inv (jT CX P w K mg base N qual scope f cdv A outer s H E) [] σ' H' s'->RelV v u->Q v H'->CE outer P w H s Q u s':=
  λ{σ' H' v u} J rv q=>⟨v,H',J.os,J.bare,J.base,J.hok,rv,q⟩
 cases fl with
 |ret u=>
  obtain⟨v,σ',H',J,rv,q⟩:=hs
  exact fin J rv q
 |next=>
  obtain⟨σ',H',J,q⟩:=hs
  exact fin (v:=V.non) (u:=Value.none) J rfl q
 |brk=>
  obtain⟨_,_,_,q⟩:=hs
  exact False.elim q
 |cont=>
  obtain⟨_,_,_,q⟩:=hs
  exact False.elim q
section
variable {X:Cx}{x:Str}{p pos:Pos}{e:Expr}{es:List Expr}{t:TA}{id T:String}{r:List V->Hp->VK->Prop}
def JL (r:List V->Hp->VK->Prop)(t:TA):TE:=λσ H Q=>t σ H λvs H1=>r vs H1 Q
def hX (hc:b6 X (.builtin id) r)(hg:Gl X x)(hm:X.mg x=none)(hv:bootBuiltins x=some (.builtin id))(ha:PA X (e :: es) t)(hn:x≠"__name__":=by decide)(hdb:(x == ("__debug__":Str))=false:=by decide)
  (he:starEach (e :: es) X.env=(false,eval e X.env) :: starEach es X.env:=by rfl) (hpl:(backTo pos (starEach es X.env)).any (·.1)=false:=by rfl):PE X (.Call (.Name x p) (e :: es) [] pos) (JL r t):=by
 intro pins s σ H Q I h
 refine wpAny_Call_Name_kw (nR I hg hm hv ?_ hn hdb)
 exact PyProof.Rows.callWith_builtin1 (b7 (ha pos pins s σ H _ I h) λus s1 ⟨vs,H1,I1,r1,q1⟩=>hc pins s1 σ H1 vs us Q I1 r1 q1) he hpl
def fN (hc:b6 X (.type T) r)(hg:Gl X x)(hm:X.mg x=none)(hv:bootBuiltins x=some (.type T))(ha:PA X (e :: es) t)(hn:x≠"__name__":=by decide)(hdb:(x == ("__debug__":Str))=false:=by decide)
  (he:starEach (e :: es) X.env=(false,eval e X.env) :: starEach es X.env:=by rfl) (hpl:(backTo pos (starEach es X.env)).any (·.1)=false:=by rfl):PE X (.Call (.Name x p) (e :: es) [] pos) (JL r t):=by
 intro pins s σ H Q I h
 refine wpAny_Call_Name_kw (nR I hg hm hv ?_ hn hdb)
 exact MJ (b7 (ha pos pins s σ H _ I h) λus s1 ⟨vs,H1,I1,r1,q1⟩=>hc pins s1 σ H1 vs us Q I1 r1 q1) he hpl
end
end L2
namespace HT
open PySem PyProof.Rows
section
open PySem.SeqAt
open PySem.AutoSeq1 (wpAny_loadPart')
open PySem.MeetsSeq PySem.MeetsSeq2 PySem.MeetsSeq3
end
section
variable {prog:Program}{w:World}{A:Around}{E:Value->Shared->Prop}{s:Shared}
def p0 (n d:Nat):Option Int->Nat
 |none=>d
 |some v=>if v < 0 then (v + (n:Int)).toNat else min v.toNat n
def tm (n d:Nat):p0 n d none=d:=rfl
def wV (n d k:Nat):p0 n d (some (k:Int))=min k n:=by
 show (if (k:Int) < 0 then ((k:Int) + (n:Int)).toNat else min (k:Int).toNat n)=min k n
 rw[Ki (by omega),K6]
end
end HT
namespace L2
open PySem PySem.Spec PyProof.Rows
abbrev TO:=St->Hp->(Option Int->Hp->Prop)->Prop
def PO (X:Cx)(e:Option Expr)(t:TO):Prop:=
 ∀(pins:List (Addr×Obj)) (s:Shared) (σ:St) (H:Hp) (Q:Option Int->Hp->Prop),Inv X pins σ H s->t σ H Q->
  wpAny (model X.prog X.w) X.A (evalPart e X.env) (λu s'=>∃o H',Inv X pins σ H' s'/\IsPart u o/\Q o H') X.xe s
def CP:TO:=λ_ H Q=>Q none H
def HE (t:TE):TO:=λσ H Q=>t σ H λx H1=>∃i,x=.int i/\Q (some i) H1
theorem intsAre_of {ns:List Int}:∀{us:List Value},Vals (ns.map V.int) us->IntsAre us ns:=by
 induction ns with
 |nil=>intro us r;rw[List.map_nil] at r;cases r;exact .nil
 |cons n ns ih=>
  intro us r
  rw[K2] at r
  cases r with
  |cons r1 r2=>
   obtain⟨t,e⟩:=r1
   subst e
   exact .cons n t (ih r2)
section
variable {X:Cx}{e:Expr}{te:TE}{lo hi:Option Expr}{tl th:TO}{pos p2:Pos}
def Cp:PO X none CP:=by
 intro pins s σ H Q I h
 rw[evalPart_none]
 exact Kc ⟨none,H,I,.none,h⟩
def xh (h:PE X e te):PO X (some e) (HE te):=by
 intro pins s σ H Q I hw
 rw[evalPart_some]
 refine b7 (h pins s σ H _ I hw) λu s1 ⟨x,H1,I1,r1,q1⟩=>?_
 obtain⟨i,rfl,q⟩:=q1
 obtain⟨t,rfl⟩:=r1
 exact⟨some i,H1,I1,.int i t,q⟩
def JE (X:Cx)(r:V->Option Int->Option Int->Hp->VK->Prop):Prop:=
 ∀(pins:List (Addr×Obj)) (s:Shared) (σ:St) (H:Hp) (x:V) (v vl vu:Value) (lo hi:Option Int) (sl:Addr) (Q:VK),Inv X pins σ H s->RelV x v->s.heap.IsSliceOf sl vl vu .none->IsPart vl lo->IsPart vu hi->r x lo hi H Q->
  ∃T id,typeLookup (.type T) "__getitem__"=pure (some (.builtin id))/\s.TypeIs v T/\wpAny (model X.prog X.w) X.A (getItem v (.ref sl)) (EP X pins σ Q) X.xe s
def JX (r:V->Option Int->Option Int->Hp->VK->Prop)(te:TE)(tl th:TO):TE:=λσ H Q=>te σ H λx H1=>tl σ H1 λl H2=>th σ H2 λu H3=>r x l u H3 Q
def A8 {r:V->Option Int->Option Int->Hp->VK->Prop}(hr:JE X r)(he:PE X e te)(hl:PO X lo tl)(hu:PO X hi th):PE X (.Subscript e (.Slice lo hi none p2) pos) (JX r te tl th):=by
 intro pins s σ H Q I h
 refine Subscript_ (b7 (he pins s σ H _ I h) λv s1 ⟨x,H1,I1,r1,q1⟩=>?_)
 refine wpAny_Slice (b7 (hl pins s1 σ H1 _ I1 q1) λvl s2 ⟨l,H2,I2,pl,q2⟩=>b7 (hu pins s2 σ H2 _ I2 q2) λvu s3 ⟨u,H3,I3,pu,q3⟩=>?_)
 rw[evalPart_none]
 refine Kc ?_
 have I4:Inv X pins σ H3 {s3 with heap:=s3.heap.push {cls:=.type "slice",data:=.fields #[vl,vu,.none]}}:=I3.kept (t':=s3.toks) λb ob q=>Ka _ q
 obtain⟨T,id,hT,ht,hg⟩:=hr pins {s3 with heap:=s3.heap.push {cls:=.type "slice",data:=.fields #[vl,vu,.none]}} σ H3 x v vl vu l u s3.heap.objs.size Q I4 r1 (Heap.IsSliceOf.new ..) pl pu q3
 show wpAny (model X.prog X.w) X.A (subscriptTail e (.Slice lo hi none p2) v (.ref s3.heap.objs.size)) (EP X pins σ Q) X.xe {s3 with heap:=s3.heap.push {cls:=.type "slice",data:=.fields #[vl,vu,.none]}}
 exact tail_any (ops:=[.ref s3.heap.objs.size,v]) ht hT hg (by with_unfolding_all rfl)
def u4 (xs:List V)(lo hi:Option Int):List V:=(xs.drop (HT.p0 xs.length 0 lo)).take (HT.p0 xs.length xs.length hi - HT.p0 xs.length 0 lo)
def sH (xs:List V)(lo hi:Option Int):(u4 xs lo hi).length<=xs.length:=by
 unfold u4
 rw[K4,Mj]
 omega
end
def we (n:Nat)(i:Int):Option Nat:=if 0<=i then (if i < n then some i.toNat else none) else if -(n:Int)<=i then some (i + n).toNat else none
def jc {α:Type}(xs:List α)(i:Int):Option α:=(we xs.length i).bind λj=>xs[j]?
def wa {n:Nat}{i:Int}{j:Nat}(h:we n i=some j):seqIndex? i n=some j/\j < n/\ -(n:Int)<=i/\i < n:=by
 unfold we at h
 by_cases h0:0<=i
 ·rw[Kf h0] at h
  by_cases h1:i < n
  ·rw[Kf h1] at h
   have e:i.toNat=j:=Option.some.inj h
   exact⟨by rw[seqIndex_of h0 h1,e],by omega,by omega,h1⟩
  ·rw[Ki h1] at h;cases h
 ·rw[Ki h0] at h
  by_cases h1: -(n:Int)<=i
  ·rw[Kf h1] at h
   have e:(i + n).toNat=j:=Option.some.inj h
   exact⟨by rw[seqIndex_neg (by omega) h1,e],by omega,h1,by omega⟩
  ·rw[Ki h1] at h;cases h
theorem rf {α:Type}{xs:List α}{i:Int}{v:α}(h:jc xs i=some v):∃j,seqIndex? i xs.length=some j/\xs[j]? =some v/\j < xs.length/\ -(xs.length:Int)<=i/\i < xs.length:=by
 unfold jc at h
 cases e:we xs.length i with
 |none=>rw[e] at h;cases h
 |some j=>
  rw[e] at h
  obtain⟨h1,h2,h3,h4⟩:=wa e
  exact⟨j,h1,h,h2,h3,h4⟩
def iV {α:Type}{xs:List α}{j:Nat}{v:α}(h:xs[j]? =some v):jc xs (j:Int)=some v:=by
 have hj:j < xs.length:=(Ks.mp h).1
 have e:we xs.length (j:Int)=some j:=by
  unfold we
  rw[Kf (by omega),Kf (by omega)];simp
 unfold jc;rw[e];exact h
def rX (b:Expr):Prop:=∀o i,subscripted b false o i=operate [o,i] (getItem o i)
def Aw (X:Cx)(r:R2):Prop:=
 ∀(value slice:Expr) (pins:List (Addr×Obj)) (s:Shared) (σ:St) (H:Hp) (x y:V) (v u:Value) (Q:VK),Inv X pins σ H s->RelV x v->RelV y u->r x y H Q->
  subscripted slice false v u=operate [v,u] (getItem v u)->wpAny (model X.prog X.w) X.A (subscriptTail value slice v u) (EP X pins σ Q) X.xe s
def JU (X:Cx)(id:String)(r:V->List V->Hp->VK->Prop):Prop:=
 ∀(pins:List (Addr×Obj)) (s:Shared) (σ:St) (H:Hp) (x:V) (xs:List V) (v:Value) (us:List Value) (Q:VK),Inv X pins σ H s->RelV x v->Vals xs us->r x xs H Q->
  wpAny (model X.prog X.w) X.A (call (.builtin id) (v :: us)) (EP X pins σ Q) X.xe s
section
variable {X:Cx}{a b:Expr}{ta tb:TE}{pos:Pos}
def Aw.or {r r':R2}(h:Aw X r)(h':Aw X r'):Aw X (λx y H Q=>r x y H Q\/r' x y H Q):=by
 intro value slice pins s σ H x y v u Q I rx ry q hs
 rcases q with q |q
 ·exact h value slice pins s σ H x y v u Q I rx ry q hs
 ·exact h' value slice pins s σ H x y v u Q I rx ry q hs
def jw {r:R2}(hr:Aw X r)(ha:PE X a ta)(hb:PE X b tb)(hs:rX b):PE X (.Subscript a b pos) (Ig r ta tb):=by
 intro pins s σ H Q I h
 exact Subscript_ (E2 ha hb I h λv u s2 x y H2 I2 rx ry q=>hr a b pins s2 σ H2 x y v u Q I2 rx ry q (hs _ _))
def Eo (K:Frag):R2:=λx y H Q=>∃p xs i v,x=.ref p/\y=.int i/\fQ K H p xs/\jc xs i=some v/\Q v H
def Hk (K:Frag):R2:=λx y H Q=>∃p xs i v,x=.ref p/\y=.int i/\gk K H p xs/\jc xs i=some v/\Q v H
def Hd:R2:=λx y H Q=>∃z i c,x=.str z/\y=.int i/\z.length<=sizeLine/\jc z.cps.toList i=some c/\Q (.str ⟨#[c]⟩) H
def dZ:Aw X (Eo X.K):=by
 intro value slice pins s σ H x y v u Q I rx ry h hs
 obtain⟨p,xs,i,z,rfl,rfl,hq,he,q⟩:=h
 cases rx
 obtain⟨t,rfl⟩:=ry
 obtain⟨its,r,pl,hz⟩:=I.list hq
 obtain⟨j,h1,h2,h3,h4,h5⟩:=rf he
 obtain⟨w,ew,rw'⟩:=r.get h2
 have hl:=r.length
 have hn:=lU
 have fin:EP X pins σ Q w s:=⟨z,H,I,rw',q⟩
 by_cases h0:0<=i
 ·have hj:i.toNat=j:=by
   rw[seqIndex_of h0 h5] at h1
   exact Option.some.inj h1
  exact item_listR pl.isList h0 (by omega) (by rw[hj];simpa using ew) fin hs
 ·have hj:(i + (its.toArray.size:Int)).toNat=j:=by
   rw[seqIndex_neg (by omega) h4] at h1
   rw[Kv,<-hl]
   exact Option.some.inj h1
  exact subscriptTail_builtinR (x:=w) pl.isList.typeIs slot_list_getitem.lookup
   (wpAny_getItem_list_neg (Q:=λr s'=>r=w/\EP X pins σ Q r s') pl.isList (by omega) (by rw[Kv] <;> omega) (by omega) (by rw[hj];simpa using ew) ⟨rfl,fin⟩) hs
def Ff:Aw X (Hk X.K):=by
 intro value slice pins s σ H x y v u Q I rx ry h hs
 obtain⟨p,xs,i,z,rfl,rfl,hq,he,q⟩:=h
 cases rx
 obtain⟨t,rfl⟩:=ry
 obtain⟨its,r,pl,hz⟩:=I.tuple hq
 obtain⟨j,h1,h2,h3,h4,h5⟩:=rf he
 obtain⟨w,ew,rw'⟩:=r.get h2
 have hl:=r.length
 have hn:=lU
 have fin:EP X pins σ Q w s:=⟨z,H,I,rw',q⟩
 exact subscriptTail_builtinR (x:=w) pl.typeIs slot_tuple_getitem.lookup
  (getItem_tuple (j:=j) (Q:=λr s'=>r=w/\EP X pins σ Q r s') pl (by omega) (by omega) (by rw[Kv,<-hl];exact h1) (by simpa using ew) ⟨rfl,fin⟩) hs
def ET:Aw X Hd:=by
 intro value slice pins s σ H x y v u Q I rx ry h hs
 obtain⟨z,i,c,rfl,rfl,hz,he,q⟩:=h
 obtain⟨t,rfl⟩:=rx
 obtain⟨t',rfl⟩:=ry
 obtain⟨j,h1,h2,h3,h4,h5⟩:=rf he
 have hl:z.cps.toList.length=z.length:=by simp[Str.length]
 rw[hl] at h1 h4 h5
 have hn:=lU
 exact tail_any (typeIs_str s z t) slot_str_getitem.lookup (getItem_str (c:=c) (by
  have e1:decide (i < -(2 ^ 63:Int))=false:=Kr (by omega)
  have e2:decide (i>=2 ^ 63)=false:=Kr (by omega)
  rw[e1,e2,Bool.or_false]) (by rw[h1];simpa using h2) ⟨.str ⟨#[c]⟩,H,I.tok _,⟨_,rfl⟩,q⟩) hs
def JG (K:Frag):R2:=λx y H Q=>Eo K x y H Q\/Hk K x y H Q\/Hd x y H Q
def bh:Aw X (JG X.K):=dZ.or (Ff.or ET)
def vC (its:List Value)(n j:Nat)(u:Value):Obj.mapSeq (·.setIfInBounds j u) {cls:=.type "list",data:=.seq its.toArray n}={cls:=.type "list",data:=.seq (its.set j u).toArray n}:=by
 simp[Obj.mapSeq]
def Inv.lst {pins:List (Addr×Obj)}{σ:St}{H:Hp}{s:Shared}{p:Addr}{xs:List V}(I:Inv X pins σ H s)(h:H p=some (.lst xs)) :
  ∃(its:List Value) (n:Nat),Vals xs its/\s.heap.get? p=some {cls:=.type "list",data:=.seq its.toArray n}/\xs.length<=sizeLine:=by
 obtain⟨z,its,n,r,e⟩:=I.hok p _ h
 exact⟨its,n,r,e,z⟩
def Inv.lstUpd {pins:List (Addr×Obj)}{σ:St}{H:Hp}{s:Shared}{p:Addr}{xs ys:List V}{its its':List Value}{n n':Nat}{f:Obj->Obj}(I:Inv X pins σ H s)(h:H p=some (.lst xs))
  (ho:s.heap.get? p=some {cls:=.type "list",data:=.seq its.toArray n}) (hf:f {cls:=.type "list",data:=.seq its.toArray n}={cls:=.type "list",data:=.seq its'.toArray n'}) (r:Vals ys its') (hz:ys.length<=sizeLine) (t:Nat) :
  Inv X pins σ (upd H p (.lst ys)) {s with heap:=s.heap.update p f,toks:=t}:=by
 have e:(s.heap.update p f).get? p=some {cls:=.type "list",data:=.seq its'.toArray n'}:=by
  rw[K5 f ho (by rw[hf] <;> rfl),hf]
 refine I.write (x:=p) (e:=p) (by rw[h];trivial) (.inl rfl) (λb u hb q=>(Lu _ _ (Ne.symm hb)).trans q) ⟨_,e⟩ ?_
 exact⟨hz,its',n',r,e⟩
def GI:V->V->V->Hp->(Hp->Prop)->Prop:=λo i v H Q=>∃p xs k j,o=.ref p/\i=.int k/\H p=some (.lst xs)/\we xs.length k=some j/\Q (upd H p (.lst (xs.set j v)))
def set_list:qx X GI:=by
 intro pins s σ H o i v ov iv u Q I ro ri rv h
 obtain⟨p,xs,k,j,rfl,rfl,hp,hj,q⟩:=h
 cases ro
 obtain⟨t,rfl⟩:=ri
 obtain⟨its,n,r,ho,hz⟩:=I.lst hp
 obtain⟨h1,h2,h3,h4⟩:=wa hj
 have hl:=r.length
 have hn:=lU
 have I':Inv X pins σ (upd H p (.lst (xs.set j v))) {s with heap:=s.heap.update p (Obj.mapSeq (·.setIfInBounds j u))}:=
  I.lstUpd hp ho (vC its n j u) (r.set rv j) (by rw[K3];exact hz) s.toks
 by_cases h0:0<=k
 ·have hk:k.toNat=j:=by
   rw[seqIndex_of h0 h4] at h1
   exact Option.some.inj h1
  exact PySem.W.ki_setAt ho h0 (by omega) (by rw[Kv,<-hl];exact h4) (by rw[hk];exact⟨_,I',q⟩)
 ·have hk:(k + (its.toArray.size:Int)).toNat=j:=by
   rw[seqIndex_neg (by omega) h3] at h1
   rw[Kv,<-hl]
   exact Option.some.inj h1
  exact PySem.W.ki_setBack ho (by omega) (by rw[Kv,<-hl];exact h3) (by omega) (by rw[hk];exact⟨_,I',q⟩)
def qz (lo hi:Option Int)(n:Nat):(sliceBounds lo hi none n).1=((HT.p0 n 0 lo:Nat):Int)/\(sliceBounds lo hi none n).2.1=((HT.p0 n n hi:Nat):Int)/\(sliceBounds lo hi none n).2.2=1:=by
 refine⟨?_,?_,rfl⟩
 ·cases lo with
  |none=>simp[sliceBounds,HT.p0]
  |some i=>
   simp only[sliceBounds,HT.p0,Option.getD_none,show (1:Int) > 0 by decide,Lg]
   by_cases h:i < 0
   ·simp only[h,Lg] <;> omega
   ·simp only[h,KZ] <;> omega
 ·cases hi with
  |none=>simp[sliceBounds,HT.p0]
  |some i=>
   simp only[sliceBounds,HT.p0,Option.getD_none,show (1:Int) > 0 by decide,Lg]
   by_cases h:i < 0
   ·simp only[h,Lg] <;> omega
   ·simp only[h,KZ] <;> omega
def ph (its:List Value)(lo hi:Option Int):slicePick its.toArray lo hi none=((its.drop (HT.p0 its.length 0 lo)).take (HT.p0 its.length its.length hi - HT.p0 its.length 0 lo)).toArray:=by
 obtain⟨h1,h2,h3⟩:=qz lo hi its.toArray.size
 unfold slicePick
 rw[h1,h2,h3]
 simp only[sliceRange_one,pick_run,Kv] <;> rfl
def Ip (K:Frag):V->Option Int->Option Int->Hp->VK->Prop:=λx lo hi H Q=>∃a xs,x=.ref a/\fQ K H a xs/\∀p,H p=none->Q (.ref p) (upd H p (.lst (u4 xs lo hi)))
def C1:JE X (Ip X.K):=by
 intro pins s σ H x v vl vu lo hi sl Q I rx hs pl pu h
 obtain⟨a,xs,rfl,hx,q⟩:=h
 cases rx
 obtain⟨its,r,ht,hz⟩:=I.list hx
 have hlen:=r.length
 refine⟨"list",_,slot_list_getitem.lookup,ht.isList.typeIs,?_⟩
 refine wpAny_getItem_list_slice ht.isList hs pl pu .none (by simp) ?_ (by rw[Kv] <;> omega)
 rw[ph,<-hlen]
 refine⟨.ref s.heap.objs.size,_,I.laid (t':=s.toks) (o:=.lst (u4 xs lo hi)) (λb ob q=>Ka _ q) (Kg _) ?_,rfl,q _ (I.hok.fresh (Kg _))⟩
 exact⟨Lf (sH xs lo hi) hz,_,0,(r.drop (HT.p0 xs.length 0 lo)).take (HT.p0 xs.length xs.length hi - HT.p0 xs.length 0 lo),Ky _ rfl⟩
def rK:b6 X (.type "list") (λxs H Q=>∃p ys,xs= [.ref p]/\(fQ X.K H p ys\/gk X.K H p ys)/\∀l,H l=none->Q (.ref l) (upd H l (.lst ys))):=by
 intro pins s σ H xs us Q I r h
 obtain⟨p,ys,rfl,hq,q⟩:=h
 obtain⟨u,rfl,rx⟩:=vals1 r
 cases rx
 have fin:∀(its:List Value),Vals ys its->ys.length<=sizeLine->∀(h':Heap) (c':Nat),(∀b o',s.heap.get? b=some o'->h'.get? b=some o')->
   h'.get? s.heap.objs.size=some {cls:=.type "list",dict:=none,data:=.seq its.toArray c',slots:=#[]}->EP X pins σ Q (.ref s.heap.objs.size) {s with heap:=h'}:=λits r' hz h' c' kp e=>
  ⟨.ref s.heap.objs.size,_,I.laid (t':=s.toks) kp (Kg _) (show bA X.prog X.w _ h' _ (.lst ys) from⟨hz,its,c',r',e⟩),rfl,q _ (I.hok.fresh (Kg _))⟩
 rcases hq with hq |hq
 ·obtain⟨its,r',pl,hz⟩:=I.list hq
  have hlen:=r'.length
  obtain⟨o,ho,hc,n,hd⟩:=pl.isList
  exact call_list_seq p (.inl rfl) ho hc hd (λh' c' kp e=>fin its r' hz h' c' kp e) (by simp only[Kv] <;> omega)
 ·obtain⟨its,r',pl,hz⟩:=I.tuple hq
  have hlen:=r'.length
  obtain⟨o,ho,hc,n,hd⟩:=pl
  exact call_list_seq p (.inr rfl) ho hc hd (λh' c' kp e=>fin its r' hz h' c' kp e) (by simp only[Kv] <;> omega)
def dY:b6 X (.type "tuple") (λxs H Q=>∃p ys,xs= [.ref p]/\((fQ X.K H p ys/\∀l,H l=none->Q (.ref l) (upd H l (.tup ys)))\/(gk X.K H p ys/\Q (.ref p) H))):=by
 intro pins s σ H xs us Q I r h
 obtain⟨p,ys,rfl,h⟩:=h
 obtain⟨u,rfl,rx⟩:=vals1 r
 cases rx
 rcases h with⟨hq,q⟩ | ⟨hq,q⟩
 ·obtain⟨its,r',pl,hz⟩:=I.list hq
  have hlen:=r'.length
  refine call_tuple_list pl.isList (λh' kp=>?_) (by simp only[Kv] <;> omega)
  have I1:Inv X pins σ H {s with heap:=h'}:=I.kept (t':=s.toks) kp
  have I2:Inv X pins σ (upd H h'.objs.size (.tup ys)) {s with heap:=h'.push {cls:=.type "tuple",data:=.seq its.toArray}}:=
   I1.laid (t':=s.toks) (λb o e=>Ka _ e) (Kg _) (show bA X.prog X.w _ _ _ (.tup ys) from⟨hz,its,r',u6.new _ _⟩)
  exact⟨.ref h'.objs.size,_,I2,rfl,q _ (I1.hok.fresh (Kg _))⟩
 ·obtain⟨its,r',pl,hz⟩:=I.tuple hq
  exact call_tuple_same pl ⟨.ref p,H,I,rfl,q⟩
def JP (K:Frag)(T:String)(x:V)(H:Hp):Prop:=match x with
 | .str _=>T="str"
 | .int _=>T="int"
 | .ref p=>(T="list"/\∃xs,fQ K H p xs)\/(T="tuple"/\∃o,K.lookup p=some o/\o.cls=.type "tuple"/\o.dict=none)\/
   (T="dict"/\((∃kvs,H p=some (.dK kvs))\/∃kvs,H p=some (.dT kvs)))\/(T="set"/\∃S n,H p=some (.set S n))
 |_=>False
theorem Fq {pins:List (Addr×Obj)}{σ:St}{H:Hp}{s:Shared}{T:String}{x:V}{v:Value}(I:Inv X pins σ H s)(r:RelV x v)(ty:JP X.K T x H) :
  s.TypeIs v T/\∀a,v=.ref a->∃ob,s.heap.get? a=some ob/\ob.dict=none:=by
 cases x with
 |str z=>
  obtain⟨t,rfl⟩:=r
  cases (show T="str" from ty)
  exact⟨typeIs_str s z t,λ_ e=>nomatch e⟩
 |int i=>
  obtain⟨t,rfl⟩:=r
  cases (show T="int" from ty)
  exact⟨typeIs_int s i t,λ_ e=>nomatch e⟩
 |ref p=>
  cases r
  rcases ty with⟨rfl,xs,hq⟩ | ⟨rfl,o,hk,hc,hd⟩ | ⟨rfl,hk⟩ | ⟨rfl,S,n,hk⟩
  ·obtain⟨its,_,pl,_⟩:=I.list hq
   refine⟨pl.isList.typeIs,λa e=>?_⟩
   cases e
   obtain⟨o,n,e,c,hd,_⟩:=pl
   exact⟨o,e,hd⟩
  ·refine⟨⟨o,I.kIn p o hk,hc⟩,λa e=>?_⟩
   cases e
   exact⟨o,I.kIn _ o hk,hd⟩
  ·have z:∃o,s.heap.get? p=some o/\o.ExactDict:=by
    rcases hk with⟨kvs,hk⟩ | ⟨kvs,hk⟩
    ·obtain⟨_,_,_,_,o,_,_,e,ex,_⟩:=I.hok p _ hk
     exact⟨o,e,ex⟩
    ·obtain⟨_,_,_,_,o,_,_,e,ex,_⟩:=I.hok p _ hk
     exact⟨o,e,ex⟩
   obtain⟨o,e,ex⟩:=z
   refine⟨⟨o,e,ex.1⟩,λa e2=>?_⟩
   cases e2
   exact⟨o,e,ex.2.1⟩
  ·obtain⟨o,_,_,_,e,ex,_⟩:=I.hok p _ hk
   refine⟨⟨o,e,ex.1⟩,λa e2=>?_⟩
   cases e2
   exact⟨o,e,ex.2.1⟩
 |_=>exact False.elim ty
def JT (K:Frag)(T:String)(r:V->List V->Hp->VK->Prop)(to:TE)(t:TA):TE:=λσ H Q=>to σ H λx H1=>JP K T x H1/\t σ H1 λxs H2=>r x xs H2 Q
variable {o e:Expr}{es:List Expr}{to:TE}{t:TA}{name:Str}{apos cpos:Pos}{T id:String}{r:V->List V->Hp->VK->Prop}
def qe (pa:PlainAttrs T)(slot:Slot T name id)(hty:typeOf (.builtin id)=pure (.type "method_descriptor"))(hm:JU X id r)(ho:PE X o to)(ha:PA X (e :: es) t)
  (hbase:attributeBase o name X.env (eval o X.env)=eval o X.env:=by rfl)
  (hfew:((backTo cpos (starEach (e :: es) X.env)).all (λx=> !x.1) && (backToKw cpos (keywordEach [] X.env)).all (λx=>x.1.isSome)
   && decide ((e :: es).length + ([]:List Keyword).length + (if ([]:List Keyword).isEmpty then 0 else 1) < 30))=true:=by rfl)
  (hline:(apos.endLine == cpos.line)=true:=by rfl) (hs:starEach (e :: es) X.env=(false,eval e X.env) :: starEach es X.env:=by rfl) (hplain:(backTo cpos (starEach es X.env)).any (·.1)=false:=by rfl) :
  PE X (.Call (.Attribute o name apos) (e :: es) [] cpos) (JT X.K T r to t):=by
 intro pins s σ H Q I h
 refine wpAny_Call_method_late hbase hfew hline rfl (b7 (ho pins s σ H _ I h) λv s1 ⟨x,H1,I1,r1,ty,q1⟩=>?_)
 obtain⟨h1,h2⟩:=Fq I1 r1 ty
 refine⟨T,id,pa,slot,hty,h1,h2,?_⟩
 have hA:=ha cpos pins s1 σ H1 _ I1 q1
 rw[hs] at hA ⊢
 refine Calls.callWith_builtin (by show (false || (backTo cpos (starEach es X.env)).any (·.1))=false;rw[hplain] <;> rfl) (Calls.evalArgs_plain ?_)
 exact b7 hA λus s2 ⟨vs,H2,I2,r2,q2⟩=>hm pins s2 σ H2 x vs v us Q I2 r1 r2 q2
end
def I0 (X:Cx)(id:String)(r:V->List V->Hp->VK->Prop):Prop:=
 ∀(pins:List (Addr×Obj)) (s:Shared) (σ:St) (H:Hp) (x:V) (xs:List V) (v:Value) (us:List Value) (Q:VK),Inv X pins σ H s->RelV x v->Vals xs us->r x xs H Q->
  wpAny (model X.prog X.w) X.A (call (.builtin id) (v :: us)) (EP X pins σ Q) X.xe s
theorem Vals.one:∀{x:V} {us:List Value},Vals [x] us->∃u,us= [u]/\RelV x u
 |_,_,.cons r .nil=>⟨_,rfl,r⟩
theorem Vals.eraseIdx:∀{xs:List V} {us:List Value} (i:Nat),Vals xs us->Vals (xs.eraseIdx i) (us.eraseIdx i)
 |_,_,_,.nil=>.nil
 |_,_,0,.cons _ t=>t
 |_,_,i + 1,.cons r t=>.cons r (Vals.eraseIdx i t)
theorem Vals.reverse {xs:List V}{us:List Value}(h:Vals xs us):Vals xs.reverse us.reverse:=by
 induction h with
 |nil=>exact .nil
 |cons r t ih=>rw[MW,MW];exact Vals.append ih (.cons r .nil)
theorem Vals.rep {xs:List V}{us:List Value}(h:Vals xs us):∀k:Nat,Vals (List.replicate k xs).flatten (List.replicate k us).flatten
 | 0=>.nil
 |k + 1=>by
  rw[Mp,Mp,MD,MD]
  exact Vals.append h (Vals.rep h k)
theorem pY {α:Type}:∀(l:List α) (i:Nat),(l.eraseIdx i).length<=l.length
 | [],_=>Kg _
 |_ :: _,0=>MN _
 |_ :: r,i + 1=>Nat.succ_le_succ (pY r i)
theorem foldl_rep (its:List Value):∀(k:Nat) (acc:List Value),
  List.foldl (λx1 x2=>x1 ++ x2) acc.toArray (List.replicate k its.toArray)=(acc ++ (List.replicate k its).flatten).toArray
 | 0,acc=>by simp
 |k + 1,acc=>by
  have e:acc.toArray ++ its.toArray=(acc ++ its).toArray:=by simp
  have e2:(acc ++ its) ++ (List.replicate k its).flatten=acc ++ (List.replicate (k + 1) its).flatten:=by
   rw[Mp,MD,LU]
  rw[<-e2,<-foldl_rep its k (acc ++ its),<-e,Mp,foldl_cons]
section
variable {X:Cx}{pins:List (Addr×Obj)}{σ:St}{H:Hp}{s:Shared}{l b:Addr}{xs ys zs:List V}
def Inv.lset {its its':List Value}{n:Nat}{f:Array Value->Array Value}{t':Nat}(I:Inv X pins σ H s)(hH:H l=some (.lst xs))
  (e:s.heap.get? l=some {cls:=.type "list",data:=.seq its.toArray n}) (hf:f its.toArray=its'.toArray) (hv:Vals ys its') (hz:ys.length<=sizeLine) :
  Inv X pins σ (upd H l (.lst ys)) {s with heap:=s.heap.update l (Obj.mapSeq f),toks:=t'}:=by
 have q:=PySem.IsL.update e f
 rw[hf] at q
 refine I.write (x:=l) (e:=l) (by rw[hH];exact trivial) (.inl rfl) (λb' u hb hu=>(Lu s.heap (Obj.mapSeq f) (Ne.symm hb)).trans hu) ⟨_,q⟩ ?_
 exact⟨hz,its',_,hv,q⟩
def Inv.lnew {its:List Value}{t':Nat}(I:Inv X pins σ H s)(hv:Vals ys its)(hz:ys.length<=sizeLine) :
  Inv X pins σ (upd H s.heap.objs.size (.lst ys)) {s with heap:=s.heap.push {cls:=.type "list",data:=.seq its.toArray},toks:=t'}:=
 I.laid (λ_ _ q=>Ka _ q) (Kg _) ⟨hz,its,0,hv,Ky _ rfl⟩
def Inv.fresh (I:Inv X pins σ H s):H s.heap.objs.size=none:=I.hok.fresh (Kg _)
def Inv.lstM (I:Inv X pins σ H s)(hH:H l=some (.lst xs)):xs.length<=sizeLine/\∃(its:List Value) (n:Nat),Vals xs its/\xs.length=its.length/\s.heap.get? l=some {cls:=.type "list",data:=.seq its.toArray n}:=by
 obtain⟨z,its,n,r,e⟩:=I.hok l _ hH
 exact⟨z,its,n,r,r.length,e⟩
def tY {n:Nat}(h:n<=sizeLine):Builtin.List.listTooLong n=false:=by
 unfold Builtin.List.listTooLong
 exact Kr (by omega)
end
section
variable {X:Cx}
def BI:V->List V->Hp->VK->Prop:=λx vs H Q=>∃l xs y,x=.ref l/\vs= [y]/\H l=some (.lst xs)/\xs.length < sizeLine/\Q .non (upd H l (.lst (xs ++ [y])))
def hJ:I0 X "list.append" BI:=by
 intro pins s σ H x vs v us Q I rx rv h
 obtain⟨l,xs,y,rfl,rfl,hH,hz,q⟩:=h
 cases rx
 obtain⟨u,rfl,ru⟩:=rv.one
 obtain⟨z,its,n,r,hl,e⟩:=I.lstM hH
 refine call_meets F.slot_list_append ⟨_,e,rfl⟩ F.entry_list_append (F.args_list_append_2 _ _) (PySem.list_append l its.toArray n u (by rw[Kv];omega)) ⟨e,?_⟩
 refine⟨.non,_,I.lset (its':=its ++ [u]) hH e (by simp) (r.append (.cons ru .nil)) ?_,rfl,q⟩
 rw[Ku,List.length_singleton]
 omega
def D7:V->List V->Hp->VK->Prop:=λx vs H Q=>∃l xs i k y,x=.ref l/\vs= [.int i]/\H l=some (.lst xs)/\ -(2 ^ 63)<=i/\i < 2 ^ 63/\seqIndex? i xs.length=some k/\xs[k]? =some y/\Q y (upd H l (.lst (xs.eraseIdx k)))
def AI:I0 X "list.pop" D7:=by
 intro pins s σ H x vs v us Q I rx rv h
 obtain⟨l,xs,i,k,y,rfl,rfl,hH,h1,h2,hk,hy,q⟩:=h
 cases rx
 obtain⟨u,rfl,ru⟩:=rv.one
 obtain⟨t,rfl⟩:=ru
 obtain⟨z,its,n,r,hl,e⟩:=I.lstM hH
 obtain⟨w,hw,rw'⟩:=r.get hy
 refine call_meets F.slot_list_pop ⟨_,e,rfl⟩ F.entry_list_pop (F.args_list_pop_2 _ _)
  (MeetsSeq.list_pop_at l its.toArray n i t k w (fitsIndex_both h1 h2) (by rw[Kv,<-hl];exact hk) (by rw[<-LP];exact hw) (by rw[Kv];omega)) ⟨e,?_⟩
 refine⟨y,_,I.lset (its':=its.eraseIdx k) hH e ?_ (r.eraseIdx k) ?_,rw',q⟩
 ·show its.toArray.eraseIdxIfInBounds k=(its.eraseIdx k).toArray
  rw[List.eraseIdxIfInBounds_toArray]
 ·have:=pY xs k
  omega
def IK:R2:=λx y H Q=>∃l k xs,x=.ref l/\y=.int k/\H l=some (.lst xs)/\ -(2 ^ 63)<=k/\k < 2 ^ 63/\xs.length * k.toNat<=sizeLine/\
 ∀p,H p=none->Q (.ref p) (upd H p (.lst (List.replicate k.toNat xs).flatten))
theorem len_rep {α:Type}(xs:List α)(k:Nat):(List.replicate k xs).flatten.length=k * xs.length:=by
 induction k with
 |zero=>simp
 |succ k ih=>rw[Mp,MD,Ku,ih,Nat.succ_mul,Nat.add_comm]
def Fe:lu X (binaryOp .Mult) IK:=by
 intro pins s σ H x y v u Q I rx ry h
 obtain⟨l,k,xs,rfl,rfl,hH,h1,h2,hz,q⟩:=h
 cases rx
 obtain⟨t,rfl⟩:=ry
 obtain⟨z,its,n,r,hl,e⟩:=I.lstM hH
 have hlen:its.toArray.size * k.toNat<=sizeLine:=by rw[Kv,<-hl];exact hz
 have hcap:¬its.toArray.size * k.toNat > (2 ^ 63 - 1) / 8:=by
  have:(sizeLine:Nat)<=(2 ^ 63 - 1) / 8:=by decide
  omega
 have hfit:¬(!Builtin.List.listFitsIndex k)=true:=by
  rw[fitsIndex_both h1 h2]
  exact KC
 have hlong:¬Builtin.List.listTooLong (its.toArray.size * k.toNat)=true:=by
  rw[tY hlen]
  exact KC
 have hnew:List.foldl (λx1 x2=>x1 ++ x2) #[] (List.replicate (if its.toArray.isEmpty=true then 0 else k.toNat) its.toArray)=(List.replicate k.toNat its).flatten.toArray:=by
  have f0:∀m:Nat,List.foldl (λx1 x2=>x1 ++ x2) #[] (List.replicate m its.toArray)=(List.replicate m its).flatten.toArray:=λm=>by
   have:=foldl_rep its m []
   rw[List.nil_append] at this
   exact this
  rw[f0]
  cases its with
  |nil=>simp
  |cons a r'=>rw[Ki (by simp)]
 refine wpAny_binaryOp_repeat_ref (T:="list") (U:="int") (by decide) ⟨_,e,rfl⟩ (λs'=>typeIs_int s' k t) noFill_list_mul F.fills_int_mul F.slot_int_rmul repeat_list F.slot_int_index.lookup
  (call_meets F.slot_int_rmul (typeIs_int s k t) F.entry_int_rmul (F.args_int_rmul_2 _ _) (int___rmul___int_list k t l its.toArray n)
   ⟨e,rfl,⟨_,e,rfl⟩,call_meets F.slot_list_mul ⟨_,e,rfl⟩ F.entry_list_mul (F.args_list_mul_2 _ _) (AutoListH.list___mul___list_int_3 l its.toArray n k t hfit hcap hlong) ⟨e,?_⟩⟩)
 rw[hnew]
 exact⟨.ref _,_,I.lnew (t':=s.toks) (r.rep k.toNat) (by rw[len_rep,Nat.mul_comm];exact hz),rfl,q _ I.fresh⟩
end
end L2
namespace Att
open PySem PySem.W PySem.Calls PyProof.Rows
theorem mE {P:Params}{h:Heap}:∀(ns:List Int) (vs:List Value),WellAll P h vs (ns.map WData.int)->IntsAre vs ns:=by
 intro ns
 induction ns with
 |nil=>
  intro vs w
  rw[List.map_nil] at w
  cases w
  exact .nil
 |cons n ns ih=>
  intro vs w
  rw[K2] at w
  cases w with
  |cons a b=>
   cases a
   exact .cons _ _ (ih _ b)
theorem yC {l:OpenLaw}{n:Nat}(hn:l.most=some n){P:Params}{h:Heap}{args:List WData}{vals:List Value}
  (hpre:l.row.toRowW.claim.pre args=true) (hwl:WellAll P h vals args) :
  ∃a vs ns,vals= [Value.ref a]/\args= [WData.list (ns.map WData.int)]/\h.get? a=some {cls:=.type "list",data:=.seq vs.toArray}/\IntsAre vs ns/\ns.length<=n:=by
 have hsh:WShape.hasAll [] args [.list .int]=true:=(pre_splitW hpre).1
 have hc:l.pre.holds [] {args:=args}=true:=(pre_splitW hpre).2
 obtain⟨d,r,rfl,h1,h2⟩:=hasAllW_cons hsh
 obtain rfl:=hasAllW_nil h2
 obtain⟨xs,rfl,h3⟩:=hasW_list h1
 obtain⟨ns,rfl⟩:=items_int h3
 have hlen:ns.length<=n:=by
  unfold OpenLaw.pre at hc
  have h4:(WTm.not (.lt (.lit (.int (n:Int))) (.len (.arg 0)))).holds [] {args:=[.list (ns.map .int)]}=true:=by
   have h4:=(holds_andW hc).1
   rw[hn] at h4
   exact h4
  have h5:=condW_of h4 (w_not (w_lt w_lit (w_len_list (w_arg rfl))))
  rw[Kb] at h5
  refine Nat.le_of_not_lt λq=>?_
  have q':(n:Int) < ((ns.length:Nat):Int):=by omega
  first
   | (rw[Kh q'] at h5;exact absurd h5 (by decide))
   | (simp at h5;omega)
 cases hwl with
 |cons w1 w2=>
  cases w2
  cases w1 with
  |list ho hall=>exact⟨_,_,ns,rfl,rfl,ho,mE ns _ hall,hlen⟩
def yJ (l:OpenLaw)(args:List WData):l.row.toRowW.claim.post args (.bool true) args=true:=
 postW_of (r:=l.row.toRowW) (X:=(true == true))
  (show WShape.has [] (.bool true) .bool=true by first |rfl |decide |simp[WShape.has,WShape.arms,WShape.armsAll])
  (show (WTm.eq .res (.lit (.bool true))).value [] {args:=args,res:=some (.bool true),after:=args}=some (.bool (true == true)) from w_eq_bool (w_res rfl) w_lit) rfl
def sV {l:OpenLaw}{n:Nat}{q:Program}{loose:List Str}{XP:(Str->Option Value)->Heap->Prop}{YP:World->Heap->Prop}{d:DefRec}
  (hn:l.most=some n) (hdf:d.params.defaults= [])
  (call:∀(w:World) (s₀ s₁:Shared) (mg mb:Str->Option Value) (fa:Addr) (o:Obj) (pm cd doc:Value) (a:Addr) (vs:List Value) (ns:List Int),
   Ground q loose [] XP w s₀ mg mb s₁.heap->YP w s₁.heap->
   s₁.heap.get? fa=some o->o.data=.func (docDef d.name d.params d.body d.scope pm cd doc)->s₁.heap.CodeRec cd d.name->mg d.name=some (.ref fa)->
   s₁.heap.get? a=some {cls:=.type "list",data:=.seq vs.toArray}->IntsAre vs ns->ns.length<=n->s₁.gens=#[]->
   codeAny (model l.prog w) callerA (.call (.ref fa) ⟨[.ref a],[]⟩) (λr s'=>r=.ok (.ret (.bool true))/\OldK s₁.heap s'.heap/\s'.os=s₁.os/\AllBare s'.gens) s₁) :
  WalkO q loose XP YP l.row.toRowW d [] (λf vs=>PySem.call f vs):=by
 intro w s₀ s₁ mg mb G Y fa o pm cd doc dV kV ho hd hcd hD hmg hg args vals as hpre hlay hrd hwl hlo
 obtain rfl:dV=.none:=Dflts.none hD hdf
 obtain rfl:kV=.none:=Dflts.noKw hD
 obtain⟨a,vs,ns,rfl,rfl,hobj,hints,hlen⟩:=yC hn hpre hwl
 refine enter_call (Mi (call w s₀ s₁ mg mb fa o pm cd doc a vs ns G Y ho (fd_plain hd) hcd hmg hobj hints hlen hg) λr s' hq=>?_)
 obtain⟨rfl,h2,h3,h4⟩:=hq
 exact⟨.inl ⟨.bool true,.bool true,[],rfl,λ_=>rfl,.bool true,yJ l _,λ_=>⟨List.Pairwise.nil,λ_ hm=>(nomatch hm)⟩⟩,h2,h3,h4⟩
end Att
namespace L2
open PySem PySem.Spec PyProof.Rows
theorem pR:∀{vs:List Value} {ns:List Int},IntsAre vs ns->Vals (ns.map V.int) vs
 |_,_,.nil=>.nil
 |_,_,.cons n t h=>.cons ⟨t,rfl⟩ (pR h)
def Fw (H:Hp):Prop:=∀b,H b=none\/∃o xs,H b=some (.aQ o (.lst xs))
theorem AZ {P:Program}{w:World}{K:Frag}{mg mb:Str->Option Value}{CX:yL}{k:Nat}{fa a:Addr}{fd:FuncData}{x:Str}{sp:Sp}{s₁:Shared}{vs:List Value}{ns:List Int}
  (KX:K.In s₁.heap) (hns:s₁.heap.Ns mainGlobals mg) (hb:s₁.heap.Ns builtinsNs mb) (hbb:∀x:Str,x≠"__name__"->mb x=bootBuiltins x) (hlim:s₁.heap.NoLimit) (hsys:∃mm,s₁.heap.Ns sysModules mm) (hg:s₁.gens=#[])
  (ha:s₁.heap.get? a=some {cls:=.type "list",data:=.seq vs.toArray}) (hi:IntsAre vs ns) (hl:ns.length<=sizeLine) (hr:dv k callerA)
  (F:∀base:Heap,K.In base->base.Ns mainGlobals mg->eV P w K mg base CX k fa fd [x] sp) (hbind:∀(s:Shared) (u:Value),BindsTo s fd ⟨[u],[]⟩ [(x,u)])
  (hsp:∀H:Hp,Fw H->fQ K H a (ns.map V.int)->sp [.ref a] H (λv _=>v=.bl true) λ_ _ _=>False)
  (hCX:∀H e s',CX [] H s₁ (λ_ _ _=>False) e s'->False) :
  codeAny (model P w) callerA (.call (.ref fa) ⟨[.ref a],[]⟩) (λr s'=>r=.ok (.ret (.bool true))/\OldK s₁.heap s'.heap/\s'.os=s₁.os/\AllBare s'.gens) s₁:=by
 have rv:=pR hi
 have lenV:=hi.length
 have core:∀H:Hp,Fw H->fQ K H a (ns.map V.int)->jP P w H s₁.heap->(∀b,H b≠none->b=a)->(H a≠none->K.lookup a=none)->
   codeAny (model P w) callerA (.call (.ref fa) ⟨[.ref a],[]⟩) (λr s'=>r=.ok (.ret (.bool true))/\OldK s₁.heap s'.heap/\s'.os=s₁.os/\AllBare s'.gens) s₁:=by
  intro H hO hS hok hA hK
  have base_of:∀{b:Addr} {o:Obj},s₁.heap.get? b=some o->H b=none->(rh s₁.heap H).get? b=some o:=λe n=>Bj e n
  have noA:∀{b:Addr} {o:Obj} {es:Array DictEntry} {ep:Nat},s₁.heap.get? b=some o->o.data=.dict es ep->H b=none:=λ{b o es ep} e d=>by
   cases q:H b with
   |none=>rfl
   |some u=>
    have e':b=a:=hA b (by rw[q];simp)
    subst e'
    rw[ha] at e;cases e
    have d':Data.seq vs.toArray _=Data.dict es ep:=d
    cases d'
  have nsK:∀{b:Addr} {m:Str->Option Value},s₁.heap.Ns b m->(rh s₁.heap H).Ns b m:=λ{b m} ⟨o,es,ep,e,d,r⟩=>⟨o,es,ep,base_of e (noA e d),d,r⟩
  have hKb:K.In (rh s₁.heap H):=λb o e=>base_of (KX b o e) (by
   cases q:H b with
   |none=>rfl
   |some u=>
    have e':b=a:=hA b (by rw[q];simp)
    subst e'
    rw[hK (by rw[q];simp)] at e;cases e)
  have hM:Mod K mg (rh s₁.heap H):=⟨hKb,nsK hns,⟨mb,nsK hb,hbb⟩,let ⟨mc,h1,h2⟩:=hlim;⟨mc,nsK h1,h2⟩,let ⟨mm,h1⟩:=hsys;⟨mm,nsK h1⟩⟩
  have e0:Cz P w K mg (rh s₁.heap H) callerA [] s₁ H:=⟨rfl,hM,λb o e=>Ci e,Nat.le_of_eq (yw _ _),trivial,λb hb=>absurd (show b∈([]:List Addr) from hb) (by simp),hok,.of_eq hg⟩
  refine Mi ((F _ hKb (nsK hns)).run callerA [] s₁ H ⟨[.ref a],[]⟩ [.ref a] [.ref a] _ _ hr e0 (hbind s₁ (.ref a)) (.cons rfl .nil) (hsp H hO hS)) λr s' h=>?_
  cases r with
  |error e=>exact (hCX H e s' h).elim
  |ok fl=>
   cases fl with
   |next=>exact False.elim h
   |brk=>exact False.elim h
   |cont=>exact False.elim h
   |ret u=>
    obtain⟨v,H',os,bare,un,hok',r',q⟩:=h
    have q':v=.bl true:=q
    subst q'
    obtain rfl:u=Value.bool true:=r'
    refine⟨rfl,OldK.of_keep λb o e=>?_,os,bare⟩
    cases q:H b with
    |none=>exact un.keep b o e q (by intro z;exact absurd (show b∈([]:List Addr) from z) (by simp)) (by simp)
    |some u=>
     rcases hO b with z | ⟨ob,xs,z⟩
     ·rw[q] at z;cases z
     ·have z2:=un.frzs b ob _ z
      obtain⟨e1,_⟩:=hok b _ z
      obtain⟨e2,_⟩:=hok' b _ z2
      rw[e] at e1;cases e1
      exact e2
 cases hk:K.lookup a with
 |some o=>
  have e:=KX a o hk
  rw[ha] at e
  cases e
  refine core (λ_=>none) (λ_=>.inl rfl) (.inr ⟨_,vs.toArray,_,hk,rfl,rfl,rfl,by rw[Kv,lenV];exact hl,by simpa using rv⟩) (λb u z=>by have z':(none:Option HO)=some u:=z;cases z') (λb z=>absurd rfl z) λz=>absurd rfl z
 |none=>
  refine core (λb=>if b=a then some (.aQ {cls:=.type "list",data:=.seq vs.toArray} (.lst (ns.map V.int))) else none) (λb=>?_) (.inl (.inr ⟨{cls:=.type "list",data:=.seq vs.toArray},Kf rfl⟩)) (λb u z=>?_) (λb z=>?_) λ_=>hk
  ·by_cases hb:b=a
   ·exact .inr ⟨_,_,Kf hb⟩
   ·exact .inl (Ki hb)
  ·by_cases hb:b=a
   ·have z':=(Kf hb).symm.trans z
    cases z'
    subst hb
    exact⟨ha,by rw[Kb];exact hl,vs,_,rv,ha⟩
   ·have z':=(Ki hb).symm.trans z
    cases z'
  ·by_cases hb:b=a
   ·exact hb
   ·exact absurd (Ki hb) z
def Dv {l:PySem.W.OpenLaw}{n k:Nat}{q:Program}{loose:List Str}{XP:(Str->Option Value)->Heap->Prop}{YP:World->Heap->Prop}{d:DefRec}{K:Params->Frag}{CX:World->yL}{sp:World->Sp}{x:Str}
  (hn:l.most=some n) (hn2:n<=sizeLine) (hdf:d.params.defaults= []) (hi:PyProof.Rows.importsNone q=true) (hr:dv k callerA)
  (hY:∀(w:World) (h:Heap),YP w h->(K w.params).In h)
  (F:∀(w:World) (mg:Str->Option Value) (fa:Addr) (h:Heap),(K w.params).In h->h.Ns mainGlobals mg->mg d.name=some (.ref fa)->
   ∃fd:FuncData,(∀(s:Shared) (u:Value),BindsTo s fd ⟨[u],[]⟩ [(x,u)])/\
    ∀base:Heap,(K w.params).In base->base.Ns mainGlobals mg->eV l.prog w (K w.params) mg base (CX w) k fa fd [x] (sp w))
  (hsp:∀(w:World) (H:Hp) (a:Addr) (ns:List Int),ns.length<=n->Fw H->fQ (K w.params) H a (ns.map V.int)->sp w [.ref a] H (λv _=>v=.bl true) λ_ _ _=>False)
  (hCX:∀(w:World) (H:Hp) (s:Shared) (e:Value) (s':Shared),CX w [] H s (λ_ _ _=>False) e s'->False) :
  PySem.W.WalkO q loose XP YP l.row.toRowW d [] (λf vs=>PySem.call f vs):=by
 refine Att.sV hn hdf λw s₀ s₁ mg mb fa o pm cd doc a vs ns G Y ho hd hcd hmg hobj hints hlen hg=>?_
 have KX:=hY w _ Y
 obtain⟨fd,hb,hF⟩:=F w mg fa _ KX G.T.g hmg
 exact AZ KX G.T.g G.T.b G.T.builtins G.T.nolimit (let ⟨mm,h1,_⟩:=(G.T.seer hi).mods;⟨mm,h1⟩) hg hobj hints (Lf hlen hn2) hr hF hb (λH hO hS=>hsp w H a ns hlen hO hS) λH e s'=>hCX w H s₁ e s'
def gy (s:Stmt):Arguments:=match s with
 | .FunctionDef _ a _ _ _ _ _ _ _ _=>a
 |_=>{posonlyargs:=[],args:=[],vararg:=none,kwonlyargs:=[],kw_defaults:=[],kwarg:=none,defaults:=[]}
def cu (s:Stmt):List Stmt:=match s with
 | .FunctionDef _ _ b _ _ _ _ _ _ _=>b
 |_=>[]
def au (s:Stmt):Scope:=match s with
 | .FunctionDef _ _ _ _ _ _ sc _ _ _=>sc
 |_=>{kind:=.function,names:=[],isGenerator:=false,isCoroutine:=false}
abbrev EB:yL:=λ_ _ _ _ _ _=>False
abbrev E0:XK:=λ_ _ _=>False
def Gz {X:Cx}:Passes EB X E0:=λ_ _ _ _ _ _ _ h=>h.elim
structure BG (K:Frag)(x qual:Str)(st:Stmt)(f:Addr)(fd:FuncData):Prop where
 ex:∃(oc:Value) (od:Option Addr) (kV doc pm:Value) (an:Option Addr) (cdv ct:Value) (osl:Array (Option Value)),
  fd=PySem.W.fnOf x qual (gy st) (cu st) (au st) .none kV doc pm an cdv ct/\K.lookup f=some ⟨oc,od,.func fd,osl⟩/\PySem.W.codeIn K cdv qual=true
 kp:PySem.W.keepIn K (.ref f)=true
section
variable {P:Program}{w:World}{K:Frag}{mg:Str->Option Value}{base:Heap}
def BG.ok {x qual:Str}{st:Stmt}{f:Addr}{fd:FuncData}{N ps:List Str}{k:Nat}{sp:Sp}(F:BG K x qual st f fd)(S:aI N ps (au st))(len:∀vs H Q E,sp vs H Q E->vs.length=ps.length)
  (hbody:∀(cdv:Value) (A:Around) (outer:List Env) (s:Shared) (H:Hp) (vs:List V) (Q:VK) (E:XK),dv k (A.deeper (envOfC qual (au st) s.heap.objs.size f cdv))->sp vs H Q E->
   ∃t,qd (jT EB P w K mg base N qual (au st) f cdv A outer s H E).nox (cu st) t/\t {nx:=λ_ H'=>Q .non H',rt:=Q} (start N vs) H):eV P w K mg base EB (k + 1) f fd ps sp:=by
 obtain⟨oc,od,kV,doc,pm,an,cdv,ct,osl,rfl,lk,hcd⟩:=F.ex
 refine D5 lk hcd S len λA outer s H vs Q E hr hsp=>?_
 obtain⟨t,h,q⟩:=hbody cdv A outer s H vs Q E hr hsp
 exact⟨t,h.nox,q⟩
def BG.binds {x qual:Str}{st:Stmt}{f:Addr}{fd:FuncData}{ps:List Str}(F:BG K x qual st f fd)
  (h:∀(kV doc pm:Value) (an:Option Addr) (cdv ct:Value) (us:List Value),us.length=ps.length->bindArgs (PySem.W.fnOf x qual (gy st) (cu st) (au st) .none kV doc pm an cdv ct) ⟨us,[]⟩=pure (ps.zip us)):Binds K fd ps []:=by
 obtain⟨oc,od,kV,doc,pm,an,cdv,ct,osl,rfl,lk,hcd⟩:=F.ex
 exact .all (h kV doc pm an cdv ct)
def vm {x qual:Str}{st:Stmt}{f:Addr}{oc:Value}{od an:Option Addr}{osl:Array (Option Value)}{kV doc pm cdv ct:Value}(l:K.lookup f=some ⟨oc,od,.func (PySem.W.fnOf x qual (gy st) (cu st) (au st) .none kV doc pm an cdv ct),osl⟩)
  (c:PySem.W.codeIn K cdv qual=true) (k:PySem.W.keepIn K (.ref f)=true):BG K x qual st f (PySem.W.fnOf x qual (gy st) (cu st) (au st) .none kV doc pm an cdv ct):=⟨⟨oc,od,kV,doc,pm,an,cdv,ct,osl,rfl,l,c⟩,k⟩
end
section
variable {X:Cx}
def pv (i:Nat){x:Str}{pos:Pos}(hN:X.N[i]? =some x:=by rfl)(hv:qP X.env.scope x:=by first |exact Or.inl rfl |exact Or.inr (Or.inl rfl) |exact Or.inr (Or.inr rfl))(hd:(x == ("__debug__":Str))=false:=by decide)
  (hcd:(x == ("__classdict__":Str))=false:=by decide):PE X (.Name x pos) (rm i):=cM hN hv hd hcd
end
def pA {A B:Prop}(h:B):if false=true then A else B:=by
 rw[Ki KC]
 exact h
def o6 {A B:Prop}(h:A):if true=true then A else B:=by
 rw[Kf rfl]
 exact h
def Jr (o:Obj):Prop:=∃vs q t,o.data=.fields vs/\vs[1]? =some (.str q t)
def Kt (H:Hp)(b:Addr):HO->Prop
 | .tbl ps=>∃more:Array Value,H b=some (.tbl (ps ++ more))/\∀c,Value.ref c∈more.toList->∃o,H c=some (.aQ o (.own 0))/\Jr o
 |o=>H b=some o
theorem Kt.of {H:Hp}{b:Addr}{o:HO}(h:H b=some o):Kt H b o:=by
 cases o with
 |tbl ps=>exact⟨#[],by rw[h];simp,λc hc=>by simp at hc⟩
 |_=>exact h
def ah (H H':Hp):Prop:=∀b o,H b=some o->Kt H' b o
def ah.refl (H:Hp):ah H H:=λ_ _ h=>Kt.of h
theorem Kt.some {H:Hp}{b:Addr}{o:HO}(h:Kt H b o):∃u,H b=Option.some u/\((∀ps,o≠.tbl ps)->u=o)/\((∃ps,o=.tbl ps)->∃ps,u=.tbl ps):=by
 cases o with
 |tbl ps=>obtain⟨m,e,_⟩:=h;exact⟨_,e,λz=>absurd rfl (z ps),λ_=>⟨_,rfl⟩⟩
 |_=>exact⟨_,h,λ_=>rfl,λ⟨ps,z⟩=>by cases z⟩
theorem Kt.step {H H':Hp}{b:Addr}{o:HO}(h:Kt H b o)(s:ah H H'):Kt H' b o:=by
 cases o with
 |tbl ps=>
  obtain⟨m,e,k⟩:=h
  obtain⟨m2,e2,k2⟩:=s b _ e
  refine⟨m ++ m2,by rw[e2,Array.append_assoc],λc hc=>?_⟩
  rw[Array.toList_append,KA] at hc
  rcases hc with hc |hc
  ·obtain⟨o,eo,io⟩:=k c hc;exact⟨o,s c _ eo,io⟩
  ·exact k2 c hc
 |lst xs=>exact s b _ h
 |tup xs=>exact s b _ h
 |dK xs=>exact s b _ h
 |dT xs=>exact s b _ h
 |set S n=>exact s b _ h
 |ins C dx fs=>exact s b _ h
 |own x=>exact s b _ h
 |xd fs=>exact s b _ h
 |met f x=>exact s b _ h
 |iB lo hi=>exact s b _ h
 |aQ o u=>exact s b _ h
 |ext φ=>exact s b _ h
def ah.trans {H H1 H2:Hp}(a:ah H H1)(b:ah H1 H2):ah H H2:=λc o h=>(a c o h).step b
theorem ah.free {H H':Hp}(e:ah H H'){l:Addr}(h:H' l=Option.none):H l=Option.none:=by
 cases q:H l with
 |none=>rfl
 |some o=>
  obtain⟨u,z,_⟩:=(e l o q).some
  rw[z] at h
  cases h
def ah.seq {K:Frag}{H H':Hp}{a:Addr}{xs:List V}(e:ah H H')(h:fQ K H a xs):fQ K H' a xs:=by
 rcases h with (h | ⟨o,h⟩) |h
 ·exact .inl (.inl (e _ _ h))
 ·exact .inl (.inr ⟨o,e _ _ h⟩)
 ·exact .inr h
end L2
end
namespace L2.ST
open PySem PySem.SetTable
abbrev i5 (xs:Array Nat):Prop:=xs.toList.Pairwise (· < ·)
def gF {xs:Array Nat}(h:i5 xs){i k d:Nat}(hik:i < k)(hk:k < xs.size):xs.getD i d < xs.getD k d:=by
 have hi:i < xs.size:=Nat.lt_trans hik hk
 have:=LB.mp h i k (by simpa using hi) (by simpa using hk) hik
 simpa[Array.getD,hi,hk] using this
theorem Av {xs:Array Nat}{j:Nat}(h:i5 xs):∀(fuel lo hi:Nat),lo<=hi->hi<=xs.size->hi - lo<=fuel->
  (∀i,i < lo->xs.getD i j < j)->(∀i,hi<=i->i < xs.size->j<=xs.getD i j)->
  below.go xs j fuel lo hi<=xs.size/\(∀i,i < below.go xs j fuel lo hi->xs.getD i j < j)/\(∀i,below.go xs j fuel lo hi<=i->i < xs.size->j<=xs.getD i j):=by
 intro fuel
 induction fuel with
 |zero=>
  intro lo hi h1 h2 h3 h4 h5
  have:lo=hi:=by omega
  subst this
  exact⟨h2,h4,h5⟩
 |succ fuel ih=>
  intro lo hi h1 h2 h3 h4 h5
  unfold below.go
  by_cases hlt:lo < hi
  ·rw[Kf hlt]
   dsimp only
   by_cases hm:xs.getD ((lo + hi) / 2) j < j
   ·rw[Kf hm]
    refine ih _ _ (by omega) h2 (by omega) (λi hi'=>?_) h5
    by_cases e:i=(lo + hi) / 2
    ·rw[e];exact hm
    ·exact Nat.lt_trans (gF h (show i < (lo + hi) / 2 by omega) (by omega)) hm
   ·rw[Ki hm]
    refine ih _ _ (by omega) (by omega) (by omega) h4 (λi hi' hs=>?_)
    by_cases e:i=(lo + hi) / 2
    ·rw[e];omega
    ·have:=gF (d:=j) h (show (lo + hi) / 2 < i by omega) hs
     omega
  ·rw[Ki hlt]
   have:lo=hi:=by omega
   subst this
   exact⟨h2,h4,h5⟩
def bN {xs:Array Nat}(h:i5 xs)(j:Nat) :
  below xs j<=xs.size/\(∀i,i < below xs j->xs.getD i j < j)/\(∀i,below xs j<=i->i < xs.size->j<=xs.getD i j):=
 Av h xs.size 0 xs.size (KY _) (Kg _) (by omega) (λi hi=>by omega) (λi h1 h2=>by omega)
def yT {xs:Array Nat}(h:i5 xs){i j:Nat}(hi:xs[i]? =some j):below xs j=i:=by
 obtain⟨b1,b2,b3⟩:=bN h j
 have hs:i < xs.size:=(Ld.mp hi).1
 have hv:xs.getD i j=j:=by rw[K1,hi];rfl
 rcases ME i (below xs j) with c |c |c
 ·have:=b2 i c;omega
 ·exact c.symm
 ·have hb:below xs j < xs.size:=by omega
  have q:=b3 (below xs j) (Kg _) hb
  have:=gF (d:=j) h c hs
  omega
def wC (j:Nat):has #[] j=false:=by
 unfold has
 simp
def p8 {t:SetTable}(h:i5 t.place){i j:Nat}(hi:t.place[i]? =some j):t.slot j=.live i:=by
 unfold slot
 dsimp only
 rw[yT h hi,Kf (by simp[hi])]
def vT {t:SetTable}(hd:t.dummies=#[]){j:Nat}(hj:j∉t.place):t.slot j=.empty:=by
 unfold slot
 dsimp only
 have:¬(t.place[below t.place j]? == some j)=true:=by
  intro e
  have e':t.place[below t.place j]? =some j:=by simpa using e
  obtain⟨h1,h2⟩:=Ld.mp e'
  exact hj (Array.mem_iff_getElem.mpr ⟨_,h1,h2⟩)
 rw[Ki this,hd,wC]
 rfl
def uB (mask:Nat)(p:Probe):Probe:=
 if p.more > 0 then {p with j:=p.j + 1,more:=p.more - 1} else
 {p with j:=(leap mask p.i p.perturb).1,more:=runEnd mask (leap mask p.i p.perturb).1 - (leap mask p.i p.perturb).1,i:=(leap mask p.i p.perturb).1,perturb:=(leap mask p.i p.perturb).2}
def yf (mask i perturb:Nat):Probe:={j:=i,more:=runEnd mask i - i,i,perturb,dummy:=none}
def st (mask:Nat)(h:Int):Probe:=yf mask (bits h % (mask + 1)) (bits h)
def zK (t:SetTable)(p:Probe):t.advance p=uB t.mask p:=rfl
def Bu (t:SetTable)(h:Int):t.probeStart h=st t.mask h:=rfl
def dh (mask:Nat):Nat->Probe->Probe
 | 0,p=>p
 |n + 1,p=>dh mask n (uB mask p)
theorem jG (mask:Nat):∀(n m:Nat) (p:Probe),dh mask (n + m) p=dh mask m (dh mask n p)
 | 0,m,p=>by rw[Mk];rfl
 |n + 1,m,p=>by rw[Nat.add_right_comm];exact jG mask n m (uB mask p)
def A4 {mask:Nat}{p:Probe}(h:p.dummy=none):(uB mask p).dummy=none:=by
 unfold uB;split <;> exact h
def ic {mask i:Nat}(h:i<=mask):i<=runEnd mask i/\runEnd mask i<=mask/\runEnd mask i - i<=9:=by
 unfold runEnd;split <;> omega
def In (mask:Nat)(p:Probe):Prop:=p.j + p.more<=mask/\p.more<=9
def Ef {mask i q:Nat}(h:i<=mask):In mask (yf mask i q):=by
 have:=ic h
 unfold In yf;dsimp only;omega
def kE (mask i q:Nat):(leap mask i q).1<=mask:=by
 unfold leap;exact Nat.lt_succ_iff.mp (Nat.mod_lt _ (Nat.succ_pos _))
def EM {mask:Nat}{p:Probe}(h:In mask p):In mask (uB mask p):=by
 unfold uB
 by_cases hm:p.more > 0
 ·rw[Kf hm];unfold In at *;dsimp only;omega
 ·rw[Ki hm]
  have:=ic (kE mask p.i p.perturb)
  unfold In;dsimp only;omega
theorem rM {mask:Nat}:∀(n:Nat) {p:Probe},In mask p->In mask (dh mask n p)
 | 0,_,h=>h
 |n + 1,_,h=>rM n (EM h)
def DB (mask:Nat)(h:Int):In mask (st mask h):=Ef (Nat.lt_succ_iff.mp (Nat.mod_lt _ (Nat.succ_pos _)))
theorem uj (mask:Nat):∀(k:Nat) (p:Probe),p.more=k->dh mask (k + 1) p={p with j:=(leap mask p.i p.perturb).1,more:=runEnd mask (leap mask p.i p.perturb).1 - (leap mask p.i p.perturb).1,i:=(leap mask p.i p.perturb).1,perturb:=(leap mask p.i p.perturb).2}
 | 0,p,h=>by
  show uB mask p=_
  unfold uB
  rw[Ki (by omega)]
 |k + 1,p,h=>by
  have e:uB mask p={p with j:=p.j + 1,more:=p.more - 1}:=by unfold uB;rw[Kf (by omega)]
  show dh mask (k + 1) (uB mask p)=_
  rw[e,uj mask k _ (by dsimp only;omega)]
def lO (mask i q:Nat):dh mask (runEnd mask i - i + 1) (yf mask i q)=yf mask (leap mask i q).1 (leap mask i q).2:=by
 exact uj mask _ (yf mask i q) rfl
theorem iN (mask i q:Nat):∀(k:Nat),k<=runEnd mask i - i->(dh mask k (yf mask i q))={yf mask i q with j:=i + k,more:=runEnd mask i - i - k}
 | 0,_=>rfl
 |k + 1,h=>by
  rw[jG mask k 1,iN mask i q k (by omega)]
  show uB mask _=_
  unfold uB
  rw[Kf (by dsimp only;omega)]
  simp only[Probe.mk.injEq]
  refine⟨by omega,by omega,?_⟩
  trivial
def eO (mask:Nat):Nat->Nat×Nat->Nat×Nat
 | 0,x=>x
 |k + 1,x=>eO mask k (leap mask x.1 x.2)
theorem lY (mask:Nat):∀(k i q:Nat),i<=mask->∃n,n<=10 * k/\dh mask n (yf mask i q)=yf mask (eO mask k (i,q)).1 (eO mask k (i,q)).2
 | 0,i,q,_=>⟨0,Kg _,rfl⟩
 |k + 1,i,q,h=>by
  obtain⟨n,hn,e⟩:=lY mask k (leap mask i q).1 (leap mask i q).2 (kE _ _ _)
  have:=ic h
  refine⟨(runEnd mask i - i + 1) + n,by omega,?_⟩
  rw[jG,lO,e]
  rfl
theorem pQ (mask:Nat):∀(a b:Nat) (x:Nat×Nat),eO mask (a + b) x=eO mask b (eO mask a x)
 | 0,b,x=>by rw[Mk];rfl
 |a + 1,b,x=>by rw[Nat.add_right_comm];exact pQ mask a b (leap mask x.1 x.2)
theorem sM (mask:Nat):∀(k:Nat) (x:Nat×Nat),x.1<=mask->(eO mask k x).1<=mask
 | 0,_,h=>h
 |k + 1,x,_=>sM mask k _ (kE mask x.1 x.2)
theorem jU (mask:Nat):∀(k:Nat) (x:Nat×Nat),(eO mask k x).2=x.2 / 32 ^ k
 | 0,x=>by simp[eO]
 |k + 1,x=>by
  show (eO mask k (leap mask x.1 x.2)).2=_
  rw[jU mask k,Nat.pow_succ,Nat.mul_comm,<-Nat.div_div_eq_div_mul]
  rfl
def nx (mask i:Nat):Nat:=(i * 5 + 1) % (mask + 1)
def zd (mask:Nat):Nat->Nat->Nat
 | 0,i=>i
 |k + 1,i=>zd mask k (nx mask i)
theorem mS (mask:Nat):∀(a b i:Nat),zd mask (a + b) i=zd mask b (zd mask a i)
 | 0,b,i=>by rw[Mk];rfl
 |a + 1,b,i=>by rw[Nat.add_right_comm];exact mS mask a b (nx mask i)
theorem nW (mask:Nat):∀(k i:Nat),eO mask k (i,0)=(zd mask k i,0)
 | 0,_=>rfl
 |k + 1,i=>by
  show eO mask k (leap mask i 0)=_
  have:leap mask i 0=(nx mask i,0):=by simp[leap,nx]
  rw[this,nW mask k]
  rfl
def yk (mask:Nat):Prop:=mask=7\/mask=31\/mask=127
def Hq (mask:Nat)(hm:yk mask):zd mask (mask + 1) 0=0/\∀j,j<=mask->∃k,k<=mask/\zd mask k 0=j:=by
 have h7:∀j:Nat,j < 8->∃k,k < 8/\zd 7 k 0=j:=by decide +kernel
 have h31:∀j:Nat,j < 32->∃k,k < 32/\zd 31 k 0=j:=by decide +kernel
 have h127:∀j:Nat,j < 128->∃k,k < 128/\zd 127 k 0=j:=by decide +kernel
 rcases hm with rfl |rfl |rfl
 ·exact⟨by decide +kernel,λj hj=>let ⟨k,a,b⟩:=h7 j (by omega);⟨k,by omega,b⟩⟩
 ·exact⟨by decide +kernel,λj hj=>let ⟨k,a,b⟩:=h31 j (by omega);⟨k,by omega,b⟩⟩
 ·exact⟨by decide +kernel,λj hj=>let ⟨k,a,b⟩:=h127 j (by omega);⟨k,by omega,b⟩⟩
def GU {mask:Nat}(hm:yk mask){i j:Nat}(hi:i<=mask)(hj:j<=mask):∃k,k<=mask/\zd mask k i=j:=by
 obtain⟨z,o⟩:=Hq mask hm
 obtain⟨a,ha,ea⟩:=o i hi
 obtain⟨b,hb,eb⟩:=o j hj
 have back:zd mask (mask + 1 - a) i=0:=by
  rw[<-ea,<-mS,show a + (mask + 1 - a)=mask + 1 by omega];exact z
 by_cases hab:a<=b
 ·refine⟨b - a,by omega,?_⟩
  rw[<-ea,<-mS,show a + (b - a)=b by omega];exact eb
 ·refine⟨mask + 1 - a + b,by omega,?_⟩
  rw[mS,back];exact eb
def nJ {mask:Nat}(hm:yk mask){i q j:Nat}(hi:i<=mask)(hq:q < 2 ^ 64)(hj:j<=mask):∃k,k<=mask + 13/\(eO mask k (i,q)).1=j:=by
 have hz:(eO mask 13 (i,q)).2=0:=by
  rw[jU]
  exact Nat.div_eq_of_lt (KL hq (by decide))
 obtain⟨k,hk,e⟩:=GU hm (sM mask 13 (i,q) hi) hj
 refine⟨13 + k,by omega,?_⟩
 rw[pQ]
 have:eO mask 13 (i,q)=((eO mask 13 (i,q)).1,0):=Prod.ext rfl hz
 rw[this,nW]
 exact e
def xq (h:Int):bits h < 2 ^ 64:=by
 unfold bits
 have:=L3 h (show (0:Int) < 2 ^ 64 by decide)
 have:=L7 h (show (2 ^ 64:Int)≠0 by decide)
 omega
def A3 {mask:Nat}(hm:yk mask)(h:Int){j:Nat}(hj:j<=mask):∃n,n < 10 * turns mask/\(dh mask n (st mask h)).j=j:=by
 have hi:bits h % (mask + 1)<=mask:=Nat.lt_succ_iff.mp (Nat.mod_lt _ (Nat.succ_pos _))
 obtain⟨k,hk,e⟩:=nJ hm hi (xq h) hj
 obtain⟨n,hn,q⟩:=lY mask k (bits h % (mask + 1)) (bits h) hi
 refine⟨n,by unfold turns;omega,?_⟩
 show (dh mask n (yf mask _ _)).j=j
 rw[q];exact e
theorem sk {t:SetTable}{hashAt:Nat->Int}{h:Int}:∀(n fuel:Nat) (p:Probe),n < fuel->p.dummy=none->
  (∀m,m < n->∃i,t.slot (dh t.mask m p).j=.live i/\hashAt i≠h)->t.slot (dh t.mask n p).j=.empty->
  probe.go t hashAt h fuel p=some (.empty (dh t.mask n p).j none):=by
 intro n
 induction n with
 |zero=>
  intro fuel p hf hd _ he
  obtain⟨f,rfl⟩:∃f,fuel=f + 1:=⟨fuel - 1,by omega⟩
  unfold probe.go
  have he':t.slot p.j=.empty:=he
  rw[he',hd]
  rfl
 |succ n ih=>
  intro fuel p hf hd hl he
  obtain⟨f,rfl⟩:∃f,fuel=f + 1:=⟨fuel - 1,by omega⟩
  unfold probe.go
  obtain⟨i,e,ne⟩:=hl 0 (by omega)
  have e':t.slot p.j=.live i:=e
  rw[e']
  dsimp only
  rw[Ki (by simpa using ne),zK]
  exact ih f (uB t.mask p) (by omega) (A4 hd) (λm hm=>hl (m + 1) (by omega)) he
theorem zP {t:SetTable}{hashAt:Nat->Int}{h:Int}:∀(n fuel:Nat) (p:Probe),n < fuel->
  (∀m,m<=n->∃i,t.slot (dh t.mask m p).j=.live i)->(∃i,t.slot (dh t.mask n p).j=.live i/\hashAt i=h)->
  ∃j i next,probe.go t hashAt h fuel p=some (.candidate j i next)/\t.slot j=.live i/\hashAt i=h:=by
 intro n
 induction n with
 |zero=>
  intro fuel p hf _ he
  obtain⟨f,rfl⟩:∃f,fuel=f + 1:=⟨fuel - 1,by omega⟩
  obtain⟨i,e,eh⟩:=he
  have e':t.slot p.j=.live i:=e
  unfold probe.go
  rw[e']
  dsimp only
  rw[Kf (by simpa using eh)]
  exact⟨p.j,i,_,rfl,e',eh⟩
 |succ n ih=>
  intro fuel p hf hl he
  obtain⟨f,rfl⟩:∃f,fuel=f + 1:=⟨fuel - 1,by omega⟩
  obtain⟨i,e⟩:=hl 0 (by omega)
  have e':t.slot p.j=.live i:=e
  unfold probe.go
  rw[e']
  dsimp only
  by_cases hh:hashAt i=h
  ·rw[Kf (by simpa using hh)]
   exact⟨p.j,i,_,rfl,e',hh⟩
  ·rw[Ki (by simpa using hh),zK]
   exact ih f (uB t.mask p) (by omega) (λm hm=>hl (m + 1) (by omega)) he
def Reach (mask:Nat)(L:Nat->Prop)(h:Int)(j:Nat):Prop:=∃n,n < 10 * turns mask/\(dh mask n (st mask h)).j=j/\∀m,m < n->L (dh mask m (st mask h)).j
def Reach.mono {mask:Nat}{L L':Nat->Prop}{h:Int}{j:Nat}(r:Reach mask L h j)(k:∀x,L x->L' x):Reach mask L' h j:=
 let ⟨n,a,b,c⟩:=r;⟨n,a,b,λm hm=>k _ (c m hm)⟩
structure Tab (t:SetTable)(hs:List Int):Prop where
 mask:yk t.mask
 dum:t.dummies=#[]
 rise:i5 t.place
 le:∀j,j∈t.place->j<=t.mask
 size:t.place.size=hs.length
 load:t.place.size * 5 < t.mask * 3
 reach:∀(i j:Nat) (h:Int),t.place[i]? =some j->hs[i]? =some h->Reach t.mask (· ∈t.place) h j
 plain:t.plain=true
theorem bu {α:Type}[DecidableEq α]:∀{l m:List α},l.Nodup->(∀x,x∈l->x∈m)->l.length<=m.length
 | [],_,_,_=>KY _
 |a :: l,m,hn,hs=>by
  have ha:=hs a (Kd ..)
  have hl:=KI.mp hn
  have:=bu (l:=l) (m:=m.erase a) hl.2 λx hx=>by
   refine (List.mem_erase_of_ne ?_).mpr (hs x (J9 _ hx))
   rintro rfl;exact hl.1 hx
  rw[MQ ha] at this
  have:0 < m.length:=List.length_pos_of_mem ha
  simp only[KG];omega
def uV {mask:Nat}{xs:Array Nat}(hl:xs.size<=mask):∃j,j<=mask/\j∉xs:=by
 refine Classical.byContradiction λhc=>?_
 have all:∀j,j∈List.range (mask + 1)->j∈xs.toList:=λj hj=>by
  have:=KD.mp hj
  refine Classical.byContradiction λhn=>hc ⟨j,by omega,λz=>hn (by simpa using z)⟩
 have:=bu L0 all
 simp at this
 omega
theorem rR {P:Nat->Prop}(h:∃n,P n):∃n,P n/\∀m,m < n->¬P m:=by
 obtain⟨n,hn⟩:=h
 induction n using Nat.strongRecOn with
 |_ n ih=>
  by_cases hc:∃m,m < n/\P m
  ·obtain⟨m,hm,hp⟩:=hc
   exact ih m hm hp
  ·exact⟨n,hn,λm hm hp=>hc ⟨m,hm,hp⟩⟩
section
variable {t:SetTable}{hs:List Int}
def Tab.load' (T:Tab t hs):t.place.size<=t.mask:=by have:=T.load;omega
def Tab.slotL (T:Tab t hs){j:Nat}(hj:j∈t.place):∃i,t.slot j=.live i/\t.place[i]? =some j:=by
 obtain⟨i,hi,e⟩:=Array.mem_iff_getElem.mp hj
 have q:t.place[i]? =some j:=by rw[KJ hi,e]
 exact⟨i,p8 T.rise q,q⟩
def Tab.slotE (T:Tab t hs){j:Nat}(hj:j∉t.place):t.slot j=.empty:=vT T.dum hj
def Tab.first (T:Tab t hs)(h:Int):∃n,n < 10 * turns t.mask/\(dh t.mask n (st t.mask h)).j∉t.place/\∀m,m < n->(dh t.mask m (st t.mask h)).j∈t.place:=by
 obtain⟨j,hj,hn⟩:=uV T.load'
 obtain⟨n,h1,h2⟩:=A3 T.mask h hj
 obtain⟨k,hk,hlt⟩:=rR (P:=λn=>(dh t.mask n (st t.mask h)).j∉t.place) ⟨n,by rw[h2];exact hn⟩
 refine⟨k,?_,hk,λm hm=>Classical.byContradiction λz=>hlt m hm z⟩
 rcases Lr n k with c |c
 ·exact absurd (show (dh t.mask n (st t.mask h)).j∉t.place by rw[h2];exact hn) (hlt n c)
 ·omega
def Tab.absent (T:Tab t hs){hashAt:Nat->Int}(ha:∀i,i < hs.length->some (hashAt i)=hs[i]?){h:Int}(hn:h∉hs) :
  ∃j,t.probe hashAt h (t.probeStart h)=some (.empty j none)/\j∉t.place/\j<=t.mask/\Reach t.mask (· ∈t.place) h j:=by
 obtain⟨n,h1,h2,h3⟩:=T.first h
 refine⟨(dh t.mask n (st t.mask h)).j,?_,h2,?_,⟨n,h1,rfl,h3⟩⟩
 ·unfold probe
  rw[Bu]
  refine sk n _ _ h1 rfl (λm hm=>?_) (T.slotE h2)
  obtain⟨i,e,q⟩:=T.slotL (h3 m hm)
  refine⟨i,e,λz=>hn ?_⟩
  have hi:i < hs.length:=by rw[<-T.size];exact (Ld.mp q).1
  have:=ha i hi
  rw[z] at this
  exact Kj this.symm
 ·have:=rM n (DB t.mask h)
  unfold In at this;omega
def Tab.present (T:Tab t hs){hashAt:Nat->Int}(ha:∀i,i < hs.length->some (hashAt i)=hs[i]?){h:Int}(hm:h∈hs) :
  ∃j i next,t.probe hashAt h (t.probeStart h)=some (.candidate j i next)/\t.slot j=.live i/\i < hs.length/\hs[i]? =some h:=by
 obtain⟨i,hi,e⟩:=KW.mp hm
 have hi':hs[i]? =some h:=by rw[J6 hi,e]
 have hp:i < t.place.size:=by rw[T.size];exact hi
 obtain⟨n,h1,h2,h3⟩:=T.reach i t.place[i] h (KJ hp) hi'
 have hj:(dh t.mask n (st t.mask h)).j∈t.place:=by rw[h2];exact Array.getElem_mem hp
 obtain⟨j',i',nx,g1,g2,g3⟩:=zP (t:=t) (hashAt:=hashAt) (h:=h) n (10 * turns t.mask) (st t.mask h) h1 (λm hm=>by
   rcases Lr m n with c |c
   ·obtain⟨i,e,_⟩:=T.slotL (h3 m c);exact⟨i,e⟩
   ·have:m=n:=by omega
    subst this
    obtain⟨i,e,_⟩:=T.slotL hj;exact⟨i,e⟩)
  ⟨i,by rw[h2];exact p8 T.rise (KJ hp),by
   have:=ha i hi
   rw[hi'] at this
   exact Option.some.inj this⟩
 have hi2:i' < t.place.size:=by
  unfold slot at g2
  dsimp only at g2
  split at g2
  ·rename_i c
   have c':t.place[below t.place j']? =some j':=by simpa using c
   cases g2
   exact (Ld.mp c').1
  ·split at g2 <;> cases g2
 refine⟨j',i',nx,by unfold probe;rw[Bu];exact g1,g2,by rw[<-T.size];exact hi2,?_⟩
 have:=ha i' (by rw[<-T.size];exact hi2)
 rw[g3] at this
 exact this.symm
end
def a9 {α:Type}(xs:Array α)(p:Nat)(x:α)(_:p<=xs.size):(insertAt xs p x).toList=xs.toList.take p ++ x :: xs.toList.drop p:=by
 unfold insertAt
 simp[Array.toList_extract,List.extract_eq_take_drop]
 rw[Lv (by simp)]
def ly (t:SetTable)(j:Nat)(hd:t.dummies=#[]):(t.put j).1={t with place:=insertAt t.place (below t.place j) j}/\(t.put j).2=below t.place j:=by
 unfold put
 dsimp only
 rw[hd,wC]
 exact⟨by simp,rfl⟩
section
variable {t:SetTable}{hs:List Int}
def kQ {α:Type}{xs:Array α}{p:Nat}{x y:α}(hp:p<=xs.size):y∈insertAt xs p x↔y∈xs\/y=x:=by
 rw[<-Mf,a9 xs p x hp,KA,Ke,<-Mf]
 have:y∈xs.toList↔y∈xs.toList.take p\/y∈xs.toList.drop p:=by
  conv=>lhs;rw[<-L8 p xs.toList]
  exact KA
 rw[this]
 constructor
 ·rintro (a |a |a)
  ·exact .inl (.inl a)
  ·exact .inr a
  ·exact .inl (.inr a)
 ·rintro ((a |a) |a)
  ·exact .inl a
  ·exact .inr (.inr a)
  ·exact .inr (.inl a)
def oV {xs:Array Nat}(h:i5 xs){j:Nat}(hj:j∉xs):i5 (insertAt xs (below xs j) j):=by
 obtain⟨b1,b2,b3⟩:=bN h j
 unfold i5
 rw[a9 _ _ _ b1]
 have hl:∀y,y∈xs.toList.take (below xs j)->y < j:=λy hy=>by
  obtain⟨i,hi,e⟩:=KW.mp hy
  have hi1:i < below xs j:=by simp at hi;omega
  have hi2:i < xs.size:=by omega
  have:=b2 i hi1
  rw[K1,KJ hi2] at this
  simp at e this
  omega
 have hr:∀y,y∈xs.toList.drop (below xs j)->j < y:=λy hy=>by
  obtain⟨i,hi,e⟩:=KW.mp hy
  have hi2:below xs j + i < xs.size:=by simp at hi;omega
  have:=b3 (below xs j + i) (by omega) hi2
  rw[K1,KJ hi2] at this
  simp at e this
  rcases Lr j y with c |c
  ·exact c
  ·have:j=y:=by omega
   exact absurd (by rw[this,<-e];exact Array.getElem_mem _) hj
 refine List.pairwise_append.mpr ⟨List.Pairwise.sublist (List.take_sublist ..) h,List.pairwise_cons.mpr ⟨λy hy=>hr y hy,List.Pairwise.sublist (List.drop_sublist ..) h⟩,λa ha b hb=>?_⟩
 rcases Ke.mp hb with rfl |hb
 ·exact hl a ha
 ·exact Nat.lt_trans (hl a ha) (hr b hb)
def uy {α:Type}(l:List α)(p:Nat)(x:α)(hp:p<=l.length)(i:Nat):(l.take p ++ x :: l.drop p)[i]? =if i < p then l[i]? else if i=p then some x else l[i - 1]?:=by
 rcases ME i p with c |c |c
 ·rw[Kf c,KQ (by simp;omega),MP c]
 ·subst c
  rw[Ki (KU _),Kf rfl,KO (by simp;omega),K4,Nat.min_eq_left hp,Nat.sub_self]
  rfl
 ·rw[Ki (by omega),Ki (by omega),KO (by simp;omega),K4,Nat.min_eq_left hp]
  obtain⟨k,rfl⟩:∃k,i=p + 1 + k:=⟨i - (p + 1),by omega⟩
  rw[show p + 1 + k - p=k + 1 by omega,List.getElem?_cons_succ,List.getElem?_drop]
  congr 1
  omega
def Tab.put (T:Tab t hs){j:Nat}{h:Int}(hj:j∉t.place)(hm:j<=t.mask)(r:Reach t.mask (· ∈t.place) h j)(hf:(t.place.size + 1) * 5 < t.mask * 3) :
  Tab (t.put j).1 (hs.take (t.put j).2 ++ h :: hs.drop (t.put j).2)/\(t.put j).2<=hs.length:=by
 obtain⟨e1,e2⟩:=ly t j T.dum
 obtain⟨b1,b2,b3⟩:=bN T.rise j
 have hsz:(insertAt t.place (below t.place j) j).size=t.place.size + 1:=by
  rw[<-LX,a9 _ _ _ b1]
  simp;omega
 have hl:below t.place j<=hs.length:=by rw[<-T.size];exact b1
 rw[e1,e2]
 refine⟨⟨T.mask,T.dum,oV T.rise hj,λy hy=>?_,?_,?_,λi y g hy hg=>?_,T.plain⟩,hl⟩
 ·rcases (kQ b1).mp hy with z |z
  ·exact T.le y z
  ·rw[z];exact hm
 ·show (insertAt t.place _ j).size=_
  rw[hsz,T.size];simp;omega
 ·show (insertAt t.place _ j).size * 5 < t.mask * 3
  rw[hsz];exact hf
 ·show Reach t.mask (· ∈insertAt t.place (below t.place j) j) g y
  have hy':(t.place.toList.take (below t.place j) ++ j :: t.place.toList.drop (below t.place j))[i]? =some y:=by
   rw[<-a9 _ _ _ b1,LP];exact hy
  rw[uy _ _ _ (by simpa using b1)] at hy'
  rw[uy _ _ _ hl] at hg
  have old:∀{g y},Reach t.mask (· ∈t.place) g y->Reach t.mask (· ∈insertAt t.place (below t.place j) j) g y:=λr=>r.mono λx hx=>(kQ b1).mpr (.inl hx)
  split at hy'
  ·rename_i c
   rw[Kf c] at hg
   exact old (T.reach i y g (by simpa using hy') hg)
  ·rename_i c
   rw[Ki c] at hg
   split at hy'
   ·rename_i c2
    rw[Kf c2] at hg
    cases hg;cases hy'
    exact old r
   ·rename_i c2
    rw[Ki c2] at hg
    exact old (T.reach (i - 1) y g (by simpa using hy') hg)
end
abbrev own (o:Array (Option Nat))(j:Nat):Option Nat:=o.getD j none
theorem yA {mask:Nat}{o:Array (Option Nat)}(hsz:o.size=mask + 1):∀(fuel i q:Nat) (j:Nat),i<=mask->layClean.free mask o fuel i q=some j->
  ∃n,n < 10 * fuel/\(dh mask n (yf mask i q)).j=j/\(∀m,m < n->(own o (dh mask m (yf mask i q)).j).isSome=true)/\own o j=none/\j<=mask:=by
 intro fuel
 induction fuel with
 |zero=>intro i q j _ h;unfold layClean.free at h;cases h
 |succ fuel ih=>
  intro i q j hi h
  unfold layClean.free at h
  have hr:=ic hi
  have ind:∀k,k<=runEnd mask i - i->o.getD (i + k) (some 0)=own o (i + k):=λk hk=>by
   have:i + k < o.size:=by omega
   simp[own,Array.getD,this]
  cases hf:(List.range (runEnd mask i + 1 - i)).find? λk=>(o.getD (i + k) (some 0)).isNone with
  |some k=>
   rw[hf] at h
   dsimp only at h
   have hk:=List.find?_eq_some_iff_getElem.mp hf
   obtain⟨hn,ix,hix,eix,hbef⟩:=hk
   have ek:ix=k:=by simpa using eix
   subst ek
   have hix':ix < runEnd mask i + 1 - i:=by simpa using hix
   cases h
   refine⟨ix,by omega,?_,λm hm=>?_,?_,by omega⟩
   ·rw[iN mask i q ix (by omega)]
   ·rw[iN mask i q m (by omega)]
    have:=hbef m hm
    simp only[List.getElem_range] at this
    rw[ind m (by omega)] at this
    dsimp only
    cases e:own o (i + m) with
    |none=>rw[e] at this;simp at this
    |some _=>rfl
   ·rw[ind ix (by omega)] at hn
    cases e:own o (i + ix) with
    |none=>rfl
    |some _=>rw[e] at hn;simp at hn
  |none=>
   rw[hf] at h
   dsimp only at h
   obtain⟨n,h1,h2,h3,h4,h5⟩:=ih _ _ j (kE mask i q) h
   have hnone:=List.find?_eq_none.mp hf
   refine⟨(runEnd mask i - i + 1) + n,by omega,?_,λm hm=>?_,h4,h5⟩
   ·rw[jG,lO];exact h2
   ·rcases Lr m (runEnd mask i - i + 1) with c |c
    ·rw[iN mask i q m (by omega)]
     have:=hnone m (KD.mpr (by omega))
     rw[ind m (by omega)] at this
     dsimp only
     cases e:own o (i + m) with
     |none=>rw[e] at this;simp at this
     |some _=>rfl
    ·obtain⟨k,rfl⟩:∃k,m=(runEnd mask i - i + 1) + k:=⟨m - (runEnd mask i - i + 1),by omega⟩
     rw[jG,lO]
     exact h3 k (by omega)
theorem yg {mask:Nat}{o:Array (Option Nat)}(hsz:o.size=mask + 1):∀(fuel i q k:Nat),i<=mask->k < fuel->own o (eO mask k (i,q)).1=none->∃j,layClean.free mask o fuel i q=some j:=by
 intro fuel
 induction fuel with
 |zero=>intro i q k _ hk;omega
 |succ fuel ih=>
  intro i q k hi hk hn
  unfold layClean.free
  cases hf:(List.range (runEnd mask i + 1 - i)).find? λk=>(o.getD (i + k) (some 0)).isNone with
  |some k=>exact⟨_,rfl⟩
  |none=>
   dsimp only
   cases k with
   |zero=>
    have hr:=ic hi
    have:=List.find?_eq_none.mp hf 0 (KD.mpr (by omega))
    have e:own o i=none:=hn
    have hi2:i < o.size:=by omega
    simp[own,Array.getD,hi2] at e this
    rw[e] at this;simp at this
   |succ k=>exact ih _ _ k (kE mask i q) (by omega) hn
structure Lay (mask:Nat)(o:Array (Option Nat))(hs:List Int):Prop where
 size:o.size=mask + 1
 all:∀k h,hs[k]? =some h->∃j,own o j=some k/\Reach mask (λx=>(own o x).isSome=true) h j
 one:∀j j' k,own o j=some k->own o j'=some k->j=j'
 le:∀j k,own o j=some k->j<=mask/\k < hs.length
def k9 {o:Array (Option Nat)}{j x k:Nat}(hj:j < o.size):own (o.setIfInBounds j (some k)) x=if x=j then some k else own o x:=by
 unfold own
 rw[K1,K1,Array.getElem?_setIfInBounds]
 by_cases e:x=j
 ·subst e;simp[hj]
 ·rw[Ki e,Ki (λz=>e z.symm)]
def AX {mask:Nat}(hm:yk mask){o:Array (Option Nat)}{hs:List Int}(L:Lay mask o hs)(h:Int)(hl:hs.length<=mask) :
  ∃j,layClean.free mask o (turns mask) (bits h % (mask + 1)) (bits h)=some j/\Lay mask (o.setIfInBounds j (some hs.length)) (hs ++ [h]):=by
 have hi:bits h % (mask + 1)<=mask:=Nat.lt_succ_iff.mp (Nat.mod_lt _ (Nat.succ_pos _))
 have hfree:∃j,j<=mask/\own o j=none:=by
  refine Classical.byContradiction λhc=>?_
  have hall:∀j,j<=mask->∃k,own o j=some k:=λj hj=>by
   cases e:own o j with
   |none=>exact absurd ⟨j,hj,e⟩ hc
   |some k=>exact⟨k,rfl⟩
  have nd:((List.range (mask + 1)).map λj=>(own o j).getD 0).Nodup:=by
   refine Ln.mpr ?_
   refine LC ?_ L0
   intro a b ha hb hab e
   obtain⟨ka,ea⟩:=hall a (by have:=KD.mp ha;omega)
   obtain⟨kb,eb⟩:=hall b (by have:=KD.mp hb;omega)
   rw[ea,eb] at e
   simp at e
   subst e
   exact hab (L.one a b ka ea eb)
  have:=bu (m:=List.range hs.length) nd λx hx=>by
   obtain⟨j,hj,rfl⟩:=Kn.mp hx
   obtain⟨k,e⟩:=hall j (by have:=KD.mp hj;omega)
   rw[e]
   exact KD.mpr (L.le j k e).2
  simp at this
  omega
 obtain⟨j0,hj0,hn0⟩:=hfree
 obtain⟨k,hk,ek⟩:=nJ hm hi (xq h) hj0
 obtain⟨j,hj⟩:=yg L.size (turns mask) _ (bits h) k hi (by unfold turns;omega) (by rw[ek];exact hn0)
 refine⟨j,hj,?_⟩
 obtain⟨n,h1,h2,h3,h4,h5⟩:=yA L.size _ _ _ _ hi hj
 have hjs:j < o.size:=by rw[L.size];omega
 have grow:∀x,(own o x).isSome=true->(own (o.setIfInBounds j (some hs.length)) x).isSome=true:=λx hx=>by
  rw[k9 hjs];split
  ·rfl
  ·exact hx
 refine⟨by rw[Array.size_setIfInBounds];exact L.size,λk g hg=>?_,λa b c ea eb=>?_,λa c ea=>?_⟩
 ·rcases Lr k hs.length with c |c
  ·rw[KQ c] at hg
   obtain⟨x,ex,rx⟩:=L.all k g hg
   refine⟨x,?_,rx.mono grow⟩
   rw[k9 hjs,Ki (λz=>?_)]
   ·exact ex
   ·subst z;rw[ex] at h4;cases h4
  ·rw[KO c] at hg
   have:k=hs.length:=by
    have:=(Ks.mp hg).1
    simp at this;omega
   subst this
   simp at hg
   subst hg
   exact⟨j,by rw[k9 hjs,Kf rfl],n,h1,h2,λm hm=>grow _ (h3 m hm)⟩
 ·rw[k9 hjs] at ea eb
  split at ea
  ·cases ea
   split at eb
   ·omega
   ·have:=(L.le _ _ eb).2;omega
  ·split at eb
   ·cases eb
    have:=(L.le _ _ ea).2;omega
   ·exact L.one _ _ _ ea eb
 ·rw[k9 hjs] at ea
  rw[Ku]
  split at ea
  ·cases ea;simp;omega
  ·have:=L.le _ _ ea;simp;omega
theorem xC {mask:Nat}(hm:yk mask):∀(rest hs:List Int) (o:Array (Option Nat)),Lay mask o hs->hs.length + rest.length<=mask->
  ∃o',rest.foldl (init:=some (o,hs.length)) (λacc h=>do
   let (owner,k) <-acc
   let j <-layClean.free mask owner (turns mask) (bits h % (mask + 1)) (bits h)
   pure (owner.setIfInBounds j (some k),k + 1))=some (o',hs.length + rest.length)/\Lay mask o' (hs ++ rest)
 | [],hs,o,L,_=>⟨o,rfl,by rw[L5];exact L⟩
 |h :: rest,hs,o,L,hl=>by
  simp only[KG] at hl
  obtain⟨j,e,L'⟩:=AX hm L h (by omega)
  obtain⟨o',e',L2⟩:=xC hm rest (hs ++ [h]) _ L' (by simp;omega)
  refine⟨o',?_,by rw[LU] at L2;exact L2⟩
  rw[foldl_cons]
  simp only[Option.bind_eq_bind,Option.bind_some,e,Option.pure_def]
  have el:(hs ++ [h]).length=hs.length + 1:=by simp
  rw[el] at e'
  simp only[Option.bind_eq_bind,Option.pure_def] at e'
  rw[e']
  simp;omega
def wu (n j:Nat):own (Array.replicate n none) j=none:=by
 unfold own
 rw[K1,Array.getElem?_replicate]
 split <;> rfl
def Dk (mask:Nat):Lay mask (Array.replicate (mask + 1) none) []:=
 ⟨by simp,λk h e=>by simp at e,λj j' k e _=>by (rw[wu] at e;cases e),λj k e=>by (rw[wu] at e;cases e)⟩
def pP {mask:Nat}(hm:yk mask)(hs:Array Int)(hl:hs.size * 5 < mask * 3)(finger moves:Nat)(led:Bool) :
  ∃t order,laid mask finger moves led true hs=some (t,order)/\t.led=led/\t.mask=mask/\order.toList.Nodup/\(∀k,k∈order.toList↔k < hs.size)/\
   Tab t (order.toList.map λk=>hs.toList.getD k 0):=by
 obtain⟨o,e,L⟩:=xC hm hs.toList [] _ (Dk mask) (by simp;omega)
 simp only[List.nil_append] at L
 have ec:layClean mask hs=some o:=by
  unfold layClean
  rw[<-Array.foldl_toList]
  simp only[Mz] at e
  rw[e];rfl
 have hlive:∀j k,(j,k)∈((List.range (mask + 1)).filterMap λj=>(o.getD j none).map (j, ·))↔own o j=some k:=λj k=>by
  rw[LO]
  constructor
  ·rintro⟨x,_,q⟩
   cases ex:o.getD x none with
   |none=>rw[ex] at q;cases q
   |some y=>rw[ex] at q;simp at q;rw[<-q.1,<-q.2];exact ex
  ·intro q
   refine⟨j,KD.mpr (by have:=(L.le j k q).1;omega),?_⟩
   have:o.getD j none=some k:=q
   rw[this];rfl
 have hpw:((List.range (mask + 1)).filterMap λj=>(o.getD j none).map (j, ·)).Pairwise (λa b=>a.1 < b.1):=by
  refine List.pairwise_filterMap.mpr ?_
  refine List.Pairwise.imp ?_ List.pairwise_lt_range
  intro a b hab x hx y hy
  cases ea:o.getD a none with
  |none=>rw[ea] at hx;cases hx
  |some u=>
   cases eb:o.getD b none with
   |none=>rw[eb] at hy;cases hy
   |some v=>
    rw[ea] at hx;rw[eb] at hy
    simp at hx hy
    rw[<-hx,<-hy];exact hab
 generalize hlv:((List.range (mask + 1)).filterMap λj=>(o.getD j none).map (j, ·))=live at hlive hpw
 refine⟨{mask,place:=(live.map (·.1)).toArray,dummies:=#[],finger,led,moves,plain:=true},(live.map (·.2)).toArray,?_,rfl,rfl,?_,λk=>?_,?_⟩
 ·unfold laid
  rw[ec]
  simp only[Option.bind_eq_bind,Option.bind_some,Option.pure_def,hlv]
 ·have:(live.map (·.2)).Nodup:=by
   refine Ln.mpr (LC ?_ hpw)
   intro a b ha hb hab ee
   have h1:=(hlive a.1 a.2).mp ha
   have h2:=(hlive b.1 b.2).mp hb
   rw[ee] at h1
   have:=L.one _ _ _ h1 h2
   omega
  simpa using this
 ·rw[Kn]
  constructor
  ·rintro⟨x,hx,rfl⟩
   have:=(L.le x.1 x.2 ((hlive x.1 x.2).mp hx)).2
   simpa using this
  ·intro hk
   have hk':k < hs.toList.length:=by simpa using hk
   obtain⟨j,ej,_⟩:=L.all k _ (J6 hk')
   exact⟨(j,k),(hlive j k).mpr ej,rfl⟩
 ·have hord:live.length=hs.size:=by
   have a1:(live.map (·.2)).Nodup:=by
    refine Ln.mpr (LC ?_ hpw)
    intro a b ha hb hab ee
    have h1:=(hlive a.1 a.2).mp ha
    have h2:=(hlive b.1 b.2).mp hb
    rw[ee] at h1
    have:=L.one _ _ _ h1 h2
    omega
   have b1:=bu (m:=List.range hs.size) a1 λx hx=>by
    obtain⟨y,hy,rfl⟩:=Kn.mp hx
    have:=(L.le y.1 y.2 ((hlive y.1 y.2).mp hy)).2
    exact KD.mpr (by simpa using this)
   have b2:=bu (l:=List.range hs.size) (m:=live.map (·.2)) L0 λx hx=>by
    have hk':x < hs.toList.length:=by simpa using KD.mp hx
    obtain⟨j,ej,_⟩:=L.all x _ (J6 hk')
    exact Kn.mpr ⟨(j,x),(hlive j x).mpr ej,rfl⟩
   simp at b1 b2
   omega
  refine⟨hm,rfl,?_,λj hj=>?_,?_,?_,λi j h hi hh=>?_,rfl⟩
  ·show (live.map (·.1)).toArray.toList.Pairwise _
   rw[Lm]
   exact Ln.mpr hpw
  ·have:j∈live.map (·.1):=by simpa using hj
   obtain⟨x,hx,rfl⟩:=Kn.mp this
   exact (L.le x.1 x.2 ((hlive x.1 x.2).mp hx)).1
  ·simp
  ·show (live.map (·.1)).toArray.size * 5 < mask * 3
   simp[hord];exact hl
  ·have hi':(live.map (·.1))[i]? =some j:=by simpa using hi
   have hh':((live.map (·.2)).map λk=>hs.toList.getD k 0)[i]? =some h:=by simpa using hh
   rw[Kk] at hi'
   rw[Kk,Kk] at hh'
   cases ex:live[i]? with
   |none=>rw[ex] at hi';cases hi'
   |some x=>
    rw[ex] at hi' hh'
    simp at hi' hh'
    have hxl:=(hlive x.1 x.2).mp (Kj ex)
    have hk:=(L.le _ _ hxl).2
    have hk2:x.2 < hs.size:=by simpa using hk
    obtain⟨j2,ej2,r⟩:=L.all x.2 h (by
     rw[J6 hk]
     simp[hk2] at hh'
     simpa using hh')
    have:j2=j:=by rw[<-hi'];exact L.one _ _ _ ej2 hxl
    subst this
    refine r.mono λy hy=>?_
    show y∈(live.map (·.1)).toArray
    cases ey:own o y with
    |none=>rw[ey] at hy;cases hy
    |some k=>
     have:y∈live.map (·.1):=Kn.mpr ⟨(y,k),(hlive y k).mpr ey,rfl⟩
     simpa using this
abbrev Pr:=Int×Int
def hp (p:Pr):Int:=reduceHash (Builtin.Tuple.tupleHashOf [hashInt p.1,hashInt p.2])
def Sm (p:Pr):Prop:=(0<=p.1/\p.1 < 8)/\(0<=p.2/\p.2 < 8)
def m9:List Pr:=(List.range 64).map λk=>(((k / 8:Nat):Int),((k % 8:Nat):Int))
def ke {p:Pr}(h:Sm p):p∈m9:=by
 unfold m9
 obtain⟨⟨a,b⟩,c,d⟩:=h
 refine Kn.mpr ⟨p.1.toNat * 8 + p.2.toNat,KD.mpr (by omega),?_⟩
 refine Prod.ext ?_ ?_ <;> dsimp only <;> omega
def Ax:(m9.map hp).Nodup:=by decide +kernel
theorem k6 {α β:Type}{f:α->β}:∀{l:List α},(l.map f).Nodup->∀a b,a∈l->b∈l->f a=f b->a=b
 | [],_,_,_,h,_,_=>by cases h
 |x :: l,hn,a,b,ha,hb,e=>by
  have hn':=KI.mp hn
  rcases Ke.mp ha with ea |ha
  ·rcases Ke.mp hb with eb |hb
   ·rw[ea,eb]
   ·exact absurd (Kn.mpr ⟨b,hb,by rw[<-e,ea]⟩) hn'.1
  ·rcases Ke.mp hb with eb |hb
   ·exact absurd (Kn.mpr ⟨a,ha,by rw[e,eb]⟩) hn'.1
   ·exact k6 hn'.2 a b ha hb e
def EC {p q:Pr}(hp1:Sm p)(hq:Sm q)(e:hp p=hp q):p=q:=k6 Ax p q (ke hp1) (ke hq) e
def uW {l:List Pr}(hn:l.Nodup)(h:∀p,p∈l->Sm p):l.length<=64:=by
 have:=bu (m:=m9) hn λx hx=>ke (h x hx)
 simpa[m9] using this
section
variable {prog:Program}{w:World}{A:Around}{E:Value->Shared->Prop}{s:Shared}
abbrev bB (prog:Program)(w:World)(h:Heap)(p:Pr)(a:Addr):Prop:=IsTupleKey (intKind prog w) h [p.1,p.2] a
def bB.inj {h:Heap}{p q:Pr}{a:Addr}(x:bB prog w h p a)(y:bB prog w h q a):p=q:=by
 have:=IsTupleKey.inj x y
 simp at this
 exact Prod.ext this.1 this.2
structure qx (f:Pr->Int)(prog:Program)(w:World)(led:Bool)(h:Heap)(S:Addr)(ps:List (Addr×Pr)):Prop where
 ex:∃o ep t,h.get? S=some o/\o.ExactSet/\o.data=.set (ps.map λq=>(f q.2,Value.ref q.1)).toArray ep t/\Tab t (ps.map λq=>f q.2)/\t.led=led
 at':∀q,q∈ps->bB prog w h q.2 q.1/\Sm q.2
 nd:(ps.map (·.2)).Nodup
def ju {t:SetTable}{hs:List Int}(T:Tab t hs){n:Nat}(e:n=hs.length):t.fits n=true:=by
 unfold SetTable.fits SetTable.fill
 have:=T.load'
 simp[T.size,T.dum,e]
 rw[T.size] at this;exact this
def AK (a:Addr)(wanted:Nat):setRelay a wanted=(do
  let (es,_,t) <-setState a
  if SetTable.sizeAbove wanted > sizeLine then unsupported "set:memory"
  let (es,t) <-(do
   let some (t,order):=t.relaid (es.map (·.1)) wanted |unsupported "internal:set-table-without-room"
   let es':=order.filterMap (es[·]?)
   if es'.size != es.size then unsupported "internal:set-table-lost-an-element"
   pure (es',t))
  storeSet a es t):=rfl
def za (a:Addr)(x:Value)(h:Int)(fuel:Nat):setSearchFrom a x h true (fuel + 1) none=(do
  let (es,_,t) <-setState a
  if t.gaveWay then unsupported "set:on-a-table-that-gave-way"
  let some met:=t.probe (λi=>(es[i]?.map (·.1)).getD 0) h (t.probeStart h) |unsupported "internal:set-table-without-an-empty-slot"
  match met with
  | .empty j dummy=>
   match dummy with
   |none=>return .free j false
   |some d=>
    if true && t.slot d != .dummy then rule "set.search.the-dummy-was-taken";return <-setSearchFrom a x h true fuel none
    return .free d true
  | .candidate j i next=>
   if !t.led then
    if <-searchCouldBeSeen x ((es.filter (·.1 == h)).toList.map (·.2)) then unsupported "set:the-search-would-show-the-table"
   let some (_,y):=es[i]? |unsupported "internal:set-entry"
   let equal <-holding [y] (eqBool y x)
   let (es',_,t') <-setState a
   if true && equal then return .there none
   let some same:=t'.sameMemory t.moves t.mask |unsupported "set.changed-during-lookup:is-the-new-block-at-the-old-address"
   let still <-match (if same then t'.slot j else .empty) with
    | .live i'=>match es'[i']? with
     |some (_,y')=>do pure (if <-isSame y' y then some i' else none)
     |none=>pure none
    |_=>pure none
   match still with
   |none=>rule "set.search.anew";setSearchFrom a x h true fuel none
   |some i'=>if equal then return .there (some i') else setSearchFrom a x h true fuel (some next)):=rfl
theorem uh (n:Nat){v:Value}(h:carriedByValue v=true):ofAClassStatement n v=pure false:=by
 cases v with
 |ref a=>simp[carriedByValue] at h
 |_=>first |rfl | (unfold ofAClassStatement;rfl)
def vh (n:Nat){v:Value}{k:Int}(h:(intKind prog w).is k v=true):hashByValue n v=pure true:=by
 obtain⟨t,rfl⟩:=LS h
 cases n <;> rfl
def kL {p:Pr}{a:Addr}{Q:Bool->Shared->Prop}(hk:bB prog w s.heap p a)(h:Q false s):wpAny (model prog w) A (ofAClassStatement 8 (.ref a)) Q E s:=by
 have hT:=hk.typeIs
 obtain⟨o,items,n,ho,hc,hd,hi⟩:=hk
 unfold ofAClassStatement
 refine J8 (wpAny_typeOf hT ?_)
 dsimp only
 rw[Kf (by decide)]
 refine J8 (Kc ?_)
 simp only[Mt,Kx,KZ]
 refine J8 (wpAny_seqItems ho hd ?_)
 dsimp only
 refine J8 ?_
 rw[<-Array.forIn_toList]
 refine wpAny_forIn_list _ (λrest r s'=>r.1=none/\s'=s/\∀v∈rest,carriedByValue v=true) _ ?_ ?_ _ _ ⟨rfl,rfl,hi.byValue⟩
 ·rintro v rest r s' ⟨hr,rfl,hall⟩
  rw[uh _ (hall v Kd)]
  refine J8 (Kc ?_)
  simp only[Kx,KZ]
  exact Kc ⟨rfl,rfl,λu hu'=>hall u (J9 _ hu')⟩
 ·rintro⟨r1,r2⟩ s' ⟨hr,rfl,_⟩
  simp only at hr
  subst hr
  exact Kc h
def ui {p:Pr}{a:Addr}{Q:Bool->Shared->Prop}(hk:bB prog w s.heap p a)(h:Q true s):wpAny (model prog w) A (hashByValue 8 (.ref a)) Q E s:=by
 have hT:=hk.typeIs
 obtain⟨o,items,n,ho,hc,hd,hi⟩:=hk
 unfold hashByValue
 refine J8 (wpAny_specialOf hT F.slot_tuple_hash.lookup ?_)
 dsimp only
 refine J8 (wpAny_seqItems ho hd ?_)
 simp only[Option.getD_some]
 refine J8 ?_
 rw[<-Array.forIn_toList]
 refine wpAny_forIn_list _ (λrest r s'=>r.1=none/\s'=s/\∀v∈rest,∃k,(intKind prog w).is k v=true) _ ?_ ?_ _ _ ⟨rfl,rfl,λv hv=>?_⟩
 ·rintro v rest r s' ⟨hr,rfl,hall⟩
  obtain⟨k,hk⟩:=hall v Kd
  rw[vh _ hk]
  refine J8 (Kc ?_)
  simp only[Mt,Kx,KZ]
  exact Kc ⟨rfl,rfl,λu hu'=>hall u (J9 _ hu')⟩
 ·rintro⟨r1,r2⟩ s' ⟨hr,rfl,_⟩
  simp only at hr
  subst hr
  exact Kc h
 ·generalize items.toList=l at *
  cases hi with
  |cons h1 hi=>
   cases hi with
   |cons h2 hi=>
    cases hi
    rcases Ke.mp hv with rfl |hv
    ·exact⟨_,h1⟩
    ·rcases Ke.mp hv with rfl |hv
     ·exact⟨_,h2⟩
     ·cases hv
def uC {p:Pr}{a:Addr}(hk:bB prog w s.heap p a):∀(l:List Value) {Q:Bool->Shared->Prop},(∀v∈l,∃q b,v=.ref b/\bB prog w s.heap q b)->Q false s->wpAny (model prog w) A (searchCouldBeSeen (.ref a) l) Q E s:=by
 intro l Q hl h
 unfold searchCouldBeSeen
 refine J8 ?_
 refine wpAny_forIn_list _ (λrest r s'=>r.1=none/\s'=s/\∀v∈rest,∃q b,v=.ref b/\bB prog w s.heap q b) _ ?_ ?_ _ _ ⟨rfl,rfl,hl⟩
 ·rintro v rest r s' ⟨hr,rfl,hall⟩
  obtain⟨q,b,rfl,hb⟩:=hall v Kd
  have hrest:=λu hu'=>hall u (J9 _ hu')
  dsimp only
  split
  ·exact Kc ⟨rfl,rfl,hrest⟩
  ·refine J8 (wpAny_eqIsQuiet_tuple hk ?_)
   simp only[Mt,Kx,KZ]
   refine J8 (wpAny_eqIsQuiet_tuple hb ?_)
   simp only[Mt,Kx,KZ]
   refine J8 (kL hk ?_)
   simp only[Kx,KZ]
   refine J8 (kL hb ?_)
   simp only[Kx,KZ]
   exact Kc ⟨rfl,rfl,hrest⟩
 ·rintro⟨r1,r2⟩ s' ⟨hr,rfl,_⟩
  simp only at hr
  subst hr
  exact Kc h
end
section
variable {prog:Program}{w:World}{A:Around}{E:Value->Shared->Prop}{s:Shared}
def mi (t:SetTable)(hs:Array Int)(wanted:Nat)(hp:t.plain=true):t.relaid hs wanted=laid (sizeAbove wanted - 1) t.finger (t.movedTo (sizeAbove wanted - 1)) t.led true hs:=by
 unfold relaid;rw[hp]
def AW:sizeAbove (grown 5)=32/\sizeAbove (grown 19)=128:=by decide +kernel
theorem filterMap_get {α:Type}(es:Array α):∀(order:List Nat),(∀k,k∈order->k < es.size)->∃l:List α,order.filterMap (λi=>es[i]?)=l/\l.length=order.length/\(∀(i k:Nat),order[i]? =some k->l[i]? =es[k]?)/\∀x,x∈l->∃k,k∈order/\es[k]? =some x
 | [],_=>⟨[],rfl,rfl,λi k h=>by simp at h,λx hx=>by cases hx⟩
 |k :: r,h=>by
  obtain⟨l,e1,e2,e3,e4⟩:=filterMap_get es r λx hx=>h x (J9 _ hx)
  have hk:=h k (Kd ..)
  refine⟨es[k] :: l,by rw[LW,KJ hk,e1],by simp[e2],λi x hi=>?_,λx hx=>?_⟩
  ·cases i with
   |zero=>simp at hi;subst hi;simp[hk]
   |succ i=>simp at hi;simpa using e3 i x hi
  ·rcases Ke.mp hx with rfl |hx
   ·exact⟨k,Kd ..,by simp[hk]⟩
   ·obtain⟨y,hy,q⟩:=e4 x hx
    exact⟨y,J9 _ hy,q⟩
abbrev dc (f:Pr->Int)(q:Addr×Pr):Int×Value:=(f q.2,Value.ref q.1)
def rS (f:Pr->Int){mask:Nat}(hm:yk mask){ps:List (Addr×Pr)}(hl:ps.length * 5 < mask * 3)(finger moves:Nat)(led:Bool) :
  ∃(t:SetTable) (order:Array Nat) (ps':List (Addr×Pr)),laid mask finger moves led true ((ps.map (dc f)).toArray.map (·.1))=some (t,order)/\order.filterMap (λi=>(ps.map (dc f)).toArray[i]?)=(ps'.map (dc f)).toArray/\ps'.length=ps.length/\
   (∀q,q∈ps'↔q∈ps)/\Tab t (ps'.map λq=>f q.2)/\t.led=led:=by
 obtain⟨t,order,e,el,em,nd,mem,T⟩:=pP hm ((ps.map (dc f)).toArray.map (·.1)) (by simpa using hl) finger moves led
 have hsz:((ps.map (dc f)).toArray.map (·.1)).size=ps.length:=by simp
 obtain⟨ps',f1,f2,f3,f4⟩:=filterMap_get ps.toArray order.toList λk hk=>by
  have:=(mem k).mp hk;rw[hsz] at this;simpa using this
 have hlen:order.toList.length=ps.length:=by
  have a1:=bu (m:=List.range ps.length) nd λx hx=>KD.mpr (by have:=(mem x).mp hx;rwa [hsz] at this)
  have a2:=bu (l:=List.range ps.length) (m:=order.toList) L0 λx hx=>(mem x).mpr (by rw[hsz];exact KD.mp hx)
  simp at a1 a2 ⊢;omega
 refine⟨t,order,ps',e,?_,by omega,λq=>⟨λhq=>?_,λhq=>?_⟩,?_,el⟩
 ·apply Array.toList_inj.mp
  rw[Array.toList_filterMap,<-f1]
  simp only[Lm]
  rw[List.map_filterMap]
  congr 1
  funext i
  simp
 ·obtain⟨k,_,q2⟩:=f4 q hq
  rw[MH] at q2
  exact Kj q2
 ·obtain⟨k,hk,q2⟩:=KW.mp hq
  have hko:k∈order.toList:=(mem k).mpr (by rw[hsz];exact hk)
  obtain⟨i,hi,e2⟩:=KW.mp hko
  have:=f3 i k (by rw[J6 hi,e2])
  rw[MH,J6 hk,q2] at this
  exact Kj this
 ·have:(order.toList.map λk=>((ps.map (dc f)).toArray.map (·.1)).toList.getD k 0)=ps'.map λq=>f q.2:=by
   apply Mc
   intro i
   rw[Kk,Kk]
   cases hi:order.toList[i]? with
   |none=>
    have:ps'[i]? =none:=Mg.mpr (by rw[f2];exact Mg.mp hi)
    rw[this];rfl
   |some k=>
    have hk:k < ps.length:=by have:=(mem k).mp (Kj hi);rwa [hsz] at this
    have:=f3 i k hi
    rw[MH,J6 hk] at this
    rw[this]
    simp[hk]
  rw[<-this];exact T
theorem lW:∀{l m:List Int},m.Nodup->(∀x,x∈m->x∈l)->l.length<=m.length->l.Nodup
 | [],_,_,_,_=>nodup_nil
 |a :: l,m,hn,hs,hl=>by
  by_cases ha:a∈m
  ·have hnot:a∉l:=λz=>by
    have:=bu (m:=l) hn λx hx=>by
     rcases Ke.mp (hs x hx) with e |e
     ·rw[e];exact z
     ·exact e
    simp only[KG] at hl;omega
   refine KI.mpr ⟨hnot,lW (m:=m.erase a) (hn.erase a) (λx hx=>?_) ?_⟩
   ·have:=(hn.mem_erase_iff).mp hx
    rcases Ke.mp (hs x this.2) with e |e
    ·exact absurd e this.1
    ·exact e
   ·rw[MQ ha];simp only[KG] at hl;omega
  ·have:=bu (m:=l) hn λx hx=>by
    rcases Ke.mp (hs x hx) with e |e
    ·exact absurd (e▸hx) ha
    ·exact e
   simp only[KG] at hl;omega
def qL (a:Addr)(es:Array (Int×Value)):byScan (.ref a) es=false:=by unfold byScan Value.scannable;simp
def vK {t:SetTable}(h:yk t.mask):t.gaveWay=false:=by
 unfold SetTable.gaveWay
 rcases h with e |e |e <;> rw[e] <;> decide
def qx.add {f:Pr->Int}(hinj:∀p q,Sm p->Sm q->f p=f q->p=q){led:Bool}{S a:Addr}{ps:List (Addr×Pr)}{p:Pr}{Q:Bool->Shared->Prop}(P:qx f prog w led s.heap S ps)(hk:bB prog w s.heap p a)(hs:Sm p)(hu:A.units < cLine)
  (h:∀(b:Bool) (h':Heap) (ps':List (Addr×Pr)),Heap.SameBut S s.heap h'->qx f prog w led h' S ps'->(∀q,q∈ps'->q∈ps\/q=(a,p))->(∀q,q∈ps->q∈ps')->(∃q,q∈ps'/\q.2=p)->Q b {s with heap:=h'}) :
  wpAny (model prog w) A (setAddHashed S (.ref a) (f p)) Q E s:=by
 obtain⟨o,ep,t,ho,hex,hd,T,hled⟩:=P.ex
 have hfit:t.fits (ps.map (dc f)).toArray.size=true:=ju T (by simp)
 have ha:∀i,i < (ps.map λq=>f q.2).length->some ((((ps.map (dc f)).toArray)[i]?.map (·.1)).getD 0)=(ps.map λq=>f q.2)[i]?:=λi hi=>by
  have hi':i < ps.length:=by simpa using hi
  simp[hi']
 unfold setAddHashed
 refine Lp ?_
 unfold setAddHashedIn
 refine J8 (K7 ho hd hfit ?_)
 dsimp only
 rw[qL]
 simp only[Kx,KZ]
 unfold setSearch
 rw[za]
 refine J8 (J8 (K7 ho hd hfit ?_))
 dsimp only
 rw[vK T.mask]
 simp only[Kx,KZ]
 by_cases hm:f p∈ps.map λq=>f q.2
 ·
  obtain⟨j,i,nx,e1,e2,e3,e4⟩:=T.present ha hm
  rw[e1]
  dsimp only
  have hi:i < ps.length:=by simpa using e3
  have e5:f (ps[i].2)=f p:=by
   rw[Kk,J6 hi] at e4
   simpa using e4
  have hq:=P.at' ps[i] (KS hi)
  have e6:ps[i].2=p:=hinj _ _ hq.2 hs e5
  have hget:((ps.map (dc f)).toArray)[i]? =some (f ps[i].2,.ref ps[i].1):=by simp[hi]
  have rest:wpAny (model prog w) A (do
    let some (_,y):=((ps.map (dc f)).toArray)[i]? |unsupported "internal:set-entry"
    let equal <-holding [y] (eqBool y (.ref a))
    let (es',_,t') <-setState S
    if true && equal then return SetFound.there none
    let some same:=t'.sameMemory t.moves t.mask |unsupported "set.changed-during-lookup:is-the-new-block-at-the-old-address"
    let still <-match (if same then t'.slot j else .empty) with
     | .live i'=>match es'[i']? with
      |some (_,y')=>do pure (if <-isSame y' y then some i' else none)
      |none=>pure none
     |_=>pure none
    match still with
    |none=>rule "set.search.anew";setSearchFrom S (.ref a) (f p) true 99999 none
    |some i'=>if equal then return .there (some i') else setSearchFrom S (.ref a) (f p) true 99999 (some nx))
    (λr s'=>s'=s/\r=.there none) E s:=by
   rw[hget]
   dsimp only
   refine J8 (Lp (wpAny_eqBool_tuple hu hq.1 hk ?_))
   rw[Kh (by rw[e6])]
   refine J8 (K7 ho hd hfit ?_)
   dsimp only
   simp only[Mu,Lg]
   exact Kc ⟨rfl,rfl⟩
  have fin:∀r s',s'=s/\r=SetFound.there none->wpAny (model prog w) A (match r with
    | .free slot wasDummy=>(do
     let (es,_,t) <-setState S
     let (t,p'):=t.put slot
     let byValue <-if t.plain then hashByValue 8 (.ref a) else pure true
     let t:=if byValue then t else {t with plain:=false}
     storeSet S (SetTable.insertAt es p' (f p,.ref a)) t
     if !wasDummy && t.tooFull then setRelay S (SetTable.grown (es.size + 1))
     return true)
    |_=>pure false) Q E s':=by
   rintro r s' ⟨rfl,rfl⟩
   exact Kc (h false s'.heap ps (Heap.SameBut.refl ..) P (λq hq=>.inl hq) (λq hq=>hq) ⟨ps[i],KS hi,e6⟩)
  cases hl:led with
  |true=>
   rw[hled,hl]
   simp only[Mt,Kx,KZ]
   exact LN rest (λr s' hr=>fin r s' hr) λ_ _ x=>x
  |false=>
   rw[hled,hl]
   simp only[Bool.not_false,Lg]
   refine J8 (uC hk _ (λv hv=>?_) ?_)
   ·obtain⟨x,hx,rfl⟩:=Kn.mp hv
    have hx':x∈(ps.map (dc f)).toArray:=(Array.mem_filter.mp (Mf.mp hx)).1
    have hx2:x∈ps.map (dc f):=by simpa using hx'
    obtain⟨q,hq,rfl⟩:=Kn.mp hx2
    exact⟨q.2,q.1,rfl,(P.at' q hq).1⟩
   ·simp only[Kx,KZ]
    exact LN rest (λr s' hr=>fin r s' hr) λ_ _ x=>x
 ·
  obtain⟨j,e1,e2,e3,e4⟩:=T.absent ha hm
  rw[e1]
  dsimp only
  refine Kc ?_
  dsimp only
  refine J8 (K7 ho hd hfit ?_)
  dsimp only
  obtain⟨q1,q2⟩:=ly t j T.dum
  have hpl:(t.put j).1.plain=true:=by rw[q1];exact T.plain
  rw[hpl]
  simp only[Lg]
  refine J8 (ui hk ?_)
  simp only[Lg]
  have hb:(t.put j).2<=ps.length:=by
   rw[q2]
   have:=(bN T.rise j).1
   rw[T.size] at this;simpa using this
  have hins:insertAt (ps.map (dc f)).toArray (t.put j).2 (f p,Value.ref a)=((ps.take (t.put j).2 ++ (a,p) :: ps.drop (t.put j).2).map (dc f)).toArray:=by
   apply Array.toList_inj.mp
   rw[a9 _ _ _ (by simpa using hb)]
   simp[List.map_take,List.map_drop]
  rw[hins]
  generalize hps':ps.take (t.put j).2 ++ (a,p) :: ps.drop (t.put j).2=ps1
  have mem1:∀q,q∈ps1↔q∈ps\/q=(a,p):=λq=>by
   rw[<-hps',KA,Ke]
   conv=>rhs;rw[<-L8 (t.put j).2 ps,KA]
   constructor
   ·rintro (z |z |z)
    ·exact .inl (.inl z)
    ·exact .inr z
    ·exact .inl (.inr z)
   ·rintro ((z |z) |z)
    ·exact .inl z
    ·exact .inr (.inr z)
    ·exact .inr (.inl z)
  have len1:ps1.length=ps.length + 1:=by rw[<-hps'];simp;omega
  have nd1:(ps1.map (·.2)).Nodup:=by
   have hnot:p∉ps.map (·.2):=λz=>by
    obtain⟨q,hq,e⟩:=Kn.mp z
    exact hm (Kn.mpr ⟨q,hq,by rw[e]⟩)
   have perm:(ps1.map (·.2)).Perm (p :: ps.map (·.2)):=by
    rw[<-hps']
    have:(ps.take (t.put j).2 ++ (a,p) :: ps.drop (t.put j).2).Perm ((a,p) :: ps):=by
     refine List.perm_middle.trans ?_
     rw[L8]
    exact this.map (·.2)
   exact perm.nodup_iff.mpr (KI.mpr ⟨hnot,P.nd⟩)
  have ne:∀b q,bB prog w s.heap q b->b≠S:=λb q ⟨o',_,_,ho',_,hd',_⟩ e=>by
   subst e
   rw[ho] at ho';cases ho'
   rw[hd] at hd';cases hd'
  have at1:∀{h':Heap},Heap.SameBut S s.heap h'->∀q,q∈ps1->bB prog w h' q.2 q.1/\Sm q.2:=λ{h'} hsb q hq=>by
   have key:∀{b:Addr} {q:Pr},bB prog w s.heap q b->bB prog w h' q b:=λ{b q} hb=>by
    have hne:=ne b q hb
    obtain⟨o',i',n',ho',r'⟩:=hb
    exact⟨o',i',n',(hsb.2 b hne).trans ho',r'⟩
   rcases (mem1 q).mp hq with z |z
   ·exact⟨key (P.at' q z).1,(P.at' q z).2⟩
   ·subst z;exact⟨key hk,hs⟩
  have hlen64:ps1.length<=64:=by
   have:=uW nd1 λx hx=>by
    obtain⟨q,hq,rfl⟩:=Kn.mp hx
    exact (at1 (Heap.SameBut.refl ..) q hq).2
   simpa using this
  have hsize:((ps1.map (dc f)).toArray).size<=sizeLine:=by rw[KH];simp;omega
  refine J8 (MX ho hd ?_ hsize)
  have ho1:(s.heap.update S (Obj.putSet (ps1.map (dc f)).toArray (t.put j).1)).get? S=some {o with data:=.set (ps1.map (dc f)).toArray (ep + 1) (t.put j).1}:=by
   have:=K5 (Obj.putSet (ps1.map (dc f)).toArray (t.put j).1) ho (by rw[MR _ _ hd];rfl)
   rw[MR _ _ hd] at this;exact this
  have sb1:=Heap.SameBut.update s.heap S (Obj.putSet (ps1.map (dc f)).toArray (t.put j).1)
  have hex1:({o with data:=.set (ps1.map (dc f)).toArray (ep + 1) (t.put j).1}:Obj).ExactSet:=hex
  have psz:(t.put j).1.place.size=ps.length + 1:=by
   rw[q1]
   show (insertAt t.place (below t.place j) j).size=_
   rw[<-LX,a9 _ _ _ (bN T.rise j).1]
   have:=T.size
   simp at this ⊢
   have:=(bN T.rise j).1
   omega
  have dum1:(t.put j).1.dummies=#[]:=by rw[q1];exact T.dum
  have mask1:(t.put j).1.mask=t.mask:=by rw[q1]
  have tsz:t.place.size=ps.length:=by simpa using T.size
  simp only[Bool.not_false,Bool.true_and]
  cases htf:(t.put j).1.tooFull with
  |false=>
   simp only[Kx,KZ]
   have hload:(t.place.size + 1) * 5 < t.mask * 3:=by
    unfold SetTable.tooFull SetTable.fill at htf
    rw[psz,dum1,mask1] at htf
    simp at htf
    rw[tsz];exact htf
   obtain⟨T1,_⟩:=T.put e2 e3 e4 hload
   refine J8 (Kc (Kc (h true _ ps1 sb1 ⟨⟨_,ep + 1,_,ho1,hex1,rfl,?_,?_⟩,at1 sb1,nd1⟩ (λq hq=>(mem1 q).mp hq) (λq hq=>(mem1 q).mpr (.inl hq)) ⟨(a,p),(mem1 _).mpr (.inr rfl),rfl⟩)))
   ·rw[<-hps']
    simpa[List.map_take,List.map_drop] using T1
   ·rw[q1];exact hled
  |true=>
   simp only[Lg]
   have hfull:t.mask * 3<=(ps.length + 1) * 5:=by
    unfold SetTable.tooFull SetTable.fill at htf
    rw[psz,dum1,mask1] at htf
    simpa using htf
   have hload:=T.load
   rw[tsz] at hload
   have hcase:∃mask',yk mask'/\sizeAbove (grown (ps.length + 1)) - 1=mask'/\sizeAbove (grown (ps.length + 1))<=sizeLine/\(ps.length + 1) * 5 < mask' * 3:=by
    rcases T.mask with e |e |e
    ·have:ps.length + 1=5:=by rw[e] at hfull hload;omega
     rw[this,AW.1]
     exact⟨31,.inr (.inl rfl),rfl,by rw[KH];decide,by decide⟩
    ·have:ps.length + 1=19:=by rw[e] at hfull hload;omega
     rw[this,AW.2]
     exact⟨127,.inr (.inr rfl),rfl,by rw[KH];decide,by decide⟩
    ·rw[e] at hfull;omega
   obtain⟨mask',hm3,em,hline,hl2⟩:=hcase
   have hes:(ps.map (dc f)).toArray.size + 1=ps.length + 1:=by simp
   rw[hes,AK]
   have hfit1:(t.put j).1.fits ((ps1.map (dc f)).toArray).size=true:=by
    unfold SetTable.fits SetTable.fill
    have hpl2:ps.length + 1<=t.mask:=by
     rcases T.mask with e |e |e <;> rw[e] at hload ⊢ <;> omega
    rw[psz,dum1,mask1]
    simp[len1,hpl2]
   refine J8 (J8 (K7 ho1 rfl hfit1 ?_))
   dsimp only
   rw[Ki (by omega)]
   rw[mi _ _ _ hpl,em]
   obtain⟨t2,order,ps2,g1,g2,g3,g4,g5,g6⟩:=rS f hm3 (ps:=ps1) (by rw[len1];exact hl2) (t.put j).1.finger ((t.put j).1.movedTo mask') (t.put j).1.led
   rw[g1]
   simp only[bind_pure_comp,pure_bind]
   rw[g2]
   have hne:((ps2.map (dc f)).toArray.size != (ps1.map (dc f)).toArray.size)=false:=by simp[g3]
   rw[hne]
   simp only[Kx,KZ]
   have hsize2:((ps2.map (dc f)).toArray).size<=sizeLine:=by rw[KH];simp;omega
   refine J8 (Kc ?_)
   refine MX ho1 rfl ?_ hsize2
   have ho2:((s.heap.update S (Obj.putSet (ps1.map (dc f)).toArray (t.put j).1)).update S (Obj.putSet (ps2.map (dc f)).toArray t2)).get? S=some {o with data:=.set (ps2.map (dc f)).toArray (ep + 1 + 1) t2}:=by
    have:=K5 (Obj.putSet (ps2.map (dc f)).toArray t2) ho1 (by rw[MR (ep:=ep + 1) _ _ rfl];rfl)
    rw[MR (ep:=ep + 1) _ _ rfl] at this;exact this
   have sb2:=sb1.trans (Heap.SameBut.update _ S (Obj.putSet (ps2.map (dc f)).toArray t2))
   have nd2:(ps2.map (·.2)).Nodup:=by
    have hmem:∀q,q∈ps2.map (·.2)↔q∈ps1.map (·.2):=λq=>by
     rw[Kn,Kn]
     exact⟨λ⟨x,hx,e⟩=>⟨x,(g4 x).mp hx,e⟩,λ⟨x,hx,e⟩=>⟨x,(g4 x).mpr hx,e⟩⟩
    have hnd:(ps2.map λq=>f q.2).Nodup:=by
     refine lW (m:=ps1.map λq=>f q.2) ?_ (λx hx=>?_) (by simp[g3])
     ·have:(ps1.map λq=>f q.2)=(ps1.map (·.2)).map f:=by simp
      rw[this]
      refine Ln.mpr (LC ?_ nd1)
      intro x y hx hy hxy e
      obtain⟨q,hq,rfl⟩:=Kn.mp hx
      obtain⟨r,hr,rfl⟩:=Kn.mp hy
      exact hxy (hinj _ _ (at1 sb1 q hq).2 (at1 sb1 r hr).2 e)
     ·obtain⟨q,hq,rfl⟩:=Kn.mp hx
      exact Kn.mpr ⟨q,(g4 q).mpr hq,rfl⟩
    have:(ps2.map λq=>f q.2)=(ps2.map (·.2)).map f:=by simp
    rw[this] at hnd
    exact (Ln.mp hnd).imp λhxy e=>hxy (by rw[e])
   refine Kc (h true _ ps2 sb2 ⟨⟨_,ep + 1 + 1,t2,ho2,hex,rfl,g5,?_⟩,λq hq=>at1 sb2 q ((g4 q).mp hq),nd2⟩ (λq hq=>(mem1 q).mp ((g4 q).mp hq)) (λq hq=>(g4 q).mpr ((mem1 q).mpr (.inl hq))) ⟨(a,p),(g4 _).mpr ((mem1 _).mpr (.inr rfl)),rfl⟩)
   rw[g6,q1];exact hled
end
def dz (w:World):Bool:= !(w.params.followText "set-order")
def zf (prog:Program)(w:World)(p:Pr):Int:=tupleKeyHash (intKind prog w) [p.1,p.2]
def CL (prog:Program)(w:World):∀p q,Sm p->Sm q->zf prog w p=zf prog w q->p=q:=λp q h1 h2 e=>EC h1 h2 e
section
variable {prog:Program}{w:World}{A:Around}{E:Value->Shared->Prop}{s:Shared}{R:Result->Shared->Prop}{I:Addr}{fp wr:List Addr}{n:Nat}{P:Nat->Value->Prop}{St:Nat->Heap->Prop}
def cB (prog:Program)(w:World)(h:Heap)(vs:List Value)(ps:List Pr):Prop:=vs.length=ps.length/\∀(i:Nat) (v:Value) (p:Pr),vs[i]? =some v->ps[i]? =some p->∃a,v=.ref a/\bB prog w h p a/\Sm p
abbrev mV (prog:Program)(w:World)(h:Heap)(S:Addr)(vs:List Value)(ps:List Pr)(k:Nat):Prop:=∃qs:List (Addr×Pr),qx (zf prog w) prog w (dz w) h S qs/\
 (∀q,q∈qs->Value.ref q.1∈vs.take k/\q.2∈ps.take k)/\∀p,p∈ps.take k->p∈qs.map (·.2)
theorem la (W:Walks prog w A.in1 I fp wr n P St)(S:Addr)(hSf:S∉fp){vs:List Value}{ps:List Pr}(hn:vs.length=n)(hP:∀i v,P i v->vs[i]? =some v)(hu:A.in1.units < cLine)(h₀:Heap)
  (hps:cB prog w h₀ vs ps) (hwr:∀b o,b∈S :: wr->h₀.get? b=some o->False):∀(k i:Nat) (s:Shared),n - i=k->i<=n->St i s.heap->(∀b o,h₀.get? b=some o->s.heap.get? b=some o)->mV prog w s.heap S vs ps i->
   (∀h' tk,(∀b o,b∉S :: wr->s.heap.get? b=some o->h'.get? b=some o)->mV prog w h' S vs ps n->R (.ok (.ret .none)) {s with heap:=h',toks:=tk})->
   codeAny (model prog w) A (.builtin "set.update.loop" ⟨[.ref S,.ref I],[]⟩) R s:=by
 have nw:S∉wr:=λh=>hSf (W.sub _ h)
 intro k
 induction k with
 |zero=>
  intro i s hk hi hst hk0 hF hR
  obtain rfl:i=n:=by omega
  refine LL LD ?_
  rw[LG K8 _]
  show wpAny _ A.in1 (pyNext (.ref I) >>= λr=>_) _ _ s
  refine J8 (W.done s _ _ hst λh' tk hm=>?_)
  show wpAny _ A.in1 (ret Value.none) _ _ _
  refine Kc (hR h' tk (λb o hb e=>hm b o (λz=>hb (J9 _ z)) e) ?_)
  obtain⟨qs,Q1,Q2,Q3⟩:=hF
  obtain⟨o,ep,t,ho,r⟩:=Q1.ex
  refine⟨qs,⟨⟨o,ep,t,hm S o nw ho,r⟩,λq hq=>⟨?_,(Q1.at' q hq).2⟩,Q1.nd⟩,Q2,Q3⟩
  obtain⟨m,hm1,hm2⟩:=KW.mp (LQ (Q2 q hq).1)
  have hm1':m < ps.length:=by rw[<-hps.1];exact hm1
  obtain⟨a,ea,ha,_⟩:=hps.2 m vs[m] ps[m] (J6 hm1) (J6 hm1')
  rw[hm2] at ea
  cases ea
  obtain⟨o',it',n',ho',r'⟩:=(Q1.at' q hq).1
  obtain⟨o2,it2,n2,ho2,r2⟩:=ha
  have:o'=o2:=Option.some.inj (ho'.symm.trans (hk0 _ _ ho2))
  subst this
  exact⟨o',it',n',hm _ _ (λz=>hwr _ _ (J9 _ z) ho2) ho',r'⟩
 |succ k ih=>
  intro i s hk hi hst hk0 hF hR
  have hlt:i < n:=by omega
  refine LL LD ?_
  rw[LG K8 _]
  show wpAny _ A.in1 (pyNext (.ref I) >>= λr=>_) _ _ s
  refine J8 (W.item i s _ _ hlt hst λv h1 tk1 hv hst1 hm=>?_)
  have hvi:=hP i v hv
  have hip:i < ps.length:=by rw[<-hps.1,hn];exact hlt
  obtain⟨a,rfl,ha,hsm⟩:=hps.2 i v ps[i] hvi (J6 hip)
  have k1:∀b o,h₀.get? b=some o->h1.get? b=some o:=λb o e=>hm b o (λz=>hwr b o (J9 _ z) e) (hk0 b o e)
  obtain⟨qs,Q1,Q2,Q3⟩:=hF
  have old:∀{q:Addr×Pr} {h:Heap},q∈qs->(∀b o,h₀.get? b=some o->h.get? b=some o)->bB prog w h q.2 q.1:=λ{q h} hq kk=>by
   obtain⟨m,hm1,hm2⟩:=KW.mp (LQ (Q2 q hq).1)
   have hm1':m < ps.length:=by rw[<-hps.1];exact hm1
   obtain⟨a,ea,ha,_⟩:=hps.2 m vs[m] ps[m] (J6 hm1) (J6 hm1')
   rw[hm2] at ea
   cases ea
   obtain⟨o',it',n',ho',r'⟩:=(Q1.at' q hq).1
   obtain⟨o2,it2,n2,ho2,r2⟩:=ha
   have:o'=o2:=Option.some.inj (ho'.symm.trans (hk0 _ _ ho2))
   subst this
   exact⟨o',it',n',kk _ _ ho2,r'⟩
  have P1:qx (zf prog w) prog w (dz w) h1 S qs:=by
   obtain⟨o,ep,t,ho,r⟩:=Q1.ex
   exact⟨⟨o,ep,t,hm S o nw ho,r⟩,λq hq=>⟨old hq k1,(Q1.at' q hq).2⟩,Q1.nd⟩
  have ha1:bB prog w h1 ps[i] a:=by
   obtain⟨o',it',n',ho',r'⟩:=ha
   exact⟨o',it',n',k1 _ _ ho',r'⟩
  show wpAny _ A.in1 (holding [Value.ref a] (setAdd S (.ref a)) >>= λ_=>_) _ _ _
  refine J8 (Lp ?_)
  unfold setAdd
  refine Lp (J8 (wpAny_pyHash_tuple hu ha1 ?_))
  refine qx.add (CL prog w) (s:={s with heap:=h1,toks:=tk1 + ([ps[i].1,ps[i].2].length + 1)}) P1 ha1 hsm hu λb h2 qs' sb P2 m1 m2 m3=>?_
  have sbS:∀b o,h₀.get? b=some o->h2.get? b=some o:=λb o e=>(sb.2 b (λz=>hwr b o (by rw[z];exact Kd) e)).trans (k1 b o e)
  refine Kc ⟨plainId_quiet K8 _,ih (i + 1) _ (by omega) hlt (W.frame _ _ _ hst1 λb hb o e=>?_) sbS ⟨qs',P2,λq hq=>?_,λp hp=>?_⟩ λh' tk hm' F'=>?_⟩
  ·rw[sb.2 b λz=>hSf (by rw[<-z];exact hb)];exact e
  ·have htk:∀{α:Type} {l:List α} {x:α},x∈l.take i->x∈l.take (i + 1):=λ{α l x} hx=>by
    rw[Lo];exact LF _ hx
   rcases m1 q hq with z |z
   ·exact⟨htk (Q2 q z).1,htk (Q2 q z).2⟩
   ·subst z
    refine⟨?_,?_⟩
    ·rw[Lo,hvi];exact KR _ (by simp)
    ·rw[Lo,J6 hip];exact KR _ (by simp)
  ·rw[Lo,J6 hip] at hp
   rcases KA.mp hp with z |z
   ·obtain⟨q,hq,rfl⟩:=Kn.mp (Q3 p z)
    exact Kn.mpr ⟨q,m2 q hq,rfl⟩
   ·have:p=ps[i]:=by simpa using z
    obtain⟨q,hq,e⟩:=m3
    exact Kn.mpr ⟨q,hq,by rw[e,this]⟩
  ·refine hR h' tk (λb o hb e=>hm' b o hb ?_) F'
   show h2.get? b=some o
   rw[sb.2 b λz=>hb (by rw[z];exact Kd)]
   exact hm b o (λz=>hb (J9 _ z)) e
def ml (a:Value){Q1:Value->Shared->Prop}
  (h:Q1 (.ref s.heap.objs.size) {s with heap:=s.heap.push {cls:=.type "set",dict:=none,data:=.set #[] 0 (.fresh 0 0 (dz w))}}) :
  codeAny (model prog w) A (.call (.builtin "set.__new__") ⟨[.type "set",a],[]⟩) (wants Q1 E) s:=by
 refine codeAny_of_tree ?_
 show wpAny _ A.in1 (do (checkBuiltinCall "set.__new__" ⟨[.type "set",a],[]⟩);again (.builtin "set.__new__" ⟨[.type "set",a],[]⟩)) _ _ s
 refine J8 (wpAny_of_eq (F.newCall_set_1 a) (Kc ⟨plainId_quiet F.plain_set_new _,LL F.entry_set_new ?_⟩))
 rw[LG F.plain_set_new _]
 (unfold Builtin.«set.__new__» Builtin.Frozenset.newClass)
 have hsub0:=sub_set_self
 obtain⟨hp0,g0,d0,tk0,os0⟩:=s
 dsimp only
 wp_walk
 (refine MK (Kc ?_))
 dsimp only
 simp only[newObj]
 (refine J8 (wpAny_alloc (Kc ?_)))
 exact Kc h
def pZ (led:Bool):Tab (.fresh 0 0 led) []:=
 ⟨.inl rfl,rfl,List.Pairwise.nil,λj h=>(by cases (Mf.mpr h)),rfl,(by show (0:Nat) * 5 < 7 * 3;decide),λi j h e=>(by simp[SetTable.fresh] at e),rfl⟩
structure Src (prog:Program)(w:World)(h:Heap)(l:Addr)(vs:List Value)(T:String)(itO:Obj)(St:Addr->Nat->Heap->Prop):Prop where
 ty:∃o,h.get? l=some o/\o.cls=.type T
 ns:isSubtype (.type T) (.type "set")=pure false
 nf:isSubtype (.type T) (.type "frozenset")=pure false
 nd:(Value.type T == Value.type "dict")=false
 it:∀(A:Around) (s1:Shared) (Q:Value->Shared->Prop) (E:Value->Shared->Prop),(∀b o,h.get? b=some o->s1.heap.get? b=some o)->Q (.ref s1.heap.objs.size) {s1 with heap:=s1.heap.push itO}->wpAny (model prog w) A (pyIter (.ref l)) Q E s1
 st:∀(h1:Heap),(∀b o,h.get? b=some o->h1.get? b=some o)->St h1.objs.size 0 (h1.push itO)
 wk:∀(A:Around) (I:Addr),A.handled=none->l≠I->Walks prog w A I [I,l] [I] vs.length (λi v=>vs[i]? =some v) (St I)
def Src.list {h:Heap}{l:Addr}{vs:List Value}(hl:h.IsList l vs.toArray):Src prog w h l vs "list" {cls:=.type "list_iterator",data:=.fields #[.ref l,.int 0 0]} (λI i h'=>h'.IsListIter I l i/\h'.IsList l vs.toArray):=by
 obtain⟨o,ho,hc,n,hd⟩:=id hl
 refine⟨⟨o,ho,hc⟩,F.sub_list_set,F.sub_list_frozenset,by decide,λA s1 Q E k hQ=>MC ⟨o,k _ _ ho,hc,n,hd⟩ hQ,λh1 k=>⟨⟨_,Ky _ rfl,rfl,rfl⟩,⟨o,Ka _ (k _ _ ho),hc,n,hd⟩⟩,λA I hh hne=>?_⟩
 have:=Walks.list (prog:=prog) (w:=w) hh I l hne vs.toArray
 simpa using this
def sub_tuple_set:isSubtype (.type "tuple") (.type "set")=pure false:=by rw[MU];kernel_rfl
def sub_tuple_frozenset:isSubtype (.type "tuple") (.type "frozenset")=pure false:=by rw[MU];kernel_rfl
def Src.tuple {h:Heap}{l:Addr}{vs:List Value}(hl:h.IsTuple l vs.toArray):Src prog w h l vs "tuple" {cls:=.type "tuple_iterator",data:=.fields #[.ref l,.int 0 0]} (λI i h'=>h'.IsTupleIter I l i/\h'.IsTuple l vs.toArray):=by
 obtain⟨o,ho,hc,n,hd⟩:=id hl
 refine⟨⟨o,ho,hc⟩,sub_tuple_set,sub_tuple_frozenset,by decide,λA s1 Q E k hQ=>MS ⟨o,k _ _ ho,hc,n,hd⟩ hQ,λh1 k=>⟨⟨_,Ky _ rfl,rfl,rfl⟩,⟨o,Ka _ (k _ _ ho),hc,n,hd⟩⟩,λA I hh hne=>?_⟩
 have:=Walks.tuple (prog:=prog) (w:=w) hh I l hne vs.toArray
 simpa using this
set_option maxHeartbeats 3200000 in
theorem nY {l:Addr}{vs:List Value}{ps:List Pr}{T:String}{itO:Obj}{St:Addr->Nat->Heap->Prop}{Q:Value->Shared->Prop}(X:Src prog w s.heap l vs T itO St)(hh:A.handled=none)(hu:A.units + 64 < cLine)(hps:cB prog w s.heap vs ps)
  (h:∀(h':Heap) (tk:Nat),mV prog w h' s.heap.objs.size vs ps vs.length->(∀b o,s.heap.get? b=some o->h'.get? b=some o)->Q (.ref s.heap.objs.size) {s with heap:=h',toks:=tk}) :
  wpAny (model prog w) A (call (.type "set") [.ref l]) Q E s:=by
 obtain⟨c0,tl0,hmro0⟩:=Lk.mro
 have hmade0:=Lk.made
 have hsub0:=Lk.sub
 refine wpAny_call (codeAny_of_tree ?_)
 show wpAny _ _ (callAny (.type "set") ⟨[.ref l],[]⟩) _ _ _
 refine Kc ⟨Code.quiet_builtin _ (by decide +kernel),LL F.entry_type_call ?_⟩
 (rw[Around.under_plain (weight_type_call_type "set" [.ref l] []) rfl])
 have g1:=Lk.notType
 have g2:=Lk.canCreate
 have g3:=F.typeCall_set_1 (.ref l)
 repeat (any_goals (first |assumption |wp_step))
 refine Mi (ml (.ref l) (E:=E) (Q1:=λobj s1=>obj=.ref s.heap.objs.size/\s1={s with heap:=s.heap.push {cls:=.type "set",dict:=none,data:=.set #[] 0 (.fresh 0 0 (dz w))}}) ⟨rfl,rfl⟩) λr s1 hr=>?_
 cases r with
 |error e=>exact hr
 |ok fl=>
  cases fl with
  |ret obj=>
   obtain⟨rfl,rfl⟩:=hr
   generalize hO:({cls:=.type "set",dict:=none,data:=.set #[] 0 (.fresh 0 0 (dz w))}:Obj)=O
   have hS0:(s.heap.push O).get? s.heap.objs.size=some O:=Ky _ (by rw[<-hO];rfl)
   have hT0:Shared.TypeIs {s with heap:=s.heap.push O} (.ref s.heap.objs.size) "set":=⟨_,hS0,by rw[<-hO]⟩
   have g4:=Lk.init.lookup
   have g5:=Lk.init.bind (.ref s.heap.objs.size)
   repeat (any_goals (first |assumption |wp_step))
   refine Mi (codeAny_call_builtin (R:=wants (λr s2=>r=.none/\∃h' tk,s2={s with heap:=h',toks:=tk}/\mV prog w h' s.heap.objs.size vs ps vs.length/\(∀b o,s.heap.get? b=some o->h'.get? b=some o)) E)
    Lk.init.plain F.entry_set_init (check_set_init_1 hT0 ?_)) λr2 s2 hr2=>?_
   ·obtain⟨ol,hol,hcl⟩:=X.ty
    have hol':(s.heap.push O).get? l=some ol:=Ka _ hol
    have e1:=X.ns
    have e2:=X.nf
    have e3:=X.nd
    have hTl:Shared.TypeIs {s with heap:=s.heap.push O} (.ref l) T:=⟨ol,hol',hcl⟩
    have hdat:O.data=.set #[] 0 (.fresh 0 0 (dz w)):=by rw[<-hO]
    (unfold Builtin.«set.__init__» noKeywords Builtin.Frozenset.updateFrom)
    subst hO
    obtain⟨oc,od,odt,osl⟩:=ol
    simp only at hcl
    subst hcl
    (generalize hPI0:pyIter=PI0)
    wp_walk
    subst hPI0
    have kp:∀b o,s.heap.get? b=some o->(s.heap.push {cls:=.type "set",dict:=none,data:=.set #[] 0 (.fresh 0 0 (dz w))}).get? b=some o:=λb o e=>Ka _ e
    refine X.it _ _ _ _ kp ?_
    refine J8 (wpAny_runValue ?_)
    have hlS:l < s.heap.objs.size:=Kl hol
    have hh3:A.in1.in1.in1.handled=none:=by simp[hh]
    have hneI:l≠(s.heap.push {cls:=.type "set",dict:=none,data:=.set #[] 0 (.fresh 0 0 (dz w))}).objs.size:=by
     rw[LH];exact KN (MF hlS)
    have hSf:s.heap.objs.size∉ [(s.heap.push {cls:=.type "set",dict:=none,data:=.set #[] 0 (.fresh 0 0 (dz w))}).objs.size,l]:=by
     rw[LH]
     intro z
     rcases Ke.mp z with e |z
     ·exact absurd e (KN (Nat.lt_succ_self _))
     ·exact absurd (Kz.mp z) (Nat.ne_of_gt hlS)
    refine la (X.wk _ _ hh3 hneI) s.heap.objs.size hSf rfl (λi v e=>e) (by simp;omega) s.heap hps (λb o hb e=>?_) (vs.length - 0) 0 _ (by omega) (KY _) (X.st _ kp) (λb o e=>Ka _ (kp b o e)) ?_ ?_
    ·have hlt:=Kl e
     rw[LH] at hb
     rcases Ke.mp hb with z |z
     ·exact absurd hlt (by rw[z];exact KU _)
     ·rw[Kz.mp z] at hlt
      exact absurd hlt (Nat.not_lt.mpr (MN _))
    ·refine⟨[],⟨⟨_,0,_,Ka _ hS0,⟨rfl,rfl,rfl⟩,rfl,pZ _,rfl⟩,λq hq=>(by cases hq),nodup_nil⟩,λq hq=>(by cases hq),λp hp=>(by simp at hp)⟩
    ·intro h' tk hm F'
     show wpAny _ _ _ _ _ _
     refine Kc ?_
     show wpAny _ _ (ret Value.none) _ _ _
     refine Kc ⟨rfl,h',tk,rfl,F',λb o e=>hm b o (λz=>?_) (Ka _ (kp b o e))⟩
     have hlt:=Kl e
     rw[LH] at z
     rcases Ke.mp z with z |z
     ·exact absurd hlt (by rw[z];exact KU _)
     ·rw[Kz.mp z] at hlt
      exact absurd hlt (Nat.not_lt.mpr (MN _))
   ·cases r2 with
    |error e=>exact hr2
    |ok fl2=>
     cases fl2 with
     |ret r=>
      obtain⟨rfl,h',tk,rfl,hF,hk⟩:=hr2
      repeat (any_goals (first |assumption |wp_step))
      exact h _ _ hF hk
     |_=>exact hr2.elim
  |_=>exact hr.elim
end
end L2.ST
namespace L2.SO
open PySem PySem.W PyProof.Rows
def jf {α:Type}(lt:Nat->Nat->Bool):KasT α->α
 | .ret a=>a
 | .ask i j k=>jf lt (k (lt i j))
theorem dO {α β:Type}(lt:Nat->Nat->Bool)(f:α->KasT β):∀t:KasT α,jf lt (t.bind f)=jf lt (f (jf lt t))
 | .ret _=>rfl
 | .ask i j k=>dO lt f (k (lt i j))
def rZ {α:Type}(n:Nat)(lt:Nat->Nat->Bool):KasT α->Prop
 | .ret _=>True
 | .ask i j k=>i < n/\j < n/\rZ n lt (k (lt i j))
theorem fS {α β:Type}{n:Nat}{lt:Nat->Nat->Bool}{f:α->KasT β}:∀{t:KasT α},rZ n lt t->rZ n lt (f (jf lt t))->rZ n lt (t.bind f)
 | .ret _,_,h=>h
 | .ask i j k,h,h'=>⟨h.1,h.2.1,fS h.2.2 h'⟩
section
variable {n:Nat}{key:Nat->Int}
abbrev lZ (key:Nat->Int)(i j:Nat):Bool:=decide (key i < key j)
abbrev Kp (key:Nat->Int)(p:Array Nat)(k:Nat):Int:=key (p.getD k 0)
structure Pm (n:Nat)(p:Array Nat):Prop where
 sz:p.size=n
 nd:p.toList.Nodup
 lt:∀x,x∈p->x < n
def Pm.at {p:Array Nat}(P:Pm n p){k:Nat}(hk:k < n):p.getD k 0 < n:=by
 have h:k < p.size:=by rw[P.sz];exact hk
 simp only[Array.getD,h,dif_pos]
 exact P.lt _ (Array.getElem_mem h)
def Pm.ne {p:Array Nat}(P:Pm n p){i k:Nat}(hi:i < n)(hk:k < n)(hne:i≠k):p.getD i 0≠p.getD k 0:=by
 have h1:i < p.toList.length:=by simpa using (by rw[P.sz];exact hi:i < p.size)
 have h2:k < p.toList.length:=by simpa using (by rw[P.sz];exact hk:k < p.size)
 have h1':i < p.size:=by rw[P.sz];exact hi
 have h2':k < p.size:=by rw[P.sz];exact hk
 have a1:p.getD i 0=p.toList[i]:=by simp[Array.getD,h1']
 have a2:p.getD k 0=p.toList[k]:=by simp[Array.getD,h2']
 rw[a1,a2]
 have q:=LB.mp P.nd
 rcases Lr i k with c |c
 ·exact q i k h1 h2 c
 ·exact (q k i h2 h1 (by omega)).symm
def Pm.perm {p q:Array Nat}(P:Pm n p)(h:q.Perm p):Pm n q:=by
 have h':=Array.perm_iff_toList_perm.mp h
 exact⟨by rw[h.size_eq];exact P.sz,h'.nodup_iff.mpr P.nd,λx hx=>P.lt x (by simpa using h'.mem_iff.mp (by simpa using hx))⟩
def ua (n:Nat):Pm n (List.toArray (List.range n)):=⟨by simp,by simpa using L0,λx hx=>by simpa using hx⟩
def Inj (n:Nat)(key:Nat->Int):Prop:=∀i j,i < n->j < n->key i=key j->i=j
def Pm.tri {p:Array Nat}(P:Pm n p)(hi:Inj n key){i k:Nat}(h1:i < n)(h2:k < n)(hne:i≠k):Kp key p i < Kp key p k\/Kp key p k < Kp key p i:=by
 have:Kp key p i≠Kp key p k:=λe=>P.ne h1 h2 hne (hi _ _ (P.at h1) (P.at h2) e)
 omega
def Up (key:Nat->Int)(p:Array Nat)(m:Nat):Prop:=∀i j,i < j->j < m->Kp key p i < Kp key p j
def Dn (key:Nat->Int)(p:Array Nat)(m:Nat):Prop:=∀i j,i < j->j < m->Kp key p j < Kp key p i
def Up.snoc {p:Array Nat}{m:Nat}(U:Up key p m)(h1:1<=m)(h:Kp key p (m - 1) < Kp key p m):Up key p (m + 1):=λi j hij hj=>by
 rcases Lr j m with c |c
 ·exact U i j hij c
 ·have:j=m:=by omega
  subst this
  rcases Lr i (j - 1) with d |d
  ·exact Int.lt_trans (U i (j - 1) d (by omega)) h
  ·have:i=j - 1:=by omega
   rw[this];exact h
def Dn.snoc {p:Array Nat}{m:Nat}(U:Dn key p m)(h1:1<=m)(h:Kp key p m < Kp key p (m - 1)):Dn key p (m + 1):=λi j hij hj=>by
 rcases Lr j m with c |c
 ·exact U i j hij c
 ·have:j=m:=by omega
  subst this
  rcases Lr i (j - 1) with d |d
  ·exact Int.lt_trans h (U i (j - 1) d (by omega))
  ·have:i=j - 1:=by omega
   rw[this];exact h
theorem oj {p:Array Nat}(P:Pm n p)(hi:Inj n key):∀(f m:Nat),1<=m->m + f<=n->Up key p m->
  ∃r,(jf (lZ key) (kas_asc p f m)=r/\rZ n (lZ key) (kas_asc p f m))/\m<=r/\r<=m + f/\Up key p r/\(r < m + f->Kp key p r < Kp key p (r - 1))
 | 0,m,_,_,U=>⟨m,⟨rfl,trivial⟩,Kg _,Kg _,U,λh=>absurd h (KU _)⟩
 |f + 1,m,h1,hn,U=>by
  have b1:p.getD m 0 < n:=P.at (by omega)
  have b2:p.getD (m - 1) 0 < n:=P.at (by omega)
  unfold kas_asc jf rZ
  by_cases c:Kp key p m < Kp key p (m - 1)
  ·rw[show lZ key (p.getD m 0) (p.getD (m - 1) 0)=true from Kh c]
   simp only[Lg]
   exact⟨m,⟨rfl,b1,b2,trivial⟩,Kg _,by omega,U,λ_=>c⟩
  ·rw[show lZ key (p.getD m 0) (p.getD (m - 1) 0)=false from Kr c]
   simp only[Kx,KZ]
   have up:Kp key p (m - 1) < Kp key p m:=(P.tri hi (by omega) (by omega) (by omega)).resolve_right c
   obtain⟨r,⟨e,o⟩,a,b,u,d⟩:=oj P hi f (m + 1) (by omega) (by omega) (U.snoc h1 up)
   exact⟨r,⟨e,b1,b2,o⟩,by omega,by omega,u,λh=>d (by omega)⟩
theorem pU {p:Array Nat}(P:Pm n p)(hi:Inj n key):∀(f m:Nat),1<=m->m + f<=n->Dn key p m->
  ∃r,(jf (lZ key) (kas_desc f p m 0)=(p,r,0)/\rZ n (lZ key) (kas_desc f p m 0))/\m<=r/\r<=m + f/\Dn key p r
 | 0,m,_,_,U=>⟨m,⟨rfl,trivial⟩,Kg _,Kg _,U⟩
 |f + 1,m,h1,hn,U=>by
  have b1:p.getD m 0 < n:=P.at (by omega)
  have b2:p.getD (m - 1) 0 < n:=P.at (by omega)
  unfold kas_desc jf rZ
  by_cases c:Kp key p m < Kp key p (m - 1)
  ·rw[show lZ key (p.getD m 0) (p.getD (m - 1) 0)=true from Kh c]
   simp only[Lg,KU,gt_iff_lt,KZ]
   obtain⟨r,⟨e,o⟩,a,b,u⟩:=pU P hi f (m + 1) (by omega) (by omega) (U.snoc h1 c)
   exact⟨r,⟨e,b1,b2,o⟩,by omega,by omega,u⟩
  ·rw[show lZ key (p.getD m 0) (p.getD (m - 1) 0)=false from Kr c]
   simp only[Kx,KZ]
   unfold jf rZ
   have up:Kp key p (m - 1) < Kp key p m:=(P.tri hi (by omega) (by omega) (by omega)).resolve_right c
   rw[show lZ key (p.getD (m - 1) 0) (p.getD m 0)=true from Kh up]
   simp only[Lg]
   exact⟨m,⟨rfl,b1,b2,b2,b1,trivial⟩,Kg _,by omega,U⟩
def A5 {p:Array Nat}{j k:Nat}(hj:j<=p.size)(hk:k < j):(kas_rev p 0 j).getD k 0=p.getD (j - 1 - k) 0:=by
 unfold kas_rev
 rw[K1,getElem?_mirror_all hj k,Kf ⟨KY _,hk⟩,K1]
 congr 2
 omega
def EO {p:Array Nat}{m:Nat}(hm:m<=p.size)(D:Dn key p m):Up key (kas_rev p 0 m) m:=λi j hij hj=>by
 unfold Kp
 rw[A5 hm (by omega),A5 hm hj]
 exact D (m - 1 - j) (m - 1 - i) (by omega) (by omega)
def Pm.rev {p:Array Nat}(P:Pm n p)(j:Nat):Pm n (kas_rev p 0 j):=P.perm (mirror_perm ..)
def vn {p:Array Nat}(P:Pm n p)(hi:Inj n key)(h1:1<=n) :
  ∃m q,(jf (lZ key) (kas_count n p)=(m,q)/\rZ n (lZ key) (kas_count n p))/\Pm n q/\1<=m/\m<=n/\Up key q m:=by
 obtain⟨r,⟨e,o⟩,a,b,u,d⟩:=oj P hi (n - 1) 1 (Kg _) (by omega) (λi j hij hj=>by omega)
 have rest:∃m q,(jf (lZ key) (if (r == n)=true then KasT.ret (r,p) else if r > 1 then .ask (p.getD 0 0) (p.getD (r - 1) 0) λc=>if c=true then .ret (r,p) else kas_descPart r n (kas_rev p 0 r) else kas_descPart r n p)=(m,q)/\
   rZ n (lZ key) (if (r == n)=true then KasT.ret (r,p) else if r > 1 then .ask (p.getD 0 0) (p.getD (r - 1) 0) λc=>if c=true then .ret (r,p) else kas_descPart r n (kas_rev p 0 r) else kas_descPart r n p))/\Pm n q/\1<=m/\m<=n/\Up key q m:=by
  by_cases c:(r == n)=true
  ·rw[Kf c]
   exact⟨r,p,⟨rfl,trivial⟩,P,a,by omega,u⟩
  ·rw[Ki c]
   have hrn:r≠n:=by simpa using c
   have dd:=d (by omega)
   by_cases c2:r > 1
   ·rw[Kf c2]
    unfold jf rZ
    rw[show lZ key (p.getD 0 0) (p.getD (r - 1) 0)=true from Kh (u 0 (r - 1) (by omega) (by omega))]
    simp only[Lg]
    exact⟨r,p,⟨rfl,P.at (by omega),P.at (by omega),trivial⟩,P,a,by omega,u⟩
   ·rw[Ki c2]
    have hr1:r=1:=by omega
    subst hr1
    unfold kas_descPart
    rw[dO]
    have D2:Dn key p 2:=λi j hij hj=>by
     have e1:i=0:=by omega
     have e2:j=1:=by omega
     rw[e1,e2];exact dd
    obtain⟨x,⟨e2,o2⟩,a2,b2,u2⟩:=pU P hi (n - 2) 2 (by omega) (by omega) D2
    obtain⟨y,⟨e3,o3⟩,a3,b3,u3,_⟩:=oj (P.rev x) hi (n - x) x (by omega) (by omega) (EO (by rw[P.sz];omega) u2)
    rw[show n - (1 + 1)=n - 2 from rfl,show (1 + 1:Nat)=2 from rfl]
    have t3:rZ n (lZ key) (kas_tail3 x n p):=by
     unfold kas_tail3
     exact fS o3 trivial
    refine⟨y,kas_rev p 0 x,⟨?_,fS o2 ?_⟩,P.rev x,by omega,by omega,u3⟩
    ·rw[e2]
     simp only[KU,gt_iff_lt,KZ]
     unfold kas_tail3
     rw[dO,e3]
     rfl
    ·rw[e2]
     simp only[KU,gt_iff_lt,KZ]
     exact t3
 obtain⟨m,q,⟨f1,f2⟩,f3⟩:=rest
 refine⟨m,q,⟨?_,?_⟩,f3⟩
 ·unfold kas_count
  rw[dO,e]
  exact f1
 ·unfold kas_count
  refine fS o ?_
  rw[e]
  exact f2
theorem place_spec {p:Array Nat}{k:Nat}(P:Pm n p)(hi:Inj n key)(hk:k < n)(U:Up key p k):∀(f l r:Nat),l<=r->r<=k->r - l<=f->(∀i,i < l->Kp key p i < Kp key p k)->(∀i,r<=i->i < k->Kp key p k < Kp key p i)->
  ∃x,(jf (lZ key) (kas_place p k f l r)=x/\rZ n (lZ key) (kas_place p k f l r))/\x<=k/\(∀i,i < x->Kp key p i < Kp key p k)/\(∀i,x<=i->i < k->Kp key p k < Kp key p i)
 | 0,l,r,h1,h2,h3,a,b=>⟨l,⟨rfl,trivial⟩,by omega,a,λi hi=>b i (by omega)⟩
 |f + 1,l,r,h1,h2,h3,a,b=>by
  unfold kas_place
  by_cases c:l>=r
  ·rw[Kf c]
   exact⟨l,⟨rfl,trivial⟩,by omega,a,λi hi=>b i (by omega)⟩
  ·rw[Ki c]
   have b1:p.getD k 0 < n:=P.at hk
   have b2:p.getD ((l + r) / 2) 0 < n:=P.at (by omega)
   unfold jf rZ
   by_cases d:Kp key p k < Kp key p ((l + r) / 2)
   ·rw[show lZ key (p.getD k 0) (p.getD ((l + r) / 2) 0)=true from Kh d]
    simp only[Lg]
    have side:∀i,(l + r) / 2<=i->i < k->Kp key p k < Kp key p i:=λi h1 h2=>by
     rcases Lr ((l + r) / 2) i with z |z
     ·exact Int.lt_trans d (U _ _ z h2)
     ·have:i=(l + r) / 2:=by omega
      rw[this];exact d
    obtain⟨x,⟨e1,e2⟩,e3⟩:=place_spec P hi hk U f l ((l + r) / 2) (by omega) (by omega) (by omega) a side
    exact⟨x,⟨e1,b1,b2,e2⟩,e3⟩
   ·rw[show lZ key (p.getD k 0) (p.getD ((l + r) / 2) 0)=false from Kr d]
    simp only[Kx,KZ]
    have d':Kp key p ((l + r) / 2) < Kp key p k:=(P.tri hi (by omega) hk (by omega)).resolve_right d
    have side:∀i,i < (l + r) / 2 + 1->Kp key p i < Kp key p k:=λi h=>by
     rcases Lr i ((l + r) / 2) with z |z
     ·exact Int.lt_trans (U _ _ z (by omega)) d'
     ·have:i=(l + r) / 2:=by omega
      rw[this];exact d'
    obtain⟨x,⟨e1,e2⟩,e3⟩:=place_spec P hi hk U f ((l + r) / 2 + 1) r (by omega) h2 (by omega) side b
    exact⟨x,⟨e1,b1,b2,e2⟩,e3⟩
def zF {p:Array Nat}{k l j:Nat}(hk:k < p.size)(hl:l<=k):(bubble p k (k - l)).getD j 0=if j=l then p.getD k 0 else if l < j/\j<=k then p.getD (j - 1) 0 else p.getD j 0:=by
 rw[K1,getElem?_bubble hk (k - l) (by omega) j,show k - (k - l)=l by omega]
 simp only[K1]
 split
 ·rfl
 ·split <;> rfl
theorem tL (hi:Inj n key):∀(f k:Nat) (p:Array Nat),Pm n p->1<=k->k + f=n->Up key p k->∃q,(jf (lZ key) (kas_bin f p k)=q/\rZ n (lZ key) (kas_bin f p k))/\Pm n q/\Up key q n
 | 0,k,p,P,_,e,U=>⟨p,⟨rfl,trivial⟩,P,by rw[<-e];exact U⟩
 |f + 1,k,p,P,h1,e,U=>by
  have hk:k < n:=by omega
  obtain⟨l,⟨el,ol⟩,hl,a,b⟩:=place_spec P hi hk U k 0 k (KY _) (Kg _) (by omega) (λi h=>by omega) (λi h h'=>by omega)
  have side:Up key (bubble p k (k - l)) (k + 1):=λi j hij hj=>by
   have hks:k < p.size:=by rw[P.sz];exact hk
   unfold Kp
   rw[zF hks hl,zF hks hl]
   by_cases i1:i=l
   ·rw[Kf i1,Ki (by omega)]
    by_cases j2:l < j/\j<=k
    ·rw[Kf j2];exact b _ (by omega) (by omega)
    ·omega
   ·rw[Ki i1]
    by_cases i2:l < i/\i<=k
    ·rw[Kf i2,Ki (by omega),Kf (by omega)]
     exact U _ _ (by omega) (by omega)
    ·rw[Ki i2]
     by_cases j1:j=l
     ·rw[Kf j1];exact a _ (by omega)
     ·rw[Ki j1]
      by_cases j2:l < j/\j<=k
      ·rw[Kf j2]
       rcases Lr i (j - 1) with z |z
       ·exact U _ _ z (by omega)
       ·omega
      ·rw[Ki j2];exact U _ _ hij (by omega)
  obtain⟨q,⟨q1,q2⟩,q3⟩:=tL hi f (k + 1) (bubble p k (k - l)) (P.perm (bubble_perm ..)) (by omega) (by omega) side
  refine⟨q,⟨?_,?_⟩,q3⟩
  ·unfold kas_bin;rw[dO,el];exact q1
  ·unfold kas_bin;refine fS ol ?_;rw[el];exact q2
def xX (hi:Inj n key)(h2:2<=n):∃q,(jf (lZ key) (kas_sort n)=q/\rZ n (lZ key) (kas_sort n))/\Pm n q/\Up key q n:=by
 obtain⟨m,q,⟨e,o⟩,P,a,b,u⟩:=vn (ua n) hi (by omega)
 by_cases c:m < n
 ·obtain⟨q',⟨e1,o1⟩,r⟩:=tL hi (n - m) m q P a (by omega) u
  refine⟨q',⟨?_,?_⟩,r⟩
  ·unfold kas_sort;rw[dO,e];dsimp only;rw[Kf c,Nat.max_eq_left a];exact e1
  ·unfold kas_sort;refine fS o ?_;rw[e];dsimp only;rw[Kf c,Nat.max_eq_left a];exact o1
 ·refine⟨q,⟨?_,?_⟩,P,λi j hij hj=>u i j hij (by omega)⟩
  ·unfold kas_sort;rw[dO,e];dsimp only;rw[Ki c];rfl
  ·unfold kas_sort;refine fS o ?_;rw[e];dsimp only;rw[Ki c];trivial
theorem wp_run {α:Type}{n:Nat}{lt:Nat->Nat->Bool}{cmp:Nat->Nat->(Bool->Shared->Prop)->Shared->Prop}{Q:α->Shared->Prop}{s:Shared} :
  ∀(t:KasT α),(∀i j C,i < n->j < n->C (lt i j) s->cmp i j C s)->rZ n lt t->Q (jf lt t) s->t.kasWp cmp Q s
 | .ret a,_,_,h=>h
 | .ask i j k,hc,ho,h=>hc i j _ ho.1 ho.2.1 (wp_run (k (lt i j)) hc ho.2.2 h)
end
end L2.SO
namespace L2.ST
open PySem PySem.SetTable PySem.W PyProof.Rows
def code (p:Pr):Int:=p.1 * 8 + p.2
def w8 {p q:Pr}(h1:Sm p)(h2:Sm q):code p < code q↔p.1 < q.1\/(p.1=q.1/\p.2 < q.2):=by
 unfold code Sm at *;omega
def code_inj {p q:Pr}(h1:Sm p)(h2:Sm q)(e:code p=code q):p=q:=by
 unfold code Sm at *
 refine Prod.ext ?_ ?_ <;> omega
section
variable {prog:Program}{w:World}{A:Around}{E:Value->Shared->Prop}{s:Shared}
abbrev o4 (ps:List Pr)(i:Nat):Int:=code (ps.getD i (0,0))
def Bg {ps:List Pr}(nd:ps.Nodup)(hs:∀p,p∈ps->Sm p):L2.SO.Inj ps.length (o4 ps):=λi j hi hj e=>by
 have a1:ps.getD i (0,0)=ps[i]:=by simp[hi]
 have a2:ps.getD j (0,0)=ps[j]:=by simp[hj]
 unfold o4 at e
 rw[a1,a2] at e
 have e':=code_inj (hs _ (KS hi)) (hs _ (KS hj)) e
 have q:=LB.mp nd
 rcases ME i j with c |c |c
 ·exact absurd e' (q i j hi hj c)
 ·exact c
 ·exact absurd e'.symm (q j i hj hi c)
theorem Du {a b:Addr}{p q:Pr}{Q:Bool->Shared->Prop}(ha:bB prog w s.heap p a)(hb:bB prog w s.heap q b)(hp:Sm p)(hq:Sm q)(h:Q (decide (code p < code q)) s) :
  wpAny (model prog w) A (keyLt' (tuples' true) (.ref a) (.ref b)) Q E s:=by
 obtain⟨oa,ia,na,hoa,hca,hda,hia⟩:=ha
 obtain⟨ob,ib,nb,hob,hcb,hdb,hib⟩:=hb
 obtain⟨l1,rfl⟩:∃l,ia=List.toArray l:=⟨ia.toList,by simp⟩
 obtain⟨l2,rfl⟩:∃l,ib=List.toArray l:=⟨ib.toList,by simp⟩
 simp only[Lm] at hia hib
 cases hia with
 | @cons _ v1 _ _ h1 hia=>
  cases hia with
  | @cons _ v2 _ _ h2 hia=>
   cases hia
   cases hib with
   | @cons _ u1 _ _ g1 hib=>
    cases hib with
    | @cons _ u2 _ _ g2 hib=>
     cases hib
     obtain⟨t1,rfl⟩:=LS h1
     obtain⟨t2,rfl⟩:=LS h2
     obtain⟨t3,rfl⟩:=LS g1
     obtain⟨t4,rfl⟩:=LS g2
     refine kat_lt hoa hda hob hdb ?_
     have hc:=w8 hp hq
     refine kat_cons (wpAny_eqBool_int ?_)
     by_cases e1:p.1=q.1
     ·rw[show (p.1 == q.1)=true by simpa using e1]
      refine kat_yes (kat_cons (wpAny_eqBool_int ?_))
      by_cases e2:p.2=q.2
      ·rw[show (p.2 == q.2)=true by simpa using e2]
       refine kat_yes (kat_nil ?_)
       have:decide (code p < code q)=false:=Kr (by rw[hc];omega)
       rw[this] at h
       simpa using h
      ·rw[show (p.2 == q.2)=false by simpa using e2]
       refine kat_no ?_
       show wpAny _ _ (oneLt' false _ _) _ _ _
       refine kat_one _ _ (lt_int ?_)
       have:decide (code p < code q)=decide (p.2 < q.2):=by
        by_cases z:p.2 < q.2
        ·rw[Kh z];exact Kh (hc.mpr (.inr ⟨e1,z⟩))
        ·rw[Kr z];exact Kr (by rw[hc];omega)
       rw[this] at h;exact h
     ·rw[show (p.1 == q.1)=false by simpa using e1]
      refine kat_no ?_
      show wpAny _ _ (oneLt' true _ _) _ _ _
      refine oneLt_int ?_
      have:decide (code p < code q)=decide (p.1 < q.1):=by
       by_cases z:p.1 < q.1
       ·rw[Kh z];exact Kh (hc.mpr (.inl z))
       ·rw[Kr z];exact Kr (by rw[hc];omega)
      rw[this] at h;exact h
theorem xu:∀{vs:List Value} {ps:List Pr},cB prog w s.heap vs ps->∃fs,KatTups s.heap vs fs/\fs.length=vs.length/\∀v∈fs,∃(i:Int) (t:Tok),v=.int i t
 | [],ps,_=>⟨[],KatTups.nil,rfl,λv hv=>by cases hv⟩
 |v :: vs,[],h=>by have:=h.1;simp at this
 |v :: vs,p :: ps,h=>by
  obtain⟨a,rfl,⟨o,items,n,ho,hc,hd,hi⟩,_⟩:=h.2 0 v p rfl rfl
  obtain⟨fs,k,e,f⟩:=xu (vs:=vs) (ps:=ps) ⟨by simpa using h.1,λi v p h1 h2=>h.2 (i + 1) v p (by simpa using h1) (by simpa using h2)⟩
  obtain⟨l1,rfl⟩:∃l,items=List.toArray l:=⟨items.toList,by simp⟩
  simp only[Lm] at hi
  cases hi with
  | @cons _ v1 _ _ h1 hi=>
   obtain⟨t1,rfl⟩:=LS h1
   exact⟨_ :: fs,KatTups.cons ho hc hd rfl k,by simp[e],λv hv=>by
    rcases Ke.mp hv with z |z
    ·exact⟨_,_,z⟩
    ·exact f v z⟩
def tS {a:Addr}{vs:List Value}{ps:List Pr}{n:Nat}{P:PySem.Fin->Shared->Prop}(ho:s.heap.get? a=some (seqObj "list" vs.toArray n))(hps:cB prog w s.heap vs ps)(nd:ps.Nodup)(h64:vs.length < 64)
  (h:∀(h':Heap) (c:Nat) (ix:Array Nat),L2.SO.Pm vs.length ix->L2.SO.Up (o4 ps) ix vs.length->(∀b o,b≠a->s.heap.get? b=some o->h'.get? b=some o)->
   h'.get? a=some (seqObj "list" (ix.toList.map λi=>vs.getD i Value.none).toArray c)->P (.done (.ret .none)) {s with heap:=h'}) :
  wpAny (model prog w) A (Builtin.«list.sort» ⟨[.ref a],[]⟩) P E s:=by
 have ha:a < s.heap.objs.size:=Kl ho
 obtain⟨e1,ho1⟩:∃e1,(s.heap.update a (Obj.mapSeq λ_=>(#[]:Array Value))).get? a=some (seqObj "list" #[] e1):=⟨_,get?_update_seq ho λ_=>#[]⟩
 generalize hH1:(s.heap.update a (Obj.mapSeq λ_=>(#[]:Array Value)))=H1 at ho1
 have sb1:Heap.SameBut a s.heap H1:=by rw[<-hH1];exact Heap.SameBut.update ..
 have kp2:∀b o,H1.get? b=some o->((H1.push (seqObj "tuple" vs.toArray 0)).push (seqObj "list" #[] 0)).get? b=some o:=λb o e=>Ka _ (Ka _ e)
 generalize hH2:((H1.push (seqObj "tuple" vs.toArray 0)).push (seqObj "list" #[] 0))=H2 at kp2
 have kp:∀b o,b≠a->s.heap.get? b=some o->H2.get? b=some o:=λb o hb e=>kp2 b o ((sb1.2 b hb).trans e)
 have ho2:=kp2 _ _ ho1
 have hps2:cB prog w H2 vs ps:=⟨hps.1,λi v p h1 h2=>by
  obtain⟨b,e,⟨o,it,m,hb,hc,hd,r⟩,hs⟩:=hps.2 i v p h1 h2
  refine⟨b,e,⟨o,it,m,kp b o (λz=>?_) hb,hc,hd,r⟩,hs⟩
  subst z
  rw[ho] at hb;cases hb
  exact absurd hc (by simp[seqObj])⟩
 have hz:vs.length<=sizeLine:=by rw[KH];omega
 rw[list_sort_plain]
 refine J8 (listItems_at ho rfl (J8 (listUpdate_at ho rfl ?_ (by simpa using hz) (KY _))))
 rw[hH1]
 refine J8 (seqEpoch_at (s:={s with heap:=H1}) ho1 rfl (J8 (wpAny_newTuple ?_ (by simpa using hz))))
 refine J8 (wpAny_newList ?_ (KY _))
 refine Lp ?_
 show wpAny (model prog w) A _ P E {s with heap:=(H1.push (seqObj "tuple" vs.toArray 0)).push (seqObj "list" #[] 0)}
 rw[hH2]
 have fin:∀(ix:Array Nat) (st:SortSt),L2.SO.Pm vs.length ix->L2.SO.Up (o4 ps) ix vs.length->(arrOf st).map (·.2)=List.toArray (ix.toList.map λi=>vs.getD i Value.none)->failedOf st=none->
   wpAny (model prog w) A (do
    let sorted:=(arrOf st).map (·.2)
    let touched:=(<-seqEpoch a) != e1
    Builtin.List.listUpdate (.ref a) λ_=>sorted
    if let some e:=failedOf st then rule "list.sort.comparison-raised";throw e
    if touched then rule "list.sort.modified";raiseError "ValueError" "list modified during sort"
    ret .none) P E {s with heap:=H2}:=λix st P1 U1 hout hf=>by
  dsimp only
  rw[hout]
  have hsz:(List.toArray (ix.toList.map λi=>vs.getD i Value.none)).size=vs.length:=by simp[P1.sz]
  refine J8 (seqEpoch_at (s:={s with heap:=H2}) ho2 rfl ?_)
  refine J8 (listUpdate_at (s:={s with heap:=H2}) ho2 rfl ?_ (KY _) (Lf (Nat.le_of_eq hsz) (Nat.le_succ_of_le hz)))
  rw[hf]
  simp only[bne_self_eq_false,Kx,KZ]
  obtain⟨c2,hc2⟩:∃c2,(H2.update a (Obj.mapSeq λ_=>List.toArray (ix.toList.map λi=>vs.getD i Value.none))).get? a=some (seqObj "list" (List.toArray (ix.toList.map λi=>vs.getD i Value.none)) c2):=⟨_,get?_update_seq ho2 λ_=>List.toArray (ix.toList.map λi=>vs.getD i Value.none)⟩
  exact Kc (h _ c2 ix P1 U1 (λb o hb e=>((Heap.SameBut.update H2 a _).2 b hb).trans (kp b o hb e)) hc2)
 by_cases h2:vs.length < 2
 ·have h2':vs.toArray.size < 2:=by simpa using h2
  dsimp only
  rw[Kf h2',Kf h2']
  refine J8 (Kc ?_)
  rw[StateT.run_pure]
  refine J8 (Kc ?_)
  refine fin (List.toArray (List.range vs.length)) (SortSt.mk' general' (vs.toArray.zip vs.toArray) #[] 7 none) (L2.SO.ua _) (λi j hij hj=>by omega) ?_ rfl
  have:∀{l:List Value},l.length < 2->((l.toArray.zip l.toArray).map (·.2))=List.toArray ((List.range l.length).map λi=>l.getD i Value.none):=λ{l} hl=>by
   match l,hl with
   | [],_=>simp
   | [x],_=>simp
  exact (this h2).trans (by simp)
 ·have h2':¬vs.toArray.size < 2:=by simpa using h2
  dsimp only
  rw[Ki h2',Ki h2']
  obtain⟨fs,kt,fl,ff⟩:=xu (s:={s with heap:=H2}) hps2
  refine J8 (kat_kind (s:={s with heap:=H2}) (T:=.type "int") kt (by omega) (λv hv=>?_) (by decide) ?_)
  ·obtain⟨i,t,rfl⟩:=ff v hv
   exact .now
  ·rw[show ((Value.type "int" != Value.type "tuple"):Bool)=true by decide]
   have hinj:L2.SO.Inj vs.length (o4 ps):=by
    rw[hps.1]
    refine Bg nd λp hp=>?_
    obtain⟨i,hi,e⟩:=KW.mp hp
    have hi':i < vs.length:=by rw[hps.1];exact hi
    obtain⟨_,_,_,hs⟩:=hps.2 i vs[i] p (J6 hi') (by rw[J6 hi,e])
    exact hs
   obtain⟨ix,⟨er,ok⟩,P1,U1⟩:=L2.SO.xX hinj (by omega)
   refine J8 (LN (kat_run (s:={s with heap:=H2}) (κ:=tuples' true) (ks:=vs) (Q:=λst s'=>s'={s with heap:=H2}/\arrOf st=ix.map (kas_item (vs.toArray.zip vs.toArray))/\failedOf st=none)
    (G:=λp s'=>p=ix/\s'={s with heap:=H2}) rfl (by omega) h64 (λp st s' a1 a2 a3 a4=>?_) (L2.SO.wp_run (n:=vs.length) (lt:=L2.SO.lZ (o4 ps)) _ (λi j C hi hj hC=>?_) ok ⟨er,rfl⟩)) ?_ λ_ _ x=>x)
   ·obtain⟨rfl,rfl⟩:=a4
    exact⟨rfl,a2,a3⟩
   ·unfold kas_ask
    have hi':i < ps.length:=by rw[<-hps.1];exact hi
    have hj':j < ps.length:=by rw[<-hps.1];exact hj
    obtain⟨b1,eb1,hb1,s1⟩:=hps2.2 i vs[i] ps[i] (J6 hi) (J6 hi')
    obtain⟨b2,eb2,hb2,s2⟩:=hps2.2 j vs[j] ps[j] (J6 hj) (J6 hj')
    have e1:vs.getD i Value.none=.ref b1:=by rw[<-eb1];simp[hi]
    have e2:vs.getD j Value.none=.ref b2:=by rw[<-eb2];simp[hj]
    rw[e1,e2]
    refine Du (s:={s with heap:=H2}) hb1 hb2 s1 s2 ?_
    have:L2.SO.lZ (o4 ps) i j=decide (code ps[i] < code ps[j]):=by
     unfold L2.SO.lZ o4;simp[hi',hj']
    rw[<-this];exact hC
   ·rintro⟨⟨⟩,st⟩ s' ⟨rfl,har,hf⟩
    exact fin ix st P1 U1 (kat_snds rfl har) hf
end
def bJ:Slot "set_iterator" "__next__" "set_iterator.__next__":=
 Slot.of (owner:="set_iterator") (n:="__next__") (by rw[typeLookup_type,builtinLookup_eq_fast];kernel_rfl) (by decide +kernel) (by decide +kernel) (by decide +kernel) (by first |exact .inl (by decide +kernel) |exact .inr (by decide +kernel)) (by rw[MU];kernel_rfl)
def h9:entryFor table "set_iterator.__next__"=some Builtin.«set_iterator.__next__»:=entryFor_of_tree (by kernel_rfl)
def jd (a:Value):argsOk "set_iterator.__next__" ⟨[a],[]⟩:=by unfold argsOk;kernel_rfl
def n9:entryFor table "set.__iter__"=some Builtin.«frozenset.__iter__»:=entryFor_alias (id':="frozenset.__iter__") (by kernel_rfl) rfl (by decide +kernel) (by kernel_rfl)
def je:Slot "set_iterator" "__iter__" "set_iterator.__iter__":=
 Slot.of (owner:="set_iterator") (n:="__iter__") (by rw[typeLookup_type,builtinLookup_eq_fast];kernel_rfl) (by decide +kernel) (by decide +kernel) (by decide +kernel) (by first |exact .inl (by decide +kernel) |exact .inr (by decide +kernel)) (by rw[MU];kernel_rfl)
def lQ:entryFor table "set_iterator.__iter__"=some Builtin.«dict_keyiterator.__iter__»:=entryFor_alias (id':="dict_keyiterator.__iter__") (by kernel_rfl) rfl (by decide +kernel) (by kernel_rfl)
def mD (a:Value):argsOk "set_iterator.__iter__" ⟨[a],[]⟩:=by unfold argsOk;kernel_rfl
def Ds (a:Addr)(slot given ep0:Nat):setNext a slot given ep0=(do
  let (es,epoch,t) <-setState a
  if (<-ask).params.followText "set-order" then
   if epoch != ep0 then unsupported "set_iterator.__next__:elements-changed"
   return ((<-setWalk a)[given]?).map λe=>(e.2,slot)
  if !t.plain && es.size > 1 then unsupported "set_iterator.__next__:the-table-is-plain-no-more"
  let u:Unit <-(show Sem Unit from do if !t.led && !es.isEmpty then unsupported "set:maker-not-led")
  let i:=SetTable.below t.place slot
  return match es[i]?,t.place[i]? with
   |some (_,x),some j=>some (x,j + 1)
   |_,_=>none):=by
 unfold setNext setsByText
 simp only[bind_assoc,pure_bind]
 rfl
def BJ (a:Addr):setWalk a=(do
  let (es,epoch,t) <-setState a
  if (<-ask).params.followText "set-order" then return pickOrder ((<-ask).params.setOrder a epoch) es
  if !t.plain && es.size > 1 then return (<-drawOrder es.size es.toList).toArray
  let u:Unit <-(show Sem Unit from do if !t.led && es.size > 1 then unsupported "set:maker-not-led")
  return es):=by
 unfold setWalk setsByText
 simp only[bind_assoc,pure_bind]
 rfl
def A6 (a:Addr):setDrawn a=(do
  let (es,_,t) <-setState a
  let byText <-(do return (<-ask).params.followText "set-order")
  return !byText && (!t.plain && es.size > 1)):=rfl
theorem dG {α:Type}:∀(l:List α) (i:Nat) (h:i < l.length),(l[i] :: l.eraseIdx i).Perm l
 |a :: l,0,_=>List.Perm.refl _
 |a :: l,i + 1,h=>by
  have hi:i < l.length:=by simpa using h
  show (l[i] :: a :: l.eraseIdx i).Perm (a :: l)
  exact (List.Perm.swap ..).trans ((dG l i hi).cons a)
theorem qh {α:Type}(next:Nat->Nat):∀(fuel k:Nat) (left:List α) (out:Array α),left.length=fuel->(pickOrder.go next fuel k left out).toList.Perm (out.toList ++ left)
 | 0,k,left,out,h=>by
  have:left= []:=List.length_eq_zero_iff.mp h
  subst this
  unfold pickOrder.go
  simp
 |fuel + 1,k,left,out,h=>by
  unfold pickOrder.go
  have hlt:next k % left.length < left.length:=Nat.mod_lt _ (by omega)
  rw[J6 hlt]
  dsimp only
  refine (qh next fuel (k + 1) _ _ (by rw[List.length_eraseIdx_of_lt hlt];omega)).trans ?_
  rw[Array.toList_push,LU]
  refine List.Perm.append_left _ ?_
  exact dG left _ hlt
def jh {α:Type}(next:Nat->Nat)(xs:Array α):(pickOrder next xs).toList.Perm xs.toList:=by
 have:=qh next xs.size 0 xs.toList #[] (by simp)
 simpa[pickOrder] using this
section
variable {prog:Program}{w:World}{A:Around}{E:Value->Shared->Prop}{s:Shared}
def told (w:World)(S:Addr)(ep:Nat)(es:Array (Int×Value)):Array (Int×Value):=if w.params.followText "set-order" then pickOrder (w.params.setOrder S ep) es else es
def lx (w:World)(S:Addr)(ep:Nat)(es:Array (Int×Value)):(told w S ep es).toList.Perm es.toList:=by
 unfold told;split
 ·exact jh _ _
 ·exact List.Perm.refl _
abbrev sx (S:Addr)(slot k n ep:Nat):Obj:={cls:=.type "set_iterator",data:=.fields #[.int (slot:Int) 0,.int (k:Int) 0,.ref S,.int (n:Int) 0,.int (ep:Int) 0]}
structure kG (w:World)(S:Addr)(o:Obj)(es:Array (Int×Value))(ep:Nat)(t:SetTable)(I:Addr)(k:Nat)(h:Heap):Prop where
 set:h.get? S=some o
 data:o.data=.set es ep t
 cls:o.cls=.type "set"
 tab:Tab t (es.toList.map (·.1))
 led:t.led=dz w
 it:∃slot,h.get? I=some (sx S slot k es.size ep)/\(dz w=true->slot=if k=0 then 0 else t.place.getD (k - 1) 0 + 1)
def kG.fits {S I:Addr}{o:Obj}{es:Array (Int×Value)}{ep k:Nat}{t:SetTable}{h:Heap}(X:kG w S o es ep t I k h):t.fits es.size=true:=ju X.tab (by simp)
theorem xO {S I:Addr}{o:Obj}{es:Array (Int×Value)}{ep k slot:Nat}{t:SetTable}{Q:Option (Value×Nat)->Shared->Prop}(X:kG w S o es ep t I k s.heap)(hk:k<=es.size)(hs:dz w=true->slot=if k=0 then 0 else t.place.getD (k - 1) 0 + 1)
  (h:∀(r:Option (Value×Nat)),(k < es.size->∃x nx,r=some (x,nx)/\(told w S ep es)[k]?.map (·.2)=some x/\(dz w=true->nx=t.place.getD k 0 + 1))->(k=es.size->r=none)->Q r s) :
  wpAny (model prog w) A (setNext S slot k ep) Q E s:=by
 rw[Ds]
 refine J8 (K7 X.set X.data X.fits ?_)
 dsimp only
 refine J8 (MK ?_)
 dsimp only
 cases hb:w.params.followText "set-order" with
 |true=>
  rw[Kf (show (model prog w).w.params.followText "set-order"=true from hb)]
  simp only[bne_self_eq_false,Kx,KZ]
  rw[BJ]
  refine J8 (J8 (K7 X.set X.data X.fits ?_))
  dsimp only
  refine J8 (MK ?_)
  dsimp only
  rw[Kf (show (model prog w).w.params.followText "set-order"=true from hb)]
  refine J8 (MK (Kc (Kc ?_)))
  have et:told w S ep es=pickOrder (w.params.setOrder S ep) es:=by unfold told;rw[Kf hb]
  have hsz:(pickOrder (w.params.setOrder S ep) es).size=es.size:=by
   have:=(jh (w.params.setOrder S ep) es).length_eq;simpa using this
  refine h _ (λhlt=>?_) (λe=>?_)
  ·have hlt':k < (pickOrder (w.params.setOrder S ep) es).size:=by rw[hsz];exact hlt
   refine⟨(pickOrder (w.params.setOrder S ep) es)[k].2,slot,?_,?_,λz=>?_⟩
   ·show Option.map _ (pickOrder (w.params.setOrder S ep) es)[k]? =_
    rw[KJ hlt'];rfl
   ·rw[et,KJ hlt'];rfl
   ·unfold dz at z;rw[hb] at z;cases z
  ·show Option.map _ (pickOrder (w.params.setOrder S ep) es)[k]? =_
   rw[MA (by rw[hsz];omega)];rfl
 |false=>
  rw[Ki (show ¬(model prog w).w.params.followText "set-order"=true by intro z;rw[show (model prog w).w.params.followText "set-order"=false from hb] at z;cases z)]
  have hl:dz w=true:=by unfold dz;rw[hb];rfl
  rw[X.tab.plain,X.led,hl]
  simp only[Mt,Bool.false_and,Kx,KZ]
  have et:told w S ep es=es:=by unfold told;rw[hb];simp
  have hps:t.place.size=es.size:=by simpa using X.tab.size
  have hbl:below t.place slot=k:=by
   rw[hs hl]
   obtain⟨b1,b2,b3⟩:=bN X.tab.rise (if k=0 then 0 else t.place.getD (k - 1) 0 + 1)
   by_cases k0:k=0
   ·subst k0
    simp only[Lg] at b1 b2 b3 ⊢
    rcases Nat.eq_zero_or_pos (below t.place 0) with z |z
    ·exact z
    ·have:=b2 0 z;omega
   ·rw[Ki k0] at b1 b2 b3 ⊢
    have hk1:k - 1 < t.place.size:=by omega
    rcases ME (below t.place (t.place.getD (k - 1) 0 + 1)) k with z |z |z
    ·have q:=b3 (k - 1) (by omega) hk1
     have e:t.place.getD (k - 1) (t.place.getD (k - 1) 0 + 1)=t.place.getD (k - 1) 0:=by simp[Array.getD,hk1]
     omega
    ·exact z
    ·have hks:k < t.place.size:=by omega
     have q:=b2 k z
     have e:t.place.getD k (t.place.getD (k - 1) 0 + 1)=t.place.getD k 0:=by simp[Array.getD,hks]
     have:=gF (d:=0) X.tab.rise (show k - 1 < k by omega) hks
     omega
  refine Kc ?_
  rw[hbl]
  refine h _ (λhlt=>?_) (λe=>?_)
  ·have hlt2:k < t.place.size:=by omega
   refine⟨es[k].2,t.place[k] + 1,?_,?_,λ_=>?_⟩
   ·rw[KJ hlt,KJ hlt2]
   ·rw[et,KJ hlt];rfl
   ·simp[Array.getD,hlt2]
  ·rw[MA (by omega)]
def yi {S I:Addr}{o:Obj}{es:Array (Int×Value)}{ep:Nat}{t:SetTable}(hh:A.handled=none)(hne:S≠I) :
  Walks prog w A I [I,S] [I] es.size (λi v=>(told w S ep es)[i]?.map (·.2)=some v) (λi h=>kG w S o es ep t I i h) where
 sub:=λb hb=>Ke.mpr (.inl (Kz.mp hb))
 frame:=λi h h' X k=>by
  obtain⟨slot,e,r⟩:=X.it
  exact⟨k S (by simp) _ X.set,X.data,X.cls,X.tab,X.led,slot,k I (by simp) _ e,r⟩
 item:=λi s Q E hi X hQ=>by
  obtain⟨slot,e,r⟩:=X.it
  have hT:s.TypeIs (.ref I) "set_iterator":=⟨_,e,rfl⟩
  unfold pyNext
  refine J8 (wpAny_attempt (wpAny_callSpecial?_slot (name:=Str.ofString "__next__") hT bJ (Ml bJ hT h9 ?_ (jd _))))
  unfold Builtin.«set_iterator.__next__»
  refine J8 (m:=slotArgs "__next__" 0 _) (Kc ?_)
  dsimp only
  unfold fieldsOf
  refine J8 (J8 (wpAny_load e (Kc ?_)))
  dsimp only
  unfold setEntries
  refine J8 (J8 (K7 X.set X.data X.fits (Kc ?_)))
  dsimp only
  rw[Ki (by simp)]
  refine J8 ?_
  simp only[K6]
  refine xO X (Nat.le_of_lt hi) r λrr h1 _=>?_
  obtain⟨x,nx,rfl,h2,h3⟩:=h1 hi
  dsimp only
  refine J8 (MI e rfl (by simp) ?_)
  have e2:=K5 (Obj.mapFields λvs=>vs.setIfInBounds 0 (rawInt (nx:Int))) e rfl
  refine J8 (MI e2 rfl (by simp) ?_)
  refine Kc ⟨x,rfl,Kc ?_⟩
  have sb:=(Heap.SameBut.update s.heap I (Obj.mapFields λvs=>vs.setIfInBounds 0 (rawInt (nx:Int)))).trans (Heap.SameBut.update _ I (Obj.mapFields λvs=>vs.setIfInBounds 1 (rawInt ((i:Int) + 1))))
  refine hQ x _ _ h2 ⟨(sb.2 S hne).trans X.set,X.data,X.cls,X.tab,X.led,nx,?_,λz=>?_⟩ λb o hb eb=>(sb.2 b (by simpa using hb)).trans eb
  ·exact K5 (Obj.mapFields λvs=>vs.setIfInBounds 1 (rawInt ((i:Int) + 1))) e2 rfl
  ·rw[Ki (by omega)];exact h3 z
 done:=λs Q E X hQ=>by
  obtain⟨slot,e,r⟩:=X.it
  have hT:s.TypeIs (.ref I) "set_iterator":=⟨_,e,rfl⟩
  unfold pyNext
  refine J8 (wpAny_attempt (wpAny_callSpecial?_slot (name:=Str.ofString "__next__") hT bJ (Ml bJ hT h9 ?_ (jd _))))
  unfold Builtin.«set_iterator.__next__»
  refine J8 (m:=slotArgs "__next__" 0 _) (Kc ?_)
  dsimp only
  unfold fieldsOf
  refine J8 (J8 (wpAny_load e (Kc ?_)))
  dsimp only
  unfold setEntries
  refine J8 (J8 (K7 X.set X.data X.fits (Kc ?_)))
  dsimp only
  rw[Ki (by simp)]
  refine J8 ?_
  simp only[K6]
  refine xO X (Kg _) r λrr _ h1=>?_
  rw[h1 rfl]
  dsimp only
  refine J8 (MI e rfl (by simp) ?_)
  (show wpAny _ _ (newExc (.type "StopIteration") [] >>= λx=>raiseNew x) _ _ _)
  refine J8 ?_
  simp only[newExc,newTuple]
  (refine J8 (MG ?_ (by size_fits)))
  (refine J8 (m:=firstArgMember _ _) (wpAny_of_eq (a:=Value.none) (by first |rfl | (simp only[firstArgMember];rfl)) ?_))
  (refine MG ?_ (by size_fits))
  simp only[raiseNew]
  refine J8 (wpAny_handled ?_)
  (rw[show A.in1.handled=none from hh])
  refine J8 (Kc (wpAny_throw ?_))
  refine J8 (wpAny_isInstance (T:="StopIteration") (b:=true) ⟨_,Ky _ rfl,rfl⟩ isSubtype_stop (Kc (hQ _ _ λb o hb eb=>?_)))
  exact Ka _ (Ka _ (((Heap.SameBut.update ..).2 b (by simpa using hb)).trans eb))
 self:=λi s Q E X hQ=>by
  obtain⟨slot,e,r⟩:=X.it
  have hT:s.TypeIs (.ref I) "set_iterator":=⟨_,e,rfl⟩
  refine wpAny_pyIter_slot hT je (Ml je hT lQ ?_ (mD _))
  show wpAny _ _ (ret (.ref I)) _ _ s
  exact Kc ⟨_,rfl,"set_iterator",_,hT,bJ.lookup,hQ⟩
def Bh {S:Addr}{o:Obj}{es:Array (Int×Value)}{ep:Nat}{t:SetTable}{Q:Value->Shared->Prop}(ho:s.heap.get? S=some o)(hd:o.data=.set es ep t)(hc:o.cls=.type "set")(T:Tab t (es.toList.map (·.1)))(hl:t.led=dz w)
  (h:Q (.ref s.heap.objs.size) {s with heap:=s.heap.push (sx S 0 0 es.size ep)}):wpAny (model prog w) A (pyIter (.ref S)) Q E s:=by
 have hT:s.TypeIs (.ref S) "set":=⟨o,ho,hc⟩
 have hf:t.fits es.size=true:=ju T (by simp)
 refine wpAny_pyIter_slot hT F.slot_set_iter (Ml F.slot_set_iter hT n9 ?_ (F.args_set_iter_1 _))
 unfold Builtin.«frozenset.__iter__» Builtin.Frozenset.slot0
 refine J8 (J8 (m:=slotArgs "__iter__" 0 _) (Kc (Kc ?_)))
 unfold Builtin.Frozenset.sizeOf setEntries
 refine J8 (J8 (J8 (K7 ho hd hf (Kc (Kc ?_)))))
 rw[A6]
 refine J8 (J8 (K7 ho hd hf ?_))
 dsimp only
 refine J8 (J8 (MK (Kc (Kc ?_))))
 rw[T.plain]
 simp only[Mt,Bool.false_and,MV,Kx,KZ]
 refine J8 (Kc ?_)
 unfold setEpoch
 refine J8 (J8 (K7 ho hd hf (Kc ?_)))
 refine J8 (MG (Kc ⟨_,rfl,"set_iterator",_,⟨_,Ky _ rfl,rfl⟩,bJ.lookup,h⟩))
def me {S:Addr}{o:Obj}{es:Array (Int×Value)}{ep:Nat}{t:SetTable}{Q:List Value->Shared->Prop}(hh:A.handled=none)(ho:s.heap.get? S=some o)(hd:o.data=.set es ep t)(hc:o.cls=.type "set")(T:Tab t (es.toList.map (·.1)))(hl:t.led=dz w)
  (hn:es.size<=64) (h:∀h' tk vs,vs=(told w S ep es).toList.map (·.2)->(∀b o,s.heap.get? b=some o->h'.get? b=some o)->Q vs {s with heap:=h',toks:=tk}):wpAny (model prog w) A (collect (.ref S)) Q E s:=by
 have hz:es.size<=sizeLine:=by rw[KH];omega
 unfold collect
 (refine J8 (wpAny_runValue (LL F.entry_proto_collect ?_)))
 (rw[LG F.plain_proto_collect _])
 show wpAny _ A.in1 (newList [] >>= λl=>again (.builtin "list.__iadd__" ⟨[l,.ref S],[]⟩)) _ _ s
 refine J8 (MG ?_)
 (refine Kc ⟨plainId_quiet F.plain_list_iadd _,LL F.entry_list_iadd ?_⟩)
 (rw[LG F.plain_list_iadd _])
 show wpAny _ A.in1 (Builtin.List.listExtendWith (.ref s.heap.objs.size) (.ref S) (.ref s.heap.objs.size)) _ _ {s with heap:=s.heap.push (seqObj "list" #[] 0)}
 generalize hH:s.heap.push (seqObj "list" #[] 0)=H1
 have kp1:∀b o,s.heap.get? b=some o->H1.get? b=some o:=λb o e=>by rw[<-hH];exact Ka _ e
 have hD:H1.get? s.heap.objs.size=some (seqObj "list" #[] 0):=by rw[<-hH];exact Ky _ rfl
 have hHs:H1.objs.size=s.heap.objs.size + 1:=by rw[<-hH];exact LH ..
 have hSD:S≠s.heap.objs.size:=KN (Kl ho)
 have hT:Shared.TypeIs {s with heap:=H1} (.ref S) "set":=⟨o,kp1 _ _ ho,hc⟩
 unfold Builtin.List.listExtendWith
 refine J8 (wpAny_typeOf hT ?_)
 have h1:Builtin.List.listSameRef (.ref s.heap.objs.size) (.ref S)=false:=by simp[Builtin.List.listSameRef,Ne.symm hSD]
 have h2:(Value.type "set" == Value.type "list")=false:=by decide
 have h3:(Value.type "set" == Value.type "tuple")=false:=by decide
 rw[h1,h2,h3]
 simp only[Bool.or_false,Kx,KZ]
 refine J8 (Bh (s:={s with heap:=H1}) (kp1 _ _ ho) hd hc T hl ?_)
 refine J8 (Lp ?_)
 unfold Builtin.List.listLengthHint
 have hT2:Shared.TypeIs {s with heap:=H1.push (sx S 0 0 es.size ep)} (.ref S) "set":=⟨o,Ka _ (kp1 _ _ ho),hc⟩
 refine J8 (wpAny_specialOf hT2 F.slot_set_len.lookup ?_)
 wp_delta
 refine J8 (wpAny_isInstance hT2 (b:=true) (by rw[MU];kernel_rfl) ?_)
 show wpAny _ A.in1 (typeOf (Value.ref S) >>= λ_=>_) _ _ _
 refine J8 (wpAny_typeOf hT2 ?_)
 refine Kc ?_
 show wpAny _ A.in1 (rule "list.extend.makes-room" >>= λ_=>Builtin.List.listTouch (.ref s.heap.objs.size) >>= λ_=>again (.builtin "list.extend.loop" ⟨[.ref s.heap.objs.size,.ref H1.objs.size,.ref s.heap.objs.size],[]⟩)) _ _ _
 refine J8 (wpAny_rule (J8 ?_))
 generalize hH2:H1.push (sx S 0 0 es.size ep)=H2
 have kp2:∀b o,H1.get? b=some o->H2.get? b=some o:=λb o e=>by rw[<-hH2];exact Ka _ e
 have hI:H2.get? H1.objs.size=some (sx S 0 0 es.size ep):=by rw[<-hH2];exact Ky _ rfl
 have hS0:=kp2 _ _ hD
 show wpAny _ A.in1 (updateSeq s.heap.objs.size (·.push .none) >>= λ_=>updateSeq s.heap.objs.size (·.pop)) _ _ _
 refine J8 (wpAny_updateSeq (s:={s with heap:=H2}) hS0 rfl ?_)
 have hS2:=K5 (Obj.mapSeq (·.push Value.none)) hS0 rfl
 refine wpAny_updateSeq (hz:=by seq_fits) hS2 rfl ?_
 have hS3:=K5 (Obj.mapSeq (·.pop)) hS2 rfl
 have oth:∀b o,b≠s.heap.objs.size->H2.get? b=some o->((H2.update s.heap.objs.size (Obj.mapSeq (·.push Value.none))).update s.heap.objs.size (Obj.mapSeq (·.pop))).get? b=some o:=λb o hb e=>
  ((Heap.SameBut.update _ s.heap.objs.size (Obj.mapSeq (·.pop))).2 b hb).trans (((Heap.SameBut.update H2 s.heap.objs.size (Obj.mapSeq (·.push Value.none))).2 b hb).trans e)
 have hIS:S≠H1.objs.size:=by rw[hHs];exact KN (MF (Kl ho))
 have hID:H1.objs.size≠s.heap.objs.size:=by rw[hHs];exact Nat.succ_ne_self _
 have hDf:s.heap.objs.size∉ [H1.objs.size,S]:=λz=>by
  rcases Ke.mp z with e |z
  ·exact hID e.symm
  ·exact hSD (Kz.mp z).symm
 have X0:kG w S o es ep t H1.objs.size 0 ((H2.update s.heap.objs.size (Obj.mapSeq (·.push Value.none))).update s.heap.objs.size (Obj.mapSeq (·.pop))):=
  ⟨oth _ _ hSD (kp2 _ _ (kp1 _ _ ho)),hd,hc,T,hl,0,oth _ _ hID hI,λ_=>rfl⟩
 refine Kc ⟨plainId_quiet F.plain_extend_loop _,codeAny_extend_loopS (yi (A:=A.in1) (o:=o) (t:=t) hh hIS).toS hz _ hDf _ es.size 0 _ _ _ rfl (KY _) X0 hS3 (ItemsOf.nil _) λs' acc' c' hm hS' hacc=>?_⟩
 show wpAny _ A (load s.heap.objs.size >>= λ_=>_) _ _ s'
 refine J8 (wpAny_load hS' (Kc ?_))
 obtain⟨h',g',d',tk',os'⟩:=s'
 have eg:g'=s.gens:=hm.gens
 have ed:d'=s.drawn:=hm.drawn
 have eo:os'=s.os:=hm.os
 subst eg ed eo
 refine h h' tk' acc'.toList ?_ λb ob e=>hm.heap b ob (λhb=>?_) (oth b ob (KN (Kl e)) (kp2 _ _ (kp1 _ _ e)))
 ·have hts:(told w S ep es).size=es.size:=by have:=(lx w S ep es).length_eq;simpa using this
  apply Mc
  intro i
  rw[Kk]
  by_cases hi:i < es.size
  ·have hi1:i < acc'.size:=by rw[hacc.1];exact hi
   have q:=hacc.2 i acc'[i] (KJ hi1)
   rw[LP,LP,KJ hi1]
   exact q.symm
  ·rw[LP,LP,MA (by rw[hacc.1];omega),MA (by omega)];rfl
 ·have hlt:=Kl e
  rcases Ke.mp hb with z |z
  ·rw[z] at hlt;exact KU _ hlt
  ·rw[Kz.mp z,hHs] at hlt;exact absurd hlt (Nat.not_lt.mpr (MN _))
end
end L2.ST
namespace OM
abbrev Pr:=Int×Int
def D4 (p q:Pr):Prop:=p.1 < q.1\/(p.1=q.1/\p.2 < q.2)
def iG (p:Pr):¬D4 p p:=by unfold D4;omega
def yz {p q r:Pr}(a:D4 p q)(b:D4 q r):D4 p r:=by unfold D4 at *;omega
abbrev uf (l:List Pr):Prop:=l.Pairwise D4
theorem i6:∀{l m:List Pr},uf l->uf m->(∀x,x∈l↔x∈m)->l=m
 | [],[],_,_,_=>rfl
 | [],b :: m,_,_,h=>absurd ((h b).mpr (Kd ..)) (by simp)
 |a :: l,[],_,_,h=>absurd ((h a).mp (Kd ..)) (by simp)
 |a :: l,b :: m,hl,hm,h=>by
  have hl':=List.pairwise_cons.mp hl
  have hm':=List.pairwise_cons.mp hm
  have e:a=b:=by
   rcases Ke.mp ((h a).mp (Kd ..)) with e |e
   ·exact e
   ·rcases Ke.mp ((h b).mpr (Kd ..)) with e' |e'
    ·exact e'.symm
    ·exact absurd (yz (hm'.1 a e) (hl'.1 b e')) (iG _)
  subst e
  congr 1
  refine i6 hl'.2 hm'.2 λx=>⟨λhx=>?_,λhx=>?_⟩
  ·rcases Ke.mp ((h x).mp (J9 _ hx)) with e |e
   ·subst e;exact absurd (hl'.1 x hx) (iG _)
   ·exact e
  ·rcases Ke.mp ((h x).mpr (J9 _ hx)) with e |e
   ·subst e;exact absurd (hm'.1 x hx) (iG _)
   ·exact e
def ij {l:List Pr}(h:uf l):l.Nodup:=h.imp λ{a b} hab e=>by subst e;exact iG _ hab
def vF {l:List Pr}(p:Pr->Bool)(h:uf l):uf (l.filter p):=h.sublist MO
def fZ (n:Nat):List Pr:=(List.range (n * n)).map λk=>(((k / n:Nat):Int),((k % n:Nat):Int))
def fX {n:Nat}{p:Pr}:p∈fZ n↔(0<=p.1/\p.1 < n)/\(0<=p.2/\p.2 < n):=by
 unfold fZ
 rw[Kn]
 constructor
 ·rintro⟨k,hk,rfl⟩
  have hk:=KD.mp hk
  have hn:0 < n:=by
   rcases Nat.eq_zero_or_pos n with e |e
   ·subst e;omega
   ·exact e
  have h1:k / n < n:=Nat.div_lt_of_lt_mul hk
  have h2:k % n < n:=Nat.mod_lt _ hn
  generalize k / n=q at h1
  generalize k % n=r at h2
  exact⟨⟨Int.natCast_nonneg _,by dsimp only;omega⟩,⟨Int.natCast_nonneg _,by dsimp only;omega⟩⟩
 ·rintro⟨⟨a0,a1⟩,⟨b0,b1⟩⟩
  have hn:0 < n:=by omega
  refine⟨p.1.toNat * n + p.2.toNat,KD.mpr ?_,?_⟩
  ·have h1:p.1.toNat + 1<=n:=by omega
   have h2:p.2.toNat < n:=by omega
   have:=Nat.mul_le_mul_right n h1
   rw[Nat.add_mul] at this
   omega
  ·have h2:p.2.toNat < n:=by omega
   have e1:(p.1.toNat * n + p.2.toNat) / n=p.1.toNat:=by
    rw[Nat.mul_comm,Nat.mul_add_div hn,Nat.div_eq_of_lt h2];rfl
   have e2:(p.1.toNat * n + p.2.toNat) % n=p.2.toNat:=by
    rw[Nat.mul_comm,Nat.mul_add_mod,Nat.mod_eq_of_lt h2]
   rw[e1,e2]
   refine Prod.ext ?_ ?_ <;> dsimp only <;> omega
def sN (n:Nat):uf (fZ n):=by
 unfold fZ
 refine Ln.mpr (LC ?_ List.pairwise_lt_range)
 intro a b ha hb hab
 have ha:=KD.mp ha
 have hb:=KD.mp hb
 have hn:0 < n:=by
  rcases Nat.eq_zero_or_pos n with e |e
  ·subst e;omega
  ·exact e
 have h1:a / n<=b / n:=Nat.div_le_div_right (Nat.le_of_lt hab)
 have e1:=Nat.div_add_mod a n
 have e2:=Nat.div_add_mod b n
 unfold D4
 dsimp only
 rcases Lr (a / n) (b / n) with c |c
 ·left;omega
 ·right
  have e:a / n=b / n:=by omega
  rw[e] at e1
  omega
open Classical in
noncomputable def bP (n:Nat)(R:Int->Int->Prop):List Pr:=(fZ n).filter λp=>decide (R p.1 p.2)
def aU {n:Nat}{R:Int->Int->Prop}{p:Pr}:p∈bP n R↔((0<=p.1/\p.1 < n)/\(0<=p.2/\p.2 < n))/\R p.1 p.2:=by
 unfold bP
 rw[Lj,fX]
 simp
def cP (n:Nat)(R:Int->Int->Prop):uf (bP n R):=vF _ (sN n)
def vI {n:Nat}{R S:Int->Int->Prop}(h:∀a b:Int,0<=a->a < n->0<=b->b < n->(R a b↔S a b)):bP n R=bP n S:=by
 refine i6 (cP n R) (cP n S) λx=>?_
 rw[aU,aU]
 constructor
 ·rintro⟨⟨⟨a,b⟩,c,d⟩,r⟩;exact⟨⟨⟨a,b⟩,c,d⟩,(h _ _ a b c d).mp r⟩
 ·rintro⟨⟨⟨a,b⟩,c,d⟩,r⟩;exact⟨⟨⟨a,b⟩,c,d⟩,(h _ _ a b c d).mpr r⟩
def Wn (n:Nat)(l:List Pr):Prop:=∀p,p∈l->(0<=p.1/\p.1 < n)/\(0<=p.2/\p.2 < n)
abbrev Mem (l:List Pr)(a b:Int):Prop:=(a,b)∈l
def xR {n:Nat}{l:List Pr}(w:Wn n l)(r:uf l):bP n (Mem l)=l:=by
 refine i6 (cP n _) r λx=>?_
 rw[aU]
 exact⟨λh=>h.2,λh=>⟨w x h,h⟩⟩
def rV (n:Nat)(R:Int->Int->Prop):Wn n (bP n R):=λ_ h=>(aU.mp h).1
def AV (n:Nat)(R:Int->Int->Prop):(bP n R).length<=n * n:=by
 unfold bP
 refine Lf (L9 ..) ?_
 unfold fZ;simp
inductive Tr (R:Int->Int->Prop):Int->Int->Prop
 |one {a b}:R a b->Tr R a b
 |more {a b c}:R a b->Tr R b c->Tr R a c
theorem Tr.trans {R:Int->Int->Prop}{a b c:Int}(h:Tr R a b)(k:Tr R b c):Tr R a c:=by
 induction h with
 |one r=>exact .more r k
 |more r _ ih=>exact .more r (ih k)
theorem Tr.least {R S:Int->Int->Prop}(f:∀a b,R a b->S a b)(t:∀a b c,S a b->S b c->S a c){a b:Int}(h:Tr R a b):S a b:=by
 induction h with
 |one r=>exact f _ _ r
 |more r _ ih=>exact t _ _ _ (f _ _ r) ih
theorem Tr.wn {n:Nat}{l:List Pr}(w:Wn n l){a b:Int}(h:Tr (Mem l) a b):(0<=a/\a < n)/\(0<=b/\b < n):=by
 induction h with
 |one r=>exact w _ r
 |more r _ ih=>exact⟨(w _ r).1,ih.2⟩
structure Ord (n:Nat)(l:List Pr):Prop where
 lo:1<=n
 hi:n<=8
 wn:Wn n l
 ris:uf l
 irr:∀a,(a,a)∉l
 tr:∀a b c,(a,b)∈l->(b,c)∈l->(a,c)∈l
def Ord.tr_mem {n:Nat}{l:List Pr}(O:Ord n l){a b:Int}:Tr (Mem l) a b↔(a,b)∈l:=
 ⟨λh=>h.least (λ_ _ r=>r) λa b c=>O.tr a b c,λh=>.one h⟩
def Ord.closed {n:Nat}{l:List Pr}(O:Ord n l):bP n (Tr (Mem l))=l:=by
 rw[vI (S:=Mem l) λa b _ _ _ _=>O.tr_mem,xR O.wn O.ris]
def EZ {n:Nat}{l:List Pr}(h1:1<=n)(h8:n<=8)(w:Wn n l)(hr:∀a,¬Tr (Mem l) a a):Ord n (bP n (Tr (Mem l))):=
 ⟨h1,h8,rV n _,cP n _,λa h=>hr a (aU.mp h).2,λa b c h k=>aU.mpr ⟨⟨(aU.mp h).1.1,(aU.mp k).1.2⟩,(aU.mp h).2.trans (aU.mp k).2⟩⟩
theorem nh {l m:List Pr}(hl:l.Nodup)(h:∀x,x∈l->x∈m):l.length<=m.length:=by
 induction l generalizing m with
 |nil=>exact KY _
 |cons a l ih=>
  have ha:=h a (Kd ..)
  have hl':=KI.mp hl
  have:=ih (m:=m.erase a) hl'.2 λx hx=>by
   refine (List.mem_erase_of_ne ?_).mpr (h x (J9 _ hx))
   rintro rfl;exact hl'.1 hx
  rw[MQ ha] at this
  have:0 < m.length:=List.length_pos_of_mem ha
  simp only[KG];omega
def sub_eq {l m:List Pr}(hl:uf l)(hm:uf m)(h:∀x,x∈l->x∈m)(e:l.length=m.length):l=m:=by
 refine i6 hl hm λx=>⟨h x,λhx=>Classical.byContradiction λhn=>?_⟩
 have:=nh (l:=x :: l) (m:=m) (KI.mpr ⟨hn,ij hl⟩) λy hy=>by
  rcases Ke.mp hy with e |e
  ·subst e;exact hx
  ·exact h y e
 simp only[KG] at this
 omega
def more (l:List Pr):List Pr:=l.flatMap λp=>(l.filter λq=>decide (q.1=p.2)).map λq=>(p.1,q.2)
def mZ {l:List Pr}{x:Pr}:x∈more l↔∃b,(x.1,b)∈l/\(b,x.2)∈l:=by
 unfold more
 rw[List.mem_flatMap]
 constructor
 ·rintro⟨p,hp,hx⟩
  obtain⟨q,hq,rfl⟩:=Kn.mp hx
  obtain⟨hq,e⟩:=Lj.mp hq
  have e:q.1=p.2:=by simpa using e
  exact⟨p.2,hp,by rw[<-e];exact hq⟩
 ·rintro⟨b,h1,h2⟩
  exact⟨(x.1,b),h1,Kn.mpr ⟨(b,x.2),Lj.mpr ⟨h2,by simp⟩,rfl⟩⟩
noncomputable def jB (n:Nat)(l:List Pr):List Pr:=bP n (Mem (l ++ more l))
structure DL (n:Nat)(ps l:List Pr):Prop where
 wn:Wn n l
 ris:uf l
 sub:∀x,x∈ps->x∈l
 sup:∀x,x∈l->Tr (Mem ps) x.1 x.2
def yR {n:Nat}{ps:List Pr}(w:Wn n ps):DL n ps (bP n (Mem ps)):=
 ⟨rV n _,cP n _,λx hx=>aU.mpr ⟨w x hx,hx⟩,λ_ hx=>.one (aU.mp hx).2⟩
def zr {n:Nat}{ps l:List Pr}(B:DL n ps l):Wn n (l ++ more l):=λx hx=>by
 rcases KA.mp hx with h |h
 ·exact B.wn x h
 ·obtain⟨b,h1,h2⟩:=mZ.mp h
  exact⟨(B.wn _ h1).1,(B.wn _ h2).2⟩
def tW {n:Nat}{ps l:List Pr}(B:DL n ps l):DL n ps (jB n l)/\∀x,x∈l->x∈jB n l:=by
 have hs:∀x,x∈l->x∈jB n l:=λx hx=>aU.mpr ⟨B.wn x hx,LF _ hx⟩
 refine⟨⟨rV n _,cP n _,λx hx=>hs x (B.sub x hx),λx hx=>?_⟩,hs⟩
 rcases KA.mp (aU.mp hx).2 with h |h
 ·exact B.sup _ h
 ·obtain⟨b,h1,h2⟩:=mZ.mp h
  exact (B.sup _ h1).trans (B.sup _ h2)
def zW {n:Nat}{ps l:List Pr}(B:DL n ps l)(e:(jB n l).length=l.length):jB n l=bP n (Tr (Mem ps)):=by
 obtain⟨B2,hs⟩:=tW B
 have q:l=jB n l:=sub_eq B.ris B2.ris hs e.symm
 refine i6 B2.ris (cP n _) λx=>⟨λh=>aU.mpr ⟨B2.wn x h,B2.sup x h⟩,λh=>?_⟩
 rw[<-q]
 have tr:∀a b c:Int,(a,b)∈l->(b,c)∈l->(a,c)∈l:=λa b c h1 h2=>by
  rw[q]
  exact aU.mpr ⟨⟨(B.wn _ h1).1,(B.wn _ h2).2⟩,KR _ (mZ.mpr ⟨b,h1,h2⟩)⟩
 exact (aU.mp h).2.least (S:=Mem l) (λa b r=>B.sub _ r) tr
abbrev Tb:=Nat->Nat->Bool
def Tb.set (M:Tb)(a b:Nat):Tb:=λx y=>if x=a/\y=b then true else M x y
def B5 (M:Tb)(m:Nat):Prop:=∀k a b,k < m->M a k=true->M k b=true->M a b=true
def Phase (M0 M:Tb)(m:Nat)(D:Nat->Nat->Prop):Prop:=∀a b,M a b=true↔M0 a b=true\/(D a b/\M0 a m=true/\M0 m b=true)
def Phase.start (M:Tb)(m:Nat):Phase M M m λ_ _=>False:=λa b=>by simp
def Phase.row {M0 M:Tb}{m:Nat}{D:Nat->Nat->Prop}(P:Phase M0 M m D)(a:Nat):M a m=true↔M0 a m=true:=by
 rw[P]
 exact⟨λh=>h.elim id λh=>h.2.1,.inl⟩
def Phase.col {M0 M:Tb}{m:Nat}{D:Nat->Nat->Prop}(P:Phase M0 M m D)(b:Nat):M m b=true↔M0 m b=true:=by
 rw[P]
 exact⟨λh=>h.elim id λh=>h.2.2,.inl⟩
def Phase.step {M0 M:Tb}{m:Nat}{D:Nat->Nat->Prop}(P:Phase M0 M m D)(x y:Nat) :
  Phase M0 (if M x m=true/\M m y=true then M.set x y else M) m (λa b=>D a b\/(a=x/\b=y)):=λa b=>by
 have r:=P.row x
 have c:=P.col y
 by_cases h:M x m=true/\M m y=true
 ·rw[Kf h]
  unfold Tb.set
  by_cases e:a=x/\b=y
  ·rw[Kf e]
   obtain⟨rfl,rfl⟩:=e
   simp only[true_iff]
   exact .inr ⟨.inr (by simp),r.mp h.1,c.mp h.2⟩
  ·rw[Ki e,P]
   constructor
   ·rintro (q | ⟨d,q⟩)
    ·exact .inl q
    ·exact .inr ⟨.inl d,q⟩
   ·rintro (q | ⟨d |d,q⟩)
    ·exact .inl q
    ·exact .inr ⟨d,q⟩
    ·exact absurd d e
 ·rw[Ki h,P]
  constructor
  ·rintro (q | ⟨d,q⟩)
   ·exact .inl q
   ·exact .inr ⟨.inl d,q⟩
  ·rintro (q | ⟨d | ⟨rfl,rfl⟩,q1,q2⟩)
   ·exact .inl q
   ·exact .inr ⟨d,q1,q2⟩
   ·exact absurd ⟨r.mpr q1,c.mpr q2⟩ h
def Phase.done {M0 M:Tb}{m n:Nat}{D:Nat->Nat->Prop}(P:Phase M0 M m D)(hD:∀a b,a < n->b < n->D a b)(hM:∀a b,M0 a b=true->a < n/\b < n)(T:B5 M0 m) :
  B5 M (m + 1)/\∀a b,M a b=true->a < n/\b < n:=by
 have hM':∀a b,M a b=true->a < n/\b < n:=λa b h=>by
  rcases (P a b).mp h with q | ⟨_,q1,q2⟩
  ·exact hM a b q
  ·exact⟨(hM _ _ q1).1,(hM _ _ q2).2⟩
 have put:∀a b,M0 a m=true->M0 m b=true->M a b=true:=λa b h1 h2=>(P a b).mpr (.inr ⟨hD a b (hM _ _ h1).1 (hM _ _ h2).2,h1,h2⟩)
 refine⟨λk a b hk h1 h2=>?_,hM'⟩
 rcases Lr k m with c |c
 ·rcases (P a k).mp h1 with q1 | ⟨_,q1,q1'⟩
  ·rcases (P k b).mp h2 with q2 | ⟨_,q2,q2'⟩
   ·exact (P a b).mpr (.inl (T k a b c q1 q2))
   ·exact put a b (T k a m c q1 q2) q2'
  ·rcases (P k b).mp h2 with q2 | ⟨_,q2,q2'⟩
   ·exact put a b q1 (T k m b c q1' q2)
   ·exact put a b q1 q2'
 ·have e:k=m:=by omega
  subst e
  exact put a b ((P.row a).mp h1) ((P.col b).mp h2)
structure Tab (n:Nat)(ps:List Pr)(M:Tb):Prop where
 inn:∀a b,M a b=true->a < n/\b < n
 sub:∀a b:Nat,((a:Int),(b:Int))∈ps->M a b=true
 sup:∀a b:Nat,M a b=true->Tr (Mem ps) a b
def Tab.phase {n:Nat}{ps:List Pr}{M0 M:Tb}{m:Nat}{D:Nat->Nat->Prop}(T:Tab n ps M0)(P:Phase M0 M m D):Tab n ps M:=
 ⟨λa b h=>by
  rcases (P a b).mp h with q | ⟨_,q1,q2⟩
  ·exact T.inn a b q
  ·exact⟨(T.inn _ _ q1).1,(T.inn _ _ q2).2⟩,
  λa b h=>(P a b).mpr (.inl (T.sub a b h)),
  λa b h=>by
  rcases (P a b).mp h with q | ⟨_,q1,q2⟩
  ·exact T.sup a b q
  ·exact (T.sup _ _ q1).trans (T.sup _ _ q2)⟩
def Tab.all {n:Nat}{ps:List Pr}{M:Tb}(w:Wn n ps)(T:Tab n ps M)(H:B5 M n)(a b:Nat):M a b=true↔Tr (Mem ps) a b:=by
 refine⟨T.sup a b,λh=>?_⟩
 have key:∀{x y:Int},Tr (Mem ps) x y->M x.toNat y.toNat=true:=λ{x y} h=>by
  induction h with
  | @one x y r=>
   have:=w _ r
   refine T.sub _ _ ?_
   have e1:((x.toNat:Nat):Int)=x:=by simp only at this;omega
   have e2:((y.toNat:Nat):Int)=y:=by simp only at this;omega
   rw[e1,e2];exact r
  | @more x y z r _ ih=>
   have:=w _ r
   have e1:((x.toNat:Nat):Int)=x:=by simp only at this;omega
   have e2:((y.toNat:Nat):Int)=y:=by simp only at this;omega
   have q:M x.toNat y.toNat=true:=T.sub _ _ (by rw[e1,e2];exact r)
   exact H y.toNat _ _ (T.inn _ _ q).2 q ih
 have:=key h
 simpa using this
end OM
namespace L2.ST
open PySem PySem.SetTable PySem.W PyProof.Rows
section
variable {prog:Program}{w:World}{A:Around}{E:Value->Shared->Prop}{s:Shared}
def EU {ps:List Pr}(hs:∀p,p∈ps->Sm p){ix:Array Nat}(P:L2.SO.Pm ps.length ix)(U:L2.SO.Up (o4 ps) ix ps.length):OM.uf (ix.toList.map λi=>ps.getD i (0,0)):=by
 refine Ln.mpr (LB.mpr λi j hi hj hij=>?_)
 have hi':i < ix.size:=by simpa using hi
 have hj':j < ix.size:=by simpa using hj
 have q:=U i j hij (by rw[<-P.sz];exact hj')
 unfold L2.SO.Kp o4 at q
 have ei:ix.getD i 0=ix.toList[i]:=by simp[Array.getD,hi']
 have ej:ix.getD j 0=ix.toList[j]:=by simp[Array.getD,hj']
 rw[ei,ej] at q
 have ai:ix.toList[i] < ps.length:=P.lt _ (by simp)
 have aj:ix.toList[j] < ps.length:=P.lt _ (by simp)
 have bi:Sm (ps.getD ix.toList[i] (0,0)):=by rw[Ko,J6 ai];exact hs _ (KS ai)
 have bj:Sm (ps.getD ix.toList[j] (0,0)):=by rw[Ko,J6 aj];exact hs _ (KS aj)
 exact (w8 bi bj).mp q
def Ea {n:Nat}{ix:Array Nat}(P:L2.SO.Pm n ix){k:Nat}(hk:k < n):k∈ix.toList:=by
 refine Classical.byContradiction λhn=>?_
 have:=bu (l:=k :: ix.toList) (m:=List.range n) (KI.mpr ⟨hn,P.nd⟩) λx hx=>by
  rcases Ke.mp hx with e |e
  ·rw[e];exact KD.mpr hk
  ·exact KD.mpr (P.lt x (by simpa using e))
 simp[P.sz] at this
 omega
theorem Hy {h:Heap}{vs:List Value}{ps:List Pr}(hps:cB prog w h vs ps){ix:Array Nat}(P:L2.SO.Pm vs.length ix) :
  cB prog w h (ix.toList.map λi=>vs.getD i Value.none) (ix.toList.map λi=>ps.getD i (0,0)):=by
 refine⟨by simp,λi v p h1 h2=>?_⟩
 rw[Kk] at h1 h2
 cases e:ix.toList[i]? with
 |none=>rw[e] at h1;cases h1
 |some k=>
  rw[e] at h1 h2
  have hk:k < vs.length:=P.lt k (by simpa using Kj e)
  have hk':k < ps.length:=by rw[<-hps.1];exact hk
  simp[hk,hk'] at h1 h2
  exact hps.2 k v p (by rw[J6 hk,h1]) (by rw[J6 hk',h2])
def yu {v:Value}{vs:List Value}{ps:List Pr}{Q:Value->Shared->Prop}(hps:cB prog w s.heap vs ps)(nd:ps.Nodup)(h64:vs.length < 64)
  (hcol:∀(Q':List Value->Shared->Prop),(∀h' tk,(∀b o,s.heap.get? b=some o->h'.get? b=some o)->Q' vs {s with heap:=h',toks:=tk})->wpAny (model prog w) A.in1 (collect v) Q' (λe s'=>E e s') s)
  (h:∀(h1 h':Heap) (tk:Nat) (D:Addr) (out:List Value) (qs:List Pr) (c:Nat),(∀b o,s.heap.get? b=some o->h1.get? b=some o)->D=h1.objs.size->(∀b o,h1.get? b=some o->h'.get? b=some o)->h'.get? D=some (seqObj "list" out.toArray c)->cB prog w h' out qs->(∀u,u∈out->u∈vs)->OM.uf qs->(∀p,p∈qs↔p∈ps)->
   Q (.ref D) {s with heap:=h',toks:=tk}):wpAny (model prog w) A (call (.builtin "sorted") [v]) Q E s:=by
 have hsm:∀p,p∈ps->Sm p:=λp hp=>by
  obtain⟨i,hi,e⟩:=KW.mp hp
  have hi':i < vs.length:=by rw[hps.1];exact hi
  obtain⟨_,_,_,hs⟩:=hps.2 i vs[i] p (J6 hi') (by rw[J6 hi,e])
  exact hs
 (refine Calls.call_function_entry kind_sorted plain_sorted entry_sorted (args_sorted1 _) ?_)
 unfold Builtin.«sorted»
 refine J8 (m:=checkCount "sorted" 1 1 ([v]:List Value).length) (Kc ?_)
 refine J8 (hcol _ λh1 tk1 k1=>?_)
 have hz:vs.length<=sizeLine:=by rw[KH];omega
 refine J8 (wpAny_newList ?_ hz)
 show wpAny _ _ _ _ _ {s with heap:=h1.push (seqObj "list" vs.toArray 0),toks:=tk1}
 have hoL:(h1.push (seqObj "list" vs.toArray 0)).get? h1.objs.size=some (seqObj "list" vs.toArray 0):=Ky _ rfl
 have kp:∀b o,s.heap.get? b=some o->(h1.push (seqObj "list" vs.toArray 0)).get? b=some o:=λb o e=>Ka _ (k1 b o e)
 have hp1:cB prog w (h1.push (seqObj "list" vs.toArray 0)) vs ps:=⟨hps.1,λi v p a b=>by
  obtain⟨c,e,⟨o,it,n,ho,r⟩,hs⟩:=hps.2 i v p a b
  exact⟨c,e,⟨o,it,n,kp _ _ ho,r⟩,hs⟩⟩
 have hne:∀b o,s.heap.get? b=some o->b≠h1.objs.size:=λb o e=>KN (Kl (k1 b o e))
 refine J8 (Lp (Ml slot_list_sort ⟨_,hoL,rfl⟩ entry_list_sort ?_ (args_list_sort _)))
 refine tS (s:={s with heap:=h1.push (seqObj "list" vs.toArray 0),toks:=tk1}) hoL hp1 nd h64 λh' c ix P U hk ho=>?_
 refine⟨_,rfl,Kc ⟨_,rfl,?_⟩⟩
 have kk:∀b o,s.heap.get? b=some o->h'.get? b=some o:=λb o e=>hk b o (hne b o e) (kp b o e)
 have P':L2.SO.Pm ps.length ix:=by rw[<-hps.1];exact P
 have k2:∀b o,h1.get? b=some o->h'.get? b=some o:=λb o e=>hk b o (KN (Kl e)) (Ka _ e)
 refine h h1 h' tk1 h1.objs.size _ (ix.toList.map λi=>ps.getD i (0,0)) c k1 rfl k2 ho (Hy ⟨hps.1,λi v p a b=>?_⟩ P) (λu hu=>?_) (EU hsm P' (by rw[<-hps.1];exact U)) λp=>⟨λhp=>?_,λhp=>?_⟩
 ·obtain⟨c,e,⟨o,it,n,ho,r⟩,hs⟩:=hps.2 i v p a b
  exact⟨c,e,⟨o,it,n,kk _ _ ho,r⟩,hs⟩
 ·obtain⟨i,hi,rfl⟩:=Kn.mp hu
  have:i < vs.length:=P.lt i (by simpa using hi)
  rw[Ko,J6 this]
  exact KS this
 ·obtain⟨i,hi,rfl⟩:=Kn.mp hp
  have:i < ps.length:=P'.lt i (by simpa using hi)
  rw[Ko,J6 this]
  exact KS this
 ·obtain⟨i,hi,e⟩:=KW.mp hp
  refine Kn.mpr ⟨i,Ea P' hi,?_⟩
  rw[Ko,J6 hi,e];rfl
end
end L2.ST
namespace L2
open PySem PySem.Spec PyProof.Rows
abbrev Pr:=Int×Int
abbrev Sm:=L2.ST.Sm
section
variable {X:Cx}{pins:List (Addr×Obj)}{σ:St}{H H':Hp}{s:Shared}
def gp (H H':Hp):Prop:=(∀b xs,H b=some (.tup xs)->H' b=some (.tup xs))/\∀b o u,H b=some (.aQ o u)->H' b=some (.aQ o u)
def gp.trans {H H1 H2:Hp}(a:gp H H1)(b:gp H1 H2):gp H H2:=⟨λc xs h=>b.1 c xs (a.1 c xs h),λc o u h=>b.2 c o u (a.2 c o u h)⟩
def ah.grow {H H':Hp}(e:ah H H'):gp H H':=⟨λb xs h=>e b _ h,λb o u h=>e b _ h⟩
def gp.new {H:Hp}{l:Addr}{o:HO}(h:H l=none):gp H (upd H l o):=⟨λb xs e=>by rw[aq (ax e h)];exact e,λb o' u e=>by rw[aq (ax e h)];exact e⟩
def ah.new {H:Hp}{l:Addr}{o:HO}(h:H l=none):ah H (upd H l o):=λb u e=>Kt.of (by rw[aq (ax e h)];exact e)
def gk.grow {K:Frag}{a:Addr}{xs:List V}(h:gk K H a xs)(g:gp H H'):gk K H' a xs:=by
 rcases h with (h | ⟨o,h⟩) |h
 ·exact .inl (.inl (g.1 _ _ h))
 ·exact .inl (.inr ⟨o,g.2 _ _ _ h⟩)
 ·exact .inr h
def gp.list {a:Addr}{ys:List V}{o:HO}(h:H a=some (.lst ys)):gp H (upd H a o):=
 ⟨λb xs e=>by rw[aq (DS e h (by intro z;cases z))];exact e,λb o' u e=>by rw[aq (DS e h (by intro z;cases z))];exact e⟩
theorem oX {α β:Type}{f:α->β}:∀{l:List α} {m:List β},m.Perm (l.map f)->∃l':List α,m=l'.map f/\l'.Perm l:=by
 intro l m h
 generalize hk:l.map f=k at h
 induction h generalizing l with
 |nil=>
  have:l= []:=by simpa using hk
  exact⟨[],rfl,by rw[this]⟩
 | @cons x m1 m2 _ ih=>
  cases l with
  |nil=>cases hk
  |cons a l=>
   simp only[K2,List.cons.injEq] at hk
   obtain⟨l',e,p⟩:=ih hk.2
   exact⟨a :: l',by rw[K2,hk.1,e],p.cons a⟩
 |swap x y m1=>
  cases l with
  |nil=>cases hk
  |cons a l=>
   cases l with
   |nil=>simp at hk
   |cons b l=>
    simp only[K2,List.cons.injEq] at hk
    exact⟨b :: a :: l,by rw[K2,K2,hk.1,hk.2.1,hk.2.2],List.Perm.swap ..⟩
 |trans _ _ ih1 ih2=>
  obtain⟨l1,e1,p1⟩:=ih2 hk
  obtain⟨l2,e2,p2⟩:=ih1 e1.symm
  exact⟨l2,e2,p2.trans p1⟩
def aK (K:Frag)(H:Hp):List V->List Pr->Prop:=Paired λv p=>∃a,v=.ref a/\gk K H a [.int p.1,.int p.2]
def aK.grow {K:Frag}{vs:List V}{ps:List Pr}(h:aK K H vs ps)(g:gp H H'):aK K H' vs ps:=Paired.mapP h λv p ⟨a,e,q⟩=>⟨a,e,q.grow g⟩
theorem Paired.getP {α β:Type}{F:α->β->Prop}:∀{l:List α} {m:List β} {i:Nat} {x:α},Paired F l m->l[i]? =some x->∃y,m[i]? =some y/\F x y
 |_,_,_,_,.nil,e=>by simp at e
 |_,_,0,_,.cons r _,e=>by simp at e;subst e;exact⟨_,rfl,r⟩
 |_,_,i + 1,x,.cons _ t,e=>by
  obtain⟨u,h1,h2⟩:=Paired.getP (i:=i) (x:=x) t (by simpa using e)
  exact⟨u,by simpa using h1,h2⟩
theorem Paired.getQ {α β:Type}{F:α->β->Prop}:∀{l:List α} {m:List β} {i:Nat} {y:β},Paired F l m->m[i]? =some y->∃x,l[i]? =some x/\F x y
 |_,_,_,_,.nil,e=>by simp at e
 |_,_,0,_,.cons r _,e=>by simp at e;subst e;exact⟨_,rfl,r⟩
 |_,_,i + 1,x,.cons _ t,e=>by
  obtain⟨u,h1,h2⟩:=Paired.getQ (i:=i) (y:=x) t (by simpa using e)
  exact⟨u,by simpa using h1,h2⟩
theorem qX (I:Inv X pins σ H s){a:Addr}{p:Pr}(h:gk X.K H a [.int p.1,.int p.2]):L2.ST.bB X.prog X.w s.heap p a:=by
 obtain⟨its,r,⟨o,ho,hc,n,hd⟩,_⟩:=I.tuple h
 cases r with
 |cons r1 r=>
  cases r with
  |cons r2 r=>
   cases r
   obtain⟨t1,rfl⟩:=r1
   obtain⟨t2,rfl⟩:=r2
   exact⟨o,_,n,ho,hc,hd,.cons (intKind_is ..) (.cons (intKind_is ..) .nil)⟩
def pairs_at (I:Inv X pins σ H s){vs:List V}{us:List Value}{ps:List Pr}(hv:Vals vs us)(h:aK X.K H vs ps)(hs:∀p,p∈ps->Sm p):L2.ST.cB X.prog X.w s.heap us ps:=by
 refine⟨by rw[<-hv.length];exact Paired.length h,λi u p e1 e2=>?_⟩
 obtain⟨v,ev,a,rfl,q⟩:=Paired.getQ h e2
 obtain⟨u',eu,ru⟩:=hv.get ev
 rw[e1] at eu;cases eu
 cases ru
 exact⟨a,rfl,qX I q,hs p (Kj e2)⟩
theorem ng (I:Inv X pins σ H s){vs:List V}{us:List Value}{ps:List Pr}(hv:Vals vs us)(h:aK X.K H vs ps){h':Heap}(k:∀b o,s.heap.get? b=some o->h'.get? b=some o):∀{out:List Value} {qs:List Pr},
  (∀u,u∈out->u∈us)->L2.ST.cB X.prog X.w h' out qs->∃ws,Vals ws out/\aK X.K H ws qs
 | [],[],_,_=>⟨[],.nil,.nil⟩
 | [],_ :: _,_,hp=>by have:=hp.1;simp at this
 |_ :: _,[],_,hp=>by have:=hp.1;simp at this
 |u :: out,q :: qs,hm,hp=>by
  obtain⟨ws,a1,a2⟩:=ng I hv h k (out:=out) (qs:=qs) (λx hx=>hm x (J9 _ hx)) ⟨by have:=hp.1;simpa using this,λi v p e1 e2=>hp.2 (i + 1) v p (by simpa using e1) (by simpa using e2)⟩
  obtain⟨i,hi,e⟩:=KW.mp (hm u (Kd ..))
  have hi':i < vs.length:=by rw[hv.length];exact hi
  obtain⟨u',eu,ru⟩:=hv.get (J6 hi')
  rw[J6 hi,e] at eu
  cases eu
  obtain⟨p,ep,a,ea,qa⟩:=Paired.getP h (J6 hi')
  rw[ea] at ru
  cases ru
  obtain⟨b,eb,hb,_⟩:=hp.2 0 (.ref a) q rfl rfl
  cases eb
  have pa:L2.ST.bB X.prog X.w h' p a:=by
   obtain⟨o,it,n,ho,r⟩:=qX I qa
   exact⟨o,it,n,k _ _ ho,r⟩
  have:p=q:=L2.ST.bB.inj pa hb
  subst this
  exact⟨.ref a :: ws,.cons rfl a1,.cons ⟨a,rfl,qa⟩ a2⟩
def u7 (I:Inv X pins σ H s){vs:List V}{us:List Value}{ps:List Pr}(hv:Vals vs us)(hp:aK X.K H vs ps)(hlen:ps.length < 64){Q:VK}
  (q:∀l ws qs,H l=none->aK X.K H ws qs->OM.uf qs->(∀p,p∈qs↔p∈ps)->Q (.ref l) (upd H l (.lst ws)))
  {h1 h':Heap} {tk:Nat} {D:Addr} {out:List Value} {qs:List Pr} {c:Nat} (k1:∀b o,s.heap.get? b=some o->h1.get? b=some o) (eD:D=h1.objs.size) (k2:∀b o,h1.get? b=some o->h'.get? b=some o)
  (ho:h'.get? D=some (seqObj "list" out.toArray c)) (hpq:L2.ST.cB X.prog X.w h' out qs) (hm:∀u,u∈out->u∈us) (hr:OM.uf qs) (hmem:∀p,p∈qs↔p∈ps):EP X pins σ Q (.ref D) {s with heap:=h',toks:=tk}:=by
 obtain⟨ws,r1,r2⟩:=ng I hv hp (λb o e=>k2 b o (k1 b o e)) hm hpq
 have I1:Inv X pins σ H {s with heap:=h1,toks:=tk}:=I.kept k1
 have hf:H D=none:=by rw[eD];exact I1.hok.fresh (Kg _)
 have hz:ws.length<=sizeLine:=by
  have e1:=r1.length
  have e2:out.length=qs.length:=hpq.1
  have e3:=OM.nh (OM.ij hr) λx hx=>(hmem x).mp hx
  rw[KH];omega
 have I2:Inv X pins σ (upd H D (.lst ws)) {s with heap:=h',toks:=tk}:=I1.laid (t':=tk) k2 (by rw[eD];exact Kg _) (show bA X.prog X.w _ h' _ (.lst ws) from⟨hz,out,c,r1,ho⟩)
 exact⟨.ref D,_,I2,rfl,q D ws qs hf r2 hr hmem⟩
abbrev vq (qs:List (Addr×Pr)):List V:=qs.map λq=>V.ref q.1
abbrev pq (qs:List (Addr×Pr)):List Pr:=qs.map (·.2)
def DQ (prog:Program)(w:World)(S:Addr)(qs:List (Addr×Pr))(h:Heap):Prop:=∃o ep t,h.get? S=some o/\o.ExactSet/\o.data=.set (qs.map λq=>(L2.ST.zf prog w q.2,Value.ref q.1)).toArray ep t/\L2.ST.Tab t (qs.map λq=>L2.ST.zf prog w q.2)/\t.led=L2.ST.dz w
def yB (prog:Program)(w:World)(S:Addr)(qs:List (Addr×Pr)):HO:=.ext (DQ prog w S qs)
def Hb (P:Program)(w:World)(K:Frag):List V->Hp->VK->Prop:=λxs H Q=>∃a vs ps,xs= [.ref a]/\(fQ K H a vs\/gk K H a vs)/\aK K H vs ps/\(∀p,p∈ps->Sm p)/\
 ∀S qs,H S=none->aK K H (vq qs) (pq qs)->(pq qs).Nodup->(∀p,p∈pq qs↔p∈ps)->Q (.ref S) (upd H S (yB P w S qs))
def Am (hc:X.calm=true)(hu:X.A.units + 64 < cLine):b6 X (.type "set") (Hb X.prog X.w X.K):=by
 intro pins s σ H xs us Q I r h
 obtain⟨a,vs,ps,rfl,hq,hp,hs,q⟩:=h
 obtain⟨u,rfl,rx⟩:=vals1 r
 cases rx
 have hh:=I.ok.hd hc
 have core:∀{its:List Value} {T:String} {itO:Obj} {St:Addr->Nat->Heap->Prop},Vals vs its->L2.ST.Src X.prog X.w s.heap a its T itO St->wpAny (model X.prog X.w) X.A (call (.type "set") [.ref a]) (EP X pins σ Q) X.xe s:=λ{its T itO St} rv src=>by
  refine L2.ST.nY src hh hu (pairs_at I rv hp hs) λh' tk F k=>?_
  obtain⟨qs,P1,P2,P3⟩:=F
  have hlen:its.length=vs.length:=rv.length.symm
  have back:∀qv:Addr×Pr,qv∈qs->∃b,b=qv.1/\gk X.K H b [.int qv.2.1,.int qv.2.2]:=λqv hqv=>by
   obtain⟨i,hi,e⟩:=KW.mp (LQ (P2 qv hqv).1)
   have hi':i < vs.length:=by rw[<-hlen];exact hi
   obtain⟨u',eu,ru⟩:=rv.get (J6 hi')
   rw[J6 hi,e] at eu
   cases eu
   obtain⟨p,ep,b,eb,qb⟩:=Paired.getP hp (J6 hi')
   rw[eb] at ru
   cases ru
   have pa:L2.ST.bB X.prog X.w h' p qv.1:=by
    obtain⟨o,it,n,ho,r⟩:=qX I qb
    exact⟨o,it,n,k _ _ ho,r⟩
   have:p=qv.2:=L2.ST.bB.inj pa (P1.at' qv hqv).1
   subst this
   exact⟨_,rfl,qb⟩
  have hpv:∀{l:List (Addr×Pr)},(∀x,x∈l->x∈qs)->aK X.K H (vq l) (pq l):=λ{l}=>by
   induction l with
   |nil=>intro _;exact .nil
   |cons y l ih=>
    intro hl
    obtain⟨b,eb,qb⟩:=back y (hl y (Kd ..))
    subst eb
    exact .cons ⟨_,rfl,qb⟩ (ih λx hx=>hl x (J9 _ hx))
  have hmem:∀p,p∈pq qs↔p∈ps:=λp=>by
   have hpl:ps.length=its.length:=by rw[hlen];exact (Paired.length hp).symm
   constructor
   ·intro hx
    obtain⟨qv,hqv,rfl⟩:=Kn.mp hx
    exact LQ (P2 qv hqv).2
   ·intro hx
    exact P3 p (by rw[<-hpl,Lv (Kg _)];exact hx)
  have hf:H s.heap.objs.size=none:=I.hok.fresh (Kg _)
  obtain⟨o,ep,t,ho,r1⟩:=P1.ex
  have new:bA X.prog X.w (upd H s.heap.objs.size (yB X.prog X.w s.heap.objs.size qs)) h' s.heap.objs.size (yB X.prog X.w s.heap.objs.size qs):=
   ⟨⟨o,ep,t,ho,r1⟩,⟨o,ho⟩,λh1 h2 ⟨o1,ep1,t1,g1,g2⟩ kk=>⟨o1,ep1,t1,kk _ g1,g2⟩⟩
  exact⟨.ref _,_,I.laid (t':=tk) k (Kg _) new,rfl,q _ qs hf (hpv λx hx=>hx) P1.nd hmem⟩
 rcases hq with hq |hq
 ·obtain⟨its,rv,pl,hz⟩:=I.list hq
  exact core rv (L2.ST.Src.list pl.isList)
 ·obtain⟨its,rv,pl,hz⟩:=I.tuple hq
  exact core rv (L2.ST.Src.tuple pl)
def uk (P:Program)(w:World)(K:Frag):List V->Hp->VK->Prop:=λxs H Q=>∃S qs,xs= [.ref S]/\H S=some (yB P w S qs)/\aK K H (vq qs) (pq qs)/\(∀p,p∈pq qs->Sm p)/\(pq qs).Nodup/\qs.length < 64/\
 ∀l ws rs,H l=none->aK K H ws rs->OM.uf rs->(∀p,p∈rs↔p∈pq qs)->Q (.ref l) (upd H l (.lst ws))
def qS (hc:X.calm=true):b6 X (.builtin "sorted") (uk X.prog X.w X.K):=by
 intro pins s σ H xs us Q I r h
 obtain⟨S,qs,rfl,hS,hp,hs,nd,hl,q⟩:=h
 obtain⟨u,rfl,rx⟩:=vals1 r
 cases rx
 have hh:=I.ok.hd hc
 obtain⟨⟨o,ep,t,ho,hex,hd,T,hled⟩,_,_⟩:DQ X.prog X.w S qs s.heap/\_:=I.hok S _ hS
 have T':L2.ST.Tab t ((qs.map λq=>(L2.ST.zf X.prog X.w q.2,Value.ref q.1)).toArray.toList.map (·.1)):=by
  rw[Lm,map_map];exact T
 have htp:=L2.ST.lx X.w S ep (qs.map λq=>(L2.ST.zf X.prog X.w q.2,Value.ref q.1)).toArray
 have hmem:∀x,x∈(L2.ST.told X.w S ep (qs.map λq=>(L2.ST.zf X.prog X.w q.2,Value.ref q.1)).toArray).toList->∃q,q∈qs/\x=(L2.ST.zf X.prog X.w q.2,Value.ref q.1):=λx hx=>by
  have:=htp.mem_iff.mp hx
  simp only[Lm] at this
  obtain⟨q,hq,e⟩:=Kn.mp this
  exact⟨q,hq,e.symm⟩
 obtain⟨q2,e2,p2⟩:∃q2:List (Addr×Pr),(L2.ST.told X.w S ep (qs.map λq=>(L2.ST.zf X.prog X.w q.2,Value.ref q.1)).toArray).toList=q2.map (λq=>(L2.ST.zf X.prog X.w q.2,Value.ref q.1))/\q2.Perm qs:=by
  have:=htp
  simp only[Lm] at this
  exact oX this
 have hp2:aK X.K H (vq q2) (pq q2):=by
  have key:∀{l:List (Addr×Pr)},(∀x,x∈l->x∈qs)->aK X.K H (vq l) (pq l):=λ{l}=>by
   induction l with
   |nil=>intro _;exact .nil
   |cons y l ih=>
    intro hl
    obtain⟨i,hi,e⟩:=KW.mp (hl y (Kd ..))
    obtain⟨p,ep',a,ea,qa⟩:=Paired.getP (l:=vq qs) (m:=pq qs) (i:=i) (x:=.ref y.1) hp (by simp[hi,e])
    have:p=y.2:=by simp[hi,e] at ep';exact ep'.symm
    subst this
    exact .cons ⟨a,ea,qa⟩ (ih λx hx=>hl x (J9 _ hx))
  exact key λx hx=>p2.mem_iff.mp hx
 have hv2:Vals (vq q2) (q2.map λq=>Value.ref q.1):=by
  induction q2 with
  |nil=>exact .nil
  |cons y l ih=>exact .cons rfl (by
    clear ih e2 p2 hp2
    induction l with
    |nil=>exact .nil
    |cons z l ih2=>exact .cons rfl ih2)
 have hm2:∀p,p∈pq q2↔p∈pq qs:=λp=>(p2.map (·.2)).mem_iff
 have hpa:=pairs_at I hv2 hp2 λp hpp=>hs p ((hm2 p).mp hpp)
 have hl2:q2.length < 64:=by rw[p2.length_eq];exact hl
 refine L2.ST.yu (v:=.ref S) hpa ((p2.map (·.2)).nodup_iff.mpr nd) (by simpa using hl2) (λQ' hQ'=>L2.ST.me (by simpa using hh) ho hd hex.1 T' hled (by simp;omega) λh' tk vs ev k=>?_) λh1 h' tk D out qs' c k1 eD k2 ho' hpq hm hr hmem'=>?_
 ·rw[ev,e2]
  rw[map_map]
  exact hQ' h' tk k
 ·exact u7 I hv2 hp2 (by simpa using hl2) (λl ws rs a1 a2 a3 a4=>q l ws rs a1 a2 a3 λp=>(a4 p).trans (hm2 p)) k1 eD k2 ho' hpq hm hr hmem'
end
def lz (cells:List (Str×Addr)):List (Str×NameKind)->List (Str×Addr)->List (Str×Addr)
 | [],cs=>cs
 | (n,k) :: r,cs=>lz cells r (if k == .free then (n,(cells.lookup n).getD 0) :: cs else cs)
def nA {scope:Scope}{env:Env}(h:∀y∈scope.names,y.2=.free->∃c,env.cells.lookup y.1=some c):closureFor scope env=pure (lz env.cells scope.names []):=by
 unfold closureFor
 have key:∀(l:List (Str×NameKind)) (cs:List (Str×Addr)),(∀y∈l,y.2=.free->∃c,env.cells.lookup y.1=some c)->
   (forIn l cs (λ(x:Str×NameKind) (r:List (Str×Addr))=>if (x.2 == NameKind.free)=true then (do let a <-cellOf env x.1;pure (ForInStep.yield ((x.1,a) :: r)):Sem _) else pure (ForInStep.yield r)):Sem (List (Str×Addr)))=pure (lz env.cells l cs):=by
  intro l
  induction l with
  |nil=>intro cs _;rfl
  |cons y l ih=>
   intro cs hy
   obtain⟨n,k⟩:=y
   rw[List.forIn_cons]
   unfold lz
   by_cases hk:(k == NameKind.free)=true
   ·have hk':k=.free:=by simpa using hk
    obtain⟨c,hc⟩:=hy (n,k) (Kd ..) hk'
    have hce:cellOf env n=pure c:=by unfold cellOf;rw[hc]
    simp only[hk,Lg]
    have hc':env.cells.lookup n=some c:=hc
    rw[hce,hc']
    simp only[pure_bind,Option.getD_some]
    exact ih _ λz hz=>hy z (J9 _ hz)
   ·simp only[hk,KZ,Kx]
    simp only[pure_bind]
    exact ih _ λz hz=>hy z (J9 _ hz)
 have:=key scope.names [] h
 simp only[bind_pure_comp] at this ⊢
 first
  |exact this
  | (rw[this];rfl)
  | (simpa using this)
theorem lF {cells:List (Str×Addr)}{x:Str}:∀{l:List (Str×NameKind)} {cs:List (Str×Addr)},((x,NameKind.free)∈l\/cs.lookup x=some ((cells.lookup x).getD 0))->(lz cells l cs).lookup x=some ((cells.lookup x).getD 0)
 | [],cs,h=>by
  rcases h with h |h
  ·cases h
  ·exact h
 | (n,k) :: r,cs,h=>by
  unfold lz
  refine lF ?_
  by_cases hk:(k == NameKind.free)=true
  ·rw[Kf hk]
   by_cases hx:x=n
   ·subst hx;right;simp
   ·rcases h with h |h
    ·rcases Ke.mp h with e |e
     ·injection e with e1 _;exact absurd e1 hx
     ·exact .inl e
    ·right
     rw[ML,show (x == n)=false by simpa using hx]
     exact h
  ·rw[Ki hk]
   rcases h with h |h
   ·rcases Ke.mp h with e |e
    ·injection e with _ e2;exact absurd (by rw[<-e2];rfl) hk
    ·exact .inl e
   ·exact .inr h
theorem lJ {cells:List (Str×Addr)}{x:Str}{c:Addr}:∀{l:List (Str×NameKind)} {cs:List (Str×Addr)},(lz cells l cs).lookup x=some c->((x,NameKind.free)∈l/\c=(cells.lookup x).getD 0)\/cs.lookup x=some c
 | [],cs,h=>.inr h
 | (n,k) :: r,cs,h=>by
  unfold lz at h
  rcases lJ h with⟨a,b⟩ |a
  ·exact .inl ⟨J9 _ a,b⟩
  ·by_cases hk:(k == NameKind.free)=true
   ·rw[Kf hk,ML] at a
    by_cases hx:x=n
    ·subst hx
     simp at a
     have:k=.free:=by simpa using hk
     subst this
     exact .inl ⟨Kd ..,a.symm⟩
    ·rw[show (x == n)=false by simpa using hx] at a
     exact .inr a
   ·rw[Ki hk] at a
    exact .inr a
theorem mq {f:Str->NameKind->NameKind}{x:Str}:∀(l:List (Str×NameKind)),(l.map λy=>(y.1,f y.1 y.2)).lookup x=(l.lookup x).map (f x)
 | []=>rfl
 | (n,k) :: l=>by
  rw[K2,ML,ML]
  by_cases hx:x=n
  ·subst hx;simp
  ·have hb:(x == n)=false:=by simpa using hx
   simp only[hb]
   exact mq l
def nH (scope:Scope)(env:Env)(x:Str):(relabel scope env).names.lookup x=(scope.names.lookup x).map λk=>if (k == .free && env.scope.kind == .function && env.kindOf x == some .cell) then .cell else k:=by
 have e:(relabel scope env).names=scope.names.map λy=>(y.1,if (y.2 == .free && env.scope.kind == .function && env.kindOf y.1 == some .cell) then .cell else y.2):=by
  unfold relabel
  dsimp only
  refine LM λy _=>?_
  obtain⟨n,k⟩:=y
  dsimp only
  split <;> rfl
 rw[e]
 exact mq (f:=λn k=>if (k == .free && env.scope.kind == .function && env.kindOf n == some .cell) then .cell else k) scope.names
def gx (X:Cx)(NB:List Str)(scope:Scope)(C:Addr)(ex:List Addr)(s3:Shared)(H3:Hp)(pn:List (Addr×Obj)):Cx:=
 {X with N:=NB,s₀:=s3,H₀:=H3,env:=compEnvC scope (lz X.env.cells scope.names []) C X.env,outer:=X.stack,ex:=ex,fn:=λ_=>false,pn:=pn,xe:=λ_ _=>False}
def pL (own:Nat)(ixs:List Nat)(σ:St):St:=List.replicate own none ++ ixs.map λi=>(σ[i]?).join
structure cE (X:Cx)(NB:List Str)(own:Nat)(ixs:List Nat)(scope:Scope):Prop where
 kind:scope.kind=.function
 nocell:∀y∈scope.names,y.2≠.cell
 names:∀y∈scope.names,scope.names.lookup y.1=some y.2
 frees:∀y∈scope.names,y.2=.free->X.env.kindOf y.1=some .cell\/X.env.kindOf y.1=some .free
 nd:NB.Nodup
 len:NB.length=own + ixs.length
 at':∀k,k < ixs.length->NB[own + k]? =X.N[ixs.getD k 0]?/\∀x,NB[own + k]? =some x->(x,NameKind.free)∈scope.names
section
variable {X:Cx}{NB:List Str}{own:Nat}{ixs:List Nat}{scope:Scope}{pins:List (Addr×Obj)}{σ:St}{H:Hp}{s:Shared}
def yO (S:cE X NB own ixs scope)(I:Inv X pins σ H s){fp:List Addr}(hfp:∀b∈fp,oP X pins H b)(hob:∀b∈fp,∃o,s.heap.get? b=some o){h1:Heap}{tk:Nat}
  (hn:h1.Ns s.heap.objs.size (λ_=>none)) (hk:∀b o,s.heap.get? b=some o->h1.get? b=some o) :
  Inv (gx X NB scope s.heap.objs.size fp s H (X.pn ++ pins)) [] (pL own ixs σ) H {s with heap:=h1,toks:=tk}:=by
 have stk:=I.stack
 have frees:∀{x:Str},(x,NameKind.free)∈scope.names->∃c,X.env.cells.lookup x=some c:=λ{x} hx=>I.ok.has x (S.frees _ hx rfl)
 have clE:∀{x:Str} {c:Addr},(lz X.env.cells scope.names []).lookup x=some c->(x,NameKind.free)∈scope.names/\X.env.cells.lookup x=some c:=λ{x c} h=>by
  rcases lJ h with⟨a,b⟩ |a
  ·obtain⟨c',e⟩:=frees a
   rw[e] at b
   exact⟨a,by rw[e,b];rfl⟩
  ·simp at a
 have kindB:∀x,(gx X NB scope s.heap.objs.size fp s H (X.pn ++ pins)).env.kindOf x=(scope.names.lookup x).map λk=>if (k == .free && X.env.scope.kind == .function && X.env.kindOf x == some .cell) then .cell else k:=λx=>nH scope X.env x
 have isFree:∀{x:Str},((gx X NB scope s.heap.objs.size fp s H (X.pn ++ pins)).env.kindOf x=some .cell\/(gx X NB scope s.heap.objs.size fp s H (X.pn ++ pins)).env.kindOf x=some .free)->(x,NameKind.free)∈scope.names:=λ{x} h=>by
  rw[kindB] at h
  cases e:scope.names.lookup x with
  |none=>rw[e] at h;simp at h
  |some k=>
   have hm:=LY e
   cases k with
   |free=>exact hm
   |cell=>exact absurd rfl (S.nocell _ hm)
   |_=>rw[e] at h;simp at h
 have neN:∀b o,s.heap.get? b=some o->b≠s.heap.objs.size:=λb o e=>KN (Kl e)
 have cellN:∀{x:Str} {c:Addr},X.env.cells.lookup x=some c->c < s.heap.objs.size:=λ{x c} e=>by
  obtain⟨v,o,ho,_⟩:=I.cell x c e
  exact Kl ho
 have ok:(gx X NB scope s.heap.objs.size fp s H (X.pn ++ pins)).Ok:=by
  refine⟨I.ok.mod,S.kind,I.ok.glob,I.ok.blt,Kg _,λx y c h1 h2=>I.ok.inj x y c (clE h1).2 (clE h2).2,λx hx=>?_,λx c h=>(by cases h),I.ok.hd,I.ok.frames,.inl rfl,λb hb=>?_,I.bs,Lf I.ok.bsz I.sz,λb o e hb=>?_,λb hb hs=>?_,stk,I.stkFree⟩
  ·have hm:=isFree hx
   exact⟨_,lF (.inl hm)⟩
  ·obtain⟨_,f1,f2,f3,f4,f5⟩:=hfp b hb
   refine⟨?_,λx c h z=>f4 x c (clE h).2 z⟩
   obtain⟨o,ho⟩:=hob b hb
   exact neN b o ho
  ·obtain⟨_,f1,f2,f3,f4,f5⟩:=hfp b hb
   rcases f3 with f3 |f3
   ·exact I.ok.noex b o e f3
   ·exact absurd (KL (Kl e) (Lf I.ok.bsz f3)) (KU _)
  ·obtain⟨_,f1,f2,f3,f4,f5⟩:=hfp b hb
   rcases Ke.mp (I.stkSub b hs) with z |z
   ·exact f1 z
   ·exact f2 z
 refine⟨ok,rfl,I.bare,Un.kept hk,⟨_,hn,λi x v h1' h2' h3'=>?_⟩,λx c h=>?_,I.hok.fresh (Kg _),λx c h=>I.freeC x c (clE h).2,λp hp=>?_,I.hok.kept hk,?_⟩
 ·
  have h1':NB[i]? =some x:=h1'
  have hown:own<=i:=by
   refine Classical.byContradiction λhc=>?_
   have hlt:i < own:=Nat.lt_of_not_le hc
   unfold pL at h2'
   rw[KQ (by simpa using hlt),LI,Kf hlt] at h2'
   cases h2'
  obtain⟨k,rfl⟩:∃k,i=own + k:=⟨i - own,by omega⟩
  have hk':k < ixs.length:=by
   have:=(Ks.mp h1').1
   rw[S.len] at this;omega
  obtain⟨e1,e2⟩:=S.at' k hk'
  have hm:=e2 x h1'
  unfold pL at h2'
  rw[KO (by simp),L6,Nat.add_sub_cancel_left,Kk,J6 hk'] at h2'
  simp only[Option.map_some,Option.some.injEq] at h2'
  have hix:ixs.getD k 0=ixs[k]:=by simp[hk']
  have hσ:σ[ixs[k]]? =some (some v):=by
   cases e:σ[ixs[k]]? with
   |none=>rw[e] at h2';cases h2'
   |some o=>rw[e] at h2';simp at h2';rw[h2']
  rw[e1,hix] at h1'
  have hkind:=S.frees _ hm rfl
  have hvis:qP X.env.scope x:=hkind.elim (λz=>.inr (.inl z)) (λz=>.inr (.inr z))
  obtain⟨m,hm',hl⟩:=I.loc
  obtain⟨u,r,look⟩:=hl _ x v h1' hσ hvis
  refine⟨u,r,.inr ⟨?_,?_⟩⟩
  ·rw[kindB]
   have hfr:scope.names.lookup x=some .free:=S.names _ hm
   rw[hfr]
   simp only[Option.map_some]
   split
   ·exact .inl rfl
   ·exact .inr rfl
  ·rcases look with⟨z,_⟩ | ⟨_,c,hc,hcell⟩
   ·rcases hkind with q |q
    ·rw[q] at z;cases z
    ·rw[q] at z;cases z
   ·refine⟨c,?_,?_⟩
    ·have:=lF (cells:=X.env.cells) (cs:=[]) (.inl hm)
     rw[hc] at this
     exact this
    ·obtain⟨o,ho,hd⟩:=hcell
     exact⟨o,hk _ _ ho,hd⟩
 ·obtain⟨v,o,ho,hd⟩:=I.cell x c (clE h).2
  exact⟨v,o,hk _ _ ho,hd⟩
 ·have hp':p∈X.pn ++ pins:=by
   rcases KA.mp hp with z |z
   ·exact z
   ·cases z
  obtain⟨e,n,ne,nf,d⟩:=I.pin p hp'
  refine⟨hk _ _ e,n,neN _ _ e,λz=>?_,d⟩
  rcases Ke.mp (I.stkSub _ z) with q |q
  ·exact ne q
  ·exact nf q
 ·show (pL own ixs σ).length=NB.length
  unfold pL
  rw[S.len];simp
end
abbrev xj (ifs:List Expr)(env:Env):Sem Bool:=forIn ifs true λc r=>if r=true then do let ok <-isTrue c env (eval c env);pure (ForInStep.yield ok) else pure (ForInStep.yield r)
theorem xU {prog:Program}{w:World}{A:Around}{R:Result->Shared->Prop}{s:Shared}{elt target iter:Expr}{ifs:List Expr}{scope:Scope}{pos:Pos}{it acc:Value}{env:Env}(I:Nat->Shared->Prop)
  (turn:∀n s,I n s->wpAny (model prog w) A (pyNext it) (λr s1=>match r with
   |none=>R (.ok .next) s1
   |some v=>wpAny (model prog w) A (letOwnedTupleGo target it v) (λ_ s1'=>wpAny (model prog w) A (assign target env v) (λ_ s2=>
     wpAny (model prog w) A (xj ifs env) (λok s3=>
      if ok=true then wpAny (model prog w) A (eval elt env) (λx s4=>wpAny (model prog w) A (call (.builtin "list.append") [acc,x]) (λ_ s5=>∃m,m < n/\I m s5) (λ_ _=>False) s4) (λ_ _=>False) s3
      else ∃m,m < n/\I m s3) (λ_ _=>False) s2) (λ_ _=>False) s1') (λ_ _=>False) s1) (λ_ _=>False) s)
  (n:Nat) (h:I n s):codeAny (model prog w) A (.compLoop (.ListComp elt [⟨target,iter,ifs,0⟩] scope pos) 0 it acc env) R s:=by
 refine codeAny_loop rfl I (λn s hI=>?_) n h
 (show wpAny _ A ((compTurn (.ListComp elt [⟨target,iter,ifs,0⟩] scope pos) 0 it acc env).onRaise (λx=>do (noteFrame x env);theTreesLotGoes x)) _ _ s)
 refine wpAny_noted ?_
 rw[compTurn_list]
 refine J8 (wpAny_standAt (J8 (LN (turn n s hI) (λr s1 h1=>?_) λ_ _ z=>z.elim)))
 cases r with
 |none=>exact Kc h1
 |some v=>
  refine J8 (LN h1 (λ_ s1' h1'=>?_) λ_ _ z=>z.elim)
  refine J8 (LN h1' (λ_ s2 h2=>J8 (LN h2 (λok s3 h3=>?_) λ_ _ z=>z.elim)) λ_ _ z=>z.elim)
  cases ok with
  |false=>exact Kc ⟨rfl,h3⟩
  |true=>exact J8 (J8 (LN h3 (λx s4 h4=>J8 (LN h4 (λ_ s5 h5=>Kc (Kc ⟨rfl,h5⟩)) λ_ _ z=>z.elim)) λ_ _ z=>z.elim))
def Be (X:Cx)(ifs:List Expr)(t:TT):Prop:=
 ∀(pins:List (Addr×Obj)) (s:Shared) (σ:St) (H:Hp) (Q:Bool->Hp->Prop),Inv X pins σ H s->t σ H Q->wpAny (model X.prog X.w) X.A (xj ifs X.env) (TP X pins σ Q) X.xe s
def Ew:TT:=λ_ H Q=>Q true H
def qZ {X:Cx}:Be X [] Ew:=λpins s σ H Q I h=>Kc ⟨H,I,h⟩
def vX {X:Cx}{c:Expr}{t:TT}(h:PT X c t):Be X [c] t:=λpins s σ H Q I q=>wpAny_tests_one (h pins s σ H Q I q)
def qB (own:Nat)(ixs:List Nat)(wi:TI)(g:TG)(tt:TT)(te:TE)(σ:St)(H:Hp)(Q:VK):Prop:=wi σ H λJ H1=>∀D,H1 D=none->∃W:Nat->Nat->St->Hp->Prop,(∃m,W 0 m (pL own ixs σ) (upd H1 D (.lst [])))/\∀i m σ' H',W i m σ' H'->
 (J.stop i H'/\(∃acc,H' D=some (.lst acc))/\Q (.ref D) H')\/
 (J.go i H'/\∃N:St->Hp->Prop,(∀σ2 H2,N σ2 H2->∃m',m' < m/\W (i + 1) m' σ2 H2)/\∀x H2,J.yld i H' x H2->g x σ' H2 λσ3 H3=>tt σ3 H3 λb H4=>
  if b=true then te σ3 H4 λv H5=>∃acc,H5 D=some (.lst acc)/\acc.length < sizeLine/\N σ3 (upd H5 D (.lst (acc ++ [v]))) else N σ3 H4)
section
variable {X:Cx}{NB:List Str}{own:Nat}{ixs:List Nat}{scope:Scope}{elt tg iter:Expr}{ifs:List Expr}{pos:Pos}{wi:TI}{g:TG}{tt:TT}{te:TE}
def pV (hc:X.calm=true)(S:cE X NB own ixs scope)
  (hg:∀C ex s3 H3 pn,PG (gx X NB scope C ex s3 H3 pn) tg g) (ht:∀C ex s3 H3 pn,Be (gx X NB scope C ex s3 H3 pn) ifs tt) (he:∀C ex s3 H3 pn,PE (gx X NB scope C ex s3 H3 pn) elt te)
  {pins:List (Addr×Obj)} {σ:St} {H1:Hp} {s2:Shared} {it:Addr} {fp:List Addr} {tn:Nat->Heap->Prop} {J:It} {Q:VK} (I2:Inv X pins σ H1 s2) (T:Turn X.prog X.w X.K tg J fp it tn) (st2:tn 0 s2.heap) (f2:∀b∈fp,oP X pins H1 b)
  (hQ:∀D,H1 D=none->∃W:Nat->Nat->St->Hp->Prop,(∃m,W 0 m (pL own ixs σ) (upd H1 D (.lst [])))/\∀i m σ' H',W i m σ' H'->
   (J.stop i H'/\(∃acc,H' D=some (.lst acc))/\Q (.ref D) H')\/
   (J.go i H'/\∃N:St->Hp->Prop,(∀σ2 H2,N σ2 H2->∃m',m' < m/\W (i + 1) m' σ2 H2)/\∀x H2,J.yld i H' x H2->g x σ' H2 λσ3 H3=>tt σ3 H3 λb H4=>
    if b=true then te σ3 H4 λv H5=>∃acc,H5 D=some (.lst acc)/\acc.length < sizeLine/\N σ3 (upd H5 D (.lst (acc ++ [v]))) else N σ3 H4))
  {E:Value->Shared->Prop} {RR:Value->Addr->Result->Shared->Prop}
  (fin:∀D C H' s' m,Inv X pins σ H' s'->Q (.ref D) H'->s'.heap.Ns C m->H' C=none->C≠X.env.locals->(∀x c,X.env.cells.lookup x=some c->c≠C)->X.s₀.heap.objs.size<=C->(∀p∈X.pn ++ pins,p.1≠C)->RR (.ref D) C (.ok .next) s') :
  wpAny (model X.prog X.w) X.A (newList []) (λacc s3=>wpAny (model X.prog X.w) X.A (newFunctionEnv scope X.env.globals (lz X.env.cells scope.names []) [] X.env.qual none .none (some X.env)) (λcenv s4=>
   codeAny (model X.prog X.w) X.A (.compStart (.ListComp elt [⟨tg,iter,ifs,0⟩] scope pos) 0 (.ref it) acc {cenv with scope:=relabel scope X.env}) (RR acc cenv.locals) s4) E s3) E s2:=by
 refine wpAny_newList ?_ (KY _)
 have hD:H1 s2.heap.objs.size=none:=I2.hok.fresh (Kg _)
 obtain⟨W,⟨m0,w0⟩,turn⟩:=hQ s2.heap.objs.size hD
 generalize hs3:({s2 with heap:=s2.heap.push (seqObj "list" ([]:List Value).toArray 0)}:Shared)=s3
 have I3:Inv X pins σ (upd H1 s2.heap.objs.size (.lst [])) s3:=by
  rw[<-hs3]
  exact I2.lnew (ys:=[]) (its:=[]) (t':=s2.toks) .nil (KY _)
 have k3:∀b o,s2.heap.get? b=some o->s3.heap.get? b=some o:=λb o e=>by rw[<-hs3];exact Ka _ e
 have sz3:s3.heap.objs.size=s2.heap.objs.size + 1:=by rw[<-hs3];exact LH ..
 have ob2:∀b∈fp,∃o,s2.heap.get? b=some o:=λb hb=>let ⟨o,e,_⟩:=T.obj 0 _ st2 b hb;⟨o,e⟩
 have neD:∀b∈fp,b≠s2.heap.objs.size:=λb hb=>let ⟨o,e⟩:=ob2 b hb;KN (Kl e)
 have f3:∀b∈fp,oP X pins (upd H1 s2.heap.objs.size (.lst [])) b:=λb hb=>by
  obtain⟨a1,a2⟩:=f2 b hb
  exact⟨by rw[aq (neD b hb)];exact a1,a2⟩
 have st3:tn 0 s3.heap:=T.keep _ _ _ st2 λb _ o e=>k3 b o e
 refine wpAny_newFunctionEnv S.nocell (λy hy=>by simp at hy) (λh4 hn4 sb4=>?_) S.kind
 have k4:∀b o,s3.heap.get? b=some o->h4.get? b=some o:=λb o e=>sb4.extBut b o (KN (Kl e)) (Ka _ e)
 have I4:Inv (gx X NB scope s3.heap.objs.size fp s3 (upd H1 s2.heap.objs.size (.lst [])) (X.pn ++ pins)) [] (pL own ixs σ) (upd H1 s2.heap.objs.size (.lst [])) {s3 with heap:=h4,toks:=s3.toks + ([]:List (Str×Value)).length}:=
  yO S I3 f3 (λb hb=>let ⟨o,e⟩:=ob2 b hb;⟨o,k3 _ _ e⟩) (by simpa using hn4) k4
 have st4:tn 0 h4:=T.keep _ _ _ st3 λb _ o e=>k4 b o e
 generalize hB:gx X NB scope s3.heap.objs.size fp s3 (upd H1 s2.heap.objs.size (.lst [])) (X.pn ++ pins)=B at I4
 have hgB:PG B tg g:=by rw[<-hB];exact hg _ _ _ _ _
 have htB:Be B ifs tt:=by rw[<-hB];exact ht _ _ _ _ _
 have heB:PE B elt te:=by rw[<-hB];exact he _ _ _ _ _
 have eP:B.prog=X.prog:=by rw[<-hB];rfl
 have eW:B.w=X.w:=by rw[<-hB];rfl
 have eK:B.K=X.K:=by rw[<-hB];rfl
 have eA:B.A=X.A:=by rw[<-hB];rfl
 have eC:B.calm=true:=by rw[<-hB];exact hc
 have eX:B.xe=λ_ _=>False:=by rw[<-hB];rfl
 have eE:B.env=compEnvC scope (lz X.env.cells scope.names []) s3.heap.objs.size X.env:=by rw[<-hB];rfl
 have ex:B.ex=fp:=by rw[<-hB];rfl
 have eL:B.env.locals=s3.heap.objs.size:=by rw[eE];rfl
 have stat:∀{H':Hp},(∀b∈fp,H' b=none)->∀b∈fp,oP B [] H' b:=λ{H'} hn b hb=>by
  obtain⟨a1,a2,a3,a4,a5,a6⟩:=f3 b hb
  obtain⟨o,eo⟩:=ob2 b hb
  refine⟨hn b hb,?_,λz=>?_,.inl (by rw[ex];exact hb),λx c e z=>?_,λp hp z=>?_⟩
  ·rw[eL];exact KN (Kl (k3 _ _ eo))
  ·have hz:b∈g9 X.stack:=by rw[<-hB] at z;exact z
   rcases Ke.mp (I3.stkSub b hz) with q |q
   ·exact a2 q
   ·exact a3 q
  ·rw[eE] at e
   rcases lJ e with⟨m1,m2⟩ |m1
   ·obtain⟨c',e'⟩:=I3.ok.has x (S.frees _ m1 rfl)
    rw[e'] at m2
    exact a5 x c' e' (by rw[<-z,m2];rfl)
   ·simp at m1
  ·have hp':p∈X.pn ++ pins:=by
    rw[<-hB] at hp
    rcases KA.mp hp with q |q
    ·exact q
    ·cases q
   exact a6 p hp' z
 have back:∀{σ':St} {H':Hp} {s':Shared},Inv B [] σ' H' s'->Inv X pins σ H' s':=λ{σ' H' s'} J'=>by
  have u:=J'.base
  have os:=J'.os
  have bare:=J'.bare
  have hok:=J'.hok
  subst hB
  exact I3.call' (ch:=fp) os u hok bare λb hb=>by
   obtain⟨a1,a2,a3,a4,a5,a6⟩:=f3 b hb
   exact⟨a4,a2,a5,a6⟩
 have loop:∀s5:Shared,s5={s3 with heap:=h4,toks:=s3.toks + ([]:List (Str×Value)).length}->
   codeAny (model X.prog X.w) X.A (.compLoop (.ListComp elt [⟨tg,iter,ifs,0⟩] scope pos) 0 (.ref it) (.ref s2.heap.objs.size) (compEnvC scope (lz X.env.cells scope.names []) s3.heap.objs.size X.env)) (RR (.ref s2.heap.objs.size) s3.heap.objs.size) s5:=by
  rintro s5 rfl
  refine xU (λn s'=>∃i σ' H',Inv B [] σ' H' s'/\tn i s'.heap/\(∀b∈fp,H' b=none)/\W i n σ' H') ?_ m0 ⟨0,_,_,I4,st4,λb hb=>(f3 b hb).1,w0⟩
  rintro n s6 ⟨i,σ6,H6,I6,st6,fr6,w6⟩
  rcases turn i n σ6 H6 w6 with⟨stop,⟨acc,hacc⟩,qn⟩ | ⟨go,N,hN,step⟩
  ·have:=T.done B eP eW eK eC i [] s6 σ6 H6 (λ_ _=>False) I6 (stat fr6) st6 stop
   rw[eA] at this
   refine b7 this λr s7 ⟨hr,I7⟩=>?_
   subst hr
   obtain⟨m7,hn7,_⟩:=I7.loc
   rw[eL] at hn7
   have J7:=back I7
   refine fin _ _ H6 s7 m7 J7 qn hn7 (by rw[<-eL];exact I7.free) (λz=>?_) (λx c e z=>?_) ?_ λp hp z=>?_
   ·have:=I3.lt
    rw[<-z] at this
    exact KU _ this
   ·obtain⟨v,o,ho,_⟩:=I3.cell x c e
    exact absurd (Kl ho) (by rw[z];exact KU _)
   ·exact I3.sz
   ·have:=Kl (I3.pin p hp).1
    rw[z] at this
    exact KU _ this
  ·have hitem:=T.item B eP eW eK eC i [] s6 σ6 H6 (λ_ _=>False) I6 (stat fr6) st6 go
   rw[eA] at hitem
   refine b7 hitem λr s7 ⟨u,hr,h7⟩=>?_
   subst hr
   refine b7 h7 λ_ s8 ⟨x,H8,I8,r8,y8,st8,fr8⟩=>?_
   have I8':=I8.pinned (stat fr8) (T.obj _ _ st8)
   have ha:=hgB _ s8 σ6 H8 x u _ I8' r8 (step x H8 y8)
   rw[eP,eW,eA,eE,eX] at ha
   refine b7 ha λ_ s9 ⟨σ9,H9,I9,q9⟩=>?_
   have hb:=htB _ s9 σ9 H9 _ I9 q9
   rw[eP,eW,eA,eE,eX] at hb
   refine b7 hb λok s10 ⟨H10,I10,q10⟩=>?_
   have again:∀{σ7:St} {H7:Hp} {s7:Shared},Inv B ([] ++ oD fp s8.heap) σ7 H7 s7->N σ7 H7->∃m,m < n/\∃i σ' H',Inv B [] σ' H' s7/\tn i s7.heap/\(∀b∈fp,H' b=none)/\W i m σ' H':=λ{σ7 H7 s7} I7 n7=>by
    obtain⟨m',hm,w7⟩:=hN σ7 H7 n7
    refine⟨m',hm,i + 1,σ7,H7,I7.unpinned,T.keep _ _ _ st8 λb hb o e=>(I7.pin (b,o) (KR _ (KR _ (iC hb e)))).1,λb hb=>?_,w7⟩
    obtain⟨o,e,d⟩:=T.obj _ _ st8 b hb
    exact (I7.pin (b,o) (KR _ (KR _ (iC hb e)))).2.1
   cases ok with
   |false=>
    simp only[Kx,KZ] at q10 ⊢
    exact again I10 q10
   |true=>
    simp only[Lg] at q10 ⊢
    have hv:=heB _ s10 σ9 H10 _ I10 q10
    rw[eP,eW,eA,eE,eX] at hv
    refine b7 hv λy s11 ⟨v,H11,I11,r11,acc,hacc,hz,q11⟩=>?_
    have hap:=hJ (X:=B) _ s11 σ9 H11 (.ref s2.heap.objs.size) [v] (.ref s2.heap.objs.size) [y] (λz H'=>z=.non/\N σ9 H') I11 rfl (.cons r11 .nil) ⟨_,acc,v,rfl,rfl,hacc,hz,rfl,q11⟩
    rw[eP,eW,eA,eX] at hap
    exact b7 hap λ_ s12 ⟨_,H12,I12,_,_,q12⟩=>again I12 q12
 exact codeAny_compStart_list (loop _ rfl) (T.self X.A 0 _ _ _ st4 (loop _ rfl))
def tD (hc:X.calm=true)(S:cE X NB own ixs scope)(hi:PI X tg iter wi)
  (hg:∀C ex s3 H3 pn,PG (gx X NB scope C ex s3 H3 pn) tg g) (ht:∀C ex s3 H3 pn,Be (gx X NB scope C ex s3 H3 pn) ifs tt) (he:∀C ex s3 H3 pn,PE (gx X NB scope C ex s3 H3 pn) elt te)
  (hs:∀x,foldedSetIterable iter X.env x=pure x:=by intro _;rfl) :
  PE X (.ListComp elt [⟨tg,iter,ifs,0⟩] scope pos) (qB own ixs wi g tt te):=by
 intro pins s σ H Q I h
 rw[eval_ListComp]
 refine wpAny_comprehension_free (use:=none) rfl hs (nA λy hy e=>I.ok.has _ (S.frees y hy e)) S.kind (λy hy e=>by rw[S.names y hy,e]) ?_
 refine b7 (hi pins s σ H _ I h) λv s1 h1=>b7 h1 λitv s2 h2=>?_
 obtain⟨it,fp,tn,J,H2,e,I2,T,st2,f2,q2⟩:=h2
 subst e
 refine pV hc S hg ht he I2 T st2 f2 q2 (RR:=λacc C=>compPost (model X.prog X.w) X.A X.xe none (EP X pins σ Q) acc C) λD C H' s' m J' q hn hC n1 n2 n3 n4=>?_
 refine⟨m,hn,λh'' sb=>⟨.ref D,H',?_,rfl,q⟩⟩
 exact J'.turned (t':=s'.toks) (it:=C) (λb o hb e=>sb.extBut b o hb e) hC n1 (.inr n3) n2 n4
def zm {i:Nat}{y:Str}{py spos:Pos}(hc:X.calm=true)(S:cE X NB own ixs scope)(hi:PI X tg iter wi)
  (hg:∀C ex s3 H3 pn,PG (gx X NB scope C ex s3 H3 pn) tg g) (ht:∀C ex s3 H3 pn,Be (gx X NB scope C ex s3 H3 pn) ifs tt) (he:∀C ex s3 H3 pn,PE (gx X NB scope C ex s3 H3 pn) elt te)
  (hN:X.N.Nodup) (hy:X.N[i]? =some y) (hl:X.env.scope.names.lookup y=some .local)
  (hsw:swapsWith (.ListComp elt [⟨tg,iter,ifs,0⟩] scope pos) (some (.Name y py)) spos.line X.env=pure true)
  (hs:∀x,foldedSetIterable iter X.env x=pure x:=by intro _;rfl) :
  PS X (.Assign [.Name y py] (.ListComp elt [⟨tg,iter,ifs,0⟩] scope pos) spos) (λD σ H=>qB own ixs wi g tt te σ H λv H'=>D.nx (σ.set i (some v)) H'):=by
 intro pins s σ H D I h
 rw[exec_Assign_Name_used _ _ _ _ hsw]
 refine J8 (wpAny_standAt (J8 ?_))
 show wpAny _ X.A (comprehension (.ListComp elt [⟨tg,iter,ifs,0⟩] scope pos) scope X.env _ (newList []) false (eval iter X.env) (some (assign (.Name y py) X.env)) >>= λ_=>pure ()) _ _ s
 refine J8 (LN (wpAny_comprehension_free (use:=some (assign (.Name y py) X.env)) (Q:=λ_ s'=>SP X pins D .next s') rfl hs (nA λy hy e=>I.ok.has _ (S.frees y hy e)) S.kind (λy hy e=>by rw[S.names y hy,e]) ?_)
  (λ_ s' hq=>Kc (Kc hq)) λ_ _ e=>e)
 refine b7 (hi pins s σ H _ I h) λv s1 h1=>b7 h1 λitv s2 h2=>?_
 obtain⟨it,fp,tn,J,H2,e,I2,T,st2,f2,q2⟩:=h2
 subst e
 refine pV hc S hg ht he I2 T st2 f2 q2 (Q:=λv H'=>D.nx (σ.set i (some v)) H') (RR:=λacc C=>compPost (model X.prog X.w) X.A X.xe (some (assign (.Name y py) X.env)) (λ_ s'=>SP X pins D .next s') acc C) λD' C H' s' m J' q hn hC n1 n2 n3 n4=>?_
 show wpAny _ X.A (assign (.Name y py) X.env (.ref D')) _ _ s'
 refine wpAny_assign_Name (pE J' hN hy (.inl hl) (v:=.ref D') rfl (λs'' I'' ⟨a,sb,ha⟩=>?_) (.inr hl))
 have hCa:C≠a:=by
  rcases ha with z |z
  ·rw[z];exact n1
  ·exact (n2 _ _ z).symm
 refine⟨m,hn.sameBut sb hCa,λh3 sb3=>⟨_,H',?_,q⟩⟩
 exact I''.turned (t':=s''.toks) (it:=C) (λb o hb e=>sb3.extBut b o hb e) hC n1 (.inr n3) n2 n4
end
section
variable {own:Nat}{ixs:List Nat}{g:TG}{tt:TT}{te:TE}{σ:St}{H:Hp}{Q:VK}{K:Frag}{D a:Addr}{xs:List V}
abbrev dq (g:TG)(tt:TT)(te:TE)(D:Addr)(x:V)(σ:St)(H:Hp)(N:St->Hp->Prop):Prop:=g x σ H λσ3 H3=>tt σ3 H3 λb H4=>
  if b=true then te σ3 H4 λv H5=>∃acc,H5 D=some (.lst acc)/\acc.length < sizeLine/\N σ3 (upd H5 D (.lst (acc ++ [v]))) else N σ3 H4
def y6 (Pv:Nat->St->Hp->Prop)(h0:Pv 0 (pL own ixs σ) (upd H D (.lst [])))(hl:∀i σ H,i<=xs.length->Pv i σ H->fQ K H a xs)
  (hs:∀i x σ H,xs[i]? =some x->Pv i σ H->dq g tt te D x σ H (Pv (i + 1))) (hd:∀σ H,Pv xs.length σ H->(∃acc,H D=some (.lst acc))/\Q (.ref D) H) :
  ∃W:Nat->Nat->St->Hp->Prop,(∃m,W 0 m (pL own ixs σ) (upd H D (.lst [])))/\∀i m σ' H',W i m σ' H'->
   ((yS K a).stop i H'/\(∃acc,H' D=some (.lst acc))/\Q (.ref D) H')\/
   ((yS K a).go i H'/\∃N:St->Hp->Prop,(∀σ2 H2,N σ2 H2->∃m',m' < m/\W (i + 1) m' σ2 H2)/\∀x H2,(yS K a).yld i H' x H2->dq g tt te D x σ' H2 N):=by
 refine⟨λi m σ H=>m=xs.length - i/\i<=xs.length/\Pv i σ H,⟨xs.length,by simp,KY _,h0⟩,?_⟩
 rintro i m σ H ⟨rfl,hi,p⟩
 have q:=hl i σ H hi p
 by_cases hlt:i < xs.length
 ·refine .inr ⟨⟨xs,xs[i],q,by simp[hlt]⟩,Pv (i + 1),λσ' H' p'=>⟨xs.length - (i + 1),by omega,rfl,hlt,p'⟩,λx H' y=>?_⟩
  obtain⟨e,y⟩:=y
  subst e
  exact hs i x σ _ (y xs q) p
 ·have e:i=xs.length:=by omega
  subst e
  exact .inl ⟨⟨xs,q,Kg _⟩,hd σ H p⟩
def uY {lo:Int}{n:Nat}(Pv:Nat->St->Hp->Prop)(h0:Pv 0 (pL own ixs σ) (upd H D (.lst [])))
  (hs:∀i σ H,i < n->Pv i σ H->dq g tt te D (.int (lo + i)) σ H (Pv (i + 1))) (hd:∀σ H,Pv n σ H->(∃acc,H D=some (.lst acc))/\Q (.ref D) H) :
  ∃W:Nat->Nat->St->Hp->Prop,(∃m,W 0 m (pL own ixs σ) (upd H D (.lst [])))/\∀i m σ' H',W i m σ' H'->
   ((yv lo n).stop i H'/\(∃acc,H' D=some (.lst acc))/\Q (.ref D) H')\/
   ((yv lo n).go i H'/\∃N:St->Hp->Prop,(∀σ2 H2,N σ2 H2->∃m',m' < m/\W (i + 1) m' σ2 H2)/\∀x H2,(yv lo n).yld i H' x H2->dq g tt te D x σ' H2 N):=by
 refine⟨λi m σ H=>m=n - i/\i<=n/\Pv i σ H,⟨n,by simp,KY _,h0⟩,?_⟩
 rintro i m σ H ⟨rfl,hi,p⟩
 by_cases hlt:i < n
 ·refine .inr ⟨hlt,Pv (i + 1),λσ' H' p'=>⟨n - (i + 1),by omega,rfl,hlt,p'⟩,λx H' y=>?_⟩
  obtain⟨e,y⟩:=y
  subst e y
  exact hs i σ _ hlt p
 ·have e:i=n:=by omega
  subst e
  exact .inl ⟨Kg _,hd σ H p⟩
end
mutual
inductive Rep (K:Frag)(H:Hp):V->PyData->Prop
 |non:Rep K H .non .none
 |bl (b:Bool):Rep K H (.bl b) (.bool b)
 |int (i:Int):Rep K H (.int i) (.int i)
 |str (x:Str):Rep K H (.str x) (.str x)
 |tup {a:Addr} {xs:List V} {ds:List PyData}:gk K H a xs->jn K H xs ds->Rep K H (.ref a) (.tuple ds)
 |lst {a:Addr} {xs:List V} {ds:List PyData}:fQ K H a xs->jn K H xs ds->Rep K H (.ref a) (.list ds)
inductive jn (K:Frag)(H:Hp):List V->List PyData->Prop
 |nil:jn K H [] []
 |cons {x:V} {xs:List V} {d:PyData} {ds:List PyData}:Rep K H x d->jn K H xs ds->jn K H (x :: xs) (d :: ds)
end
section
variable {X:Cx}{pins:List (Addr×Obj)}{σ:St}{H H':Hp}{s:Shared}
mutual
theorem Rep.reads (I:Inv X pins σ H s):∀{x:V} {d:PyData} {u:Value},Rep X.K H x d->RelV x u->∃as,Reads s.heap u d as
 |_,_,_,.non,r=>by cases r;exact⟨_,.none⟩
 |_,_,_,.bl b,r=>by cases r;exact⟨_,.bool b⟩
 |_,_,_,.int i,r=>by obtain⟨t,rfl⟩:=r;exact⟨_,.int i t⟩
 |_,_,_,.str x,r=>by obtain⟨t,rfl⟩:=r;exact⟨_,.str x t⟩
 |_,_,_,.tup h hs,r=>by
  cases r
  obtain⟨its,rv,⟨o,ho,hc,n,hd⟩,_⟩:=I.tuple h
  obtain⟨as,q⟩:=jn.reads I hs rv
  exact⟨_,.tuple ho hc hd (by simpa using q)⟩
 |_,_,_,.lst h hs,r=>by
  cases r
  obtain⟨its,rv,pl,_⟩:=I.list h
  obtain⟨o,ho,hc,n,hd⟩:=pl.isList
  obtain⟨as,q⟩:=jn.reads I hs rv
  exact⟨_,.list ho hc hd (by simpa using q)⟩
theorem jn.reads (I:Inv X pins σ H s):∀{xs:List V} {ds:List PyData} {us:List Value},jn X.K H xs ds->Vals xs us->∃as,ReadsAll s.heap us ds as
 |_,_,_,.nil,r=>by cases r;exact⟨_,.nil⟩
 |_,_,_,.cons h hs,r=>by
  cases r with
  |cons r1 r2=>
   obtain⟨as,q⟩:=Rep.reads I h r1
   obtain⟨bs,q'⟩:=jn.reads I hs r2
   exact⟨_,.cons q q'⟩
end
def E7 (K:Frag)(neg:Bool):R2:=λx y H Q=>∃d e,Rep K H x d/\Rep K H y e/\SeqAt.shaped d=true/\SeqAt.shaped e=true/\Q (.bl (if neg then !PyData.eqv d e else PyData.eqv d e)) H
def fk (hu:X.A.units + 64 < cLine):lu X (compareOp .Eq) (E7 X.K false):=by
 intro pins s σ H x y v u Q I rx ry h
 obtain⟨d,e,h1,h2,s1,s2,q⟩:=h
 obtain⟨as,r1⟩:=h1.reads I rx
 obtain⟨bs,r2⟩:=h2.reads I ry
 exact SeqAt.compareEq_shaped r1 r2 s1 s2 hu ⟨.bl _,H,I,rfl,q⟩
def gQ (hu:X.A.units + 64 < cLine):lu X (compareOp .NotEq) (E7 X.K true):=by
 intro pins s σ H x y v u Q I rx ry h
 obtain⟨d,e,h1,h2,s1,s2,q⟩:=h
 obtain⟨as,r1⟩:=h1.reads I rx
 obtain⟨bs,r2⟩:=h2.reads I ry
 exact SeqAt.compareNe_shaped r1 r2 s1 s2 hu ⟨.bl _,H,I,rfl,q⟩
def GA (K:Frag)(neg:Bool):R2:=λx y H Q=>∃p xs d ds,y=.ref p/\(fQ K H p xs\/gk K H p xs)/\jn K H xs ds/\Rep K H x d/\SeqAt.shaped d=true/\(∀e,e∈ds->SeqAt.shaped e=true)/\
 Q (.bl (if neg then !(ds.any λe=>PyData.eqv e d) else ds.any λe=>PyData.eqv e d)) H
theorem jn.at' {K:Frag}:∀{xs:List V} {ds:List PyData} {i:Nat} {x:V},jn K H xs ds->xs[i]? =some x->∃d,ds[i]? =some d/\Rep K H x d
 |_,_,_,_,.nil,e=>by simp at e
 |_,_,0,_,.cons r _,e=>by simp at e;subst e;exact⟨_,rfl,r⟩
 |_,_,i + 1,x,.cons _ t,e=>by
  obtain⟨u,h1,h2⟩:=jn.at' (i:=i) (x:=x) t (by simpa using e)
  exact⟨u,by simpa using h1,h2⟩
open Classical in
theorem su (I:Inv X pins σ H s)(d:PyData):∀{xs:List V} {us:List Value} {ds:List PyData},Vals xs us->jn X.K H xs ds->(∀e,e∈ds->SeqAt.shaped e=true)->∃f:Value->Bool,us.any f=(ds.any λe=>PyData.eqv e d)/\∀u,u∈us->∃e as,e∈ds/\Reads s.heap u e as/\f u=PyData.eqv e d:=by
 intro xs us ds hv hr hs
 let f:Value->Bool:=λu=>if h:∃e as,SeqAt.shaped e=true/\Reads s.heap u e as then PyData.eqv (Classical.choose h) d else false
 have hf:∀{u:Value} {e:PyData} {as:List Addr},SeqAt.shaped e=true->Reads s.heap u e as->f u=PyData.eqv e d:=λ{u e as} h1 h2=>by
  have hx:∃e as,SeqAt.shaped e=true/\Reads s.heap u e as:=⟨e,as,h1,h2⟩
  show (if h:∃e as,SeqAt.shaped e=true/\Reads s.heap u e as then PyData.eqv (Classical.choose h) d else false)=_
  rw[dif_pos hx]
  obtain⟨bs,q1,q2⟩:=Classical.choose_spec hx
  rw[SeqAt.Reads.unique _ _ _ _ _ (MB q1) q2 h2]
 refine⟨f,?_,?_⟩
 ·induction hv generalizing ds with
  |nil=>cases hr;rfl
  | @cons x u xs us r1 r2 ih=>
   cases hr with
   | @cons _ _ e es h1 h2=>
    obtain⟨as,q⟩:=h1.reads I r1
    rw[Mv,Mv,hf (hs e (Kd ..)) q,ih h2 λz hz=>hs z (J9 _ hz)]
 ·intro u hu
  obtain⟨i,hi,e0⟩:=KW.mp hu
  have hi':i < xs.length:=by rw[hv.length];exact hi
  obtain⟨u',eu,ru⟩:=hv.get (J6 hi')
  rw[J6 hi,e0] at eu
  cases eu
  obtain⟨e,ee,re⟩:=jn.at' hr (J6 hi')
  obtain⟨as,q⟩:=re.reads I ru
  have hm:=Kj ee
  exact⟨e,as,hm,q,hf (hs e hm) q⟩
inductive BW (K:Frag)(H:Hp):V->String->Prop
 |non:BW K H .non "NoneType"
 |bl (b:Bool):BW K H (.bl b) "bool"
 |int (i:Int):BW K H (.int i) "int"
 |str (x:Str):BW K H (.str x) "str"
 |tup {a:Addr} {xs:List V}:gk K H a xs->BW K H (.ref a) "tuple"
 |lst {a:Addr} {xs:List V}:fQ K H a xs->BW K H (.ref a) "list"
 |dic {a:Addr} {kvs:List (Key×V)}:H a=some (.dK kvs)->BW K H (.ref a) "dict"
def IF (K:Frag):List V->Hp->VK->Prop:=λxs H Q=>∃x T t b,xs= [x,.ty T]/\BW K H x t/\PySem.W.kitOne K (.type t) (.type T)=some b/\Q (.bl b) H
theorem Aa:b6 X (.builtin "isinstance") (IF X.K):=by
 intro pins s σ H xs us Q I r h
 obtain⟨x,T,t,b,rfl,ty,e,q⟩:=h
 obtain⟨u,c,rfl,rx,rc⟩:=vals2 r
 cases rc
 have fin:∀tk,EP X pins σ Q (.bool b) {s with toks:=tk}:=λtk=>⟨.bl b,H,I.tok tk,rfl,q⟩
 cases ty with
 |non=>exact hV I rx .non e fin
 |bl b=>exact hV I rx (.bl b) e fin
 |int i=>exact hV I rx (.int i) e fin
 |str z=>exact hV I rx (.str z) e fin
 |dic hk=>exact hV I rx (.dK hk) e fin
 |tup hq=>
  cases rx
  obtain⟨its,rv,⟨o,h1,h2,_⟩,_⟩:=I.tuple hq
  exact K9 PySem.W.kitx_tuple I.kIn ⟨o,h1,h2⟩ e (λz=>nomatch z) fin
 |lst hq=>
  cases rx
  obtain⟨its,rv,pl,_⟩:=I.list hq
  obtain⟨o,h1,h2,_⟩:=pl.isList
  exact K9 PySem.W.kitx_list I.kIn ⟨o,h1,h2⟩ e (λz=>nomatch z) fin
def ug {A:Around}{its:List Value}{bs:List Bool}(hv:Vals (bs.map V.bl) its):TruthOf X.prog X.w A (λi v=>its[i]? =some v) (λi=>bs.getD i false):=λi v s Q E hi hq=>by
 have hl:=hv.length
 have hi2:i < bs.length:=by
  have:=(Ks.mp hi).1
  rw[<-hl] at this;simpa using this
 obtain⟨u,eu,ru⟩:=hv.get (i:=i) (x:=.bl bs[i]) (by simp[hi2])
 rw[hi] at eu;cases eu
 cases ru
 refine LK ?_
 have:bs.getD i false=bs[i]:=by simp[hi2]
 rw[<-this];exact hq
theorem range_all (bs:List Bool):(List.range bs.length).all (λi=>bs.getD i false)=bs.all id:=by
 induction bs with
 |nil=>rfl
 |cons b bs ih=>
  rw[KG,List.range_succ_eq_map,Mw,List.all_map,Mw,<-ih]
  rfl
theorem range_any (bs:List Bool):(List.range bs.length).any (λi=>bs.getD i false)=bs.any id:=by
 induction bs with
 |nil=>rfl
 |cons b bs ih=>
  rw[KG,List.range_succ_eq_map,Mv,List.any_map,Mv,<-ih]
  rfl
def uN (K:Frag)(f:List Bool->Bool):List V->Hp->VK->Prop:=λxs H Q=>∃a bs,xs= [.ref a]/\fQ K H a (bs.map V.bl)/\Q (.bl (f bs)) H
def oh (hc:X.calm=true){a:Addr}{bs:List Bool}{Q:VK}(I:Inv X pins σ H s)(hq:fQ X.K H a (bs.map V.bl)){f:List Bool->Bool}{g:(Nat->Bool)->Nat->Bool}(hfg:g (λi=>bs.getD i false) bs.length=f bs)(q:Q (.bl (f bs)) H) :
  wpAny (model X.prog X.w) X.A.in1 (pyIter (.ref a)) (λit s2=>∃Ii fp wr n P St tr,it=.ref Ii/\Walks X.prog X.w X.A.in1 Ii fp wr n P St/\St 0 s2.heap/\TruthOf X.prog X.w X.A.in1 P tr/\
   ∀h' tk,(∀b o,b∉wr->s2.heap.get? b=some o->h'.get? b=some o)->EP X pins σ Q (.bool (g tr n)) {s2 with heap:=h',toks:=tk}) X.xe s:=by
 obtain⟨its,rv,pl,hz⟩:=I.list hq
 have hh:X.A.in1.handled=none:=I.ok.hd hc
 have hlen:its.length=bs.length:=by rw[<-rv.length];simp
 obtain⟨o,ho,_⟩:=id pl.isList
 refine MC pl.isList ?_
 have W:=Walks.list (prog:=X.prog) (w:=X.w) hh s.heap.objs.size a (KN (Kl ho)) its.toArray
 refine⟨s.heap.objs.size,_,_,_,_,_,λi=>bs.getD i false,rfl,W,⟨⟨_,Ky _ rfl,rfl,rfl⟩,pl.isList.push _⟩,?_,λh' tk k=>?_⟩
 ·have:=ug (X:=X) (A:=X.A.in1) rv
  simpa using this
 ·have e:its.toArray.size=bs.length:=by simpa using hlen
  rw[e,hfg]
  have I1:Inv X pins σ H {s with heap:=s.heap.push {cls:=.type "list_iterator",data:=.fields #[.ref a,.int 0 0]}}:=I.kept (t':=s.toks) λb o e=>Ka _ e
  have hf:H s.heap.objs.size=none:=I.hok.fresh (Kg _)
  have fp:=I.fpOk (H':=H) (b:=s.heap.objs.size) (Kg _) hf
  refine⟨.bl _,H,I1.turned (it:=s.heap.objs.size) (t':=tk) (λb o hb e=>k b o (by simpa using hb) e) hf fp.2.1 fp.2.2.2.1 fp.2.2.2.2.1 fp.2.2.2.2.2,rfl,q⟩
def jm (hc:X.calm=true):b6 X (.builtin "all") (uN X.K λbs=>bs.all id):=by
 intro pins s σ H xs us Q I r h
 obtain⟨a,bs,rfl,hq,q⟩:=h
 obtain⟨u,rfl,rx⟩:=vals1 r
 cases rx
 exact call_all_walk (oh hc I hq (f:=λbs=>bs.all id) (g:=λtr n=>(List.range n).all tr) (range_all bs) q)
def ur (hc:X.calm=true):b6 X (.builtin "any") (uN X.K λbs=>bs.any id):=by
 intro pins s σ H xs us Q I r h
 obtain⟨a,bs,rfl,hq,q⟩:=h
 obtain⟨u,rfl,rx⟩:=vals1 r
 cases rx
 exact call_any_walk (oh hc I hq (f:=λbs=>bs.any id) (g:=λtr n=>(List.range n).any tr) (range_any bs) q)
def zJ:b6 X (.type "range") (λxs H Q=>∃n:Int,xs= [.int n]/\∀p,H p=none->Q (.ref p) (upd H p (.iB 0 n))):=by
 intro pins s σ H xs us Q I r h
 obtain⟨n,rfl,q⟩:=h
 obtain⟨u,rfl,rx⟩:=vals1 r
 obtain⟨t,rfl⟩:=rx
 refine call_range_1 ⟨.ref s.heap.objs.size,upd H s.heap.objs.size (.iB 0 n),?_,rfl,q _ (I.hok.fresh (Kg _))⟩
 exact I.laid (λb o e=>Ka _ e) (Kg _) ⟨_,_,_,Ky _ rfl⟩
def oO (hc:X.calm=true):b6 X (.type "list") (λxs H Q=>∃p n,xs= [.ref p]/\H p=some (.iB 0 n)/\0<=n/\n<=1000/\∀l,H l=none->Q (.ref l) (upd H l (.lst ((List.range n.toNat).map λ(i:Nat)=>V.int (i:Int))))):=by
 intro pins s σ H xs us Q I r h
 obtain⟨p,n,rfl,hp,h0,h1,q⟩:=h
 obtain⟨u,rfl,rx⟩:=vals1 r
 cases rx
 obtain⟨t,u,v,hr⟩:∃t u v,s.heap.get? p=some {cls:=.type "range",data:=.fields #[.int 0 t,.int n u,.int 1 v]}:=I.hok p _ hp
 have hsz:Builtin.Range.rangeSize 0 n 1=(n.toNat:Int):=by rw[rangeSize_one];split <;> omega
 refine call_list_range (I.ok.hd hc) hr (small_one (by omega) (by omega) (by omega) (by omega)) hsz (by omega) λh' tk acc c k hS hacc=>?_
 have hv:Vals ((List.range n.toNat).map λ(i:Nat)=>V.int (i:Int)) acc.toList:=by
  have key:∀(m:Nat) (us:List Value) (j:Nat),us.length=m->(∀(i:Nat) (v:Value),us[i]? =some v->∃t,v=Value.int ((j + i:Nat):Int) t)->Vals ((List.range' j m).map λ(i:Nat)=>V.int (i:Int)) us:=by
   intro m
   induction m with
   |zero=>intro us j hl _;cases us with
    |nil=>exact .nil
    |cons a b=>simp at hl
   |succ m ih=>
    intro us j hl hh
    cases us with
    |nil=>simp at hl
    |cons u us=>
     rw[List.range'_succ,K2]
     refine .cons (by have:=hh 0 u rfl;simp at this;exact this) (ih us (j + 1) (by simpa using hl) λi v hi=>?_)
     obtain⟨t,e⟩:=hh (i + 1) v (by simpa using hi)
     exact⟨t,by rw[e];congr 2;omega⟩
  have:=key n.toNat acc.toList 0 (by simpa using hacc.1) λi v hi=>by
   obtain⟨t,e⟩:=hacc.2 i v (by simpa using hi)
   exact⟨t,by rw[e];simp⟩
  rw[List.range_eq_range'];exact this
 refine⟨.ref s.heap.objs.size,_,I.laid (t':=tk) k (Kg _) (show bA X.prog X.w _ h' _ (.lst _) from⟨by simp;rw[KH];omega,acc.toList,c,hv,by simpa using hS⟩),rfl,q _ (I.hok.fresh (Kg _))⟩
end
def Rc (h:Heap)(e:Addr)(cls:Value)(T:Addr)(fl:Value):Prop:=∃oe vs oT ts,h.get? e=some oe/\oe.cls=cls/\oe.dict=none/\oe.data=.fields vs/\vs[1]? =some (.ref T)/\vs[2]? =some .none/\T≠e/\h.get? T=some oT/\oT.data=.fields ts/\ts[3]? =some fl
abbrev Keeps (F:List Addr)(ch:List Addr)(h h':Heap):Prop:=∀b o,h.get? b=some o->b∉F->b∉ch->h'.get? b=some o
abbrev Slots (F:List Addr)(h h':Heap):Prop:=∀b o,h.get? b=some o->b∈F->∃sl,h'.get? b=some {o with slots:=sl}
section
variable {M:Model}{A:Around}{E:Value->Shared->Prop}{s:Shared}{base:Heap}{env:Env}{outer:List Env}{L e:Addr}{cls:Value}{Q:Unit->Shared->Prop}
def zV {oe:Obj}{vs:Array Value}{head:Value}{hadNext:Bool}(hfr:A.frames=some (env :: outer))(hl:s.heap.FunFrames base (env :: outer))(hf:env.frame=some L)(he:s.heap.get? e=some oe)(hc:oe.cls=cls)(hdd:oe.dict=none)(hd:oe.data=.fields vs)(hsz:1 < vs.size)(h2:vs[2]? =some .none)
  (h:∀h' T,Keeps (g9 (env :: outer)) [e] s.heap h'->Slots (g9 (env :: outer)) s.heap h'->s.heap.get? T=none->Rc h' e cls T (rawInt L)->Q () {s with heap:=h'}) :
  wpAny M A (do let a <-frameOf env;let pl <-entryPlaceOf L hadNext;let b <-EntryCells.newEntry head a .none (rawInt L) .none pl;setField (.ref e) 1 b) Q E s:=by
 have eF:e∉g9 (env :: outer):=λz=>by
  obtain⟨_,o,q,n⟩:=hl.mem z
  rw[he] at q;cases q;exact n _ hd
 refine J8 (wpAny_frameOf_fun hfr hl hf λh1 s1=>?_)
 refine J8 (wpAny_entryPlaceOf λpl hpl=>?_)
 unfold EntryCells.newEntry newFields
 refine J8 (MG ?_ (hpl.sizeOk5 _ _ _ _ _))
 have e1:h1.get? e=some oe:=(s1.2.1 e eF).trans he
 have e2:=Ka (h:=h1) {cls:=.type "traceback",dict:=none,data:=.fields ([head,.ref L,.none,rawInt L,.none] ++ (if pl.isEmpty then List.replicate 6 Value.none else pl)).toArray} e1
 have tn:h1.objs.size≠e:=Nat.ne_of_gt (Kl e1)
 refine MI e2 hd hsz (h _ h1.objs.size (λb o q hb hn=>?_) (λb o q hb=>?_) ?_ ?_)
 ·have hbe:b≠e:=by simpa using hn
  have q1:h1.get? b=some o:=(s1.2.1 b hb).trans q
  rw[Lu _ _ (Ne.symm hbe)]
  exact Ka _ q1
 ·obtain⟨sl,q1⟩:=s1.2.2 b o q
  have hbe:b≠e:=λz=>eF (z▸hb)
  refine⟨sl,?_⟩
  rw[Lu _ _ (Ne.symm hbe)]
  exact Ka _ q1
 ·cases q:s.heap.get? h1.objs.size with
  |none=>rfl
  |some o=>obtain⟨sl,q1⟩:=s1.2.2 _ o q;exact absurd (Kl q1) (KU _)
 ·have d3:=Obj.data_mapFields hd (·.setIfInBounds 1 (Value.ref h1.objs.size))
  have e3:=K5 (Obj.mapFields (·.setIfInBounds 1 (Value.ref h1.objs.size))) e2 (Obj.isFreed_of_fields d3)
  refine⟨_,_,_,_,e3,(Obj.cls_mapFields _ _).trans hc,?_,d3,by simp[hsz],by rw[Array.getElem?_setIfInBounds_ne (by omega)];exact h2,tn,(Lu _ _ (Ne.symm tn)).trans (Ky h1 rfl),rfl,?_⟩
  ·unfold Obj.mapFields
   split <;> exact hdd
  ·rcases hpl with rfl | ⟨_,_,_,_,_,_,_,rfl⟩ <;> simp
def va {oe:Obj}{vs:Array Value}(hfr:A.frames=some (env :: outer))(hl:s.heap.FunFrames base (env :: outer))(hf:env.frame=some L)(he:s.heap.get? e=some oe)(hc:oe.cls=cls)(hdd:oe.dict=none)(hd:oe.data=.fields vs)(h1:vs[1]? =some .none)(h2:vs[2]? =some .none)
  (h:∀h' T,Keeps (g9 (env :: outer)) [e] s.heap h'->Slots (g9 (env :: outer)) s.heap h'->s.heap.get? T=none->Rc h' e cls T (rawInt L)->Q () {s with heap:=h'}):wpAny M A (noteFrame (.ref e) env) Q E s:=by
 unfold noteFrame
 simp only[hf]
 refine J8 (wpAny_field he hd h1 ?_)
 rw[Ki (by decide)]
 exact zV hfr hl hf he hc hdd hd (Ld.mp h1).1 h2 h
def yK {T0:Addr}(hfr:A.frames=some (env :: outer))(hl:s.heap.FunFrames base (env :: outer))(hf:env.frame=some L)(r:Rc s.heap e cls T0 .none)
  (h:∀h' T,Keeps (g9 (env :: outer)) [e,T0] s.heap h'->Slots (g9 (env :: outer)) s.heap h'->(s.heap.get? T=none\/T=T0)->Rc h' e cls T (rawInt L)->Q () {s with heap:=h'}):wpAny M A (noteFrame (.ref e) env) Q E s:=by
 obtain⟨oe,vs,oT,ts,he,hc,hdd,hd,h1,h2,hTe,hT,hdT,h3⟩:=r
 have tF:T0∉g9 (env :: outer):=λz=>by
  obtain⟨_,o,q,n⟩:=hl.mem z
  rw[hT] at q;cases q;exact n _ hdT
 unfold noteFrame
 simp only[hf]
 refine J8 (wpAny_field he hd h1 ?_)
 rw[Kf (show (Value.ref T0 != Value.none)=true from by simp)]
 refine J8 (wpAny_field hT hdT h3 ?_)
 rw[Ki (show ¬((Value.none == rawInt L)=true) from by simp[rawInt])]
 refine J8 (MI hT hdT (Ld.mp h3).1 ?_)
 have oth:∀b,b≠T0->(s.heap.update T0 (Obj.mapFields (·.setIfInBounds 3 Value.none))).get? b=s.heap.get? b:=λb hb=>Lu _ _ (Ne.symm hb)
 have nf:∀b o,s.heap.get? b=some o->(∀ws,o.data≠.fields ws)->b≠T0:=λb o q n z=>by
  rw[z,hT] at q;cases q;exact n _ hdT
 refine zV (base:=base) hfr (hl.of_keeps λb o q n=>⟨o,(oth b (nf b o q n)).trans q,rfl⟩) hf ((oth e (Ne.symm hTe)).trans he) hc hdd hd (Ld.mp h1).1 h2 λh' T kp sl tn rc=>?_
 refine h h' T (λb o q hb hn=>?_) (λb o q hb=>?_) ?_ rc
 ·simp only[Ke,L1,or_false,not_or] at hn
  exact kp b o ((oth b hn.2).trans q) hb (by simp[hn.1])
 ·exact sl b o ((oth b λz=>tF (z▸hb)).trans q) hb
 ·by_cases z:T=T0
  ·exact .inr z
  ·exact .inl ((oth T z).symm.trans tn)
def xr {T:Addr}{fl:Value}(r:Rc s.heap e cls T fl)(h:∀h',Keeps [] [T] s.heap h'->Rc h' e cls T .none->Q () {s with heap:=h'}):wpAny M A (setFlight (.ref e) none) Q E s:=by
 obtain⟨oe,vs,oT,ts,he,hc,hdd,hd,h1,h2,hTe,hT,hdT,h3⟩:=r
 have sz:3 < ts.size:=(Ld.mp h3).1
 unfold setFlight
 refine J8 (wpAny_field he hd h1 ?_)
 rw[Kf (show (Value.ref T != Value.none)=true from by simp)]
 refine MI hT hdT sz (h _ (λb o q _ hn=>?_) ?_)
 ·have hb:b≠T:=by simpa using hn
  exact (Lu _ _ (Ne.symm hb)).trans q
 ·have d3:=Obj.data_mapFields hdT (·.setIfInBounds 3 ((none:Option Addr).elim Value.none λf=>rawInt f))
  exact⟨oe,vs,_,_,(Lu _ _ hTe).trans he,hc,hdd,hd,h1,h2,hTe,K5 _ hT (Obj.isFreed_of_fields d3),d3,by simp[sz]⟩
end
section
variable {P:Program}{w:World}
theorem bA.there {H:Hp}{h:Heap}{a:Addr}{o:HO}(x:bA P w H h a o):∃u,h.get? a=some u:=by
 cases o with
 |lst xs=>obtain⟨_,_,_,_,e⟩:=x;exact⟨_,e⟩
 |tup xs=>obtain⟨_,_,_,u,e,_⟩:=x;exact⟨u,e⟩
 |dK kvs=>obtain⟨_,_,_,_,o,_,_,e,_⟩:=x;exact⟨_,e⟩
 |dT kvs=>obtain⟨_,_,_,_,o,_,_,e,_⟩:=x;exact⟨_,e⟩
 |set S n=>obtain⟨o,_,_,_,e,_⟩:=x;exact⟨_,e⟩
 |ins C dx fs=>obtain⟨_,_,_,e,_⟩:=x;exact⟨_,e⟩
 |own y=>obtain⟨_,e⟩:=x;exact⟨_,e⟩
 |xd fs=>obtain⟨_,⟨_,_,_,e,_⟩,_⟩:=x;exact⟨_,e⟩
 |iB lo hi=>obtain⟨_,_,_,e⟩:=x;exact⟨_,e⟩
 |aQ ob u=>obtain⟨e,_⟩:=x;exact⟨_,e⟩
 |tbl ps=>exact⟨_,show h.get? a=some _ from x⟩
 |met f y=>exact⟨_,show h.get? a=some _ from x⟩
 |ext φ=>obtain⟨_,⟨_,e⟩,_⟩:=x;exact⟨_,e⟩
end
structure Lies (h₀:Heap)(H:Hp)(h:Heap)(e:Addr)(cls:Value):Prop where
 free:H e=none
 new:h₀.get? e=none
 ob:∃T,Rc h e cls T .none/\H T=none/\h₀.get? T=none
def mn (P:Program)(w:World):yL:=λouter H s E e s'=>∃ea cls H',e=.ref ea/\s'.os=s.os/\AllBare s'.gens/\Un (g9 outer) [] H H' s.heap s'.heap/\jP P w H' s'.heap/\Lies s.heap H' s'.heap ea cls/\E cls none H'
section
variable {P:Program}{w:World}{M:Model}{A:Around}{E':Value->Shared->Prop}{s:Shared}{env:Env}{outer:List Env}{L e:Addr}{cls:Value}{base h₀:Heap}{H:Hp}{Q:Unit->Shared->Prop}
def si {h h':Heap}(hok:jP P w H h)(k:∀b o,h.get? b=some o->(∃u,H b=some u)->h'.get? b=some o):jP P w H h':=λa o ha=>
 (hok a o ha).stay (λb u hb q=>k b u q (hb.elim (λz=>⟨o,by rw[z];exact ha⟩) λz=>⟨_,z⟩)) (λ_ q=>q) λ_ _ q=>q
def Bw (hfr:A.frames=some (env :: outer))(hf:env.frame=some L)(hfn:s.heap.FunFrames base (env :: outer))(hok:jP P w H s.heap)(hff:∀b∈g9 (env :: outer),H b=none)(Ly:Lies h₀ H s.heap e cls)(hex:∀b o,h₀.get? b=some o->∃o',s.heap.get? b=some o')
  (hQ:∀h',(∀b o,s.heap.get? b=some o->b∉g9 (env :: outer)->((∃o0,h₀.get? b=some o0)\/∃u,H b=some u)->h'.get? b=some o)->(∀b o,s.heap.get? b=some o->b∈g9 (env :: outer)->∃sl,h'.get? b=some {o with slots:=sl})->Lies h₀ H h' e cls->jP P w H h'->Q () {s with heap:=h'}) :
  wpAny M A (leaving env (.ref e)) Q E' s:=by
 obtain⟨fr,nw,T0,rc,hHT,hnT⟩:=Ly
 obtain⟨oe,vs,oT,ts,he,hc,hdd,hd,h1,h2,hTe,hT,hdT,h3⟩:=id rc
 have tF:T0∉g9 (env :: outer):=λz=>by
  obtain⟨_,o,q,n⟩:=hfn.mem z
  rw[hT] at q;cases q;exact n _ hdT
 unfold leaving
 refine J8 (yK hfr hfn hf rc λh4 T kp sl tn rc4=>xr rc4 λh5 kp5 rc5=>?_)
 have nT:∀b o,s.heap.get? b=some o->b≠T0->b≠T:=λb o q n z=>by
  rcases tn with tn |tn
  ·rw[z,tn] at q;cases q
  ·exact n (z.trans tn)
 have kept:∀b o,s.heap.get? b=some o->b∉g9 (env :: outer)->((∃o0,h₀.get? b=some o0)\/∃u,H b=some u)->h5.get? b=some o:=λb o q hb hor=>by
  have be:b≠e:=λz=>by subst z;rcases hor with⟨_,z⟩ | ⟨_,z⟩ <;> simp_all
  have bT:b≠T0:=λz=>by subst z;rcases hor with⟨_,z⟩ | ⟨_,z⟩ <;> simp_all
  exact kp5 b o (kp b o q hb (by simp[be,bT])) (by simp) (by simp[nT b o q bT])
 have slot:∀b o,s.heap.get? b=some o->b∈g9 (env :: outer)->∃sl,h5.get? b=some {o with slots:=sl}:=λb o q hb=>by
  obtain⟨x,q4⟩:=sl b o q hb
  exact⟨x,kp5 b _ q4 (by simp) (by simp[nT b o q λz=>tF (z▸hb)])⟩
 have fresh:H T=none/\h₀.get? T=none:=by
  rcases tn with tn |tn
  ·refine⟨?_,?_⟩
   ·cases q:H T with
    |none=>rfl
    |some u=>obtain⟨o,qo⟩:=(hok T u q).there;rw[tn] at qo;cases qo
   ·cases q:h₀.get? T with
    |none=>rfl
    |some u=>obtain⟨o,qo⟩:=hex T u q;rw[tn] at qo;cases qo
  ·rw[tn];exact⟨hHT,hnT⟩
 refine hQ h5 kept slot ⟨fr,nw,T,rc5,fresh.1,fresh.2⟩ (si hok λb o q hu=>kept b o q (λz=>?_) (.inr hu))
 obtain⟨u,hu⟩:=hu
 rw[hff b z] at hu;cases hu
def u0 {h:Heap}{args:List Value}(hfr:A.frames=some (env :: outer))(hf:env.frame=some L)(hfn:h.FunFrames base (env :: outer))(hok:jP P w H h)(hff:∀b∈g9 (env :: outer),H b=none)(hex:∀b o,h₀.get? b=some o->∃o',h.get? b=some o')(hx:Heap.MadeExcOf h s.heap e cls args)
  (hQ:∀h',(∀b o,h.get? b=some o->b∉g9 (env :: outer)->h'.get? b=some o)->(∀b o,h.get? b=some o->b∈g9 (env :: outer)->∃sl,h'.get? b=some {o with slots:=sl})->Lies h₀ H h' e cls->jP P w H h'->Q () {s with heap:=h'}) :
  wpAny M A (leaving env (.ref e)) Q E' s:=by
 obtain⟨t,he,_,_⟩:=hx.there
 unfold leaving
 refine J8 (va (cls:=cls) hfr (hfn.of_keeps λb o q _=>⟨o,hx.keeps b o q,rfl⟩) hf he rfl rfl rfl rfl rfl λh4 T kp sl tn rc4=>xr rc4 λh5 kp5 rc5=>?_)
 have ne:∀b o,h.get? b=some o->b≠e:=λb o q z=>by rw[z,hx.new] at q;cases q
 have nT:∀b o,h.get? b=some o->b≠T:=λb o q z=>by
  have:=hx.keeps b o q
  rw[z,tn] at this;cases this
 have kept:∀b o,h.get? b=some o->b∉g9 (env :: outer)->h5.get? b=some o:=λb o q hb=>kp5 b o (kp b o (hx.keeps b o q) hb (by simp[ne b o q])) (by simp) (by simp[nT b o q])
 have slot:∀b o,h.get? b=some o->b∈g9 (env :: outer)->∃sl,h5.get? b=some {o with slots:=sl}:=λb o q hb=>by
  obtain⟨x,q4⟩:=sl b o (hx.keeps b o q) hb
  exact⟨x,kp5 b _ q4 (by simp) (by simp[nT b o q])⟩
 have fresh:∀{b:Addr},h.get? b=none->H b=none/\h₀.get? b=none:=λ{b} hb=>by
  refine⟨?_,?_⟩
  ·cases q:H b with
   |none=>rfl
   |some u=>obtain⟨o,qo⟩:=(hok b u q).there;rw[hb] at qo;cases qo
  ·cases q:h₀.get? b with
   |none=>rfl
   |some u=>obtain⟨o,qo⟩:=hex b u q;rw[hb] at qo;cases qo
 have no:h.get? T=none:=by
  cases q:h.get? T with
  |none=>rfl
  |some o=>exact absurd rfl (nT T o q)
 obtain⟨f1,f2⟩:=fresh hx.new
 obtain⟨g1,g2⟩:=fresh no
 refine hQ h5 kept slot ⟨f1,f2,T,rc5,g1,g2⟩ (si hok λb o q hu=>kept b o q λz=>?_)
 obtain⟨u,hu⟩:=hu
 rw[hff b z] at hu;cases hu
end
section
variable {P:Program}{w:World}{K:Frag}{mg:Str->Option Value}{base:Heap}{N:List Str}{qual:Str}{scope:Scope}{f:Addr}{cd:Value}{A:Around}{outer:List Env}{s0:Shared}{H0:Hp}{E:XK}
def bz:Passes (mn P w) (jT (mn P w) P w K mg base N qual scope f cd A outer s0 H0 E) E:=by
 intro pins σ H s e s' I hcx
 obtain⟨ea,cls,H',rfl,os,bare,un,hok,Ly,q⟩:=hcx
 have I':=I.call' os un hok bare (λb hb=>absurd hb (by simp))
 have old:∀{b:Addr},s.heap.get? b=none->s0.heap.get? b=none:=λ{b} hb=>by
  cases z:s0.heap.get? b with
  |none=>rfl
  |some o=>obtain⟨o',z'⟩:=I.base.there b o z (show b∉([]:List Addr) by simp);rw[hb] at z';cases z'
 have Ly0:Lies s0.heap H' s'.heap ea cls:=by
  obtain⟨fr,nw,T,rc,hHT,hnT⟩:=Ly
  exact⟨fr,old nw,T,rc,hHT,old hnT⟩
 have above:s0.heap.objs.size<=(envOfC qual scope s0.heap.objs.size f cd).locals:=I.ok.above
 refine Bw (base:=base) (h₀:=s0.heap) I'.ok.frames rfl I'.stack I'.hok I'.stkFree Ly0 (λb o z=>I'.base.there b o z (show b∉([]:List Addr) by simp)) λh' kept slot Ly' hok'=>?_
 have nL:∀{b:Addr} {o:Obj},s0.heap.get? b=some o->b∉g9 outer->b∉g9 (envOfC qual scope s0.heap.objs.size f cd :: outer):=λ{b o} z hb hm=>by
  rcases Ke.mp (I'.stkSub b hm) with e |e
  ·have:=Kl z
   rw[e] at this
   exact absurd (KL this above) (KU _)
  ·exact hb e
 have inn:∀{b:Addr},b∈g9 outer->b∈g9 (envOfC qual scope s0.heap.objs.size f cd :: outer):=λ{b} hb=>by
  obtain⟨en,h1,h2⟩:=LO.mp hb
  exact LO.mpr ⟨en,J9 _ h1,h2⟩
 refine⟨ea,cls,H',rfl,os.trans I.os,bare,⟨λb o z n hb _=>?_,λb o z n hb _=>?_,λb o z n _=>I'.base.free b o z n (show b∉([]:List Addr) by simp),λb o z _=>?_,I'.base.tups,I'.base.frzs,I'.base.tbls⟩,hok',Ly',q⟩
 ·exact kept b o (I'.base.keep b o z n hb (show b∉([]:List Addr) by simp)) (nL z hb) (.inl ⟨o,z⟩)
 ·obtain⟨sl,z1⟩:=I'.base.slot b o z n hb (show b∉([]:List Addr) by simp)
  obtain⟨sl2,z2⟩:=slot b _ z1 (inn hb)
  exact⟨sl2,z2⟩
 ·obtain⟨o',z1⟩:=I'.base.there b o z (show b∉([]:List Addr) by simp)
  by_cases hb:b∈g9 (envOfC qual scope s0.heap.objs.size f cd :: outer)
  ·obtain⟨sl,z2⟩:=slot b o' z1 hb
   exact⟨_,z2⟩
  ·exact⟨o',kept b o' z1 hb (.inl ⟨o,z⟩)⟩
def ES (C:Addr)(E:XK)(t:TA):TS:=λ_ σ H=>t σ H λvs H1=>vs.length<=sizeLine/\E (.ref C) none H1
def AO {x:Str}{C:Addr}{np cpos pos:Pos}{e0:Expr}{es:List Expr}{t:TA}{Bn newId initId:String}{bmB:List Value}(FB:ExcBaseFacts Bn newId initId bmB)(hbb:bmB.contains (.type "BaseException")=true)(q:PySem.W.excIn K C bmB newId=true)
  (hg:Gl (jT (mn P w) P w K mg base N qual scope f cd A outer s0 H0 E) x) (hm:mg x=some (.ref C)) (ha:PA (jT (mn P w) P w K mg base N qual scope f cd A outer s0 H0 E) (e0 :: es) t)
  (he:starEach (e0 :: es) (envOfC qual scope s0.heap.objs.size f cd)=(false,eval e0 (envOfC qual scope s0.heap.objs.size f cd)) :: starEach es (envOfC qual scope s0.heap.objs.size f cd):=by rfl)
  (hpl:(backTo cpos (starEach es (envOfC qual scope s0.heap.objs.size f cd))).any (·.1)=false:=by rfl) (hdb:(x == ("__debug__":Str))=false:=by decide) :
  PS (jT (mn P w) P w K mg base N qual scope f cd A outer s0 H0 E) (.Raise (some (.Call (.Name x np) (e0 :: es) [] cpos)) none pos) (ES C E t):=by
 intro pins s σ H D I h
 have own:∀{hh:Heap},K.In hh->∃bm Nn nm qn bs hdct sn sub ab col dd k0 k1 k2 k3 k5 mN,hh.get? C=some (excClassObj nm qn C Nn bs bm hdct sn sub ab col dd k0 k1 k2 k3 k5 newId)/\hh.Ns Nn mN/\mN "__init__"=none/\OwnTail hh bmB bm:=λ{hh} X=>by
  have q:=q
  unfold PySem.W.excIn at q
  split at q
  ·rename_i dd cdd sl ho
   split at q
   ·rename_i C' bm k0 k1 k2 k3 n k5 hm hs
    simp only[Kq,beq_iff_eq,Me] at q
    obtain⟨⟨⟨⟨⟨rfl,rfl⟩,hdel⟩,ht⟩,hok⟩,hni⟩:=q
    obtain⟨nm,bs,mro,ns,qn,hd,sn,sub,ab,col,del⟩:=cdd
    dsimp only at hm hdel hok hni
    subst hm hdel
    have hsl:sl=#[k0,k1,k2,k3,some (.builtin n),k5]:=by
     obtain⟨l⟩:=sl
     simp only at hs
     rw[hs]
    subst hsl
    exact⟨bm,ns,nm,qn,bs,hd,sn,sub,ab,col,dd,k0,k1,k2,k3,k5,_,X _ _ ho,.of_isNs (PySem.W.isNs_of_in X hok),PySem.W.nsMap_none_of_in X hok hni,PySem.W.tail_of_in X ht⟩
   ·cases q
  ·cases q
 obtain⟨bm,Nn,nm,qn,bs,hdct,sn,sub,ab,col,dd,k0,k1,k2,k3,k5,mN,hC,hN,hni,TL⟩:=own I.ok.mod.kin
 have hA:=ha cpos pins s σ H _ I h
 refine wpAny_Raise_call_subT (C:=C) (nm:=nm) (q:=qn) (N:=Nn) (bs:=bs) (bm:=bm) (hdct:=hdct) (sn:=sn) (sub:=sub) (ab:=ab) (col:=col) (dd:=dd) (k0:=k0) (k1:=k1) (k2:=k2) (k3:=k3) (k5:=k5) FB (mN:=mN) (TL.hasType hbb) (I.ok.hd rfl) ?_ hni (qI I hg hm ⟨rfl,?_⟩ hdb)
 ·show (backTo cpos (starEach (e0 :: es) (envOfC qual scope s0.heap.objs.size f cd))).any (·.1)=false
  rw[he]
  show (false || (backTo cpos (starEach es (envOfC qual scope s0.heap.objs.size f cd))).any (·.1))=false
  rw[hpl];rfl
 have hA:wpAny _ _ (spliced (backTo cpos (starEach (e0 :: es) (envOfC qual scope s0.heap.objs.size f cd)))) _ _ s:=hA
 show wpAny _ _ (evalArgs (.ref C) true (backTo cpos (starEach (e0 :: es) (envOfC qual scope s0.heap.objs.size f cd))) []) _ _ s
 rw[he] at hA ⊢
 refine Calls.evalArgs_plain (b7 hA λus s2 ⟨vs,H2,I2,r2,hl2,q2⟩=>⟨rfl,by show us.length<=_;rw[<-r2.length];exact hl2,I2.bk _ _ hC,hN.keeps I2.bk,TL.keeps I2.bk,λh' e hx=>?_⟩)
 have above:s0.heap.objs.size<=(envOfC qual scope s0.heap.objs.size f cd).locals:=I2.ok.above
 have nil:∀b:Addr,b∉([]:List Addr):=λb=>by simp
 refine u0 (s:={s2 with heap:=h'}) (h:=s2.heap) (base:=base) (h₀:=s0.heap) I2.ok.frames rfl I2.stack I2.hok I2.stkFree (λb o z=>I2.base.there b o z (nil b)) hx λh2 kept slot Ly hok=>?_
 have nL:∀{b:Addr} {o:Obj},s0.heap.get? b=some o->b∉g9 outer->b∉g9 (envOfC qual scope s0.heap.objs.size f cd :: outer):=λ{b o} z hb hm=>by
  rcases Ke.mp (I2.stkSub b hm) with e |e
  ·have:=Kl z
   rw[e] at this
   exact absurd (KL this above) (KU _)
  ·exact hb e
 have inn:∀{b:Addr},b∈g9 outer->b∈g9 (envOfC qual scope s0.heap.objs.size f cd :: outer):=λ{b} hb=>by
  obtain⟨en,h1,h2⟩:=LO.mp hb
  exact LO.mpr ⟨en,J9 _ h1,h2⟩
 refine⟨e,.ref C,H2,rfl,I2.os,I2.bare,⟨λb o z n hb _=>?_,λb o z n hb _=>?_,λb o z n _=>I2.base.free b o z n (nil b),λb o z _=>?_,I2.base.tups,I2.base.frzs,I2.base.tbls⟩,hok,Ly,q2⟩
 ·exact kept b o (I2.base.keep b o z n hb (nil b)) (nL z hb)
 ·obtain⟨sl,z1⟩:=I2.base.slot b o z n hb (nil b)
  obtain⟨sl2,z2⟩:=slot b _ z1 (inn hb)
  exact⟨sl2,z2⟩
 ·obtain⟨o',z1⟩:=I2.base.there b o z (nil b)
  by_cases hb:b∈g9 (envOfC qual scope s0.heap.objs.size f cd :: outer)
  ·obtain⟨sl,z2⟩:=slot b o' z1 hb
   exact⟨_,z2⟩
  ·exact⟨o',kept b o' z1 hb⟩
end
def mroIn (K:Frag)(C:Addr):List Value:=match K.lookup C with
 |some ⟨_,_,.cls cd,_⟩=>cd.mro
 |_=>[]
structure zD (k:Nat)(A:Around):Prop where
 dp:A.depth + 3 * k + 5 < recursionLimit
 un:A.units + 16 * k + 200 < cLine
 gd:A.guards=some []
def dv.h {k:Nat}{A:Around}(r:dv k A):zD k A:=⟨r.dp,r.un,r.gd⟩
def zD.units {k:Nat}{A:Around}(r:zD k A):A.units + 64 < cLine:=by have:=r.un;omega
section
variable {P:Program}{w:World}{K:Frag}{mg:Str->Option Value}{base:Heap}
def BG.zb {x qual:Str}{st:Stmt}{f:Addr}{fd:FuncData}{N ps:List Str}{k:Nat}{sp:Sp}(F:BG K x qual st f fd)(S:aI N ps (au st))(len:∀vs H Q E,sp vs H Q E->vs.length=ps.length)
  (hbody:∀(cdv:Value) (A:Around) (outer:List Env) (s:Shared) (H:Hp) (vs:List V) (Q:VK) (E:XK),dv k (A.deeper (envOfC qual (au st) s.heap.objs.size f cdv))->sp vs H Q E->
   ∃t,qd (jT (mn P w) P w K mg base N qual (au st) f cdv A outer s H E) (cu st) t/\t {nx:=λ_ H'=>Q .non H',rt:=Q} (start N vs) H):eV P w K mg base (mn P w) (k + 1) f fd ps sp:=by
 obtain⟨oc,od,kV,doc,pm,an,cdv,ct,osl,rfl,lk,hcd⟩:=F.ex
 exact D5 lk hcd S len λA outer s H vs Q E hr hsp=>hbody cdv A outer s H vs Q E hr hsp
end
section
variable {X:Cx}
def jJ (hu:X.A.units + 100 < cLine):lu X (compareOp .NotIn) (GA X.K true):=by
 intro pins s σ H x y v u Q I rx ry h
 obtain⟨p,xs,d,ds,rfl,hq,hs,hx,s1,s2,q⟩:=h
 cases ry
 obtain⟨bs,r2⟩:=hx.reads I rx
 have key:∀{e:PyData} {as:List Addr} {u:Value},SeqAt.shaped e=true->Reads s.heap u e as->SeqAt.EqAt X.A.in1 s u v (PyData.eqv e d):=λ{e as u} h1 h2=>by
  refine SeqAt.eqAt_reads _ _ _ _ _ _ _ _ h2 r2 (MB h1) (MB s1) ?_
  have:=SeqAt.depth_of_shaped h1
  show X.A.units + 1 + _ < _
  omega
 rcases hq with hq |hq
 ·obtain⟨its,r,pl,hz⟩:=I.list hq
  obtain⟨f,e1,e2⟩:=su I d r hs s2
  refine SeqAt.notIn_listAt f pl.isList (λw hw=>?_) ⟨.bl _,H,I,rfl,?_⟩
  ·obtain⟨e,as,hm,rd,ef⟩:=e2 w (by simpa using hw)
   rw[ef];exact key (s2 e hm) rd
  ·rw[show its.toArray.any f=its.any f by simp,e1];exact q
 ·obtain⟨its,r,pl,hz⟩:=I.tuple hq
  obtain⟨f,e1,e2⟩:=su I d r hs s2
  refine SeqAt.notIn_tupleAt f pl (λw hw=>?_) ⟨.bl _,H,I,rfl,?_⟩
  ·obtain⟨e,as,hm,rd,ef⟩:=e2 w (by simpa using hw)
   rw[ef];exact key (s2 e hm) rd
  ·rw[show its.toArray.any f=its.any f by simp,e1];exact q
end
abbrev D:=PyData
def kD:Key->D
 | .inl i=>.int i
 | .inr x=>.str x
mutual
inductive Rp (K:Frag)(G:Hp):V->D->Prop
 |non:Rp K G .non .none
 |bl (b:Bool):Rp K G (.bl b) (.bool b)
 |int (i:Int):Rp K G (.int i) (.int i)
 |str (x:Str):Rp K G (.str x) (.str x)
 |tup {a:Addr} {xs:List V} {ds:List D}:gk K G a xs->bI K G xs ds->Rp K G (.ref a) (.tuple ds)
 |lst {a:Addr} {xs:List V} {ds:List D}:G a=some (.lst xs)->bI K G xs ds->Rp K G (.ref a) (.list ds)
 |scr {a:Addr} {ns:List Int}:fQ K G a (ns.map V.int)->Rp K G (.ref a) (.dict [(.none,.list (ns.map int))])
 |dK {a:Addr} {kvs:List (Key×V)} {ds:List (D×D)}:G a=some (.dK kvs)->yx K G kvs ds->Rp K G (.ref a) (.dict ds)
 |dT {a:Addr} {kvs:List (List Key×V)} {ds:List (D×D)}:G a=some (.dT kvs)->ze K G kvs ds->Rp K G (.ref a) (.dict ds)
inductive bI (K:Frag)(G:Hp):List V->List D->Prop
 |nil:bI K G [] []
 |cons {x:V} {xs:List V} {d:D} {ds:List D}:Rp K G x d->bI K G xs ds->bI K G (x :: xs) (d :: ds)
inductive yx (K:Frag)(G:Hp):List (Key×V)->List (D×D)->Prop
 |nil:yx K G [] []
 |cons {k:Key} {x:V} {xs:List (Key×V)} {d:D} {ds:List (D×D)}:Rp K G x d->yx K G xs ds->yx K G ((k,x) :: xs) ((kD k,d) :: ds)
inductive ze (K:Frag)(G:Hp):List (List Key×V)->List (D×D)->Prop
 |nil:ze K G [] []
 |cons {k:List Key} {x:V} {xs:List (List Key×V)} {d:D} {ds:List (D×D)}:Rp K G x d->ze K G xs ds->ze K G ((k,x) :: xs) ((.tuple (k.map kD),d) :: ds)
end
section
variable {K:Frag}{G G' H H':Hp}
def Gd {b:Addr}{o:HO}(h:Kt H b o)(hu:∀ps,o≠.tbl ps):H b=some o:=by
 obtain⟨u,e,k,_⟩:=h.some
 rw[e,k hu]
theorem gV {a b:Addr}{o u:HO}(h:Kt H b u)(hb:b≠a)(ha:∀x y,H a≠some (.aQ x y)):Kt (upd H a o) b u:=by
 cases u with
 |tbl ps=>
  obtain⟨m,e,k⟩:=h
  refine⟨m,by rw[aq hb];exact e,λc hc=>?_⟩
  obtain⟨x,ex,ix⟩:=k c hc
  exact⟨x,by rw[aq (λz=>ha x _ (z▸ex))];exact ex,ix⟩
 |_=>exact (aq hb).trans h
def Rd.mono {a:Addr}{u:HO}(h:Rd G a u)(s:ah G G')(hu:∀ps,u≠.tbl ps:=by intro _ z;cases z):Rd G' a u:=h.elim (λe=>.inl (Gd (s _ _ e) hu)) λ⟨o,e⟩=>.inr ⟨o,s _ _ e⟩
mutual
theorem Rp.mono (s:ah G G'):∀{x:V} {d:D},Rp K G x d->Rp K G' x d
 |_,_,.non=>.non
 |_,_,.bl b=>.bl b
 |_,_,.int i=>.int i
 |_,_,.str x=>.str x
 |_,_,.tup h hs=>.tup (h.grow s.grow) (bI.mono s hs)
 |_,_,.lst h hs=>.lst (s _ _ h) (bI.mono s hs)
 |_,_,.scr h=>.scr (s.seq h)
 |_,_,.dK h hs=>.dK (s _ _ h) (yx.mono s hs)
 |_,_,.dT h hs=>.dT (s _ _ h) (ze.mono s hs)
theorem bI.mono (s:ah G G'):∀{xs:List V} {ds:List D},bI K G xs ds->bI K G' xs ds
 |_,_,.nil=>.nil
 |_,_,.cons h hs=>.cons (Rp.mono s h) (bI.mono s hs)
theorem yx.mono (s:ah G G'):∀{xs:List (Key×V)} {ds:List (D×D)},yx K G xs ds->yx K G' xs ds
 |_,_,.nil=>.nil
 |_,_,.cons h hs=>.cons (Rp.mono s h) (yx.mono s hs)
theorem ze.mono (s:ah G G'):∀{xs:List (List Key×V)} {ds:List (D×D)},ze K G xs ds->ze K G' xs ds
 |_,_,.nil=>.nil
 |_,_,.cons h hs=>.cons (Rp.mono s h) (ze.mono s hs)
end
theorem bI.len:∀{xs:List V} {ds:List D},bI K G xs ds->xs.length=ds.length
 |_,_,.nil=>rfl
 |_,_,.cons _ t=>by simp[bI.len t]
theorem bI.at:∀{xs:List V} {ds:List D} {i:Nat} {d:D},bI K G xs ds->ds[i]? =some d->∃x,xs[i]? =some x/\Rp K G x d
 |_,_,_,_,.nil,e=>by simp at e
 |_,_,0,_,.cons r _,e=>by simp at e;subst e;exact⟨_,rfl,r⟩
 |_,_,i + 1,x,.cons _ t,e=>by
  obtain⟨u,h1,h2⟩:=bI.at (i:=i) (d:=x) t (by simpa using e)
  exact⟨u,by simpa using h1,h2⟩
theorem bI.at':∀{xs:List V} {ds:List D} {i:Nat} {x:V},bI K G xs ds->xs[i]? =some x->∃d,ds[i]? =some d/\Rp K G x d
 |_,_,_,_,.nil,e=>by simp at e
 |_,_,0,_,.cons r _,e=>by simp at e;subst e;exact⟨_,rfl,r⟩
 |_,_,i + 1,x,.cons _ t,e=>by
  obtain⟨u,h1,h2⟩:=bI.at' (i:=i) (x:=x) t (by simpa using e)
  exact⟨u,by simpa using h1,h2⟩
theorem bI.append:∀{xs ys:List V} {ds es:List D},bI K G xs ds->bI K G ys es->bI K G (xs ++ ys) (ds ++ es)
 |_,_,_,_,.nil,s=>s
 |_,_,_,_,.cons r t,s=>.cons r (bI.append t s)
def bI.snoc {xs:List V}{ds:List D}{x:V}{d:D}(h:bI K G xs ds)(q:Rp K G x d):bI K G (xs ++ [x]) (ds ++ [d]):=h.append (.cons q .nil)
theorem bI.take:∀{xs:List V} {ds:List D} (n:Nat),bI K G xs ds->bI K G (xs.take n) (ds.take n)
 |_,_,0,_=>.nil
 |_,_,_ + 1,.nil=>.nil
 |_,_,n + 1,.cons r t=>.cons r (bI.take n t)
theorem bI.drop:∀{xs:List V} {ds:List D} (n:Nat),bI K G xs ds->bI K G (xs.drop n) (ds.drop n)
 |_,_,0,r=>r
 |_,_,_ + 1,.nil=>.nil
 |_,_,n + 1,.cons _ t=>bI.drop n t
mutual
def zh:D->Bool
 | .dict _=>false
 | .list ds=>pd ds
 | .tuple ds=>pd ds
 |_=>true
def pd:List D->Bool
 | []=>true
 |d :: ds=>zh d && pd ds
end
mutual
theorem Rp.rep:∀{x:V} {d:D},Rp K G x d->zh d=true->Rep K G x d
 |_,_,.non,_=>.non
 |_,_,.bl b,_=>.bl b
 |_,_,.int i,_=>.int i
 |_,_,.str x,_=>.str x
 |_,_,.tup h hs,e=>.tup h (bI.reps hs (by simpa[zh] using e))
 |_,_,.lst h hs,e=>.lst (.inl (.inl h)) (bI.reps hs (by simpa[zh] using e))
 |_,_,.scr _,e=>by simp[zh] at e
 |_,_,.dK _ _,e=>by simp[zh] at e
 |_,_,.dT _ _,e=>by simp[zh] at e
theorem bI.reps:∀{xs:List V} {ds:List D},bI K G xs ds->pd ds=true->jn K G xs ds
 |_,_,.nil,_=>.nil
 |_,_,.cons h hs,e=>.cons (Rp.rep h (by simp[pd] at e;exact e.1)) (bI.reps hs (by simp[pd] at e;exact e.2))
end
def Own (K:Frag)(G H:Hp)(a:Addr):D->Prop
 | .list ds=>∃xs,H a=some (.lst xs)/\bI K G xs ds
 | .dict ds=>(∃kvs,H a=some (.dK kvs)/\yx K G kvs ds)\/∃kvs,H a=some (.dT kvs)/\ze K G kvs ds
 |_=>False
def Own.obj {a:Addr}{d:D}(h:Own K G H a d):∃o,H a=some o:=by
 cases d <;> first |exact h.elim |skip
 ·obtain⟨xs,e,_⟩:=h;exact⟨_,e⟩
 ·rcases h with⟨_,e,_⟩ | ⟨_,e,_⟩ <;> exact⟨_,e⟩
def Own.mono {a:Addr}{d:D}(h:Own K G H a d)(s:ah G G')(m:∀o,H a=some o->Kt H' a o):Own K G' H' a d:=by
 cases d <;> first |exact h.elim |skip
 ·obtain⟨xs,e,r⟩:=h;exact⟨xs,m _ e,r.mono s⟩
 ·rcases h with⟨k,e,r⟩ | ⟨k,e,r⟩
  ·exact .inl ⟨k,m _ e,r.mono s⟩
  ·exact .inr ⟨k,m _ e,r.mono s⟩
def Own.rp {a:Addr}{d:D}(h:Own K G H a d)(n:G a=none){G':Hp}(s:ah G G')(e:∀o,H a=some o->G' a=some o):Rp K G' (.ref a) d:=by
 cases d <;> first |exact h.elim |skip
 ·obtain⟨xs,q,r⟩:=h;exact .lst (e _ q) (r.mono s)
 ·rcases h with⟨k,q,r⟩ | ⟨k,q,r⟩
  ·exact .dK (e _ q) (r.mono s)
  ·exact .dT (e _ q) (r.mono s)
def ko (K:Frag)(B:Option Addr)(G H:Hp)(v:V)(d:D):Prop:=Rp K G v d\/∃a,v=.ref a/\B≠some a/\Own K G H a d
def fM (B:Option Addr)(H H':Hp):Prop:=(∀b o,H b=some o->B≠some b->Kt H' b o)/\∀b o u,H b=some (.aQ o u)->H' b=some (.aQ o u)
def fM.refl (B:Option Addr)(H:Hp):fM B H H:=⟨λ_ _ h _=>Kt.of h,λ_ _ _ h=>h⟩
theorem vd {B:Option Addr}{b:Addr}{o:HO}(h1:Kt H b o)(y:fM B H H')(n:B≠some b):Kt H' b o:=by
 cases o with
 |tbl ps=>
  obtain⟨m,e,k⟩:=h1
  obtain⟨m2,e2,k2⟩:=y.1 b _ e n
  refine⟨m ++ m2,by rw[e2,Array.append_assoc],λc hc=>?_⟩
  rw[Array.toList_append,KA] at hc
  rcases hc with hc |hc
  ·obtain⟨o,eo,io⟩:=k c hc;exact⟨o,y.2 c _ _ eo,io⟩
  ·exact k2 c hc
 |_=>exact y.1 b _ h1 n
def fM.trans {B:Option Addr}{H1:Hp}(x:fM B H H1)(y:fM B H1 H'):fM B H H':=⟨λb o h n=>vd (x.1 b o h n) y n,λb o u h=>y.2 b o u (x.2 b o u h)⟩
def ah.mov (s:ah H H')(B:Option Addr):fM B H H':=⟨λb o h _=>s b o h,λb o u h=>s b _ h⟩
def ko.mono {B:Option Addr}{v:V}{d:D}(h:ko K B G H v d)(s:ah G G')(m:fM B H H'):ko K B G' H' v d:=by
 rcases h with h | ⟨a,e,n,h⟩
 ·exact .inl (h.mono s)
 ·exact .inr ⟨a,e,n,h.mono s λo q=>m.1 a o q n⟩
def ko.rpH {B:Option Addr}{v:V}{d:D}(h:ko K B G H v d)(s:ah G H):Rp K H v d:=by
 rcases h with h | ⟨a,rfl,n,h⟩
 ·exact h.mono s
 ·cases d <;> first |exact h.elim |skip
  ·obtain⟨xs,q,r⟩:=h;exact .lst q (r.mono s)
  ·rcases h with⟨k,q,r⟩ | ⟨k,q,r⟩
   ·exact .dK q (r.mono s)
   ·exact .dT q (r.mono s)
def ko.list {B:Option Addr}{v:V}{ds:List D}(h:ko K B G H v (.list ds))(s:ah G H):∃a xs,v=.ref a/\Rd H a (.lst xs)/\bI K G xs ds:=by
 rcases h with h | ⟨a,rfl,n,xs,q,r⟩
 ·cases h with
  |lst h r=>exact⟨_,_,rfl,.inl (s _ _ h),r⟩
 ·exact⟨a,xs,rfl,.inl q,r⟩
def ko.tuple {B:Option Addr}{v:V}{ds:List D}(h:ko K B G H v (.tuple ds))(s:ah G H):∃a xs,v=.ref a/\gk K H a xs/\bI K G xs ds:=by
 rcases h with h | ⟨a,rfl,n,h⟩
 ·cases h with
  |tup h r=>exact⟨_,_,rfl,h.grow s.grow,r⟩
 ·exact h.elim
def ko.int {B:Option Addr}{v:V}{i:Int}(h:ko K B G H v (.int i)):v=.int i:=by
 rcases h with h | ⟨a,rfl,n,h⟩
 ·cases h;rfl
 ·exact h.elim
def ko.bool {B:Option Addr}{v:V}{b:Bool}(h:ko K B G H v (.bool b)):v=.bl b:=by
 rcases h with h | ⟨a,rfl,n,h⟩
 ·cases h;rfl
 ·exact h.elim
def ko.str {B:Option Addr}{v:V}{x:Str}(h:ko K B G H v (.str x)):v=.str x:=by
 rcases h with h | ⟨a,rfl,n,h⟩
 ·cases h;rfl
 ·exact h.elim
def ko.none {B:Option Addr}{v:V}(h:ko K B G H v .none):v=.non:=by
 rcases h with h | ⟨a,rfl,n,h⟩
 ·cases h;rfl
 ·exact h.elim
end
def Fz:HO->Prop
 | .tup _=>True
 | .aQ _ _=>True
 |_=>False
def Mx (H:Hp)(b:Addr):Prop:=H b≠none/\∀o,H b=some o->¬Fz o
def Mx.lst {H:Hp}{b:Addr}{xs:List V}(h:H b=some (.lst xs)):Mx H b:=⟨by rw[h];simp,λys z=>by rw[h] at z;cases z;exact λy=>y⟩
theorem Mx.same {H H':Hp}{b:Addr}(h:Mx H b)(m:∀o,H b=some o->Kt H' b o):Mx H' b:=by
 obtain⟨h1,h2⟩:=h
 cases e:H b with
 |none=>exact absurd e h1
 |some o=>
  obtain⟨u,eu,k1,k2⟩:=(m o e).some
  refine⟨by rw[eu];simp,λxs z=>?_⟩
  rw[eu] at z
  cases z
  by_cases c:∃ps,o=.tbl ps
  ·obtain⟨ps,e⟩:=k2 c;rw[e];exact λy=>y
  ·rw[k1 λps e=>c ⟨ps,e⟩];exact h2 o e
def Own.mx {K:Frag}{G H:Hp}{a:Addr}{d:D}(h:Own K G H a d):Mx H a:=by
 cases d <;> first |exact h.elim |skip
 ·obtain⟨xs,e,_⟩:=h;exact Mx.lst e
 ·rcases h with⟨k,e,_⟩ | ⟨k,e,_⟩ <;> exact⟨by rw[e];simp,λys z=>by rw[e] at z;cases z;exact λy=>y⟩
open Classical in
noncomputable def ku (G H:Hp):Hp:=λb=>match G b with
 |some o=>some o
 |none=>match H b with
  |some o=>if Fz o then some o else none
  |none=>none
def p7 {G H:Hp}:ah G (ku G H):=λb o e=>Kt.of (by unfold ku;rw[e])
theorem wI {G H:Hp}(s:ah G H){b:Addr}{o:HO}(e:H b=some o)(f:Fz o):ku G H b=some o:=by
 unfold ku
 cases q:G b with
 |some u=>
  obtain⟨u',eu,k1,k2⟩:=(s b u q).some
  rw[e] at eu
  cases eu
  by_cases c:∃ps,u=.tbl ps
  ·obtain⟨ps,z⟩:=k2 c;subst z;exact f.elim
  ·rw[k1 λps z=>c ⟨ps,z⟩]
 |none=>simp only[e];rw[Kf f]
theorem tw {G H:Hp}(s:ah G H):ah (ku G H) H:=λb o e=>by
 unfold ku at e
 cases q:G b with
 |some u=>rw[q] at e;cases e;exact s b _ q
 |none=>
  rw[q] at e
  cases q2:H b with
  |none=>rw[q2] at e;cases e
  |some u=>
   rw[q2] at e
   dsimp only at e
   split at e
   ·cases e;exact Kt.of q2
   ·cases e
theorem wM {G H H':Hp}(hh:ah H H'){b:Addr}(m:Mx H b):ku G H' b=G b:=by
 unfold ku
 cases q:G b with
 |some u=>rfl
 |none=>
  obtain⟨h1,h2⟩:=m
  cases e:H b with
  |none=>exact absurd e h1
  |some o=>
   have hm:=(show Mx H b from⟨h1,h2⟩).same (hh b)
   cases e2:H' b with
   |none=>rfl
   |some u=>simp only;rw[Ki (hm.2 u e2)]
def n6 {K:Frag}{G H:Hp}(s:ah G H){a:Addr}{xs:List V}(h:gk K H a xs):gk K (ku G H) a xs:=by
 rcases h with (h | ⟨o,h⟩) |h
 ·exact .inl (.inl (wI s h trivial))
 ·exact .inl (.inr ⟨o,wI s h trivial⟩)
 ·exact .inr h
structure Fx where
 K:Frag
 H0:Hp
 G0:Hp
 par:List Addr
 ca:Str->Addr
 br:Nat->Bool
 bx:Option Addr
inductive Sl where
 |no |fz (d:D) |ow (d:D) |bx |br (d:D)
abbrev En:=List Sl
inductive Nv where
 |no |da (d:D) |bx
def Sl.val:Sl->Nv
 | .no=>.no
 | .fz d=>.da d
 | .ow d=>.da d
 | .br d=>.da d
 | .bx=>.bx
def vl (env:En):List Nv:=env.map Sl.val
def IC (Γ:Fx)(B:Option Addr)(G H:Hp)(i:Nat)(o:Option (Option V)):Sl->Prop
 | .no=>True
 | .fz d=>∃v,o=some (some v)/\Rp Γ.K G v d
 | .ow d=>∃a,o=some (some (.ref a))/\Γ.H0 a=none/\G a=none/\B≠some a/\Own Γ.K G H a d
 | .bx=>∃a,o=some (some (.ref a))/\B=some a
 | .br d=>Γ.br i=true/\∃a,o=some (some (.ref a))/\B≠some a/\a∉Γ.par/\Own Γ.K G H a d
structure SR (Γ:Fx)(B:Option Addr)(G H:Hp)(σ:St)(env:En)(β:Int):Prop where
 sub:ah G H
 old:ah Γ.G0 G
 new:∀b,Mx Γ.H0 b->Γ.G0 b=none->G b=none
 keep:∀b o,Γ.H0 b=some o->b∉Γ.par->Kt H b o
 pin:∀b,b∈Γ.par->Mx H b
 fix:∀b,Γ.bx=some b->B=some b
 box:∀b,B=some b->H b=some (.lst [.int β])/\G b=none/\(b∈Γ.par\/Γ.H0 b=none)
 len:σ.length=env.length
 slot:∀(i:Nat) (s:Sl),env[i]? =some s->IC Γ B G H i (σ[i]?) s
 sep:∀(i j:Nat) (a:Addr) (d e:D),env[i]? =some (.ow d)->env[j]? =some (.ow e)->σ[i]? =some (some (.ref a))->σ[j]? =some (some (.ref a))->i=j
structure Ext (G H G' H':Hp):Prop where
 hh:ah H H'
 gg:ah G G'
 gh:ah G' H'
 on:∀b,Mx H b->G' b=G b
def Ext.refl {G H:Hp}(s:ah G H):Ext G H G H:=⟨ah.refl _,ah.refl _,s,λ_ _=>rfl⟩
def Ext.tups {G H H':Hp}(s:ah G H)(hh:ah H H'):Ext G H (ku G H') H':=⟨hh,p7,tw (s.trans hh),λ_ m=>wM hh m⟩
def Ext.new {G H:Hp}(s:ah G H){p:Addr}{o:HO}(h:H p=none):Ext G H (upd G p o) (upd H p o):=by
 refine⟨ah.new h,ah.new (s.free h),λb u e=>?_,λb hb=>?_⟩
 ·by_cases z:b=p
  ·subst z;rw[ak] at e;exact Kt.of (by rw[ak];exact e)
  ·rw[aq z] at e;exact gV (s b u e) z (λx y w=>by rw[h] at w;cases w)
 ·exact aq (λz=>hb.1 (by rw[z];exact h))
def Ext.own {G H:Hp}(s:ah G H){p:Addr}{o:HO}(h:H p=none):Ext G H G (upd H p o):=
 ⟨ah.new h,ah.refl _,s.trans (ah.new h),λ_ _=>rfl⟩
def Ext.trans {G H G1 H1 G2 H2:Hp}(x:Ext G H G1 H1)(y:Ext G1 H1 G2 H2):Ext G H G2 H2:=by
 refine⟨x.hh.trans y.hh,x.gg.trans y.gg,y.gh,λb hb=>?_⟩
 rw[y.on b (hb.same λo e=>x.hh b o e),x.on b hb]
section
variable {Γ:Fx}{B:Option Addr}{G H G' H':Hp}{σ:St}{env:En}{β:Int}
def SR.there (I:SR Γ B G H σ env β){b:Addr}(h:Γ.H0 b≠none):H b≠none:=by
 by_cases hp:b∈Γ.par
 ·exact (I.pin b hp).1
 ·cases e:Γ.H0 b with
  |none=>exact absurd e h
  |some o=>obtain⟨u,eu,_⟩:=(I.keep b o e hp).some;rw[eu];simp
def SR.thereM (I:SR Γ B G H σ env β){b:Addr}(h:Mx Γ.H0 b):Mx H b:=by
 by_cases hp:b∈Γ.par
 ·exact I.pin b hp
 ·exact h.same λo e=>I.keep b o e hp
def SR.ext (I:SR Γ B G H σ env β)(x:Ext G H G' H'):SR Γ B G' H' σ env β:=by
 refine⟨x.gh,I.old.trans x.gg,λb h1 h2=>?_,λb o h1 h2=>(I.keep b o h1 h2).step x.hh,λb hb=>?_,I.fix,λb e=>?_,I.len,λi s e=>?_,I.sep⟩
 ·rw[x.on b (I.thereM h1)];exact I.new b h1 h2
 ·exact (I.pin b hb).same λo e=>x.hh b o e
 ·obtain⟨h1,h2,h3⟩:=I.box b e
  exact⟨x.hh b _ h1,by rw[x.on b (Mx.lst h1)];exact h2,h3⟩
 ·have q:=I.slot i s e
  cases s with
  |no=>trivial
  |fz d=>obtain⟨v,h1,h2⟩:=q;exact⟨v,h1,h2.mono x.gg⟩
  |ow d=>
   obtain⟨a,h1,h2,h3,h4,h5⟩:=q
   exact⟨a,h1,h2,by rw[x.on a h5.mx];exact h3,h4,h5.mono x.gg λo q=>x.hh a o q⟩
  |bx=>exact q
  |br d=>obtain⟨b1,a,h1,h4,hp,h5⟩:=q;exact⟨b1,a,h1,h4,hp,h5.mono x.gg λo q=>x.hh a o q⟩
def hW (env:En)(i:Nat):En:=match env[i]? with
 |some (.ow d)=>env.set i (.fz d)
 |_=>env
def aQ (L:List Nat)(env:En):En:=L.foldl hW env
def cW (L M:List Nat)(env:En):aQ (L ++ M) env=aQ M (aQ L env):=by unfold aQ;rw[List.foldl_append]
def u5 (env:En)(i:Nat)(s:Sl)(h:∀t,env[i]? =some t->t.val=s.val):vl (env.set i s)=vl env:=by
 unfold vl
 apply Mc
 intro j
 rw[Kk,Kk,List.getElem?_set]
 by_cases e:i=j
 ·subst e
  by_cases hi:i < env.length
  ·simp only[Lg,hi]
   have:=h _ (J6 hi)
   simp[J6 hi,this]
  ·simp only[Lg,hi,KZ]
   rw[Ma (by omega)]
 ·simp[e]
def BO (env:En)(i:Nat):vl (hW env i)=vl env:=by
 unfold hW
 split
 ·rename_i d e
  exact u5 _ _ _ λt ht=>by rw[e] at ht;cases ht;rfl
 ·rfl
theorem i8 (L:List Nat)(env:En):vl (aQ L env)=vl env:=by
 unfold aQ
 induction L generalizing env with
 |nil=>rfl
 |cons i L ih=>rw[foldl_cons,ih,BO]
theorem DU {i:Nat}{d:D}(h:(vl env)[i]? =some (.da d)):env[i]? =some (.fz d)\/env[i]? =some (.ow d)\/env[i]? =some (.br d):=by
 unfold vl at h
 rw[Kk] at h
 cases e:env[i]? with
 |none=>rw[e] at h;simp at h
 |some s=>
  rw[e] at h
  cases s with
  |no=>simp[Sl.val] at h
  |fz d'=>simp[Sl.val] at h;subst h;exact .inl rfl
  |ow d'=>simp[Sl.val] at h;subst h;exact .inr (.inl rfl)
  |bx=>simp[Sl.val] at h
  |br d'=>simp[Sl.val] at h;subst h;exact .inr (.inr rfl)
theorem Gs {i:Nat}(h:(vl env)[i]? =some .bx):env[i]? =some .bx:=by
 unfold vl at h
 rw[Kk] at h
 cases e:env[i]? with
 |none=>rw[e] at h;simp at h
 |some s=>
  rw[e] at h
  cases s with
  |bx=>rfl
  |_=>simp[Sl.val] at h
def SR.freeze (I:SR Γ B G H σ env β)(i:Nat)(hb:Γ.br i=false){d:D}(h:(vl env)[i]? =some (.da d)):∃G' v,SR Γ B G' H σ (hW env i) β/\ah G G'/\σ[i]? =some (some v)/\Rp Γ.K G' v d:=by
 rcases DU h with e |e |e
 ·obtain⟨v,h1,h2⟩:=I.slot i _ e
  exact⟨G,v,by unfold hW;rw[e];exact I,ah.refl _,h1,h2⟩
 rotate_left
 ·obtain⟨z,_⟩:=I.slot i _ e
  rw[hb] at z;cases z
 ·obtain⟨a,h1,h2,h3,h4,h5⟩:=I.slot i _ e
  obtain⟨o,ho⟩:=h5.obj
  have sG:ah G (upd G a o):=ah.new h3
  have hi:i < env.length:=(Ks.mp e).1
  have hr:Rp Γ.K (upd G a o) (.ref a) d:=h5.rp h3 sG λo' q=>by rw[ho] at q;cases q;exact ak
  refine⟨upd G a o,.ref a,?_,sG,h1,hr⟩
  unfold hW
  rw[e]
  refine⟨λb u q=>?_,I.old.trans sG,λb n1 n2=>?_,I.keep,I.pin,I.fix,λb q=>?_,by rw[K3];exact I.len,λj s q=>?_,λj k c d1 d2 q1 q2 q3 q4=>?_⟩
  ·by_cases z:b=a
   ·subst z;rw[ak] at q;cases q;exact Kt.of ho
   ·rw[aq z] at q;exact I.sub b u q
  ·rw[aq (λz=>n1.1 (by rw[z];exact h2))];exact I.new b n1 n2
  ·obtain⟨k1,k2,k3⟩:=I.box b q
   exact⟨k1,by rw[aq (λz=>h4 (by rw[<-z];exact q))];exact k2,k3⟩
  ·by_cases z:j=i
   ·subst z
    rw[Kw hi] at q
    cases q
    exact⟨.ref a,h1,hr⟩
   ·rw[Km (Ne.symm z)] at q
    have w:=I.slot j s q
    cases s with
    |no=>trivial
    |fz d'=>obtain⟨v,w1,w2⟩:=w;exact⟨v,w1,w2.mono sG⟩
    |ow d'=>
     obtain⟨c,w1,w2,w3,w4,w5⟩:=w
     have ca:c≠a:=λz2=>z (I.sep j i c d' d q e w1 (by rw[z2];exact h1))
     exact⟨c,w1,w2,by rw[aq ca];exact w3,w4,w5.mono sG λo q=>Kt.of q⟩
    |bx=>exact w
    |br d'=>obtain⟨b1,c,w1,w4,wp,w5⟩:=w;exact⟨b1,c,w1,w4,wp,w5.mono sG λo q=>Kt.of q⟩
  ·have ne:∀{j:Nat} {d':D},(env.set i (Sl.fz d))[j]? =some (.ow d')->env[j]? =some (.ow d'):=λ{j d'} q=>by
    by_cases z:j=i
    ·subst z;rw[Kw hi] at q;cases q
    ·rw[Km (Ne.symm z)] at q;exact q
   exact I.sep j k c d1 d2 (ne q1) (ne q2) q3 q4
theorem SR.aQ (I:SR Γ B G H σ env β)(L:List Nat)(hb:∀i,i∈L->Γ.br i=false):∃G',SR Γ B G' H σ (aQ L env) β/\ah G G':=by
 induction L generalizing env G with
 |nil=>exact⟨G,I,ah.refl _⟩
 |cons i L ih=>
  show ∃G',SR Γ B G' H σ (L2.aQ L (hW env i)) β/\ah G G'
  have key:∃G1,SR Γ B G1 H σ (hW env i) β/\ah G G1:=by
   cases e:env[i]? with
   |none=>exact⟨G,by unfold hW;rw[e];exact I,ah.refl _⟩
   |some s=>
    cases s with
    |ow d=>
     obtain⟨G1,v,h1,h2,_⟩:=I.freeze i (hb i (Kd ..)) (d:=d) (by unfold vl;rw[Kk,e];rfl)
     exact⟨G1,h1,h2⟩
    |_=>exact⟨G,by unfold hW;rw[e];exact I,ah.refl _⟩
  obtain⟨G1,I1,s1⟩:=key
  obtain⟨G2,I2,s2⟩:=ih I1 λj hj=>hb j (J9 _ hj)
  exact⟨G2,I2,s1.trans s2⟩
def SR.set (I:SR Γ B G H σ env β){i:Nat}(hi:i < env.length){v:V}{d:D}(h:Rp Γ.K G v d):SR Γ B G H (σ.set i (some v)) (env.set i (.fz d)) β:=by
 have hs:i < σ.length:=by rw[I.len];exact hi
 refine⟨I.sub,I.old,I.new,I.keep,I.pin,I.fix,I.box,by rw[K3,K3];exact I.len,λj s q=>?_,λj k c d1 d2 q1 q2 q3 q4=>?_⟩
 ·by_cases z:j=i
  ·subst z
   rw[Kw hi] at q
   cases q
   exact⟨v,by rw[Kw hs],h⟩
  ·rw[Km (Ne.symm z)] at q ⊢
   exact I.slot j s q
 ·have ne:∀{j:Nat} {d':D},(env.set i (Sl.fz d))[j]? =some (.ow d')->j≠i/\env[j]? =some (.ow d'):=λ{j d'} q=>by
   by_cases z:j=i
   ·subst z;rw[Kw hi] at q;cases q
   ·rw[Km (Ne.symm z)] at q;exact⟨z,q⟩
  obtain⟨n1,e1⟩:=ne q1
  obtain⟨n2,e2⟩:=ne q2
  rw[Km (Ne.symm n1)] at q3
  rw[Km (Ne.symm n2)] at q4
  exact I.sep j k c d1 d2 e1 e2 q3 q4
def SR.setOw (I:SR Γ B G H σ env β){i:Nat}(hi:i < env.length){a:Addr}{d:D}(h0:Γ.H0 a=none)(hg:G a=none)(hb:B≠some a)(h:Own Γ.K G H a d)(hn:∀(j:Nat) (d':D),env[j]? =some (.ow d')->j≠i->σ[j]?≠some (some (.ref a))):SR Γ B G H (σ.set i (some (.ref a))) (env.set i (.ow d)) β:=by
 have hs:i < σ.length:=by rw[I.len];exact hi
 refine⟨I.sub,I.old,I.new,I.keep,I.pin,I.fix,I.box,by rw[K3,K3];exact I.len,λj s q=>?_,λj k c d1 d2 q1 q2 q3 q4=>?_⟩
 ·by_cases z:j=i
  ·subst z
   rw[Kw hi] at q
   cases q
   exact⟨a,by rw[Kw hs],h0,hg,hb,h⟩
  ·rw[Km (Ne.symm z)] at q ⊢
   exact I.slot j s q
 ·by_cases z1:j=i
  ·by_cases z2:k=i
   ·rw[z1,z2]
   ·subst z1
    rw[Km (Ne.symm z2)] at q2 q4
    rw[Kw hs] at q3
    cases q3
    exact absurd q4 (hn k d2 q2 z2)
  ·by_cases z2:k=i
   ·subst z2
    rw[Km (Ne.symm z1)] at q1 q3
    rw[Kw hs] at q4
    cases q4
    exact absurd q3 (hn j d1 q1 z1)
   ·rw[Km (Ne.symm z1)] at q1 q3
    rw[Km (Ne.symm z2)] at q2 q4
    exact I.sep j k c d1 d2 q1 q2 q3 q4
def SR.fresh (I:SR Γ B G H σ env β){a:Addr}(h:H a=none):Γ.H0 a=none/\G a=none/\B≠some a/\∀(j:Nat) (d:D),env[j]? =some (.ow d)->σ[j]?≠some (some (.ref a)):=by
 have hB:B≠some a:=λz=>by rw[(I.box a z).1] at h;cases h
 refine⟨?_,I.sub.free h,hB,λj d e z=>?_⟩
 ·cases e:Γ.H0 a with
  |none=>rfl
  |some o=>exact absurd h (I.there (by rw[e];simp))
 ·obtain⟨c,h1,_,_,_,h5⟩:=I.slot j _ e
  rw[z] at h1
  cases h1
  obtain⟨o,ho⟩:=h5.obj
  rw[h] at ho;cases ho
def SR.write (I:SR Γ B G H σ env β)(hb:∀j,Γ.br j=false){i:Nat}{a:Addr}{d d':D}{o:HO}(e:env[i]? =some (.ow d))(ea:σ[i]? =some (some (.ref a)))(h:∀H',H' a=some o->ah G H'->Own Γ.K G H' a d'):SR Γ B G (upd H a o) σ (env.set i (.ow d')) β:=by
 obtain⟨a',h1,h2,h3,h4,h5⟩:=I.slot i _ e
 rw[ea] at h1;cases h1
 have hi:i < env.length:=(Ks.mp e).1
 have ha:∀x y,H a≠some (.aQ x y):=λx y w=>h5.mx.2 _ w trivial
 have sub:ah G (upd H a o):=λb u q=>gV (I.sub b u q) (λz=>by rw[z,h3] at q;cases q) ha
 refine⟨sub,I.old,I.new,λb u q n=>?_,λb q=>?_,I.fix,λb q=>?_,by rw[K3];exact I.len,λj s q=>?_,λj k c d1 d2 q1 q2 q3 q4=>?_⟩
 ·exact gV (I.keep b u q n) (λz=>by rw[z,h2] at q;cases q) ha
 ·by_cases z:b=a
  ·subst z;exact (h _ ak sub).mx
  ·exact (I.pin b q).same λo e=>Kt.of (by rw[aq z];exact e)
 ·obtain⟨k1,k2,k3⟩:=I.box b q
  exact⟨by rw[aq (λz=>h4 (by rw[<-z];exact q))];exact k1,k2,k3⟩
 ·by_cases z:j=i
  ·subst z
   rw[Kw hi] at q
   cases q
   exact⟨a,ea,h2,h3,h4,h _ ak sub⟩
  ·rw[Km (Ne.symm z)] at q
   have w:=I.slot j s q
   cases s with
   |no=>trivial
   |fz d1=>exact w
   |ow d1=>
    obtain⟨c,w1,w2,w3,w4,w5⟩:=w
    have ca:c≠a:=λz2=>z (I.sep j i c d1 d q e w1 (by rw[z2];exact ea))
    exact⟨c,w1,w2,w3,w4,w5.mono (ah.refl _) λo q=>Kt.of (by rw[aq ca];exact q)⟩
   |bx=>exact w
   |br d1=>obtain⟨b1,_⟩:=w;rw[hb j] at b1;cases b1
 ·have back:∀{j:Nat} {d1:D},(env.set i (Sl.ow d'))[j]? =some (.ow d1)->∃d2,env[j]? =some (.ow d2):=λ{j d1} q=>by
   by_cases z:j=i
   ·subst z;exact⟨d,e⟩
   ·rw[Km (Ne.symm z)] at q;exact⟨d1,q⟩
  obtain⟨_,b1⟩:=back q1
  obtain⟨_,b2⟩:=back q2
  exact I.sep j k c _ _ b1 b2 q3 q4
end
inductive R (α:Type) where
 |ok (a:α) (β:Int)
 |exc (c:Str)
 |bad
def R.bnd {α γ:Type}(r:R α)(k:α->Int->R γ):R γ:=match r with
 | .ok a β=>k a β
 | .exc c=>.exc c
 | .bad=>.bad
def R.of {α:Type}(o:Option α)(β:Int):R α:=match o with
 |some a=>.ok a β
 |none=>.bad
abbrev VF (α:Type):=List Nv->Int->R α
def Kp (Γ:Fx)(H':Hp):Prop:=∀b o,Γ.H0 b=some o->b∉Γ.par->Kt H' b o
def Out {α:Type}(Γ:Fx)(E:XK)(r:R α)(P:α->Int->Prop):Prop:=match r with
 | .ok a β=>P a β
 | .exc c=>∀H',Kp Γ H'->E (.ref (Γ.ca c)) none H'
 | .bad=>False
section
variable {α γ:Type}{Γ:Fx}{E:XK}
theorem Out.bnd {r:R α}{k:α->Int->R γ}{P:γ->Int->Prop}(h:Out Γ E (r.bnd k) P):Out Γ E r λa β=>Out Γ E (k a β) P:=by
 cases r with
 |ok a β=>exact h
 |exc c=>exact h
 |bad=>exact h
theorem Out.imp {r:R α}{P P':α->Int->Prop}(h:Out Γ E r P)(i:∀a β,P a β->P' a β):Out Γ E r P':=by
 cases r with
 |ok a β=>exact i a β h
 |exc c=>exact h
 |bad=>exact h
theorem Out.of {o:Option α}{β:Int}{P:α->Int->Prop}(h:Out Γ E (R.of o β) P):∃a,o=some a/\P a β:=by
 cases o with
 |none=>exact h.elim
 |some a=>exact⟨a,rfl,h⟩
end
inductive Md where
 |b |v |w
def VO (K:Frag)(B:Option Addr)(H G' H':Hp):Md->D->V->Prop
 | .b,d,v=>ko K B G' H' v d
 | .v,d,v=>Rp K G' v d
 | .w,d,v=>∃a,v=.ref a/\H a=none/\G' a=none/\Own K G' H' a d
def pT (Γ:Fx)(E:XK)(f:VF D)(L:List Nat)(md:Md):TE:=λσ H Q=>∃env G B β,SR Γ B G H σ env β/\
 Out Γ E (f (vl env) β) λd β'=>∀v G' H',SR Γ B G' H' σ (aQ L env) β'->ah G G'->fM B H H'->VO Γ.K B H G' H' md d v->Q v H'
def SE (X:Cx)(Γ:Fx)(E:XK)(e:Expr)(f:VF D)(L:List Nat)(md:Md):Prop:=PE X e (pT Γ E f L md)
def qT (Γ:Fx)(E:XK)(f:VF Bool)(L:List Nat):TT:=λσ H Q=>∃env G B β,SR Γ B G H σ env β/\
 Out Γ E (f (vl env) β) λc β'=>∀G' H',SR Γ B G' H' σ (aQ L env) β'->ah G G'->fM B H H'->Q c H'
def y0 (X:Cx)(Γ:Fx)(E:XK)(e:Expr)(f:VF Bool)(L:List Nat):Prop:=PT X e (qT Γ E f L)
def r6 (X:Cx)(Γ:Fx)(E:XK)(e:Expr)(f:VF Bool)(L:List Nat):Prop:=PW X e (qT Γ E f L)
def aT (Γ:Fx)(E:XK)(f:VF (List D))(L:List Nat):TA:=λσ H Q=>∃env G B β,SR Γ B G H σ env β/\
 Out Γ E (f (vl env) β) λds β'=>∀vs G' H',SR Γ B G' H' σ (aQ L env) β'->ah G G'->fM B H H'->bI Γ.K G' vs ds->Q vs H'
def SA (X:Cx)(Γ:Fx)(E:XK)(es:List Expr)(f:VF (List D))(L:List Nat):Prop:=PA X es (aT Γ E f L)
def PE.post' {X:Cx}{e:Expr}{t u:TE}(h:PE X e t)(m:∀σ H Q,u σ H Q->t σ H Q):PE X e u:=λpins s σ H Q I q=>h pins s σ H Q I (m σ H Q q)
def PT.post {X:Cx}{e:Expr}{t u:TT}(h:PT X e t)(m:∀σ H Q,u σ H Q->t σ H Q):PT X e u:=λpins s σ H Q I q=>h pins s σ H Q I (m σ H Q q)
def PW.post {X:Cx}{e:Expr}{t u:TT}(h:PW X e t)(m:∀σ H Q,u σ H Q->t σ H Q):PW X e u:=λwh pins s σ H Q I q=>h wh pins s σ H Q I (m σ H Q q)
def PA.post {X:Cx}{es:List Expr}{t u:TA}(h:PA X es t)(m:∀σ H Q,u σ H Q->t σ H Q):PA X es u:=λpos pins s σ H Q I q=>h pos pins s σ H Q I (m σ H Q q)
def PS.post {X:Cx}{st:Stmt}{t u:TS}(h:PS X st t)(m:∀D σ H,u D σ H->t D σ H):PS X st u:=λpins s σ H D I q=>h pins s σ H D I (m D σ H q)
def dat:Option Nv->Option D
 |some (.da d)=>some d
 |_=>none
def gv (i:Nat):VF D:=λvs β=>R.of (dat vs[i]?) β
def cst (d:D):VF D:=λ_ β=>.ok d β
section
variable {X:Cx}{Γ:Fx}{E:XK}{e a b c:Expr}{f fa fb fc:VF D}{L La Lb Lc:List Nat}{md ma mb mc:Md}{pos:Pos}
theorem join_some {o:Option Nv}{d:D}(h:dat o=some d):o=some (.da d):=by
 cases o with
 |none=>cases h
 |some o=>cases o with
  |da x=>cases h;rfl
  |_=>cases h
def SR.letIn {B:Option Addr}{G H:Hp}{σ:St}{env:En}{β:Int}(I:SR Γ B G H σ env β){p:Addr}{d:D}(h0:Γ.H0 p=none)(hg:G p=none)(hb:B≠some p)(hn:∀(j:Nat) (d':D),env[j]? =some (.ow d')->σ[j]?≠some (some (.ref p)))(h:Own Γ.K G H p d) :
  ∃G',SR Γ B G' H σ env β/\ah G G'/\Rp Γ.K G' (.ref p) d:=by
 obtain⟨o,ho⟩:=h.obj
 have sG:ah G (upd G p o):=ah.new hg
 refine⟨upd G p o,⟨λb u q=>?_,I.old.trans sG,λb n1 n2=>?_,I.keep,I.pin,I.fix,λb q=>?_,I.len,λj s q=>?_,I.sep⟩,sG,h.rp hg sG λo' q=>by rw[ho] at q;cases q;exact ak⟩
 ·by_cases z:b=p
  ·subst z;rw[ak] at q;cases q;exact Kt.of ho
  ·rw[aq z] at q;exact I.sub b u q
 ·rw[aq (λz=>n1.1 (by rw[z];exact h0))];exact I.new b n1 n2
 ·obtain⟨k1,k2,k3⟩:=I.box b q
  exact⟨k1,by rw[aq (λz=>hb (by rw[<-z];exact q))];exact k2,k3⟩
 ·have w:=I.slot j s q
  cases s with
  |no=>trivial
  |fz d'=>obtain⟨v,w1,w2⟩:=w;exact⟨v,w1,w2.mono sG⟩
  |ow d'=>
   obtain⟨c,w1,w2,w3,w4,w5⟩:=w
   have ca:c≠p:=λz2=>hn j d' q (by rw[<-z2];exact w1)
   exact⟨c,w1,w2,by rw[aq ca];exact w3,w4,w5.mono sG λo q=>Kt.of q⟩
  |bx=>exact w
  |br d'=>obtain⟨b1,c,w1,w4,wp,w5⟩:=w;exact⟨b1,c,w1,w4,wp,w5.mono sG λo q=>Kt.of q⟩
def vY {env:En}{i j:Nat}{d:D}(h:(hW env i)[j]? =some (.ow d)):env[j]? =some (.ow d):=by
 unfold hW at h
 split at h
 ·rename_i d' e
  by_cases z:i=j
  ·subst z
   rw[Kw (Ks.mp e).1] at h;cases h
  ·rw[Km z] at h;exact h
 ·exact h
theorem rl {L:List Nat}{env:En}{j:Nat}{d:D}(h:(aQ L env)[j]? =some (.ow d)):env[j]? =some (.ow d):=by
 unfold aQ at h
 induction L generalizing env with
 |nil=>exact h
 |cons i L ih=>exact vY (ih h)
def SR.letW {B:Option Addr}{G H G' H':Hp}{σ:St}{env:En}{β β':Int}{L:List Nat}{d:D}{v:V}(I:SR Γ B G H σ env β)(I':SR Γ B G' H' σ (L2.aQ L env) β')(h:VO Γ.K B H G' H' .w d v):∃G2,SR Γ B G2 H' σ (L2.aQ L env) β'/\ah G' G2/\Rp Γ.K G2 v d:=by
 obtain⟨p,rfl,h1,h2,h3⟩:=h
 obtain⟨q1,q2,q3,q4⟩:=I.fresh h1
 exact I'.letIn q1 h2 q3 (λj d' e=>q4 j d' (rl e)) h3
def SE.wv (h:SE X Γ E e f L .w):SE X Γ E e f L .v:=by
 refine PE.post' h λσ H Q ⟨env,G,B,β,I,o⟩=>⟨env,G,B,β,I,o.imp λd β' k v G' H' I' s m vo=>?_⟩
 obtain⟨G2,I2,s2,r⟩:=I.letW I' vo
 exact k v G2 H' I2 (s.trans s2) m r
theorem VO.brw {B:Option Addr}{H G' H':Hp}{d:D}{v:V}{K:Frag}(h:VO K B H G' H' md d v)(hB:∀x,B=some x->H x≠none):ko K B G' H' v d:=by
 cases md with
 |b=>exact h
 |v=>exact .inl h
 |w=>
  obtain⟨p,rfl,h1,h2,h3⟩:=h
  exact .inr ⟨p,rfl,λz=>hB p z h1,h3⟩
def SR.boxThere {B:Option Addr}{G H:Hp}{σ:St}{env:En}{β:Int}(I:SR Γ B G H σ env β):∀x,B=some x->H x≠none:=λx e=>by rw[(I.box x e).1];simp
def ag (i:Nat){x:Str}(hN:X.N[i]? =some x:=by rfl)(hv:qP X.env.scope x:=by first |exact Or.inl rfl |exact Or.inr (Or.inl rfl) |exact Or.inr (Or.inr rfl))(hd:(x == ("__debug__":Str))=false:=by decide)
  (hcd:(x == ("__classdict__":Str))=false:=by decide):SE X Γ E (.Name x pos) (gv i) [] .b:=by
 refine PE.post' (cM hN hv hd hcd) λσ H Q ⟨env,G,B,β,I,o⟩=>?_
 obtain⟨d,e,k⟩:=o.of
 have e:=join_some e
 rcases DU e with q |q |q
 ·obtain⟨v,h1,h2⟩:=I.slot i _ q
  exact⟨v,h1,k v G H I (ah.refl _) (fM.refl _ _) (.inl h2)⟩
 ·obtain⟨p,h1,h2,h3,h4,h5⟩:=I.slot i _ q
  exact⟨.ref p,h1,k _ G H I (ah.refl _) (fM.refl _ _) (.inr ⟨p,rfl,h4,h5⟩)⟩
 ·obtain⟨_,p,h1,h4,_,h5⟩:=I.slot i _ q
  exact⟨.ref p,h1,k _ G H I (ah.refl _) (fM.refl _ _) (.inr ⟨p,rfl,h4,h5⟩)⟩
def az (i:Nat)(hb:Γ.br i=false){x:Str}(hN:X.N[i]? =some x:=by rfl)(hv:qP X.env.scope x:=by first |exact Or.inl rfl |exact Or.inr (Or.inl rfl) |exact Or.inr (Or.inr rfl))(hd:(x == ("__debug__":Str))=false:=by decide)
  (hcd:(x == ("__classdict__":Str))=false:=by decide):SE X Γ E (.Name x pos) (gv i) [i] .v:=by
 refine PE.post' (cM hN hv hd hcd) λσ H Q ⟨env,G,B,β,I,o⟩=>?_
 obtain⟨d,e,k⟩:=o.of
 obtain⟨G',v,I',s,h1,h2⟩:=I.freeze i hb (join_some e)
 exact⟨v,h1,k v G' H I' s (fM.refl _ _) h2⟩
def Ah {v:V}{d:D}(h:PE X e (tC v))(r:∀G,Rp Γ.K G v d):SE X Γ E e (cst d) [] .v:=by
 refine PE.post' h λσ H Q ⟨env,G,B,β,I,o⟩=>?_
 exact o v G H I (ah.refl _) (fM.refl _ _) (r G)
def aw {i:Int}{j}:SE X Γ E (.Constant (.int i) j pos) (cst (.int i)) [] .v:=Ah nZ λ_=>.int i
def gJ {i:Bool}{j}:SE X Γ E (.Constant (.bool i) j pos) (cst (.bool i)) [] .v:=Ah wG λ_=>.bl i
def Ee {j}:SE X Γ E (.Constant .none j pos) (cst .none) [] .v:=Ah FQ λ_=>.non
def zi {x:Str}{j}:SE X Γ E (.Constant (.str x) j pos) (cst (.str x)) [] .v:=Ah zX λ_=>.str x
def Dx {x:Str}{i:Int}{t:Tok}(hg:Gl X x)(hm:X.mg x=some (.int i t))(hd:(x == ("__debug__":Str))=false:=by decide):SE X Γ E (.Name x pos) (cst (.int i)) [] .v:=Ah (CV hg hm (show RelV (.int i) _ from⟨_,rfl⟩) hd) λ_=>.int i
def two {W:V->V->Hp->Prop}{B:Option Addr}{G H:Hp}{σ:St}{env:En}{β:Int}(I:SR Γ B G H σ env β)
  (h:Out Γ E (fa (vl env) β) λd1 β1=>Out Γ E (fb (vl env) β1) λd2 β2=>∀x y G2 H2,SR Γ B G2 H2 σ (aQ (La ++ Lb) env) β2->ah G G2->fM B H H2->ko Γ.K B G2 H2 x d1->ko Γ.K B G2 H2 y d2->W x y H2) :
  pT Γ E fa La ma σ H λx H1=>pT Γ E fb Lb mb σ H1 λy H2=>W x y H2:=by
 refine⟨env,G,B,β,I,h.imp λd1 β1 h x G1 H1 I1 s1 m1 vx=>⟨aQ La env,G1,B,β1,I1,?_⟩⟩
 rw[i8]
 refine h.imp λd2 β2 k y G2 H2 I2 s2 m2 vy=>?_
 refine k x y G2 H2 (by rw[cW];exact I2) (s1.trans s2) (m1.trans m2) ((vx.brw I.boxThere).mono s2 m2) (vy.brw I1.boxThere)
def mf (K:Frag)(r:R2)(g:D->D->Option D)(md:Md):Prop:=∀(B:Option Addr) (G H:Hp) (x y:V) (dx dy d:D) (Q:VK),ah G H->(∀x,B=some x->H x≠none)->ko K B G H x dx->ko K B G H y dy->g dx dy=some d->
 (∀v G' H',Ext G H G' H'->VO K B H G' H' md d v->Q v H')->r x y H Q
def f2 (fa fb:VF D)(g:D->D->Option D):VF D:=λvs β=>(fa vs β).bnd λx β1=>(fb vs β1).bnd λy β2=>R.of (g x y) β2
theorem dE {B:Option Addr}{H H2:Hp}(m:fM B H H2)(hB:∀x,B=some x->H2 x≠none){p:Addr}(h:H2 p=none):H p=none:=by
 cases e:H p with
 |none=>rfl
 |some o=>obtain⟨u,eu,_⟩:=(m.1 p o e λz=>hB p z h).some;rw[eu] at h;cases h
theorem VO.back {K:Frag}{B:Option Addr}{H H2 G' H':Hp}{d:D}{v:V}(h:VO K B H2 G' H' md d v)(m:fM B H H2)(hB:∀x,B=some x->H2 x≠none):VO K B H G' H' md d v:=by
 cases md with
 |b=>exact h
 |v=>exact h
 |w=>obtain⟨p,e,h1,h2,h3⟩:=h;exact⟨p,e,dE m hB h1,h2,h3⟩
def lr {r:R2}{g:D->D->Option D}{Q:VK}(pr:mf Γ.K r g md){B:Option Addr}{G H:Hp}{σ:St}{env:En}{β:Int}(I:SR Γ B G H σ env β)
  (h:Out Γ E (f2 fa fb g (vl env) β) λd β'=>∀v G' H',SR Γ B G' H' σ (aQ (La ++ Lb) env) β'->ah G G'->fM B H H'->VO Γ.K B H G' H' md d v->Q v H') :
  pT Γ E fa La ma σ H λx H1=>pT Γ E fb Lb mb σ H1 λy H2=>r x y H2 Q:=by
 refine two I (h.bnd.imp λd1 β1 h=>h.bnd.imp λd2 β2 h x y G2 H2 I2 s2 m2 bx by'=>?_)
 obtain⟨d,e,k⟩:=h.of
 refine pr B G2 H2 x y d1 d2 d Q I2.sub I2.boxThere bx by' e λv G' H' x' vo=>?_
 exact k v G' H' (I2.ext x') (s2.trans x'.gg) (m2.trans (x'.hh.mov B)) (vo.back m2 I2.boxThere)
def bo {op:Operator}{r:R2}{g:D->D->Option D}(ho:lu X (binaryOp op) r)(pr:mf Γ.K r g md)(ha:SE X Γ E a fa La ma)(hb:SE X Γ E b fb Lb mb):SE X Γ E (.BinOp a op b pos) (f2 fa fb g) (La ++ Lb) md:=
 PE.post' (sZ ho ha hb) λσ H Q ⟨env,G,B,β,I,o⟩=>lr pr I o
def fg {op:CmpOp}{r:R2}{g:D->D->Option D}(ho:lu X (compareOp op) r)(pr:mf Γ.K r g md)(ha:SE X Γ E a fa La ma)(hb:SE X Γ E b fb Lb mb)(hm:behindInMarks op b=false):SE X Γ E (.Compare a [op] [b] pos) (f2 fa fb g) (La ++ Lb) md:=
 PE.post' (Cy ho ha hb hm) λσ H Q ⟨env,G,B,β,I,o⟩=>lr pr I o
def bY {r:R2}{g:D->D->Option D}(hr:Aw X r)(pr:mf Γ.K r g md)(ha:SE X Γ E a fa La ma)(hb:SE X Γ E b fb Lb mb)(hs:rX b):SE X Γ E (.Subscript a b pos) (f2 fa fb g) (La ++ Lb) md:=
 PE.post' (jw hr ha hb hs) λσ H Q ⟨env,G,B,β,I,o⟩=>lr pr I o
def ye (K:Frag)(r:V->Hp->VK->Prop)(g:D->Option D)(md:Md):Prop:=∀(B:Option Addr) (G H:Hp) (x:V) (dx d:D) (Q:VK),ah G H->(∀x,B=some x->H x≠none)->ko K B G H x dx->g dx=some d->
 (∀v G' H',Ext G H G' H'->VO K B H G' H' md d v->Q v H')->r x H Q
def f1 (fa:VF D)(g:D->Option D):VF D:=λvs β=>(fa vs β).bnd λx β1=>R.of (g x) β1
def gK {r:V->Hp->VK->Prop}{g:D->Option D}{Q:VK}(pr:ye Γ.K r g md){B:Option Addr}{G H:Hp}{σ:St}{env:En}{β:Int}(I:SR Γ B G H σ env β)
  (h:Out Γ E (f1 fa g (vl env) β) λd β'=>∀v G' H',SR Γ B G' H' σ (aQ La env) β'->ah G G'->fM B H H'->VO Γ.K B H G' H' md d v->Q v H') :
  pT Γ E fa La ma σ H λx H1=>r x H1 Q:=by
 refine⟨env,G,B,β,I,h.bnd.imp λd1 β1 h x G1 H1 I1 s1 m1 vx=>?_⟩
 obtain⟨d,e,k⟩:=h.of
 refine pr B G1 H1 x d1 d Q I1.sub I1.boxThere (vx.brw I.boxThere) e λv G' H' x' vo=>?_
 exact k v G' H' (I1.ext x') (s1.trans x'.gg) (m1.trans (x'.hh.mov B)) (vo.back m1 I1.boxThere)
def xE {op:UnaryOp}{r:V->Hp->VK->Prop}{g:D->Option D}(ho:HP X (unaryOp op) r)(pr:ye Γ.K r g md)(ha:SE X Γ E a fa La ma):SE X Γ E (.UnaryOp op a pos) (f1 fa g) La md:=
 PE.post' (D6 ho ha) λσ H Q ⟨env,G,B,β,I,o⟩=>gK pr I o
def aM {id:String}{r:List V->Hp->VK->Prop}{g:D->Option D}{x:Str}{p:Pos}(hc:b6 X (.builtin id) r)(pr:ye Γ.K (λx=>r [x]) g md)(hg:Gl X x)(hm:X.mg x=none)(hv:bootBuiltins x=some (.builtin id))(ha:SE X Γ E a fa La ma)(hn:x≠"__name__":=by decide)(hdb:(x == ("__debug__":Str))=false:=by decide)
  (he:starEach [a] X.env=(false,eval a X.env) :: starEach [] X.env:=by rfl):SE X Γ E (.Call (.Name x p) [a] [] pos) (f1 fa g) La md:=
 PE.post' (hX hc hg hm hv (aG ha a7 he) hn hdb he) λσ H Q ⟨env,G,B,β,I,o⟩=>gK (r:=λx=>r [x]) pr I o
def kZ {id:String}{r:List V->Hp->VK->Prop}{g:D->Option D}{x:Str}{p:Pos}(hc:b6 X (.type id) r)(pr:ye Γ.K (λx=>r [x]) g md)(hg:Gl X x)(hm:X.mg x=none)(hv:bootBuiltins x=some (.type id))(ha:SE X Γ E a fa La ma)(hn:x≠"__name__":=by decide)(hdb:(x == ("__debug__":Str))=false:=by decide)
  (he:starEach [a] X.env=(false,eval a X.env) :: starEach [] X.env:=by rfl):SE X Γ E (.Call (.Name x p) [a] [] pos) (f1 fa g) La md:=
 PE.post' (fN hc hg hm hv (aG ha a7 he) hn hdb he) λσ H Q ⟨env,G,B,β,I,o⟩=>gK (r:=λx=>r [x]) pr I o
def sO {id:String}{r:List V->Hp->VK->Prop}{g:D->D->Option D}{x:Str}{p:Pos}(hc:b6 X (.builtin id) r)(pr:mf Γ.K (λx y=>r [x,y]) g md)(hg:Gl X x)(hm:X.mg x=none)(hv:bootBuiltins x=some (.builtin id))(ha:SE X Γ E a fa La ma)(hb:SE X Γ E b fb Lb mb)(hn:x≠"__name__":=by decide)(hdb:(x == ("__debug__":Str))=false:=by decide)
  (he:starEach [a,b] X.env=(false,eval a X.env) :: starEach [b] X.env:=by rfl) (he2:starEach [b] X.env=(false,eval b X.env) :: starEach [] X.env:=by rfl) (hpl:(backTo pos (starEach [b] X.env)).any (·.1)=false:=by rfl):SE X Γ E (.Call (.Name x p) [a,b] [] pos) (f2 fa fb g) (La ++ Lb) md:=
 PE.post' (hX hc hg hm hv (aG ha (aG hb a7 he2) he) hn hdb he hpl) λσ H Q ⟨env,G,B,β,I,o⟩=>lr (r:=λx y=>r [x,y]) pr I o
def eJ (fa fb:VF D):VF D:=λvs β=>(fa vs β).bnd λx β1=>match x with
 | .bool true=>fb vs β1
 | .bool false=>.ok (.bool false) β1
 |_=>.bad
def iF {op}(h:SE X Γ E a fa La md):SE X Γ E (.BoolOp op [a] pos) fa La md:=D8 h
theorem gj {rest:List Expr}(ha:SE X Γ E a fa La ma)(hb:SE X Γ E (.BoolOp .And (b :: rest) pos) fb Lb .v)(hbr:∀i,i∈Lb->Γ.br i=false):SE X Γ E (.BoolOp .And (a :: b :: rest) pos) (eJ fa fb) (La ++ Lb) .v:=by
 refine PE.post' (FF ha hb) λσ H Q ⟨env,G,B,β,I,o⟩=>?_
 refine⟨env,G,B,β,I,o.bnd.imp λd1 β1 h x G1 H1 I1 s1 m1 vx=>?_⟩
 have bx:=vx.brw I.boxThere
 cases d1 with
 |bool c=>
  obtain rfl:=bx.bool
  refine⟨c,rfl,?_⟩
  cases c with
  |true=>exact o6 ⟨_,G1,B,β1,I1,by rw[i8];exact h.imp λd β' k v G' H' I' s' m' vo=>k v G' H' (by rw[cW];exact I') (s1.trans s') (m1.trans m') vo⟩
  |false=>
   obtain⟨G2,I2,s2⟩:=I1.aQ Lb hbr
   exact pA (h _ G2 H1 (by rw[cW];exact I2) (s1.trans s2) m1 (.bl false))
 |_=>exact h.elim
def sF:D->Option D
 | .bool c=>some (.bool (!c))
 |_=>none
theorem rL (ha:SE X Γ E a fa La ma):SE X Γ E (.UnaryOp .Not a pos) (f1 fa sF) La .v:=by
 refine PE.post' (Fm ha) λσ H Q ⟨env,G,B,β,I,o⟩=>?_
 refine gK (r:=λx H1 Q=>∃c,x=.bl c/\Q (.bl (!c)) H1) ?_ I o
 intro B G H x dx d Q s hB bx e k
 cases dx with
 |bool c=>
  obtain rfl:=bx.bool
  cases e
  exact⟨c,rfl,k _ G H (Ext.refl s) (.bl _)⟩
 |_=>cases e
def Fi:D->Option Bool
 | .none=>some false
 | .bool b=>some b
 | .int i=>some (i != 0)
 | .str y=>if y.length<=sizeLine then some ((y.length:Int) != 0) else none
 | .list ds=>some (!ds.isEmpty)
 | .tuple ds=>some (!ds.isEmpty)
 | .dict _=>none
def kA (fa:VF D):VF Bool:=λvs β=>(fa vs β).bnd λx β1=>R.of (Fi x) β1
def mj {K:Frag}{G:Hp}{xs:List V}{ds:List D}(r:bI K G xs ds):(!ds.isEmpty)= !xs.isEmpty:=by cases r <;> rfl
theorem cL (hK:X.K=Γ.K)(ha:SE X Γ E a fa La ma)(he:∀whole,isTrue a X.env whole=(do let v <-whole;standAt a.pos;holding [v] (truthy v)):=by intro _;rfl):y0 X Γ E a (kA fa) La:=by
 refine PT.post (zZ ha he) λσ H Q ⟨env,G,B,β,I,o⟩=>?_
 refine⟨env,G,B,β,I,o.bnd.imp λd1 β1 h x G1 H1 I1 s1 m1 vx=>?_⟩
 obtain⟨c,e,k⟩:=h.of
 have bx:=vx.brw I.boxThere
 refine⟨c,?_,k G1 H1 I1 s1 m1⟩
 rw[hK]
 cases d1 with
 |none=>obtain rfl:=bx.none;cases e;rfl
 |bool b=>obtain rfl:=bx.bool;cases e;rfl
 |int i=>obtain rfl:=bx.int;cases e;rfl
 |str y=>
  obtain rfl:=bx.str
  simp only[Fi] at e
  split at e
  ·cases e;exact⟨by assumption,rfl⟩
  ·cases e
 |list ds=>obtain⟨p,xs,rfl,hq,r⟩:=bx.list I1.sub;cases e;exact .inl ⟨xs,.inl hq,mj r⟩
 |tuple ds=>obtain⟨p,xs,rfl,hq,r⟩:=bx.tuple I1.sub;cases e;exact .inr (.inl ⟨xs,hq,mj r⟩)
 |dict ds=>cases e
def c8 (fa:VF D):VF Bool:=λvs β=>(fa vs β).bnd λx β1=>match x with
 | .bool c=>.ok c β1
 |_=>.bad
theorem bX {op:CmpOp}{r:R2}{g:D->D->Option D}(ho:lu X (compareOp op) r)(pr:mf Γ.K r g .v)(ha:SE X Γ E a fa La ma)(hb:SE X Γ E b fb Lb mb)(hm:behindInMarks op b=false):y0 X Γ E (.Compare a [op] [b] pos) (c8 (f2 fa fb g)) (La ++ Lb):=by
 refine PT.post (Cf ho ha hb hm) λσ H Q ⟨env,G,B,β,I,o⟩=>?_
 refine lr pr I (o.bnd.imp λd β' h v G' H' I' s' m' vo=>?_)
 cases d with
 |bool c=>cases vo;exact⟨c,rfl,h G' H' I' s' m'⟩
 |_=>exact h.elim
def oJ (t:VF Bool):VF Bool:=λvs β=>(t vs β).bnd λc β1=>.ok (!c) β1
def FX (t u:VF Bool):VF Bool:=λvs β=>(t vs β).bnd λc β1=>if c=true then u vs β1 else .ok false β1
def hG (t u:VF Bool):VF Bool:=λvs β=>(t vs β).bnd λc β1=>if c=true then .ok true β1 else u vs β1
variable {ta tb tc:VF Bool}
def de (ha:y0 X Γ E a ta La):y0 X Γ E (.UnaryOp .Not a pos) (oJ ta) La:=by
 refine PT.post (Fs ha) λσ H Q ⟨env,G,B,β,I,o⟩=>?_
 exact⟨env,G,B,β,I,o.bnd.imp λc β1 h=>h⟩
def r6.t (h:r6 X Γ E e ta La):y0 X Γ E e ta La:=PW.pt h
def BM (ha:y0 X Γ E a ta La):r6 X Γ E (.BoolOp .And [a] pos) ta La:=wj ha
def iI (ha:y0 X Γ E a ta La):r6 X Γ E (.BoolOp .Or [a] pos) ta La:=EN ha
theorem FP {rest:List Expr}(ha:y0 X Γ E a ta La)(hb:r6 X Γ E (.BoolOp .And (b :: rest) pos) tb Lb)(hbr:∀i,i∈Lb->Γ.br i=false):r6 X Γ E (.BoolOp .And (a :: b :: rest) pos) (FX ta tb) (La ++ Lb):=by
 refine PW.post (Bm ha hb) λσ H Q ⟨env,G,B,β,I,o⟩=>?_
 refine⟨env,G,B,β,I,o.bnd.imp λc β1 h G1 H1 I1 s1 m1=>?_⟩
 cases c with
 |true=>exact o6 ⟨_,G1,B,β1,I1,by rw[i8];exact Out.imp h λd β' k G' H' I' s' m'=>k G' H' (by rw[cW];exact I') (s1.trans s') (m1.trans m')⟩
 |false=>
  obtain⟨G2,I2,s2⟩:=I1.aQ Lb hbr
  exact pA (h G2 H1 (by rw[cW];exact I2) (s1.trans s2) m1)
theorem jy {rest:List Expr}(ha:y0 X Γ E a ta La)(hb:r6 X Γ E (.BoolOp .Or (b :: rest) pos) tb Lb)(hbr:∀i,i∈Lb->Γ.br i=false):r6 X Γ E (.BoolOp .Or (a :: b :: rest) pos) (hG ta tb) (La ++ Lb):=by
 refine PW.post (Gw ha hb) λσ H Q ⟨env,G,B,β,I,o⟩=>?_
 refine⟨env,G,B,β,I,o.bnd.imp λc β1 h G1 H1 I1 s1 m1=>?_⟩
 cases c with
 |true=>
  obtain⟨G2,I2,s2⟩:=I1.aQ Lb hbr
  exact o6 (h G2 H1 (by rw[cW];exact I2) (s1.trans s2) m1)
 |false=>exact pA ⟨_,G1,B,β1,I1,by rw[i8];exact Out.imp h λd β' k G' H' I' s' m'=>k G' H' (by rw[cW];exact I') (s1.trans s') (m1.trans m')⟩
def J1 (t:VF Bool)(fa fb:VF D):VF D:=λvs β=>(t vs β).bnd λc β1=>if c=true then fa vs β1 else fb vs β1
def af:VF (List D):=λ_ β=>.ok [] β
def aa (fa:VF D)(fr:VF (List D)):VF (List D):=λvs β=>(fa vs β).bnd λx β1=>(fr vs β1).bnd λxs β2=>.ok (x :: xs) β2
variable {fr:VF (List D)}{es:List Expr}
def ao:SA X Γ E [] af []:=PA.post a7 λσ H Q ⟨env,G,B,β,I,o⟩=>o [] G H I (ah.refl _) (fM.refl _ _) .nil
def ae (ha:SE X Γ E a fa La .v)(hr:SA X Γ E es fr Lb)(hs:starEach (a :: es) X.env=(false,eval a X.env) :: starEach es X.env:=by rfl):SA X Γ E (a :: es) (aa fa fr) (La ++ Lb):=by
 refine PA.post (aG ha hr hs) λσ H Q ⟨env,G,B,β,I,o⟩=>?_
 refine⟨env,G,B,β,I,o.bnd.imp λd1 β1 h x G1 H1 I1 s1 m1 vx=>⟨aQ La env,G1,B,β1,I1,?_⟩⟩
 rw[i8]
 refine h.bnd.imp λds β2 k xs G2 H2 I2 s2 m2 r=>?_
 exact k (x :: xs) G2 H2 (by rw[cW];exact I2) (s1.trans s2) (m1.trans m2) (.cons (vx.mono s2) r)
def bW (fr:VF (List D)):VF D:=λvs β=>(fr vs β).bnd λds β1=>if ds.length<=sizeLine then .ok (.tuple ds) β1 else .bad
def aH (fr:VF (List D)):VF D:=λvs β=>(fr vs β).bnd λds β1=>if ds.length<=sizeLine then .ok (.list ds) β1 else .bad
def iw {x1}(h:SA X Γ E es fr L):SE X Γ E (.Tuple es x1 pos) (bW fr) L .v:=by
 refine PE.post' (vA h) λσ H Q ⟨env,G,B,β,I,o⟩=>?_
 refine⟨env,G,B,β,I,o.bnd.imp λds β1 k xs G1 H1 I1 s1 m1 r=>?_⟩
 by_cases hz:ds.length<=sizeLine
 ·rw[Kf hz] at k
  refine⟨by rw[r.len];exact hz,λp hp=>?_⟩
  have x:=Ext.new I1.sub (o:=.tup xs) hp
  exact k _ _ _ (I1.ext x) (s1.trans x.gg) (m1.trans (x.hh.mov B)) (.tup (.inl (.inl ak)) (r.mono x.gg))
 ·rw[Ki hz] at k;exact k.elim
def aO (h:SA X Γ E es fr L):SE X Γ E (.List es pos) (aH fr) L .w:=by
 refine PE.post' (vE h) λσ H Q ⟨env,G,B,β,I,o⟩=>?_
 refine⟨env,G,B,β,I,o.bnd.imp λds β1 k xs G1 H1 I1 s1 m1 r=>?_⟩
 by_cases hz:ds.length<=sizeLine
 ·rw[Kf hz] at k
  refine⟨by rw[r.len];exact hz,λp hp=>?_⟩
  have x:=Ext.own I1.sub (o:=.lst xs) hp
  exact k _ _ _ (I1.ext x) s1 (m1.trans (x.hh.mov B)) ⟨p,rfl,dE m1 I1.boxThere hp,I1.sub.free hp,xs,ak,r⟩
 ·rw[Ki hz] at k;exact k.elim
inductive FR where
 |ok (d:D) (fresh:Bool)
 |exc (c:Str)
 |bad
def FV (K:Frag)(H G' H':Hp)(fr:Bool)(d:D)(v:V):Prop:=if fr=true then ∃a,v=.ref a/\H a=none/\G' a=none/\Own K G' H' a d else Rp K G' v d
def BE (K:Frag)(ca:Str->Addr)(n:Nat)(F:List D->FR):Sp:=λvs H Q E=>∃G ds,ah G H/\ds.length=n/\bI K G vs ds/\match F ds with
 | .ok d fr=>∀v G' H',ah H H'->ah G G'->ah G' H'->(∀b,Mx H b->G b=none->G' b=none)->FV K H G' H' fr d v->Q v H'
 | .exc c=>∀H',ah H H'->E (.ref (ca c)) none H'
 | .bad=>False
structure fL (P:Program)(w:World)(K:Frag)(mg:Str->Option Value)(base:Heap)(ca:Str->Addr)(x:Str)(ps:List Str)(k:Nat)(F:List D->FR):Prop where
 ex:∃f fd,mg x=some (.ref f)/\PySem.W.keepIn K (.ref f)=true/\Binds K fd ps []/\eV P w K mg base (mn P w) k f fd ps (BE K ca ps.length F)
 len:∀ds,F ds≠.bad->ds.length=ps.length
def aB (F:List D->FR)(fr:VF (List D)):VF D:=λvs β=>(fr vs β).bnd λds β1=>match F ds with
 | .ok d _=>.ok d β1
 | .exc c=>.exc c
 | .bad=>.bad
def tG (F:List D->FR)(fr:VF (List D)):VF D:=λvs β=>(fr vs β).bnd λds β1=>match F ds with
 | .ok d true=>.ok d β1
 | .ok _ false=>.bad
 | .exc c=>.exc c
 | .bad=>.bad
def SR.called {B:Option Addr}{G1 H1 G2 H2:Hp}{σ:St}{env:En}{β:Int}(I1:SR Γ B G1 H1 σ env β)(h:ah H1 H2)(g:ah G1 G2)(s:ah G2 H2)(n:∀b,Mx H1 b->G1 b=none->G2 b=none):SR Γ B G2 H2 σ env β/\fM B H1 H2:=by
 refine⟨⟨s,I1.old.trans g,λb n1 n2=>?_,λb o e np=>(I1.keep b o e np).step h,λb hb=>?_,I1.fix,λb e=>?_,I1.len,λi t e=>?_,I1.sep⟩,h.mov B⟩
 ·exact n b (I1.thereM n1) (I1.new b n1 n2)
 ·exact (I1.pin b hb).same λo e=>h b o e
 ·obtain⟨h1,h2,h3⟩:=I1.box b e
  exact⟨h b _ h1,n b (Mx.lst h1) h2,h3⟩
 ·have q:=I1.slot i t e
  cases t with
  |no=>trivial
  |fz d=>obtain⟨v,h1,h2⟩:=q;exact⟨v,h1,h2.mono g⟩
  |ow d=>
   obtain⟨p,h1,h2,h3,h4,h5⟩:=q
   exact⟨p,h1,h2,n p h5.mx h3,h4,h5.mono g λo q=>h p o q⟩
  |bx=>exact q
  |br d=>obtain⟨b1,p,h1,h4,hp,h5⟩:=q;exact⟨b1,p,h1,h4,hp,h5.mono g λo q=>h p o q⟩
def SR.kp {B:Option Addr}{G H H':Hp}{σ:St}{env:En}{β:Int}(I:SR Γ B G H σ env β)(h:ah H H'):Kp Γ H':=λb o e n=>(I.keep b o e n).step h
theorem qc {F:List D->FR}{ps:List Str}{Q:VK}{B:Option Addr}{G H:Hp}{σ:St}{env:En}{β:Int}(I:SR Γ B G H σ env β)(hK:X.K=Γ.K){wv:Bool}
  (h:Out Γ E (if wv=true then tG F fr (vl env) β else aB F fr (vl env) β) λd β'=>∀v G' H',SR Γ B G' H' σ (aQ L env) β'->ah G G'->fM B H H'->VO Γ.K B H G' H' (if wv=true then .w else .v) d v->Q v H') (hl:∀ds,F ds≠.bad->ds.length=ps.length) :
  aT Γ E fr L σ H λvs H1=>BE X.K Γ.ca ps.length F vs H1 Q E:=by
 refine⟨env,G,B,β,I,?_⟩
 have h:Out Γ E (fr (vl env) β) λds β1=>Out Γ E (match F ds with
   | .ok d true=>.ok d β1
   | .ok d false=>if wv=true then .bad else .ok d β1
   | .exc c=>.exc c
   | .bad=>.bad) λd β'=>∀v G' H',SR Γ B G' H' σ (aQ L env) β'->ah G G'->fM B H H'->VO Γ.K B H G' H' (if wv=true then .w else .v) d v->Q v H':=by
  cases wv with
  |true=>
   simp only[Lg] at h ⊢
   refine h.bnd.imp λds β1 h=>?_
   cases q:F ds with
   |ok d b=>rw[q] at h;cases b <;> exact h
   |exc c=>rw[q] at h;exact h
   |bad=>rw[q] at h;exact h
  |false=>
   simp only[Kx,KZ] at h ⊢
   refine h.bnd.imp λds β1 h=>?_
   cases q:F ds with
   |ok d b=>rw[q] at h;cases b <;> exact h
   |exc c=>rw[q] at h;exact h
   |bad=>rw[q] at h;exact h
 refine h.imp λds β1 k vs G1 H1 I1 s1 m1 r=>?_
 refine⟨G1,ds,I1.sub,?_,by rw[hK];exact r,?_⟩
 ·exact hl ds λz=>by rw[z] at k;exact k
 cases q:F ds with
 |bad=>rw[q] at k;exact k
 |exc c=>rw[q] at k;exact λH' s=>k H' (I1.kp s)
 |ok d b=>
  rw[q] at k
  intro v G' H' hh hg hs hn fv
  obtain⟨I2,m2⟩:=I1.called hh hg hs hn
  cases b with
  |true=>
   obtain⟨p,rfl,p1,p2,p3⟩:∃a,v=.ref a/\H1 a=none/\G' a=none/\Own X.K G' H' a d:=fv
   rw[hK] at p3
   have hp:=dE m1 I1.boxThere p1
   cases wv with
   |true=>exact k _ G' H' I2 (s1.trans hg) (m1.trans m2) ⟨p,rfl,hp,p2,p3⟩
   |false=>
    obtain⟨q1,q2,q3,q4⟩:=I1.fresh p1
    obtain⟨G3,I3,s3,r3⟩:=I2.letIn q1 p2 q3 q4 p3
    exact k _ G3 H' I3 ((s1.trans hg).trans s3) (m1.trans m2) r3
  |false=>
   cases wv with
   |true=>exact k.elim
   |false=>
    have fv:Rp X.K G' v d:=fv
    rw[hK] at fv
    exact k _ G' H' I2 (s1.trans hg) (m1.trans m2) fv
def aX {x:Str}{ps:List Str}{k:Nat}{F:List D->FR}{p:Pos}(hf:fL X.prog X.w X.K X.mg X.base Γ.ca x ps k F)(hr:dv k X.A)(hx:Passes (mn X.prog X.w) X E)(hK:X.K=Γ.K)(hg:Gl X x)(ha:SA X Γ E (a :: es) fr L)(hdb:(x == ("__debug__":Str))=false:=by decide)
  (he:starEach (a :: es) X.env=(false,eval a X.env) :: starEach es X.env:=by rfl) (hpl:(backTo pos (starEach es X.env)).any (·.1)=false:=by rfl):SE X Γ E (.Call (.Name x p) (a :: es) [] pos) (aB F fr) L .v:=by
 obtain⟨f,fd,hm,hk,hb,hF⟩:=hf.ex
 refine PE.post' (kF (dvs:=[]) hF hr hg hm hk hb .nil hx ha hdb he hpl) λσ H Q ⟨env,G,B,β,I,o⟩=>?_
 show aT Γ E fr L σ H λvs H1=>BE X.K Γ.ca ps.length F (vs ++ []) H1 Q E
 have:=qc (Q:=Q) (wv:=false) (ps:=ps) I hK o hf.len
 simpa using this
def AY {x:Str}{ps:List Str}{k:Nat}{F:List D->FR}{p:Pos}(hf:fL X.prog X.w X.K X.mg X.base Γ.ca x ps k F)(hr:dv k X.A)(hx:Passes (mn X.prog X.w) X E)(hK:X.K=Γ.K)(hg:Gl X x)(ha:SA X Γ E (a :: es) fr L)(hdb:(x == ("__debug__":Str))=false:=by decide)
  (he:starEach (a :: es) X.env=(false,eval a X.env) :: starEach es X.env:=by rfl) (hpl:(backTo pos (starEach es X.env)).any (·.1)=false:=by rfl):SE X Γ E (.Call (.Name x p) (a :: es) [] pos) (tG F fr) L .w:=by
 obtain⟨f,fd,hm,hk,hb,hF⟩:=hf.ex
 refine PE.post' (kF (dvs:=[]) hF hr hg hm hk hb .nil hx ha hdb he hpl) λσ H Q ⟨env,G,B,β,I,o⟩=>?_
 show aT Γ E fr L σ H λvs H1=>BE X.K Γ.ca ps.length F (vs ++ []) H1 Q E
 have:=qc (Q:=Q) (wv:=true) (ps:=ps) I hK o hf.len
 simpa using this
end
inductive SO where
 |nx (env:En) (β:Int)
 |bk (env:En) (β:Int)
 |ct (env:En) (β:Int)
 |rt (d:D) (fr:Bool) (β:Int)
 |exc (c:Str)
 |bad
abbrev SF:=En->Int->SO
def RV (Γ:Fx)(G' H':Hp)(fr:Bool)(d:D)(v:V):Prop:=if fr=true then ∃a,v=.ref a/\Γ.H0 a=none/\G' a=none/\Own Γ.K G' H' a d else Rp Γ.K G' v d
def mJ (Γ:Fx)(E:XK)(G:Hp)(N:Ends):SO->Prop
 | .nx env β=>∀B G' H' σ,SR Γ B G' H' σ env β->ah G G'->N.nx σ H'
 | .bk env β=>∀B G' H' σ,SR Γ B G' H' σ env β->ah G G'->N.bk σ H'
 | .ct env β=>∀B G' H' σ,SR Γ B G' H' σ env β->ah G G'->N.ct σ H'
 | .rt d fr β=>∀B G' H' σ env v,SR Γ B G' H' σ env β->ah G G'->RV Γ G' H' fr d v->N.rt v H'
 | .exc c=>∀H',Kp Γ H'->E (.ref (Γ.ca c)) none H'
 | .bad=>False
def sT (Γ:Fx)(E:XK)(m:SF):TS:=λN σ H=>∃env G B β,SR Γ B G H σ env β/\mJ Γ E G N (m env β)
def SS (X:Cx)(Γ:Fx)(E:XK)(st:Stmt)(m:SF):Prop:=PS X st (sT Γ E m)
def BF (X:Cx)(Γ:Fx)(E:XK)(st:List Stmt)(m:SF):Prop:=qd X st (sT Γ E m)
def qd.post {X:Cx}{st:List Stmt}{t u:TS}(h:qd X st t)(m:∀D σ H,u D σ H->t D σ H):qd X st u:=λpins s σ H D I q=>h pins s σ H D I (m D σ H q)
def aE (m m':SF):SF:=λenv β=>match m env β with
 | .nx env' β'=>m' env' β'
 |r=>r
def lP:SF:=λenv β=>.nx env β
section
variable {X:Cx}{Γ:Fx}{E:XK}{e a b c:Expr}{f fa fb:VF D}{L La Lb:List Nat}{md ma mb:Md}{pos:Pos}{st:Stmt}{sts:List Stmt}{m m':SF}{ta:VF Bool}
theorem mJ.weak {G G1:Hp}{N:Ends}{r:SO}(h:mJ Γ E G N r)(s:ah G G1):mJ Γ E G1 N r:=by
 cases r with
 |nx env β=>exact λB G' H' σ I s'=>h B G' H' σ I (s.trans s')
 |bk env β=>exact λB G' H' σ I s'=>h B G' H' σ I (s.trans s')
 |ct env β=>exact λB G' H' σ I s'=>h B G' H' σ I (s.trans s')
 |rt d fr β=>exact λB G' H' σ env v I s'=>h B G' H' σ env v I (s.trans s')
 |exc c=>exact h
 |bad=>exact h
def cx:BF X Γ E [] lP:=qd.post xN λN σ H ⟨env,G,B,β,I,o⟩=>o B G H σ I (ah.refl _)
theorem ar (h:SS X Γ E st m)(h':BF X Γ E sts m'):BF X Γ E (st :: sts) (aE m m'):=by
 refine qd.post (eT h h') λN σ H ⟨env,G,B,β,I,o⟩=>?_
 refine⟨env,G,B,β,I,?_⟩
 unfold aE at o
 cases q:m env β with
 |nx env' β'=>rw[q] at o;exact λB' G' H' σ' I' s'=>⟨env',G',B',β',I',o.weak s'⟩
 |bk env' β'=>rw[q] at o;exact o
 |ct env' β'=>rw[q] at o;exact o
 |rt d fr β'=>rw[q] at o;exact o
 |exc c=>rw[q] at o;exact o
 |bad=>rw[q] at o;exact o
def ay (h:SS X Γ E st m):BF X Γ E [st] m:=dk h
def toS {α:Type}(r:R α)(k:α->Int->SO):SO:=match r with
 | .ok x β=>k x β
 | .exc c=>.exc c
 | .bad=>.bad
theorem bQ {α:Type}{G:Hp}{N:Ends}{r:R α}{k:α->Int->SO}{P:α->Int->Prop}(h:mJ Γ E G N (toS r k))(i:∀x β,mJ Γ E G N (k x β)->P x β):Out Γ E r P:=by
 cases r with
 |ok x β=>exact i x β h
 |exc c=>exact h
 |bad=>exact h
def SR.set' {B:Option Addr}{G H:Hp}{σ:St}{env:En}{β:Int}(I:SR Γ B G H σ env β)(i:Nat){v:V}{d:D}(h:Rp Γ.K G v d):SR Γ B G H (σ.set i (some v)) (env.set i (.fz d)) β:=by
 by_cases hi:i < env.length
 ·exact I.set hi h
 ·have h1:env.set i (.fz d)=env:=LR (by omega)
  have h2:σ.set i (some v)=σ:=LR (by rw[I.len];omega)
  rw[h1,h2];exact I
def SR.setOw' {B:Option Addr}{G H:Hp}{σ:St}{env:En}{β:Int}(I:SR Γ B G H σ env β)(i:Nat){a:Addr}{d:D}(h0:Γ.H0 a=none)(hg:G a=none)(hb:B≠some a)(h:Own Γ.K G H a d)(hn:∀(j:Nat) (d':D),env[j]? =some (.ow d')->σ[j]?≠some (some (.ref a))):SR Γ B G H (σ.set i (some (.ref a))) (env.set i (.ow d)) β:=by
 by_cases hi:i < env.length
 ·exact I.setOw hi h0 hg hb h λj d' e _=>hn j d' e
 ·have h1:env.set i (.ow d)=env:=LR (by omega)
  have h2:σ.set i (some (.ref a))=σ:=LR (by rw[I.len];omega)
  rw[h1,h2];exact I
def bE (i:Nat)(L:List Nat)(f:VF D):SF:=λenv β=>toS (f (vl env) β) λd β'=>.nx ((aQ L env).set i (.fz d)) β'
def aV {i:Nat}{x:Str}{pos':Pos}(he:SE X Γ E e f L .v)(hN:X.N.Nodup)(hi:X.N[i]? =some x:=by rfl)(hx:Loc X.env.scope x:=by first |exact Or.inl rfl |exact Or.inr rfl)(hs:swapsWith e (some (.Name x pos')) pos.line X.env=pure false:=by rfl)(hf:X.fn x=true\/X.env.scope.names.lookup x=some .local:=by first |exact .inl rfl |exact .inr rfl |assumption) :
  SS X Γ E (.Assign [.Name x pos'] e pos) (bE i L f):=by
 refine PS.post (nt hN hi hx he hs hf) λN σ H ⟨env,G,B,β,I,o⟩=>?_
 refine⟨env,G,B,β,I,bQ o λd β' k v G' H' I' s' m' vo=>?_⟩
 exact k B G' H' _ (I'.set' i vo) s'
def jv (i:Nat)(L:List Nat)(f:VF D):SF:=λenv β=>toS (f (vl env) β) λd β'=>.nx ((aQ L env).set i (.ow d)) β'
def jN {i:Nat}{x:Str}{pos':Pos}(he:SE X Γ E e f L .w)(hN:X.N.Nodup)(hi:X.N[i]? =some x:=by rfl)(hx:Loc X.env.scope x:=by first |exact Or.inl rfl |exact Or.inr rfl)(hs:swapsWith e (some (.Name x pos')) pos.line X.env=pure false:=by rfl)(hf:X.fn x=true\/X.env.scope.names.lookup x=some .local:=by first |exact .inl rfl |exact .inr rfl |assumption) :
  SS X Γ E (.Assign [.Name x pos'] e pos) (jv i L f):=by
 refine PS.post (nt hN hi hx he hs hf) λN σ H ⟨env,G,B,β,I,o⟩=>?_
 refine⟨env,G,B,β,I,bQ o λd β' k v G' H' I' s' m' vo=>?_⟩
 obtain⟨p,rfl,h1,h2,h3⟩:=vo
 obtain⟨q1,q2,q3,q4⟩:=I.fresh h1
 exact k B G' H' _ (I'.setOw' i q1 h2 q3 h3 λj d' z=>q4 j d' (rl z)) s'
def tP (L:List Nat)(f:VF D):SF:=λenv β=>toS (f (vl env) β) λ_ β'=>.nx (aQ L env) β'
def De (he:SE X Γ E e f L md)(hs:swapsWith e none pos.line X.env=pure false:=by rfl):SS X Γ E (.Expr e pos) (tP L f):=by
 refine PS.post (jM he hs) λN σ H ⟨env,G,B,β,I,o⟩=>?_
 exact⟨env,G,B,β,I,bQ o λd β' k v G' H' I' s' m' vo=>k B G' H' _ I' s'⟩
def bC (f:VF D):SF:=λenv β=>toS (f (vl env) β) λd β'=>.rt d false β'
def aR (he:SE X Γ E e f L .v):SS X Γ E (.Return (some e) pos) (bC f):=by
 refine PS.post (lR he) λN σ H ⟨env,G,B,β,I,o⟩=>?_
 exact⟨env,G,B,β,I,bQ o λd β' k v G' H' I' s' m' vo=>k B G' H' σ _ v I' s' vo⟩
def jX (f:VF D):SF:=λenv β=>toS (f (vl env) β) λd β'=>.rt d true β'
def kY (he:SE X Γ E e f L .w):SS X Γ E (.Return (some e) pos) (jX f):=by
 refine PS.post (lR he) λN σ H ⟨env,G,B,β,I,o⟩=>?_
 refine⟨env,G,B,β,I,bQ o λd β' k v G' H' I' s' m' vo=>?_⟩
 obtain⟨p,rfl,h1,h2,h3⟩:=vo
 obtain⟨q1,_⟩:=I.fresh h1
 exact k B G' H' σ _ _ I' s' ⟨p,rfl,q1,h2,h3⟩
def Ar (i:Nat):SF:=λenv β=>match env[i]? with
 |some (.fz d)=>.rt d false β
 |some (.ow d)=>.rt d true β
 |_=>.bad
theorem Cr (i:Nat){x:Str}{p:Pos}(hN:X.N[i]? =some x:=by rfl)(hv:qP X.env.scope x:=by first |exact Or.inl rfl |exact Or.inr (Or.inl rfl) |exact Or.inr (Or.inr rfl))(hd:(x == ("__debug__":Str))=false:=by decide)
  (hcd:(x == ("__classdict__":Str))=false:=by decide):SS X Γ E (.Return (some (.Name x p)) pos) (Ar i):=by
 refine PS.post (lR (cM hN hv hd hcd)) λN σ H ⟨env,G,B,β,I,o⟩=>?_
 unfold Ar at o
 cases q:env[i]? with
 |none=>rw[q] at o;exact o.elim
 |some s=>
  rw[q] at o
  cases s with
  |no=>exact o.elim
  |bx=>exact o.elim
  |br d=>exact o.elim
  |fz d=>
   obtain⟨v,h1,h2⟩:=I.slot i _ q
   exact⟨v,h1,o B G H σ env v I (ah.refl _) h2⟩
  |ow d=>
   obtain⟨p,h1,h2,h3,h4,h5⟩:=I.slot i _ q
   exact⟨_,h1,o B G H σ env _ I (ah.refl _) ⟨p,rfl,h2,h3,h5⟩⟩
def jS (L:List Nat)(t:VF Bool)(m m':SF):SF:=λenv β=>toS (t (vl env) β) λc β'=>if c=true then m (aQ L env) β' else m' (aQ L env) β'
theorem e8 {x y:List Stmt}(hc:y0 X Γ E c ta L)(ha:BF X Γ E x m)(hb:BF X Γ E y m'):SS X Γ E (.If c x y pos) (jS L ta m m'):=by
 refine PS.post (Au hc ha hb) λN σ H ⟨env,G,B,β,I,o⟩=>?_
 refine⟨env,G,B,β,I,bQ o λd β' k G' H' I' s' m'=>?_⟩
 cases d with
 |true=>exact o6 ⟨_,G',B,β',I',mJ.weak k s'⟩
 |false=>exact pA ⟨_,G',B,β',I',mJ.weak k s'⟩
def iJ (L:List Nat)(t:VF Bool)(m:SF):Nat->SF
 | 0=>λ_ _=>.bad
 |n + 1=>λenv β=>toS (t (vl env) β) λc β'=>if c=true then (match m (aQ L env) β' with
   | .nx env2 β2=>iJ L t m n env2 β2
   | .ct env2 β2=>iJ L t m n env2 β2
   | .bk env2 β2=>.nx env2 β2
   |r=>r) else .nx (aQ L env) β'
theorem sC {x:List Stmt}(n:Nat)(hp:PassesOwn (model X.prog X.w) X.A X.env X.xe)(hc:y0 X Γ E c ta L)(hb:BF X Γ E x m):SS X Γ E (.While c x [] pos) (iJ L ta m n):=by
 refine PS.post (zG hp hc hb) λN σ H ⟨env,G,B,β,I,o⟩=>?_
 refine⟨λk σ H=>∃env G1 B β,SR Γ B G1 H σ env β/\ah G G1/\mJ Γ E G1 N (iJ L ta m k env β),⟨n,env,G,B,β,I,ah.refl _,o⟩,?_⟩
 rintro k σ H ⟨env,G1,B,β,I,sG,o⟩
 cases k with
 |zero=>exact o.elim
 |succ k=>
  refine⟨env,G1,B,β,I,bQ o λd β' q G' H' I' s' m'=>?_⟩
  cases d with
  |false=>exact pA (q B G' H' σ I' s')
  |true=>
   refine o6 ⟨λσ H=>∃env G1 B β,SR Γ B G1 H σ env β/\ah G G1/\mJ Γ E G1 N (iJ L ta m k env β),λσ' H' h=>⟨k,Nat.lt_succ_self k,h⟩,aQ L env,G',B,β',I',?_⟩
   rw[Kf rfl] at q
   cases r:m (aQ L env) β' with
   |nx env2 β2=>rw[r] at q;exact λB2 G2 H2 σ2 I2 s2=>⟨env2,G2,B2,β2,I2,(sG.trans s').trans s2,mJ.weak q (s'.trans s2)⟩
   |ct env2 β2=>rw[r] at q;exact λB2 G2 H2 σ2 I2 s2=>⟨env2,G2,B2,β2,I2,(sG.trans s').trans s2,mJ.weak q (s'.trans s2)⟩
   |bk env2 β2=>rw[r] at q;exact λB2 G2 H2 σ2 I2 s2=>q B2 G2 H2 σ2 I2 (s'.trans s2)
   |rt d fr β2=>rw[r] at q;exact mJ.weak q s'
   |exc c=>rw[r] at q;exact q
   |bad=>rw[r] at q;exact q
def Walk (K:Frag)(B:Option Addr)(G H1:Hp)(ds:List D)(J:It):Prop:=∀Gc H (i:Nat),ah G Gc->ah Gc H->fM B H1 H->
 (i < ds.length->J.go i H/\∀x H',J.yld i H x H'->∃G' d,Ext Gc H G' H'/\ds[i]? =some d/\Rp K G' x d)/\(ds.length<=i->J.stop i H)
def iT (Γ:Fx)(E:XK)(f:VF (List D))(L:List Nat)(md:Md):TI:=λσ H Rr=>∃env G B β,SR Γ B G H σ env β/\
 Out Γ E (f (vl env) β) λds β'=>∀J G' H',SR Γ B G' H' σ (aQ L env) β'->ah G G'->fM B H H'->Walk Γ.K B G' (match md with | .b=>H' |_=>λ_=>none) ds J->Rr J H'
def SI (X:Cx)(Γ:Fx)(E:XK)(tg e:Expr)(f:VF (List D))(L:List Nat)(md:Md):Prop:=PI X tg e (iT Γ E f L md)
def PI.post {X:Cx}{tg e:Expr}{t u:TI}(h:PI X tg e t)(m:∀σ H Q,u σ H Q->t σ H Q):PI X tg e u:=λpins s σ H Q I q=>h pins s σ H Q I (m σ H Q q)
variable {tg:Expr}
def hE:D->Option (List D)
 | .list ds=>some ds
 | .tuple ds=>some ds
 |_=>none
def bV (fa:VF D):VF (List D):=λvs β=>(fa vs β).bnd λx β1=>R.of (hE x) β1
end
def JO (K:Frag)(tl:TE):TI:=λσ H R=>tl σ H λx H1=>∃a xs,x=.ref a/\((fQ K H1 a xs/\R (yS K a) H1)\/(gk K H1 a xs/\R (Dz K a) H1))
section
variable {X:Cx}{tg l:Expr}{tl:TE}
def A2 (hl:PE X l tl):PI X tg l (JO X.K tl):=by
 intro pins s σ H R I h
 refine b7 (hl pins s σ H _ I h) λv s1 ⟨x,H1,I1,r1,q1⟩=>?_
 obtain⟨a,xs,e,q⟩:=q1
 subst e
 cases r1
 rcases q with⟨hq,q⟩ | ⟨hq,q⟩
 ·obtain⟨its,rv,p,hz⟩:=I1.list hq
  refine MC p.isList ?_
  refine⟨s1.heap.objs.size,[s1.heap.objs.size],_,_,H1,rfl,I1.kept (t':=s1.toks) λb o e=>Ka _ e,lE a _,⟨_,Ky _ rfl,rfl,rfl⟩,λb hb=>?_,q⟩
  have e:b=s1.heap.objs.size:=by simpa using hb
  subst e
  exact I1.fpOk (Kg _) (I1.hok.fresh (Kg _))
 ·obtain⟨its,rv,p,hz⟩:=I1.tuple hq
  refine MS (show s1.heap.IsTuple a its.toArray from p) ?_
  refine⟨s1.heap.objs.size,[s1.heap.objs.size],_,_,H1,rfl,I1.kept (t':=s1.toks) λb o e=>Ka _ e,og a _,⟨_,Ky _ rfl,rfl,rfl⟩,λb hb=>?_,q⟩
  have e:b=s1.heap.objs.size:=by simpa using hb
  subst e
  exact I1.fpOk (Kg _) (I1.hok.fresh (Kg _))
end
section
variable {X:Cx}{Γ:Fx}{E:XK}{e a b c:Expr}{f fa fb:VF D}{L La Lb:List Nat}{md ma mb:Md}{pos:Pos}{st:Stmt}{sts:List Stmt}{m m':SF}{ta:VF Bool}{tg:Expr}
def lT {K:Frag}{B:Option Addr}{G H1:Hp}{p:Addr}{xs:List V}{ds:List D}(h:∀Gc H,ah G Gc->ah Gc H->fM B H1 H->fQ K H p xs)(r:bI K G xs ds):Walk K B G H1 ds (yS K p):=λGc H i s1 s2 m=>by
 have hq:=h Gc H s1 s2 m
 refine⟨λhi=>⟨?_,λx H' y=>?_⟩,λhi=>⟨xs,hq,by rw[r.len];exact hi⟩⟩
 ·have hi':i < xs.length:=by rw[r.len];exact hi
  exact⟨xs,xs[i],hq,by simp[hi']⟩
 ·obtain⟨rfl,y⟩:=y
  obtain⟨d,e,q⟩:=r.at' (y xs hq)
  exact⟨Gc,d,Ext.refl s2,e,q.mono s1⟩
def tM {K:Frag}{B:Option Addr}{G H1:Hp}{p:Addr}{xs:List V}{ds:List D}(h:∀Gc H,ah G Gc->ah Gc H->fM B H1 H->gk K H p xs)(r:bI K G xs ds):Walk K B G H1 ds (Dz K p):=λGc H i s1 s2 m=>by
 have hq:=h Gc H s1 s2 m
 refine⟨λhi=>⟨?_,λx H' y=>?_⟩,λhi=>⟨xs,hq,by rw[r.len];exact hi⟩⟩
 ·have hi':i < xs.length:=by rw[r.len];exact hi
  exact⟨xs,xs[i],hq,by simp[hi']⟩
 ·obtain⟨rfl,y⟩:=y
  obtain⟨d,e,q⟩:=r.at' (y xs hq)
  exact⟨Gc,d,Ext.refl s2,e,q.mono s1⟩
theorem zq (hK:X.K=Γ.K)(ha:SE X Γ E a fa La .v):SI X Γ E tg a (bV fa) La .v:=by
 refine PI.post (A2 ha) λσ H Q ⟨env,G,B,β,I,o⟩=>?_
 refine⟨env,G,B,β,I,o.bnd.imp λd1 β1 h x G1 H1 I1 s1 m1 vx=>?_⟩
 obtain⟨ds,e,k⟩:=h.of
 rw[hK]
 have vx:Rp Γ.K G1 x d1:=vx
 cases d1 with
 |list l=>
  cases e
  cases vx with
  | @lst p xs _ hq r=>exact⟨p,xs,rfl,.inl ⟨.inl (Rd.mono (.inl hq) I1.sub),k _ G1 H1 I1 s1 m1 (lT (λGc H t1 t2 _=>.inl (Rd.mono (.inl hq) (t1.trans t2))) r)⟩⟩
 |tuple l=>
  cases e
  cases vx with
  | @tup p xs _ hq r=>exact⟨p,xs,rfl,.inr ⟨hq.grow I1.sub.grow,k _ G1 H1 I1 s1 m1 (tM (λGc H t1 t2 _=>hq.grow (t1.trans t2).grow) r)⟩⟩
 |_=>cases e
theorem o8 (hK:X.K=Γ.K)(ha:SE X Γ E a fa La ma):SI X Γ E tg a (bV fa) La .b:=by
 refine PI.post (A2 ha) λσ H Q ⟨env,G,B,β,I,o⟩=>?_
 refine⟨env,G,B,β,I,o.bnd.imp λd1 β1 h x G1 H1 I1 s1 m1 vx=>?_⟩
 obtain⟨ds,e,k⟩:=h.of
 rw[hK]
 have vx:=vx.brw I.boxThere
 cases d1 with
 |list l=>
  cases e
  rcases vx with vx | ⟨p,rfl,hb,xs,q,r⟩
  ·cases vx with
   | @lst p xs _ hq r=>exact⟨p,xs,rfl,.inl ⟨.inl (Rd.mono (.inl hq) I1.sub),k _ G1 H1 I1 s1 m1 (lT (λGc H t1 t2 _=>.inl (Rd.mono (.inl hq) (t1.trans t2))) r)⟩⟩
  ·exact⟨p,xs,rfl,.inl ⟨.inl (.inl q),k _ G1 H1 I1 s1 m1 (lT (λGc H t1 t2 mv=>.inl (.inl (mv.1 p _ q hb))) r)⟩⟩
 |tuple l=>
  cases e
  rcases vx with vx | ⟨p,rfl,hb,q⟩
  ·cases vx with
   | @tup p xs _ hq r=>exact⟨p,xs,rfl,.inr ⟨hq.grow I1.sub.grow,k _ G1 H1 I1 s1 m1 (tM (λGc H t1 t2 _=>hq.grow (t1.trans t2).grow) r)⟩⟩
  ·exact q.elim
 |_=>cases e
def cn (lo:Int)(n:Nat):List D:=(List.range n).map λ(k:Nat)=>int (lo + k)
def p9 (lo:Int)(n:Nat):(cn lo n).length=n:=by unfold cn;simp
def sJ {K:Frag}{B:Option Addr}{G H1:Hp}(lo:Int)(n:Nat):Walk K B G H1 (cn lo n) (yv lo n):=λGc H i s1 s2 m=>by
 rw[p9]
 refine⟨λhi=>⟨hi,λx H' y=>?_⟩,λhi=>hi⟩
 obtain⟨rfl,rfl⟩:=y
 refine⟨Gc,.int (lo + i),Ext.refl s2,?_,.int _⟩
 unfold cn
 rw[Kk,List.getElem?_range hi];rfl
def zb (j:Int):Bool:=Nat.ble j.natAbs 1000000
def lN {j:Int}(h:zb j=true): -(2 ^ 62)<=j/\j < 2 ^ 62:=by
 have:=Nat.le_of_ble_eq_true h
 omega
def lC {j:Int}(h: -1000<=j)(h2:j<=10000):zb j=true:=Nat.ble_eq_true_of_le (by omega)
def gM (fa:VF D):VF (List D):=λvs β=>(fa vs β).bnd λx β1=>match x with
 | .int j=>if zb j=true then .ok (cn 0 j.toNat) β1 else .bad
 |_=>.bad
def pH (fa fb:VF D):VF (List D):=λvs β=>(fa vs β).bnd λx β1=>(fb vs β1).bnd λy β2=>match x,y with
 | .int i,.int j=>if (zb i && zb j)=true then .ok (cn i (j - i).toNat) β2 else .bad
 |_,_=>.bad
theorem nk {p:Pos}(hg:Gl X "range")(hm:X.mg "range"=none)(ha:SE X Γ E a fa La ma)(hs:starEach [a] X.env= [(false,eval a X.env)]:=by rfl)(hs':starEach [a] X.env=(false,eval a X.env) :: starEach [] X.env:=by rfl):SI X Γ E tg (.Call (.Name "range" p) [a] [] pos) (gM fa) La md:=by
 refine PI.post (jI hg hm (aG ha a7 hs') hs) λσ H Q ⟨env,G,B,β,I,o⟩=>?_
 refine⟨env,G,B,β,I,o.bnd.imp λd1 β1 h x G1 H1 I1 s1 m1 vx=>?_⟩
 have vx:=vx.brw I.boxThere
 cases d1 with
 |int j=>
  obtain rfl:=vx.int
  dsimp only at h
  by_cases hj:zb j=true
  ·rw[Kf hj] at h
   exact⟨j,rfl,(lN hj).1,(lN hj).2,h _ G1 H1 I1 s1 m1 (sJ 0 _)⟩
  ·rw[Ki hj] at h;exact h.elim
 |_=>exact h.elim
def GK {p:Pos}(hg:Gl X "range")(hm:X.mg "range"=none)(ha:SE X Γ E a fa La ma)(hb:SE X Γ E b fb Lb mb)(hs:starEach [a,b] X.env= [(false,eval a X.env),(false,eval b X.env)]:=by rfl)(hs2:starEach [b] X.env= [(false,eval b X.env)]:=by rfl)(hs':starEach [a,b] X.env=(false,eval a X.env) :: starEach [b] X.env:=by rfl)(hs3:starEach [b] X.env=(false,eval b X.env) :: starEach [] X.env:=by rfl):SI X Γ E tg (.Call (.Name "range" p) [a,b] [] pos) (pH fa fb) (La ++ Lb) md:=by
 refine PI.post (yZ hg hm (aG ha (aG hb a7 hs3) hs') hs hs2) λσ H Q ⟨env,G,B,β,I,o⟩=>?_
 refine two (W:=λx y H2=>∃i j:Int,[x,y]= [.int i,.int j]/\(-(2 ^ 62)<=i/\i < 2 ^ 62/\ -(2 ^ 62)<=j/\j < 2 ^ 62)/\Q (yv i (j - i).toNat) H2) I (o.bnd.imp λd1 β1 h=>h.bnd.imp λd2 β2 h x y G2 H2 I2 s2 m2 bx by'=>?_)
 obtain⟨i,j,rfl,rfl⟩:∃i j,d1=.int i/\d2=.int j:=by
  cases d1 <;> cases d2 <;> first |exact h.elim |exact⟨_,_,rfl,rfl⟩
 obtain rfl:=bx.int
 obtain rfl:=by'.int
 dsimp only at h
 by_cases hj:(zb i && zb j)=true
 ·rw[Kf hj] at h
  rw[Kq] at hj
  exact⟨i,j,rfl,⟨(lN hj.1).1,(lN hj.1).2,(lN hj.2).1,(lN hj.2).2⟩,h _ G2 H2 I2 s2 m2 (sJ i _)⟩
 ·rw[Ki hj] at h;exact h.elim
inductive Tg where
 |nm (i:Nat)
 |two (i j:Nat)
def pairD:D->Option (D×D)
 | .tuple [x,y]=>some (x,y)
 |_=>none
def zy {d x y:D}(h:pairD d=some (x,y)):d=.tuple [x,y]:=by
 unfold pairD at h
 split at h
 ·cases h;rfl
 ·cases h
def eH:Tg->D->En->Option En
 | .nm i,d,env=>some (env.set i (.fz d))
 | .two i j,d,env=>(pairD d).map λp=>(env.set i (.fz p.1)).set j (.fz p.2)
def l9:Tg->D->List Nv->Option (List Nv)
 | .nm i,d,vs=>some (vs.set i (.da d))
 | .two i j,d,vs=>(pairD d).map λp=>(vs.set i (.da p.1)).set j (.da p.2)
def uJ (env:En)(i:Nat)(s:Sl):vl (env.set i s)=(vl env).set i s.val:=by unfold vl;rw[List.map_set]
theorem CF (t:Tg)(d:D)(env:En):(eH t d env).map vl=l9 t d (vl env):=by
 cases t with
 |nm i=>show some (vl _)=some _;rw[uJ];rfl
 |two i j=>
  show ((pairD d).map _).map vl=(pairD d).map _
  cases pairD d with
  |none=>rfl
  |some p=>show some (vl _)=some _;rw[uJ,uJ];rfl
def gT (Γ:Fx)(t:Tg):TG:=λv σ H Q=>∃env G B β d env',SR Γ B G H σ env β/\Rp Γ.K G v d/\eH t d env=some env'/\∀σ',SR Γ B G H σ' env' β->Q σ' H
def SG (X:Cx)(Γ:Fx)(tg:Expr)(t:Tg):Prop:=PG X tg (gT Γ t)
def PG.post {X:Cx}{tg:Expr}{t u:TG}(h:PG X tg t)(m:∀v σ H Q,u v σ H Q->t v σ H Q):PG X tg u:=λpins s σ H v uu Q I r q=>h pins s σ H v uu Q I r (m v σ H Q q)
def di {i:Nat}{x:Str}(hN:X.N.Nodup)(hi:X.N[i]? =some x:=by rfl)(hx:Loc X.env.scope x:=by first |exact Or.inl rfl |exact Or.inr rfl)(hf:X.fn x=true\/X.env.scope.names.lookup x=some .local:=by first |exact .inl rfl |exact .inr rfl |assumption):SG X Γ (.Name x pos) (.nm i):=by
 refine PG.post (bR hN hi hx hf) λv σ H Q ⟨env,G,B,β,d,env',I,r,e,k⟩=>?_
 cases e
 exact k _ (I.set' i r)
theorem vB {i j:Nat}{x y:Str}{px py:Pos}{n:Nat}(hN:X.N.Nodup)(hc:X.calm=true:=by rfl)(hK:X.K=Γ.K:=by rfl)(hi:X.N[i]? =some x:=by rfl)(hj:X.N[j]? =some y:=by rfl)(hx:Loc X.env.scope x:=by first |exact Or.inl rfl |exact Or.inr rfl)(hy:Loc X.env.scope y:=by first |exact Or.inl rfl |exact Or.inr rfl)
  (hf:X.fn x=true\/X.env.scope.names.lookup x=some .local:=by first |exact .inl rfl |exact .inr rfl |assumption) (hf':X.fn y=true\/X.env.scope.names.lookup y=some .local:=by first |exact .inl rfl |exact .inr rfl |assumption):SG X Γ (.Tuple [.Name x px,.Name y py] n pos) (.two i j):=by
 refine PG.post (nD (n:=2) hc (cQ (bR hN hi hx hf) (cQ (bR hN hj hy hf') kX))) λv σ H Q ⟨env,G,B,β,d,env',I,r,e,k⟩=>?_
 rw[hK]
 have e:(pairD d).map (λp=>(env.set i (.fz p.1)).set j (.fz p.2))=some env':=e
 cases q:pairD d with
 |none=>rw[q] at e;cases e
 |some p=>
  obtain⟨dx,dy⟩:=p
  rw[q] at e
  cases e
  obtain rfl:=zy q
  cases r with
  | @tup p xs _ hq r=>
   cases r with
   |cons r1 r=>
    cases r with
    |cons r2 r=>
     cases r
     exact⟨p,_,rfl,hq.grow I.sub.grow,rfl,_,_,rfl,_,_,rfl,rfl,k _ ((I.set' i r1).set' j r2)⟩
def gP (t:Tg)(m:SF):List D->SF
 | []=>λenv β=>.nx env β
 |d :: ds=>λenv β=>match eH t d env with
  |none=>.bad
  |some env1=>match m env1 β with
   | .nx env2 β2=>gP t m ds env2 β2
   | .ct env2 β2=>gP t m ds env2 β2
   | .bk env2 β2=>.nx env2 β2
   |r=>r
def c5 (t:Tg)(L:List Nat)(fi:VF (List D))(m:SF):SF:=λenv β=>toS (fi (vl env) β) λds β'=>gP t m ds (aQ L env) β'
def gR {t:Tg}{fi:VF (List D)}{x:List Stmt}(hp:PassesOwn (model X.prog X.w) X.A X.env X.xe)(hc:X.calm=true)(hi:SI X Γ E tg e fi L .v)(hg:SG X Γ tg t)(hb:BF X Γ E x m)(hs:∀x,foldedSetIterable e X.env x=pure x:=by intro _;rfl):SS X Γ E (.For tg e x [] pos) (c5 t L fi m):=by
 refine PS.post (ny hp hc hi hg hb hs) λN σ H ⟨env,G,B,β,I,o⟩=>?_
 refine⟨env,G,B,β,I,bQ o λds β' q J G' H' I' s' m' w=>?_⟩
 have w:Walk Γ.K B G' (λ_=>none) ds J:=w
 refine⟨λi n σ H=>n=ds.length - i/\i<=ds.length/\∃env G1 B β,SR Γ B G1 H σ env β/\ah G' G1/\mJ Γ E G1 N (gP t m (ds.drop i) env β),⟨ds.length,by simp,KY _,aQ L env,G',B,β',I',ah.refl _,by rw[List.drop_zero];exact mJ.weak q s'⟩,?_⟩
 rintro i n σ H ⟨rfl,hi,env,G1,B1,β1,I1,s1,q⟩
 obtain⟨w1,w2⟩:=w G1 H i s1 I1.sub ⟨(λb o e=>by cases e),λb o u e=>by cases e⟩
 by_cases hlt:i < ds.length
 ·obtain⟨go,yl⟩:=w1 hlt
  refine .inr ⟨go,λσ H=>∃env G2 B β,SR Γ B G2 H σ env β/\ah G' G2/\mJ Γ E G2 N (gP t m (ds.drop (i + 1)) env β),λσ2 H2 h=>⟨ds.length - (i + 1),by omega,rfl,hlt,h⟩,λx H2 y=>?_⟩
  obtain⟨G2,d,x2,ed,rd⟩:=yl x H2 y
  have I2:=I1.ext x2
  have q:=mJ.weak q x2.gg
  rw[Mh hlt] at q
  have ed':ds[i]=d:=by rw[J6 hlt] at ed;exact Option.some.inj ed
  rw[ed'] at q
  unfold gP at q
  cases eb:eH t d env with
  |none=>rw[eb] at q;exact q.elim
  |some env1=>
   rw[eb] at q
   refine⟨env,G2,B1,β1,d,env1,I2,rd,eb,λσ3 I3=>⟨env1,G2,B1,β1,I3,?_⟩⟩
   have s2:=s1.trans x2.gg
   dsimp only at q
   cases r:m env1 β1 with
   |nx env2 β2=>rw[r] at q;exact λB2 G3 H3 σ2 I2 s3=>⟨env2,G3,B2,β2,I2,s2.trans s3,mJ.weak q s3⟩
   |ct env2 β2=>rw[r] at q;exact λB2 G3 H3 σ2 I2 s3=>⟨env2,G3,B2,β2,I2,s2.trans s3,mJ.weak q s3⟩
   |bk env2 β2=>rw[r] at q;exact λB2 G3 H3 σ2 I2 s3=>q B2 G3 H3 σ2 I2 s3
   |rt d fr β2=>rw[r] at q;exact q
   |exc c=>rw[r] at q;exact q
   |bad=>rw[r] at q;exact q
 ·have e:i=ds.length:=by omega
  subst e
  rw[MM] at q
  exact .inl ⟨w2 (Kg _),q B1 G1 H σ I1 (ah.refl _)⟩
end
abbrev Fx.gx (Γ:Fx)(H0 G0:Hp)(par:List Addr)(br:Nat->Bool)(bx:Option Addr):Fx:=⟨Γ.K,H0,G0,par,Γ.ca,br,bx⟩
def fw (own:Nat)(ixs:List Nat)(vs:List Nv):List Nv:=List.replicate own .no ++ ixs.map λi=>(vs[i]?).getD .no
def F0:Option Sl->Sl
 |some (.ow d)=>.br d
 |some s=>s
 |none=>.no
def benv (own:Nat)(ixs:List Nat)(env:En):En:=List.replicate own .no ++ ixs.map λi=>F0 env[i]?
theorem BP (o:Option Sl):(F0 o).val=(o.map Sl.val).getD .no:=by
 cases o with
 |none=>rfl
 |some s=>cases s <;> rfl
def Dl (own:Nat)(ixs:List Nat)(env:En):vl (benv own ixs env)=fw own ixs (vl env):=by
 unfold vl benv fw
 rw[Ls,List.map_replicate,map_map]
 congr 1
 refine LM λi _=>?_
 show (F0 env[i]?).val=_
 rw[BP,Kk]
def oM (env:En):Prop:=∀(i:Nat) (d:D),env[i]?≠some (.ow d)
theorem ou {env:En}(h:oM env)(L:List Nat):aQ L env=env:=by
 unfold aQ
 induction L with
 |nil=>rfl
 |cons i L ih=>
  rw[foldl_cons]
  have:hW env i=env:=by
   unfold hW
   split
   ·rename_i d e;exact absurd e (h i d)
   ·rfl
  rw[this];exact ih
def pG (own:Nat)(ixs:List Nat)(env:En):oM (benv own ixs env):=λi d e=>by
 unfold benv at e
 have hm:=Kj e
 rcases KA.mp hm with h |h
 ·have:=MT h;cases this
 ·obtain⟨k,_,hk⟩:=Kn.mp h
  cases q:env[k]? with
  |none=>rw[q] at hk;cases hk
  |some s=>rw[q] at hk;cases s <;> cases hk
def oG {env:En}(h:oM env)(i:Nat)(d:D):oM (env.set i (.fz d)):=λj d' e=>by
 by_cases z:i=j
 ·subst z
  by_cases hi:i < env.length
  ·rw[Kw hi] at e;cases e
  ·rw[LR (by omega)] at e;exact h _ _ e
 ·rw[Km z] at e;exact h _ _ e
theorem yn {env env1:En}{t:Tg}{d:D}(h:oM env)(e:eH t d env=some env1):oM env1:=by
 cases t with
 |nm i=>cases e;exact oG h i d
 |two i j=>
  have e:(pairD d).map _=some env1:=e
  cases q:pairD d with
  |none=>rw[q] at e;cases e
  |some p=>rw[q] at e;cases e;exact oG (oG h _ _) _ _
theorem yj {env env1:En}{t:Tg}{d:D}(e:eH t d env=some env1)(d':D):eH t d' env1=eH t d' env:=by
 cases t with
 |nm i=>cases e;show some _=some _;rw[set_set]
 |two i j=>
  have e:(pairD d).map _=some env1:=e
  cases q:pairD d with
  |none=>rw[q] at e;cases e
  |some p=>
   rw[q] at e;cases e
   show (pairD d').map _=(pairD d').map _
   cases pairD d' with
   |none=>rfl
   |some p'=>
    show some _=some _
    congr 1
    dsimp only
    by_cases z:i=j
    ·subst z;simp[set_set]
    ·rw[List.set_comm _ _ (Ne.symm z),set_set,set_set]
def Ext.mov {G H G' H':Hp}(x:Ext G H G' H')(B:Option Addr):fM B H H':=x.hh.mov B
section
variable {Γ:Fx}{B:Option Addr}{G H G1 H1 Gc Hc:Hp}{σ σ':St}{env envb:En}{β β':Int}{own:Nat}{ixs:List Nat}{Da:Addr}{acc:List V}
def oN (envb:En):Nat->Bool:=λj=>match envb[j]? with
 |some (.br _)=>true
 |_=>false
def SR.block (I:SR Γ B G H σ env β)(own:Nat)(ixs:List Nat)(hD:H Da=none):SR (Γ.gx (upd H Da (.lst [])) G (Da :: B.toList) (oN (benv own ixs env)) B) B G (upd H Da (.lst [])) (pL own ixs σ) (benv own ixs env) β:=by
 obtain⟨q1,q2,q3,q4⟩:=I.fresh hD
 have nB:∀b,B=some b->b≠Da:=λb e z=>q3 (by rw[<-z];exact e)
 refine⟨I.sub.trans (ah.new hD),ah.refl _,λb _ h=>h,λb o h _=>Kt.of h,λb hb=>?_,λb e=>e,λb e=>?_,?_,λi s e=>?_,λi j c d d' e=>absurd e (pG own ixs env i d)⟩
 ·rcases Ke.mp hb with z |z
  ·subst z;exact Mx.lst ak
  ·have z':B=some b:=by simpa using z
   exact Mx.lst (by rw[aq (nB b z')];exact (I.box b z').1)
 ·obtain⟨h1,h2,_⟩:=I.box b e
  exact⟨by rw[aq (nB b e)];exact h1,h2,.inl (J9 _ (by simpa using e))⟩
 ·unfold pL benv;simp
 ·by_cases hi:i < own
  ·unfold benv at e
   rw[KQ (by simpa using hi),LI,Kf hi] at e
   cases e;trivial
  ·have e0:=e
   unfold benv at e
   rw[KO (by simpa using hi),L6,Kk] at e
   cases ek:ixs[i - own]? with
   |none=>rw[ek] at e;cases e
   |some k=>
    rw[ek] at e
    have e:F0 env[k]? =s:=Option.some.inj e
    have es:(pL own ixs σ)[i]? =some ((σ[k]?).join):=by
     unfold pL
     rw[KO (by simpa using hi),L6,Kk,ek];rfl
    rw[es]
    cases q:env[k]? with
    |none=>rw[q] at e;subst e;trivial
    |some t=>
     rw[q] at e
     have w:=I.slot k t q
     cases t with
     |no=>subst e;trivial
     |fz d=>subst e;obtain⟨v,h1,h2⟩:=w;exact⟨v,by rw[h1];rfl,h2⟩
     |bx=>subst e;obtain⟨a,h1,h2⟩:=w;exact⟨a,by rw[h1];rfl,h2⟩
     |ow d=>
      subst e
      obtain⟨a,h1,h2,h3,h4,h5⟩:=w
      obtain⟨o,ho⟩:=h5.obj
      have aD:a≠Da:=ax ho hD
      refine⟨by show oN _ i=true;unfold oN;rw[e0];rfl,a,by rw[h1];rfl,h4,?_,h5.mono (ah.refl _) λo q=>Kt.of (by rw[aq aD];exact q)⟩
      intro hm
      rcases Ke.mp hm with z |z
      ·exact aD z
      ·exact h4 (by simpa using z)
     |br d=>
      subst e
      obtain⟨b1,a,h1,h4,hp,h5⟩:=w
      obtain⟨o,ho⟩:=h5.obj
      have aD:a≠Da:=ax ho hD
      refine⟨by show oN _ i=true;unfold oN;rw[e0];rfl,a,by rw[h1];rfl,h4,?_,h5.mono (ah.refl _) λo q=>Kt.of (by rw[aq aD];exact q)⟩
      intro hm
      rcases Ke.mp hm with z |z
      ·exact aD z
      ·exact h4 (by simpa using z)
def SR.unblock (I:SR Γ B G H σ env β){br:Nat->Bool}(hD:H Da=none)(J:SR (Γ.gx (upd H Da (.lst [])) G (Da :: B.toList) br B) B Gc Hc σ' envb β'):SR Γ B Gc Hc σ env β'/\fM B H Hc/\Gc Da=none:=by
 obtain⟨q1,q2,q3,q4⟩:=I.fresh hD
 have up:∀{b:Addr},Mx H b->Mx (upd H Da (.lst [])) b:=λ{b} h=>h.same λo e=>Kt.of (by rw[aq (ax e hD)];exact e)
 have mv0:∀b o,H b=some o->B≠some b->Kt Hc b o:=λb o e n=>J.keep b o (show upd H Da (.lst []) b=some o by rw[aq (ax e hD)];exact e) λhm=>by
  rcases Ke.mp hm with z |z
  ·rw[z,hD] at e;cases e
  ·exact n (by simpa using z)
 have mv:fM B H Hc:=⟨mv0,λb o u e=>mv0 b _ e λz=>by rw[(I.box b z).1] at e;cases e⟩
 refine⟨⟨J.sub,I.old.trans J.old,λb h1 h2=>J.new b (up (I.thereM h1)) (I.new b h1 h2),λb o h1 h2=>vd (I.keep b o h1 h2) mv λz=>?_,λb hb=>J.thereM (up (I.pin b hb)),I.fix,λb e=>?_,I.len,λi s e=>?_,I.sep⟩,mv,J.new Da (Mx.lst (show upd H Da (.lst []) Da=some (.lst []) from ak)) q2⟩
 ·obtain⟨_,_,h3⟩:=I.box b z
  rcases h3 with h3 |h3
  ·exact h2 h3
  ·rw[h1] at h3;cases h3
 ·obtain⟨j1,j2,_⟩:=J.box b e
  exact⟨j1,j2,(I.box b e).2.2⟩
 ·have w:=I.slot i s e
  cases s with
  |no=>trivial
  |fz d=>obtain⟨v,h1,h2⟩:=w;exact⟨v,h1,h2.mono J.old⟩
  |bx=>exact w
  |ow d=>
   obtain⟨a,h1,h2,h3,h4,h5⟩:=w
   exact⟨a,h1,h2,J.new a (up h5.mx) h3,h4,h5.mono J.old λo q=>mv.1 a o q h4⟩
  |br d=>
   obtain⟨b1,a,h1,h4,hp,h5⟩:=w
   exact⟨b1,a,h1,h4,hp,h5.mono J.old λo q=>mv.1 a o q h4⟩
def SR.updD {ys:List V}(J:SR Γ B G H σ env β)(hp:Da∈Γ.par)(h0:Mx Γ.H0 Da)(g0:Γ.G0 Da=none)(hB:B≠some Da):SR Γ B G (upd H Da (.lst ys)) σ env β:=by
 have gD:=J.new Da h0 g0
 have ha:∀x y,H Da≠some (.aQ x y):=λx y w=>(J.pin Da hp).2 _ w trivial
 refine⟨λb u q=>gV (J.sub b u q) (λz=>by rw[z,gD] at q;cases q) ha,J.old,J.new,λb u q n=>gV (J.keep b u q n) (λz=>n (by rw[z];exact hp)) ha,λb hb=>?_,J.fix,λb e=>?_,J.len,λi s e=>?_,J.sep⟩
 ·by_cases z:b=Da
  ·subst z;exact Mx.lst ak
  ·exact (J.pin b hb).same λo e=>Kt.of (by rw[aq z];exact e)
 ·obtain⟨h1,h2⟩:=J.box b e
  exact⟨by rw[aq (λz=>hB (by rw[<-z];exact e))];exact h1,h2⟩
 ·have w:=J.slot i s e
  cases s with
  |no=>trivial
  |fz d=>exact w
  |bx=>exact w
  |ow d=>
   obtain⟨a,h1,h2,h3,h4,h5⟩:=w
   have aD:a≠Da:=λz=>h0.1 (by rw[<-z];exact h2)
   exact⟨a,h1,h2,h3,h4,h5.mono (ah.refl _) λo q=>Kt.of (by rw[aq aD];exact q)⟩
  |br d=>
   obtain⟨b1,a,h1,h4,hpa,h5⟩:=w
   have aD:a≠Da:=λz=>hpa (by rw[z];exact hp)
   exact⟨b1,a,h1,h4,hpa,h5.mono (ah.refl _) λo q=>Kt.of (by rw[aq aD];exact q)⟩
end
def R.okb {α γ:Type}(r:R α)(k:α->Int->R γ):R γ:=match r with
 | .ok a β=>k a β
 |_=>.bad
def fT (t:Tg)(ft:VF Bool)(fe:VF D)(vs:List Nv):List D->Int->R (List D)
 | [],β=>.ok [] β
 |d :: ds,β=>match l9 t d vs with
  |none=>.bad
  |some vs1=>(ft vs1 β).okb λc β1=>if c=true then (fe vs1 β1).okb λx β2=>(fT t ft fe vs ds β2).okb λxs β3=>.ok (x :: xs) β3 else fT t ft fe vs ds β1
def aS (own:Nat)(ixs:List Nat)(t:Tg)(fi:VF (List D))(ft:VF Bool)(fe:VF D):VF D:=λvs β=>(fi vs β).bnd λds β1=>if ds.length<=sizeLine then (fT t ft fe (fw own ixs vs) ds β1).okb λxs β2=>.ok (.list xs) β2 else .bad
def mB:VF Bool:=λ_ β=>.ok true β
def E6 (own:Nat)(ixs Lc:List Nat)(j:Nat):Bool:=decide (j < own) || (match ixs[j - own]? with
 |some i=>Lc.contains i
 |none=>false)
theorem B8 {α γ:Type}{Γ:Fx}{E:XK}{r:R α}{k:α->Int->R γ}{P:γ->Int->Prop}(h:Out Γ E (r.okb k) P):∃a β,r=.ok a β/\Out Γ E (k a β) P:=by
 cases r with
 |ok a β=>exact⟨a,β,rfl,h⟩
 |exc c=>exact h.elim
 |bad=>exact h.elim
section
variable {X:Cx}{Γ:Fx}{E:XK}{tg iter elt:Expr}{ifs:List Expr}{scope:Scope}{NB:List Str}{own:Nat}{ixs Li Lc Lt Le:List Nat}{t:Tg}{fi:VF (List D)}{ft:VF Bool}{fe:VF D}{pos:Pos}
def fJ {X:Cx}{Γ:Fx}{E:XK}:Be X [] (qT Γ E mB []):=λpins s σ H Q I ⟨env,G,B,β,J,o⟩=>qZ pins s σ H Q I (o G H J (ah.refl _) (fM.refl _ _))
def mU {X:Cx}{Γ:Fx}{E:XK}{c:Expr}{ta:VF Bool}{L:List Nat}(h:y0 X Γ E c ta L):Be X [c] (qT Γ E ta L):=vX h
def l5 {NB:List Str}{scope:Scope}{C:Addr}{ex:List Addr}{s3:Shared}{H3:Hp}{pn:List (Addr×Obj)}{P:Program}{w:World}:Passes (mn P w) (gx X NB scope C ex s3 H3 pn) E0:=λpins σ H s e s' I h=>by
 obtain⟨_,_,_,_,_,_,_,_,_,q⟩:=h
 exact q.elim
abbrev gU (Γ:Fx)(t:Tg):TG:=λv σ H Q=>∃H0 G0 par br bx,gT (Γ.gx H0 G0 par br bx) t v σ H Q
abbrev tU (Γ:Fx)(own:Nat)(ixs Lc:List Nat)(ft:VF Bool)(Lt:List Nat):TT:=λσ H Q=>∃H0 G0 par br bx,(∀j,E6 own ixs Lc j=true->br j=false)/\qT (Γ.gx H0 G0 par br bx) E0 ft Lt σ H Q
abbrev eU (Γ:Fx)(own:Nat)(ixs Lc:List Nat)(fe:VF D)(Le:List Nat):TE:=λσ H Q=>∃H0 G0 par br bx,(∀j,E6 own ixs Lc j=true->br j=false)/\pT (Γ.gx H0 G0 par br bx) E0 fe Le .v σ H Q
def Hj {σ:St}{H:Hp}{Q:VK}(hLc:∀i,i∈Lc->Γ.br i=false)(h:pT Γ E (aS own ixs t fi ft fe) (Li ++ Lc) .w σ H Q):qB own ixs (iT Γ E fi Li .b) (gU Γ t) (tU Γ own ixs Lc ft Lt) (eU Γ own ixs Lc fe Le) σ H Q:=by
 obtain⟨env,G,B,β,I,o⟩:=h
 refine⟨env,G,B,β,I,o.bnd.imp λds β1 h J G1 H1 I1 s1 m1 wk Da hD=>?_⟩
 have wk:Walk Γ.K B G1 H1 ds J:=wk
 by_cases hz:ds.length<=sizeLine
 case neg=>rw[Ki hz] at h;exact h.elim
 rw[Kf hz] at h
 obtain⟨xs0,β0,e0,h⟩:=B8 h
 have h:∀v G' H',SR Γ B G' H' σ (aQ (Li ++ Lc) env) β0->ah G G'->fM B H H'->VO Γ.K B H G' H' .w (.list xs0) v->Q v H':=h
 obtain⟨G2,I2,s2⟩:=I1.aQ Lc hLc
 rw[<-cW] at I2
 obtain⟨q1,q2,q3,q4⟩:=I2.fresh hD
 have Ib0:=I2.block own ixs hD
 generalize hbr:oN (benv own ixs (aQ (Li ++ Lc) env))=br at Ib0
 have hbo:∀j,E6 own ixs Lc j=true->br j=false:=by
  intro j hj
  rw[<-hbr]
  unfold oN
  split
  ·rename_i d e
   exfalso
   unfold benv at e
   by_cases hjo:j < own
   ·rw[KQ (by simpa using hjo),LI,Kf hjo] at e;cases e
   ·rw[KO (by simpa using hjo),L6,Kk] at e
    unfold E6 at hj
    rw[Kr hjo,Bool.false_or] at hj
    cases ek:ixs[j - own]? with
    |none=>rw[ek] at hj;cases hj
    |some k=>
     rw[ek] at hj e
     have hk:k∈Lc:=by simpa using hj
     have e:F0 (aQ (Li ++ Lc) env)[k]? =.br d:=Option.some.inj e
     cases q:(aQ (Li ++ Lc) env)[k]? with
     |none=>rw[q] at e;cases e
     |some s=>
      rw[q] at e
      cases s with
      |no=>cases e
      |fz _=>cases e
      |bx=>cases e
      |br d'=>
       obtain⟨b1,_⟩:=I2.slot k _ q
       rw[hLc k hk] at b1;cases b1
      |ow d'=>
       rw[cW] at q
       have key:∀(M:List Nat) (en:En),k∈M->∀d',(aQ M en)[k]?≠some (.ow d'):=by
        intro M
        induction M with
        |nil=>intro en hm;cases hm
        |cons i M ih=>
         intro en hm d' z
         rcases Ke.mp hm with y |y
         ·subst y
          have z1:(hW en k)[k]? =some (.ow d'):=rl (L:=M) z
          have z2:=vY z1
          unfold hW at z1
          rw[z2] at z1
          dsimp only at z1
          rw[Kw (Ks.mp z2).1] at z1;cases z1
         ·exact ih (hW en i) y d' z
       exact key Lc _ hk d' q
  ·rfl
 have evb:vl (benv own ixs (aQ (Li ++ Lc) env))=fw own ixs (vl env):=by rw[Dl,i8]
 refine⟨λi n σ' H'=>n=ds.length - i/\i<=ds.length/\∃envb Gc β' acc accd,SR (Γ.gx (upd H1 Da (.lst [])) G2 (Da :: B.toList) br B) B Gc H' σ' envb β'/\(envb=benv own ixs (aQ (Li ++ Lc) env)\/∃d,eH t d (benv own ixs (aQ (Li ++ Lc) env))=some envb)/\
   H' Da=some (.lst acc)/\bI Γ.K Gc acc accd/\accd.length<=i/\∃xs,fT t ft fe (fw own ixs (vl env)) (ds.drop i) β'=.ok xs β0/\accd ++ xs=xs0,
  ⟨ds.length,by simp,KY _,_,G2,β1,[],[],Ib0,.inl rfl,ak,.nil,KY _,xs0,by rw[List.drop_zero];exact e0,rfl⟩,?_⟩
 rintro i n σ' H' ⟨rfl,hi',envb,Gc,β',acc,accd,Ib,eb,hacc,racc,lacc,xs,ec,exs⟩
 obtain⟨Io,mv,gD⟩:=I2.unblock hD Ib
 obtain⟨w1,w2⟩:=wk Gc H' i (s2.trans Ib.old) Ib.sub mv
 by_cases hlt:i < ds.length
 ·obtain⟨go,yl⟩:=w1 hlt
  refine .inr ⟨go,λσ' H'=>∃envb Gc β' acc accd,SR (Γ.gx (upd H1 Da (.lst [])) G2 (Da :: B.toList) br B) B Gc H' σ' envb β'/\(envb=benv own ixs (aQ (Li ++ Lc) env)\/∃d,eH t d (benv own ixs (aQ (Li ++ Lc) env))=some envb)/\
   H' Da=some (.lst acc)/\bI Γ.K Gc acc accd/\accd.length<=i + 1/\∃xs,fT t ft fe (fw own ixs (vl env)) (ds.drop (i + 1)) β'=.ok xs β0/\accd ++ xs=xs0,λσ2 H2 hh=>⟨ds.length - (i + 1),by omega,rfl,hlt,hh⟩,λx H2 y=>?_⟩
  obtain⟨G3,d,x3,ed,rd⟩:=yl x H2 y
  have I3:=Ib.ext x3
  have ed':ds[i]=d:=by rw[J6 hlt] at ed;exact Option.some.inj ed
  rw[Mh hlt,ed'] at ec
  unfold fT at ec
  cases ebv:l9 t d (fw own ixs (vl env)) with
  |none=>rw[ebv] at ec;cases ec
  |some vs1=>
   rw[ebv] at ec
   dsimp only at ec
   obtain⟨env1,eb1,ev1⟩:∃env1,eH t d (benv own ixs (aQ (Li ++ Lc) env))=some env1/\vl env1=vs1:=by
    have:=CF t d (benv own ixs (aQ (Li ++ Lc) env))
    rw[evb,ebv] at this
    cases q:eH t d (benv own ixs (aQ (Li ++ Lc) env)) with
    |none=>rw[q] at this;cases this
    |some env1=>rw[q] at this;exact⟨env1,rfl,Option.some.inj this⟩
   have eb2:eH t d envb=some env1:=by
    rcases eb with rfl | ⟨d0,eb⟩
    ·exact eb1
    ·rw[yj eb];exact eb1
   have no1:oM env1:=yn (pG _ _ _) eb1
   have a2:H2 Da=some (.lst acc):=x3.hh _ _ hacc
   refine⟨_,_,_,_,_,envb,G3,B,β',d,env1,I3,rd,eb2,λσ3 I4=>?_⟩
   refine⟨_,_,_,_,_,hbo,env1,G3,B,β',I4,?_⟩
   rw[ev1]
   cases et:ft vs1 β' with
   |exc c=>rw[et] at ec;cases ec
   |bad=>rw[et] at ec;cases ec
   |ok c β2=>
    rw[et] at ec
    intro G4 H4 I5 s4 m4
    rw[ou no1] at I5
    have a4:H4 Da=some (.lst acc):=m4.1 _ _ a2 q3
    cases c with
    |false=>
     refine pA ⟨env1,G4,β2,acc,accd,I5,.inr ⟨d,eb1⟩,a4,racc.mono (x3.gg.trans s4),by omega,xs,?_,exs⟩
     exact ec
    |true=>
     refine o6 ⟨_,_,_,_,_,hbo,env1,G4,B,β2,I5,?_⟩
     rw[ev1]
     have ec:((fe vs1 β2).okb λx β3=>(fT t ft fe (fw own ixs (vl env)) (ds.drop (i + 1)) β3).okb λxs β4=>R.ok (x :: xs) β4)=R.ok xs β0:=ec
     cases ee:fe vs1 β2 with
     |exc c=>rw[ee] at ec;cases ec
     |bad=>rw[ee] at ec;cases ec
     |ok dx β3=>
      rw[ee] at ec
      intro v G5 H5 I6 s5 m5 vo
      rw[ou no1] at I6
      have a5:H5 Da=some (.lst acc):=m5.1 _ _ a4 q3
      have ec:((fT t ft fe (fw own ixs (vl env)) (ds.drop (i + 1)) β3).okb λxs β4=>R.ok (dx :: xs) β4)=R.ok xs β0:=ec
      cases er:fT t ft fe (fw own ixs (vl env)) (ds.drop (i + 1)) β3 with
      |exc c=>rw[er] at ec;cases ec
      |bad=>rw[er] at ec;cases ec
      |ok ys β4=>
       rw[er] at ec
       cases ec
       refine⟨acc,a5,by rw[racc.len];omega,env1,G5,β3,acc ++ [v],accd ++ [dx],?_,.inr ⟨d,eb1⟩,ak,(racc.mono ((x3.gg.trans s4).trans s5)).snoc vo,by rw[Ku];simp;omega,ys,er,by rw[<-exs,LU];rfl⟩
       refine I6.updD (Kd ..) (Mx.lst (show upd H1 Da (.lst []) Da=some (.lst []) from ak)) (I2.sub.free hD) q3
 ·have e:i=ds.length:=by omega
  subst e
  rw[MM] at ec
  cases ec
  rw[L5] at exs
  subst exs
  refine .inl ⟨w2 (Kg _),⟨acc,hacc⟩,h _ Gc H' Io ((s1.trans s2).trans Ib.old) (m1.trans mv) ⟨Da,rfl,dE m1 I1.boxThere hD,gD,acc,hacc,racc⟩⟩
def bU (hg:∀H0 G0 par br bx C ex s3 H3 pn,SG (gx X NB scope C ex s3 H3 pn) (Γ.gx H0 G0 par br bx) tg t)(C:Addr)(ex:List Addr)(s3:Shared)(H3:Hp)(pn:List (Addr×Obj)):PG (gx X NB scope C ex s3 H3 pn) tg (gU Γ t):=by
 rintro pins s σ H v u Q I r ⟨H0,G0,par,br,bx,q⟩
 exact hg H0 G0 par br bx C ex s3 H3 pn pins s σ H v u Q I r q
def cV (Lc:List Nat)(hc:X.calm=true)(S:cE X NB own ixs scope)(hLc:∀i,i∈Lc->Γ.br i=false)(hi:SI X Γ E tg iter fi Li .b)
  (hg:∀H0 G0 par br bx C ex s3 H3 pn,SG (gx X NB scope C ex s3 H3 pn) (Γ.gx H0 G0 par br bx) tg t)
  (ht:∀H0 G0 par br bx C ex s3 H3 pn,(∀j,E6 own ixs Lc j=true->br j=false)->Be (gx X NB scope C ex s3 H3 pn) ifs (qT (Γ.gx H0 G0 par br bx) E0 ft Lt))
  (he:∀H0 G0 par br bx C ex s3 H3 pn,(∀j,E6 own ixs Lc j=true->br j=false)->SE (gx X NB scope C ex s3 H3 pn) (Γ.gx H0 G0 par br bx) E0 elt fe Le .v)
  (hs:∀x,foldedSetIterable iter X.env x=pure x:=by intro _;rfl) :
  SE X Γ E (.ListComp elt [⟨tg,iter,ifs,0⟩] scope pos) (aS own ixs t fi ft fe) (Li ++ Lc) .w:=by
 refine PE.post' (tD (g:=gU Γ t) (tt:=tU Γ own ixs Lc ft Lt) (te:=eU Γ own ixs Lc fe Le) hc S hi (bU hg) (λC ex s3 H3 pn=>?_) (λC ex s3 H3 pn=>?_) hs) λσ H Q h=>Hj hLc h
 ·rintro pins s σ H Q I ⟨H0,G0,par,br,bx,b,q⟩
  exact ht H0 G0 par br bx C ex s3 H3 pn b pins s σ H Q I q
 ·rintro pins s σ H Q I ⟨H0,G0,par,br,bx,b,q⟩
  exact he H0 G0 par br bx C ex s3 H3 pn b pins s σ H Q I q
end
def fin:SO->FR
 | .nx _ _=>.ok .none false
 | .rt d fr _=>.ok d fr
 | .exc c=>.exc c
 |_=>.bad
def yt (n:Nat)(ds:List D):En:=ds.map Sl.fz ++ List.replicate (n - ds.length) .no
def bF (n p:Nat)(m:SF):List D->FR:=λds=>if ds.length=p then fin (m (yt n ds) 0) else .bad
abbrev Fx.fn (K:Frag)(H G:Hp)(ca:Str->Addr):Fx:=⟨K,H,G,[],ca,λ_=>false,none⟩
def SR.start {K:Frag}{H G:Hp}{ca:Str->Addr}{N:List Str}{vs:List V}{ds:List D}(s:ah G H)(r:bI K G vs ds)(hn:ds.length<=N.length):SR (Fx.fn K H G ca) none G H (start N vs) (yt N.length ds) 0:=by
 have hl:=r.len
 refine⟨s,ah.refl _,λb _ h=>h,λb o h _=>Kt.of h,λb h=>(by cases h),λb h=>(by cases h),λb h=>(by cases h),?_,λi t e=>?_,λi j a d e h=>?_⟩
 ·unfold L2.start yt;simp;omega
 ·unfold yt at e
  by_cases hi:i < ds.length
  ·rw[KQ (by simpa using hi),Kk,J6 hi] at e
   cases e
   obtain⟨x,hx,rx⟩:=r.at (J6 hi)
   refine⟨x,?_,rx⟩
   unfold L2.start
   rw[KQ (by simpa[hl] using hi),Kk,hx];rfl
  ·rw[KO (by simpa using hi),LI] at e
   split at e
   ·cases e;trivial
   ·cases e
 ·unfold yt at h
  have hm:=Kj h
  rcases KA.mp hm with z |z
  ·obtain⟨_,_,z⟩:=Kn.mp z;cases z
  ·have:=MT z;cases this
section
variable {P:Program}{w:World}{K:Frag}{mg:Str->Option Value}{base:Heap}{ca:Str->Addr}
def bp {x qual:Str}{st:Stmt}{f:Addr}{fd:FuncData}{N ps:List Str}{k:Nat}{m:SF}(F:BG K x qual st f fd)(S:aI N ps (au st))
  (hbody:∀(cdv:Value) (A:Around) (outer:List Env) (s:Shared) (H G:Hp) (E:XK),dv k (A.deeper (envOfC qual (au st) s.heap.objs.size f cdv))->BF (jT (mn P w) P w K mg base N qual (au st) f cdv A outer s H E) (Fx.fn K H G ca) E (cu st) m) :
  eV P w K mg base (mn P w) (k + 1) f fd ps (BE K ca ps.length (bF N.length ps.length m)):=by
 have hpn:ps.length<=N.length:=by have:=congrArg List.length S.pre;rw[K4] at this;omega
 refine F.zb S (λvs H Q E h=>?_) (λcdv A outer s H vs Q E hr h=>?_)
 ·obtain⟨G,ds,sG,hl,r,_⟩:=h
  rw[r.len];exact hl
 ·obtain⟨G,ds,sG,hl,r,h⟩:=h
  refine⟨_,hbody cdv A outer s H G E hr,?_⟩
  have I:=SR.start (ca:=ca) (N:=N) sG r (by omega)
  refine⟨_,G,none,0,I,?_⟩
  unfold bF at h
  rw[Kf hl] at h
  have fin':∀{B G' H' σ env β},SR (Fx.fn K H G ca) B G' H' σ env β->ah H H':=λJ b o e=>J.keep b o e (λz=>by cases z)
  cases q:m (yt N.length ds) 0 with
  |nx env β=>rw[q] at h;exact λB G' H' σ J s'=>h .non G' H' (fin' J) s' J.sub (λb h1 h2=>J.new b h1 h2) Rp.non
  |bk env β=>rw[q] at h;exact h.elim
  |ct env β=>rw[q] at h;exact h.elim
  |rt d fr β=>
   rw[q] at h
   refine λB G' H' σ env v J s' rv=>h v G' H' (fin' J) s' J.sub (λb h1 h2=>J.new b h1 h2) ?_
   cases fr with
   |true=>exact rv
   |false=>exact rv
  |exc c=>rw[q] at h;exact λH' kp=>h H' λb o e=>kp b o e (λz=>by cases z)
  |bad=>rw[q] at h;exact h.elim
def CK {n:Nat}{F F':List D->FR}(h:∀ds,ds.length=n->F' ds≠.bad->F ds=F' ds){vs:List V}{H:Hp}{Q:VK}{E:XK}(q:BE K ca n F' vs H Q E):BE K ca n F vs H Q E:=by
 obtain⟨G,ds,s,hl,r,q⟩:=q
 refine⟨G,ds,s,hl,r,?_⟩
 by_cases hb:F' ds=.bad
 ·rw[hb] at q;exact q.elim
 ·rw[h ds hl hb];exact q
def fL.imp {x:Str}{ps:List Str}{k:Nat}{F F':List D->FR}(h:fL P w K mg base ca x ps k F)(i:∀ds,F' ds≠.bad->F ds=F' ds):fL P w K mg base ca x ps k F':=by
 obtain⟨f,fd,a,b,c,d⟩:=h.ex
 exact⟨⟨f,fd,a,b,c,d.imp λvs H Q E q=>CK (λds _=>i ds) q⟩,λds hn=>h.len ds (by rw[i ds hn];exact hn)⟩
def aW {n p:Nat}{m:SF}(ds:List D)(h:bF n p m ds≠.bad):ds.length=p:=by
 unfold bF at h
 by_cases hl:ds.length=p
 ·exact hl
 ·rw[Ki hl] at h;exact absurd rfl h
def Ab {N:List Str}{qual:Str}{scope:Scope}{f:Addr}{cd:Value}{A:Around}{outer:List Env}{s0:Shared}{H0:Hp}{E:XK}{Γ:Fx}{x:Str}{C:Addr}{np cpos pos:Pos}{e0:Expr}{es:List Expr}{fr:VF (List D)}{L:List Nat}(q:PySem.W.excIn K C [.type "ValueError",.type "Exception",.type "BaseException",.type "object"] "ValueError.__new__"=true)(hca:Γ.ca x=C)
  (hg:Gl (jT (mn P w) P w K mg base N qual scope f cd A outer s0 H0 E) x) (hm:mg x=some (.ref C)) (ha:SA (jT (mn P w) P w K mg base N qual scope f cd A outer s0 H0 E) Γ E (e0 :: es) fr L)
  (he:starEach (e0 :: es) (envOfC qual scope s0.heap.objs.size f cd)=(false,eval e0 (envOfC qual scope s0.heap.objs.size f cd)) :: starEach es (envOfC qual scope s0.heap.objs.size f cd):=by rfl)
  (hpl:(backTo cpos (starEach es (envOfC qual scope s0.heap.objs.size f cd))).any (·.1)=false:=by rfl) (hdb:(x == ("__debug__":Str))=false:=by decide) :
  SS (jT (mn P w) P w K mg base N qual scope f cd A outer s0 H0 E) Γ E (.Raise (some (.Call (.Name x np) (e0 :: es) [] cpos)) none pos) (λenv β=>toS (fr (vl env) β) λds _=>if ds.length<=sizeLine then .exc x else .bad):=by
 refine PS.post (AO PySem.F.excBase_ValueError (by decide +kernel) q hg hm ha he hpl hdb) λD σ H ⟨env,G,B,β,I,o⟩=>?_
 refine⟨env,G,B,β,I,bQ o λds β' k vs G' H' I' s' m' r=>?_⟩
 by_cases hz:ds.length<=sizeLine
 ·rw[Kf hz] at k
  refine⟨by rw[r.len];exact hz,?_⟩
  have:=k H' (I'.kp (ah.refl _))
  rw[hca] at this
  exact this
 ·rw[Ki hz] at k;exact k.elim
end
section
variable {X:Cx}{Γ:Fx}{E:XK}{e a b c:Expr}{f fa fb:VF D}{L La Lb:List Nat}{md ma mb:Md}{pos apos cpos np:Pos}
def o7:Option Sl->Bool
 |some (.ow (.list _))=>true
 |_=>false
theorem mQ {o:Option Sl}(h:o7 o=true):∃ds,o=some (.ow (.list ds)):=by
 cases o with
 |none=>cases h
 |some s=>
  cases s with
  |ow d=>cases d with
   |list ds=>exact⟨ds,rfl⟩
   |_=>cases h
  |_=>cases h
def FL (i:Nat)(env:En)(β:Int)(g:List D->Option (List D)):SO:=match env[i]? with
 |some (.ow (.list ds))=>(match g ds with
  |some es=>.nx (env.set i (.ow (.list es))) β
  |none=>.bad)
 |_=>.bad
def rG (i:Nat)(L:List Nat)(f:VF D):SF:=λenv β=>if o7 env[i]? =true then toS (f (vl env) β) λd β'=>FL i (aQ L env) β' λds=>if ds.length < sizeLine then some (ds ++ [d]) else none else .bad
def rT {Γ:Fx}{E:XK}{G:Hp}{N:Ends}{i:Nat}{env:En}{β:Int}{g:List D->Option (List D)}(h:mJ Γ E G N (FL i env β g)):∃ds es,env[i]? =some (.ow (.list ds))/\g ds=some es/\mJ Γ E G N (.nx (env.set i (.ow (.list es))) β):=by
 unfold FL at h
 split at h
 ·rename_i ds q
  cases e:g ds with
  |none=>rw[e] at h;exact h.elim
  |some es=>rw[e] at h;exact⟨ds,es,q,e,h⟩
 ·exact h.elim
def qg (i:Nat){x:Str}(hb:∀j,Γ.br j=false)(he:SE X Γ E e f L .v)(hN:X.N[i]? =some x:=by rfl)(hv:qP X.env.scope x:=by first |exact Or.inl rfl |exact Or.inr (Or.inl rfl) |exact Or.inr (Or.inr rfl))(hd:(x == ("__debug__":Str))=false:=by decide)
  (hcd:(x == ("__classdict__":Str))=false:=by decide)
  (hbase:attributeBase (.Name x np) "append" X.env (eval (.Name x np) X.env)=eval (.Name x np) X.env:=by rfl)
  (hfew:((backTo cpos (starEach [e] X.env)).all (λx=> !x.1) && (backToKw cpos (keywordEach [] X.env)).all (λx=>x.1.isSome)
   && decide ([e].length + ([]:List Keyword).length + (if ([]:List Keyword).isEmpty then 0 else 1) < 30))=true:=by rfl)
  (hline:(apos.endLine == cpos.line)=true:=by rfl) (hs:starEach [e] X.env=(false,eval e X.env) :: starEach [] X.env:=by rfl)
  (hsw:swapsWith (.Call (.Attribute (.Name x np) "append" apos) [e] [] cpos) none pos.line X.env=pure false:=by rfl) :
  SS X Γ E (.Expr (.Call (.Attribute (.Name x np) "append" apos) [e] [] cpos) pos) (rG i L f):=by
 refine PS.post (jM (qe LJ Mm Mn hJ (cM hN hv hd hcd) (aG he a7 hs) hbase hfew hline hs rfl) hsw) λN σ H ⟨env,G,B,β,I,o⟩=>?_
 unfold rG at o
 by_cases hO:o7 env[i]? =true
 case neg=>rw[Ki hO] at o;exact o.elim
 rw[Kf hO] at o
 obtain⟨ds0,q0⟩:=mQ hO
 obtain⟨p,h1,_,_,_,xs,h5,_⟩:=I.slot i _ q0
 refine⟨_,h1,.inl ⟨rfl,xs,.inl (.inl h5)⟩,?_⟩
 refine⟨env,G,B,β,I,bQ o λd β' k v G' H' I' s' m' vo=>?_⟩
 obtain⟨ds,es,q,eg,k⟩:=rT k
 by_cases hz:ds.length < sizeLine
 case neg=>rw[Ki hz] at eg;cases eg
 rw[Kf hz] at eg
 cases eg
 obtain⟨p',g1,_,_,_,ys,g5,g6⟩:=I'.slot i _ q
 rw[h1] at g1;cases g1
 refine⟨p,ys,v,rfl,rfl,g5,by rw[g6.len];exact hz,?_⟩
 exact k B G' _ σ (I'.write hb q h1 λH2 e2 s2=>⟨_,e2,g6.snoc vo⟩) s'
def Gm:V->List V->Hp->VK->Prop:=λx vs H Q=>∃l b xs zs,x=.ref l/\vs= [.ref b]/\H l=some (.lst xs)/\Rd H b (.lst zs)/\xs.length + zs.length<=sizeLine/\Q .non (upd H l (.lst (xs ++ zs)))
def Inv.lstR {pins:List (Addr×Obj)}{σ:St}{H:Hp}{s:Shared}{l:Addr}{xs:List V}(I:Inv X pins σ H s)(hH:Rd H l (.lst xs)):xs.length<=sizeLine/\∃(its:List Value) (n:Nat),Vals xs its/\xs.length=its.length/\s.heap.get? l=some {cls:=.type "list",data:=.seq its.toArray n}:=by
 obtain⟨z,its,n,r,e⟩:=hH.ok I.hok
 exact⟨z,its,n,r,r.length,e⟩
def CO:I0 X "list.extend" Gm:=by
 intro pins s σ H x vs v us Q I rx rv h
 obtain⟨l,b,xs,zs,rfl,rfl,hH,hB,hz,q⟩:=h
 cases rx
 obtain⟨u,rfl,ru⟩:=rv.one
 cases ru
 obtain⟨z,its,n,r,hl,e⟩:=I.lstM hH
 obtain⟨z2,its2,n2,r2,hl2,e2⟩:=I.lstR hB
 have hsz:its.toArray.size + its2.toArray.size<=sizeLine:=by rw[Kv,Kv];omega
 have hlong:¬(!its.toArray.isEmpty && Builtin.List.listTooLong (its.toArray.size + its2.toArray.size))=true:=by
  rw[tY hsz,MV]
  exact KC
 refine call_meets F.slot_list_extend ⟨_,e,rfl⟩ F.entry_list_extend (F.args_list_extend_2 _ _)
  (AutoSeq1.list_extend_list_list_0 l its.toArray n b its2.toArray n2 hlong (by rw[Kv];omega) (by omega)) ⟨e,e2,?_⟩
 refine⟨.non,_,I.lset (its':=its ++ its2) hH e (by simp) (r.append r2) ?_,rfl,q⟩
 rw[Ku]
 omega
def zk (i:Nat)(L:List Nat)(f:VF D):SF:=λenv β=>if o7 env[i]? =true then toS (f (vl env) β) λd β'=>FL i (aQ L env) β' λds=>match d with
 | .list es=>if ds.length + es.length<=sizeLine then some (ds ++ es) else none
 |_=>none else .bad
theorem yr (i:Nat){x:Str}(hb:∀j,Γ.br j=false)(he:SE X Γ E e f L md)(hN:X.N[i]? =some x:=by rfl)(hv:qP X.env.scope x:=by first |exact Or.inl rfl |exact Or.inr (Or.inl rfl) |exact Or.inr (Or.inr rfl))(hd:(x == ("__debug__":Str))=false:=by decide)
  (hcd:(x == ("__classdict__":Str))=false:=by decide)
  (hbase:attributeBase (.Name x np) "extend" X.env (eval (.Name x np) X.env)=eval (.Name x np) X.env:=by rfl)
  (hfew:((backTo cpos (starEach [e] X.env)).all (λx=> !x.1) && (backToKw cpos (keywordEach [] X.env)).all (λx=>x.1.isSome)
   && decide ([e].length + ([]:List Keyword).length + (if ([]:List Keyword).isEmpty then 0 else 1) < 30))=true:=by rfl)
  (hline:(apos.endLine == cpos.line)=true:=by rfl) (hs:starEach [e] X.env=(false,eval e X.env) :: starEach [] X.env:=by rfl)
  (hsw:swapsWith (.Call (.Attribute (.Name x np) "extend" apos) [e] [] cpos) none pos.line X.env=pure false:=by rfl) :
  SS X Γ E (.Expr (.Call (.Attribute (.Name x np) "extend" apos) [e] [] cpos) pos) (zk i L f):=by
 refine PS.post (jM (qe LJ PySem.F.slot_list_extend PySem.F.type_list_extend CO (cM hN hv hd hcd) (aG he a7 hs) hbase hfew hline hs rfl) hsw) λN σ H ⟨env,G,B,β,I,o⟩=>?_
 unfold zk at o
 by_cases hO:o7 env[i]? =true
 case neg=>rw[Ki hO] at o;exact o.elim
 rw[Kf hO] at o
 obtain⟨ds0,q0⟩:=mQ hO
 obtain⟨p,h1,_,_,_,xs,h5,_⟩:=I.slot i _ q0
 refine⟨_,h1,.inl ⟨rfl,xs,.inl (.inl h5)⟩,?_⟩
 refine⟨env,G,B,β,I,bQ o λd β' k v G' H' I' s' m' vo=>?_⟩
 obtain⟨ds,es,q,eg,k⟩:=rT k
 cases d with
 |list fs=>
  dsimp only at eg
  by_cases hz:ds.length + fs.length<=sizeLine
  case neg=>rw[Ki hz] at eg;cases eg
  rw[Kf hz] at eg
  cases eg
  obtain⟨p',g1,_,_,_,ys,g5,g6⟩:=I'.slot i _ q
  rw[h1] at g1;cases g1
  obtain⟨pb,zs,rfl,hq,rz⟩:=(vo.brw I.boxThere).list I'.sub
  refine⟨p,pb,ys,zs,rfl,rfl,g5,hq,by rw[g6.len,rz.len];exact hz,?_⟩
  exact k B G' _ σ (I'.write hb q h1 λH2 e2 s2=>⟨_,e2,g6.append rz⟩) s'
 |_=>cases eg
end
section
variable {K:Frag}{X:Cx}
def tj {g:Int->Int->V}{gd:D->D->Option D}(h:∀dx dy d,gd dx dy=some d->∃i j,dx=.int i/\dy=.int j/\∀G,Rp K G (g i j) d):mf K (yU g) gd .v:=by
 intro B G H x y dx dy d Q s hB bx by' e k
 obtain⟨i,j,rfl,rfl,r⟩:=h _ _ _ e
 obtain rfl:=bx.int
 obtain rfl:=by'.int
 exact⟨i,j,rfl,rfl,k _ G H (Ext.refl s) (r G)⟩
def wd {C:Int->Int->Prop}{g:Int->Int->V}{gd:D->D->Option D}(h:∀dx dy d,gd dx dy=some d->∃i j,dx=.int i/\dy=.int j/\C i j/\∀G,Rp K G (g i j) d):mf K (rI C g) gd .v:=by
 intro B G H x y dx dy d Q s hB bx by' e k
 obtain⟨i,j,rfl,rfl,c,r⟩:=h _ _ _ e
 obtain rfl:=bx.int
 obtain rfl:=by'.int
 exact⟨i,j,rfl,rfl,c,k _ G H (Ext.refl s) (r G)⟩
def gI (c:Int->Int->Bool)(g:Int->Int->D):D->D->Option D
 | .int i,.int j=>if c i j=true then some (g i j) else none
 |_,_=>none
def uI (g:Int->Int->D):D->D->Option D
 | .int i,.int j=>some (g i j)
 |_,_=>none
def xJ {c:Int->Int->Bool}{g:Int->Int->D}{dx dy d:D}(h:gI c g dx dy=some d):∃i j,dx=.int i/\dy=.int j/\c i j=true/\d=g i j:=by
 unfold gI at h
 split at h
 ·split at h
  ·cases h;exact⟨_,_,rfl,rfl,by assumption,rfl⟩
  ·cases h
 ·cases h
def km {g:Int->Int->D}{dx dy d:D}(h:uI g dx dy=some d):∃i j,dx=.int i/\dy=.int j/\d=g i j:=by
 unfold uI at h
 split at h
 ·cases h;exact⟨_,_,rfl,rfl,rfl⟩
 ·cases h
def zE:D->D->Option D:=gI (λ_ j=>decide (0 < j) && decide (j < 1073741824)) λi j=>.int (i / j)
def Df:mf K (rI BL λi j=>.int (i / j)) zE .v:=wd λdx dy d h=>by obtain⟨i,j,rfl,rfl,c,rfl⟩:=xJ h;exact⟨i,j,rfl,rfl,by simpa[BL] using c,λ_=>.int _⟩
def lh:D->D->Option D:=gI (λ_ j=>decide (0 < j)) λi j=>.int (i % j)
def pI:mf K (rI (λ_ j=>0 < j) λi j=>.int (i % j)) lh .v:=wd λdx dy d h=>by obtain⟨i,j,rfl,rfl,c,rfl⟩:=xJ h;exact⟨i,j,rfl,rfl,by simpa using c,λ_=>.int _⟩
def Fl (i j:Int):Bool:=decide (0<=j) && decide (j<=1000000) && decide (i.natAbs < 2 ^ 64)
def Bc:D->D->Option D:=gI Fl λi j=>.int (i ^ j.toNat)
def Cu {i j:Int}(h:Fl i j=true):Fp i j:=by
 unfold Fl at h
 simp only[Kq,K0] at h
 exact⟨h.1.1,h.1.2,h.2⟩
def GB:mf K (rI Fp λi j=>.int (i ^ j.toNat)) Bc .v:=wd λdx dy d h=>by obtain⟨i,j,rfl,rfl,c,rfl⟩:=xJ h;exact⟨i,j,rfl,rfl,Cu c,λ_=>.int _⟩
def zc:D->D->Option D:=uI λi j=>.bool (decide (i < j))
def zu:D->D->Option D:=uI λi j=>.bool (decide (i<=j))
def HS:D->D->Option D:=uI λi j=>.bool (decide (j < i))
def HH:D->D->Option D:=uI λi j=>.bool (decide (j<=i))
def Cj:mf K (yU λi j=>.bl (decide (i < j))) zc .v:=tj λdx dy d h=>by obtain⟨i,j,rfl,rfl,rfl⟩:=km h;exact⟨i,j,rfl,rfl,λ_=>.bl _⟩
def Er:mf K (yU λi j=>.bl (decide (i<=j))) zu .v:=tj λdx dy d h=>by obtain⟨i,j,rfl,rfl,rfl⟩:=km h;exact⟨i,j,rfl,rfl,λ_=>.bl _⟩
def Jc:mf K (yU λi j=>.bl (decide (j < i))) HS .v:=tj λdx dy d h=>by obtain⟨i,j,rfl,rfl,rfl⟩:=km h;exact⟨i,j,rfl,rfl,λ_=>.bl _⟩
def Jm:mf K (yU λi j=>.bl (decide (j<=i))) HH .v:=tj λdx dy d h=>by obtain⟨i,j,rfl,rfl,rfl⟩:=km h;exact⟨i,j,rfl,rfl,λ_=>.bl _⟩
mutual
theorem xD:∀d:D,d.canLay0=true->zh d=true
 | .none,_=>rfl
 | .bool _,_=>rfl
 | .int _,_=>rfl
 | .str _,_=>rfl
 | .list ds,h=>by simp only[PyData.canLay0] at h;simp only[zh];exact oE ds h
 | .tuple ds,h=>by simp only[PyData.canLay0] at h;simp only[zh];exact oE ds h
 | .dict _,h=>by simp[PyData.canLay0] at h
theorem oE:∀ds:List D,PyData.canLayAll0 ds=true->pd ds=true
 | [],_=>rfl
 |d :: ds,h=>by
  simp only[PyData.canLayAll0,Kq] at h
  simp only[pd,Kq]
  exact⟨xD d h.1,oE ds h.2⟩
end
def rC {d:D}(h:SeqAt.shaped d=true):zh d=true:=xD d (MB h)
theorem vW:∀{ds:List D},(ds.all SeqAt.shaped)=true->pd ds=true
 | [],_=>rfl
 |d :: ds,h=>by
  rw[Mw,Kq] at h
  simp only[pd,Kq]
  exact⟨rC h.1,vW h.2⟩
def cN (neg:Bool)(x y:D):Option D:=if (SeqAt.shaped x && SeqAt.shaped y)=true then some (.bool (if neg then !PyData.eqv x y else PyData.eqv x y)) else none
def gn {neg:Bool}:mf K (E7 K neg) (cN neg) .v:=by
 intro B G H x y dx dy d Q s hB bx by' e k
 unfold cN at e
 split at e
 ·rename_i h
  rw[Kq] at h
  cases e
  exact⟨dx,dy,(bx.rpH s).rep (rC h.1),(by'.rpH s).rep (rC h.2),h.1,h.2,k _ G H (Ext.refl s) (.bl _)⟩
 ·cases e
def BA (neg:Bool)(x y:D):Option D:=match hE y with
 |some ds=>if (SeqAt.shaped x && ds.all SeqAt.shaped)=true then some (.bool (if neg then !(ds.any λe=>PyData.eqv e x) else ds.any λe=>PyData.eqv e x)) else none
 |none=>none
theorem ko.seq {B:Option Addr}{G H:Hp}{v:V}{d:D}{ds:List D}(h:ko K B G H v d)(e:hE d=some ds)(s:ah G H):∃a xs,v=.ref a/\(fQ K H a xs\/gk K H a xs)/\bI K G xs ds:=by
 cases d with
 |list l=>cases e;obtain⟨a,xs,e,q,r⟩:=h.list s;exact⟨a,xs,e,.inl (.inl q),r⟩
 |tuple l=>cases e;obtain⟨a,xs,e,q,r⟩:=h.tuple s;exact⟨a,xs,e,.inr q,r⟩
 |_=>cases e
theorem C3 {neg:Bool}:mf K (GA K neg) (BA neg) .v:=by
 intro B G H x y dx dy d Q s hB bx by' e k
 unfold BA at e
 cases q:hE dy with
 |none=>rw[q] at e;cases e
 |some ds=>
  rw[q] at e
  dsimp only at e
  split at e
  ·rename_i h
   rw[Kq] at h
   cases e
   obtain⟨a,xs,rfl,hq,r⟩:=by'.seq q s
   refine⟨a,xs,dx,ds,rfl,hq,(r.mono s).reps (vW h.2),(bx.rpH s).rep (rC h.1),h.1,λe he=>KP.mp h.2 e he,k _ G H (Ext.refl s) (.bl _)⟩
  ·cases e
def BV:D->Bool
 | .none=>true
 |_=>false
theorem bI.ints {G:Hp}:∀ns:List Int,bI K G (ns.map V.int) (ns.map int)
 | []=>.nil
 |n :: ns=>.cons (.int n) (bI.ints ns)
theorem yx.noNone {G:Hp}{kvs:List (Key×V)}{d:D}{r:List (D×D)}(h:yx K G kvs ((.none,d) :: r)):False:=by
 generalize e:(PyData.none,d) :: r=l at h
 cases h with
 |nil=>cases e
 | @cons k x xs d' ds _ _=>
  injection e with e1 _
  injection e1 with e2 _
  cases k <;> cases e2
theorem ze.noNone {G:Hp}{kvs:List (List Key×V)}{d:D}{r:List (D×D)}(h:ze K G kvs ((.none,d) :: r)):False:=by
 generalize e:(PyData.none,d) :: r=l at h
 cases h with
 |nil=>cases e
 | @cons k x xs d' ds _ _=>
  injection e with e1 _
  injection e1 with e2 _
  cases e2
def ko.scr {B:Option Addr}{G H:Hp}{v:V}{ds:List D}(h:ko K B G H v (.dict [(.none,.list ds)]))(s:ah G H):∃a xs,v=.ref a/\fQ K H a xs/\bI K G xs ds:=by
 rcases h with h | ⟨a,rfl,n,h⟩
 ·cases h with
  | @scr a ns q=>exact⟨a,_,rfl,s.seq q,bI.ints ns⟩
  |dK _ r=>exact r.noNone.elim
  |dT _ r=>exact r.noNone.elim
 ·rcases h with⟨_,_,r⟩ | ⟨_,_,r⟩
  ·exact r.noNone.elim
  ·exact r.noNone.elim
def cT:D->D->Option D
 | .list ds,.int i=>jc ds i
 | .tuple ds,.int i=>jc ds i
 | .str z,.int i=>if z.length<=sizeLine then (jc z.cps.toList i).map λc=>.str ⟨#[c]⟩ else none
 | .dict [(.none,.list ds)],.int i=>jc ds i
 |_,_=>none
theorem rO {G:Hp}{xs:List V}{ds:List D}{i:Int}{d:D}(r:bI K G xs ds)(h:jc ds i=some d):∃x,jc xs i=some x/\Rp K G x d:=by
 unfold jc at h ⊢
 rw[r.len]
 cases e:we ds.length i with
 |none=>rw[e] at h;cases h
 |some j=>rw[e] at h;exact r.at h
theorem dC:mf K (JG K) cT .v:=by
 intro B G H x y dx dy d Q s hB bx by' e k
 cases dx with
 |list ds=>
  cases dy with
  |int i=>
   obtain rfl:=by'.int
   obtain⟨a,xs,rfl,q,r⟩:=bx.list s
   obtain⟨v,ev,rv⟩:=rO r e
   exact .inl ⟨a,xs,i,v,rfl,rfl,.inl q,ev,k _ G H (Ext.refl s) rv⟩
  |_=>cases e
 |tuple ds=>
  cases dy with
  |int i=>
   obtain rfl:=by'.int
   obtain⟨a,xs,rfl,q,r⟩:=bx.tuple s
   obtain⟨v,ev,rv⟩:=rO r e
   exact .inr (.inl ⟨a,xs,i,v,rfl,rfl,q,ev,k _ G H (Ext.refl s) rv⟩)
  |_=>cases e
 |str z=>
  cases dy with
  |int i=>
   obtain rfl:=by'.int
   obtain rfl:=bx.str
   simp only[cT] at e
   split at e
   ·rename_i hz
    cases q:jc z.cps.toList i with
    |none=>rw[q] at e;cases e
    |some c=>rw[q] at e;cases e;exact .inr (.inr ⟨z,i,c,rfl,rfl,hz,q,k _ G H (Ext.refl s) (.str _)⟩)
   ·cases e
  |_=>cases e
 |none=>cases dy <;> cases e
 |bool b=>cases dy <;> cases e
 |int b=>cases dy <;> cases e
 |dict b=>
  obtain⟨ds,i,rfl,rfl,e⟩:∃ds i,b= [(.none,.list ds)]/\dy=.int i/\jc ds i=some d:=by
   unfold cT at e
   split at e
   ·contradiction
   ·contradiction
   ·contradiction
   ·rename_i h;cases h;exact⟨_,_,rfl,rfl,e⟩
   ·cases e
  obtain rfl:=by'.int
  obtain⟨a,xs,rfl,q,r⟩:=bx.scr s
  obtain⟨v,ev,rv⟩:=rO r e
  exact .inl ⟨a,xs,i,v,rfl,rfl,q,ev,k _ G H (Ext.refl s) rv⟩
def c9:D->Option D
 | .list ds=>some (.int ds.length)
 | .tuple ds=>some (.int ds.length)
 | .str z=>if z.length<=sizeLine then some (.int z.length) else none
 | .dict [(.none,.list ds)]=>some (.int ds.length)
 |_=>none
def Ji (K:Frag):List V->Hp->VK->Prop:=λxs H Q=>∃x n,xs= [x]/\GZ K x H n/\Q (.int n) H
def jD:ye K (λx=>Ji K [x]) c9 .v:=by
 intro B G H x dx d Q s hB bx e k
 unfold c9 at e
 split at e
 ·cases e;obtain⟨a,xs,rfl,q,r⟩:=bx.list s;exact⟨_,_,rfl,.inl ⟨xs,.inl q,r.len.symm⟩,k _ G H (Ext.refl s) (.int _)⟩
 ·cases e;obtain⟨a,xs,rfl,q,r⟩:=bx.tuple s;exact⟨_,_,rfl,.inr ⟨xs,q,r.len.symm⟩,k _ G H (Ext.refl s) (.int _)⟩
 ·obtain rfl:=bx.str
  split at e
  ·rename_i hz;cases e;exact⟨_,_,rfl,⟨hz,rfl⟩,k _ G H (Ext.refl s) (.int _)⟩
  ·cases e
 ·cases e;obtain⟨a,xs,rfl,q,r⟩:=bx.scr s;exact⟨_,_,rfl,.inl ⟨xs,q,r.len.symm⟩,k _ G H (Ext.refl s) (.int _)⟩
 ·cases e
def lV:D->Option D
 | .list ds=>some (.tuple ds)
 | .tuple ds=>some (.tuple ds)
 |_=>none
theorem rP:ye K (λx H Q=>∃p ys,[x]= [.ref p]/\((fQ K H p ys/\∀l,H l=none->Q (.ref l) (upd H l (.tup ys)))\/(gk K H p ys/\Q (.ref p) H))) lV .v:=by
 intro B G H x dx d Q s hB bx e k
 cases dx with
 |list ds=>
  cases e
  obtain⟨a,xs,rfl,q,r⟩:=bx.list s
  refine⟨a,xs,rfl,.inl ⟨.inl q,λl hl=>?_⟩⟩
  have x:=Ext.new s (o:=.tup xs) hl
  exact k _ _ _ x (.tup (.inl (.inl ak)) (r.mono x.gg))
 |tuple ds=>
  cases e
  rcases bx with bx | ⟨_,_,_,z⟩
  ·cases bx with
   | @tup a xs _ hq r=>exact⟨a,xs,rfl,.inr ⟨hq.grow s.grow,k _ G H (Ext.refl s) (.tup hq r)⟩⟩
  ·exact z.elim
 |_=>cases e
def D1:D->Option D
 | .list ds=>some (.list ds)
 | .tuple ds=>some (.list ds)
 |_=>none
def FT:ye K (λx H Q=>∃p ys,[x]= [.ref p]/\(fQ K H p ys\/gk K H p ys)/\∀l,H l=none->Q (.ref l) (upd H l (.lst ys))) D1 .w:=by
 intro B G H x dx d Q s hB bx e k
 obtain⟨ds,e1,rfl⟩:∃ds,hE dx=some ds/\d=.list ds:=by
  cases dx <;> cases e <;> exact⟨_,rfl,rfl⟩
 obtain⟨a,xs,rfl,hq,r⟩:=bx.seq e1 s
 refine⟨a,xs,rfl,hq,λl hl=>?_⟩
 exact k _ _ _ (Ext.own s (o:=.lst xs) hl) ⟨l,rfl,hl,s.free hl,xs,ak,r⟩
def jE:List D->Option (List Bool)
 | []=>some []
 | .bool b :: ds=>(jE ds).map (b :: ·)
 |_=>none
theorem pJ {G:Hp}:∀{ds:List D} {bs:List Bool} {xs:List V},jE ds=some bs->bI K G xs ds->xs=bs.map V.bl
 | [],bs,xs,e,r=>by cases e;cases r;rfl
 | .bool b :: ds,bs,xs,e,r=>by
  cases r with
  |cons r1 r2=>
   cases r1
   simp only[jE] at e
   cases q:jE ds with
   |none=>rw[q] at e;cases e
   |some cs=>rw[q] at e;cases e;rw[pJ q r2];rfl
 | .none :: _,_,_,e,_=>by cases e
 | .int _ :: _,_,_,e,_=>by cases e
 | .str _ :: _,_,_,e,_=>by cases e
 | .list _ :: _,_,_,e,_=>by cases e
 | .tuple _ :: _,_,_,e,_=>by cases e
 | .dict _ :: _,_,_,e,_=>by cases e
def b5 (f:List Bool->Bool):D->Option D
 | .list ds=>(jE ds).map λbs=>.bool (f bs)
 |_=>none
theorem ip {f:List Bool->Bool}:ye K (λx=>uN K f [x]) (b5 f) .v:=by
 intro B G H x dx d Q s hB bx e k
 cases dx with
 |list ds=>
  simp only[b5] at e
  cases q:jE ds with
  |none=>rw[q] at e;cases e
  |some bs=>
   rw[q] at e
   cases e
   obtain⟨a,xs,rfl,hq,r⟩:=bx.list s
   obtain rfl:=pJ q r
   exact⟨a,bs,rfl,.inl hq,k _ G H (Ext.refl s) (.bl _)⟩
 |_=>cases e
def DR:R2:=λx y H Q=>∃l b xs zs,x=.ref l/\y=.ref b/\Rd H l (.lst xs)/\Rd H b (.lst zs)/\xs.length + zs.length<=sizeLine/\∀p,H p=none->Q (.ref p) (upd H p (.lst (xs ++ zs)))
def eG:lu X (binaryOp .Add) DR:=by
 intro pins s σ H x y v u Q I rx ry h
 obtain⟨l,b,xs,zs,rfl,rfl,hH,hB,hz,q⟩:=h
 cases rx
 cases ry
 obtain⟨z,its,n,r,hl,e⟩:=I.lstR hH
 obtain⟨z2,its2,n2,r2,hl2,e2⟩:=I.lstR hB
 refine PySem.P.add_list e e2 ?_ (by rw[Kv,Kv];omega)
 have ea:its.toArray ++ its2.toArray=(its ++ its2).toArray:=by simp
 rw[ea]
 exact⟨.ref _,_,I.lnew (t':=s.toks) (r.append r2) (by rw[Ku];omega),rfl,q _ I.fresh⟩
def dw:D->D->Option D
 | .list a,.list b=>if a.length + b.length<=sizeLine then some (.list (a ++ b)) else none
 |_,_=>none
def jV:mf K DR dw .w:=by
 intro B G H x y dx dy d Q s hB bx by' e k
 cases dx <;> cases dy <;> first | (cases e;done) |skip
 rename_i a b
 simp only[dw] at e
 split at e
 ·rename_i hz
  cases e
  obtain⟨p,xs,rfl,q1,r1⟩:=bx.list s
  obtain⟨p2,ys,rfl,q2,r2⟩:=by'.list s
  refine⟨p,p2,xs,ys,rfl,rfl,q1,q2,by rw[r1.len,r2.len];exact hz,λl hl=>?_⟩
  exact k _ _ _ (Ext.own s (o:=.lst (xs ++ ys)) hl) ⟨l,rfl,hl,s.free hl,_,ak,r1.append r2⟩
 ·cases e
def cO:D->D->Option D:=uI λi j=>.int (i + j)
def jk:mf K (yU λi j=>.int (i + j)) cO .v:=tj λdx dy d h=>by obtain⟨i,j,rfl,rfl,rfl⟩:=km h;exact⟨i,j,rfl,rfl,λ_=>.int _⟩
def eY:D->D->Option D:=gI (λi j=>(decide (-(2 ^ 64) < i) && decide (i < 2 ^ 64)) || (decide (-(2 ^ 64) < j) && decide (j < 2 ^ 64))) λi j=>.int (i * j)
def kc:mf K (rI zN λi j=>.int (i * j)) eY .v:=wd λdx dy d h=>by obtain⟨i,j,rfl,rfl,c,rfl⟩:=xJ h;exact⟨i,j,rfl,rfl,by simpa[zN] using c,λ_=>.int _⟩
def vV:D->Option D
 | .int i=>some (.int (-i))
 |_=>none
theorem wo:ye K (rU λi=>.int (-i)) vV .v:=by
 intro B G H x dx d Q s hB bx e k
 cases dx with
 |int i=>cases e;obtain rfl:=bx.int;exact⟨i,rfl,k _ G H (Ext.refl s) (.int _)⟩
 |_=>cases e
def Hz:D->String
 | .none=>"NoneType"
 | .bool _=>"bool"
 | .int _=>"int"
 | .str _=>"str"
 | .list _=>"list"
 | .tuple _=>"tuple"
 | .dict _=>"dict"
def Bs (d:D)(T:String):Bool:=Hz d == T || (T == "int" && Hz d == "bool")
def bG:D->Bool
 | .dict ((.none,_) :: _)=>true
 |_=>false
def fG (T:String)(d:D):Option D:=if bG d=true then none else some (.bool (Bs d T))
def JN (K:Frag)(H:Hp)(x:V)(t:String):Prop:=BW K H x t\/(t="dict"/\∃a kvs,x=.ref a/\H a=some (.dT kvs))
def Ho (K:Frag):List V->Hp->VK->Prop:=λxs H Q=>∃x T t b,xs= [x,.ty T]/\JN K H x t/\PySem.W.kitOne K (.type t) (.type T)=some b/\Q (.bl b) H
def Bo:b6 X (.builtin "isinstance") (Ho X.K):=by
 intro pins s σ H xs us Q I r h
 obtain⟨x,T,t,b,rfl,ty,e,q⟩:=h
 rcases ty with ty | ⟨rfl,a,kvs,rfl,hk⟩
 ·exact Aa pins s σ H _ us Q I r ⟨x,T,t,b,rfl,ty,e,q⟩
 ·obtain⟨u,c,rfl,rx,rc⟩:=vals2 r
  cases rc
  cases rx
  obtain⟨_,_,_,_,o,_,_,e2,ex,_⟩:=I.hok a _ hk
  exact K9 PySem.W.kitx_dict I.kIn ⟨o,e2,ex.1⟩ e (λz=>nomatch z) λtk=>⟨.bl b,H,I.tok tk,rfl,q⟩
theorem ko.ty {B:Option Addr}{G H:Hp}{v:V}{d:D}(h:ko K B G H v d)(s:ah G H)(n:bG d=false):JN K H v (Hz d):=by
 cases d with
 |none=>obtain rfl:=h.none;exact .inl .non
 |bool b=>obtain rfl:=h.bool;exact .inl (.bl b)
 |int b=>obtain rfl:=h.int;exact .inl (.int b)
 |str b=>obtain rfl:=h.str;exact .inl (.str b)
 |list b=>obtain⟨a,xs,rfl,q,_⟩:=h.list s;exact .inl (.lst (.inl q))
 |tuple b=>obtain⟨a,xs,rfl,q,_⟩:=h.tuple s;exact .inl (.tup q)
 |dict b=>
  rcases h with h | ⟨a,rfl,_,h⟩
  ·cases h with
   |scr _=>cases n
   |dK q _=>exact .inl (.dic (s _ _ q))
   |dT q _=>exact .inr ⟨rfl,_,_,rfl,s _ _ q⟩
  ·rcases h with⟨_,q,_⟩ | ⟨_,q,_⟩
   ·exact .inl (.dic q)
   ·exact .inr ⟨rfl,_,_,rfl,q⟩
theorem Gy {d:D}{T:String}(hT:T∈ ["int","bool","str","list","tuple","dict"]):PySem.W.kitOne K (.type (Hz d)) (.type T)=some (Bs d T):=by
 simp only[Ke,L1,or_false] at hT
 cases d with
 |dict l=>rcases hT with rfl |rfl |rfl |rfl |rfl |rfl <;> rfl
 |none=>rcases hT with rfl |rfl |rfl |rfl |rfl |rfl <;> rfl
 |bool _=>rcases hT with rfl |rfl |rfl |rfl |rfl |rfl <;> rfl
 |int _=>rcases hT with rfl |rfl |rfl |rfl |rfl |rfl <;> rfl
 |str _=>rcases hT with rfl |rfl |rfl |rfl |rfl |rfl <;> rfl
 |list _=>rcases hT with rfl |rfl |rfl |rfl |rfl |rfl <;> rfl
 |tuple _=>rcases hT with rfl |rfl |rfl |rfl |rfl |rfl <;> rfl
def fq {a:Expr}{fa:VF D}{La:List Nat}{ma:Md}{Γ:Fx}{E:XK}{pos p p2:Pos}(T:String){y:Str}(hT:T∈ ["int","bool","str","list","tuple","dict"])(hK:X.K=Γ.K)(hg:Gl X "isinstance")(hm:X.mg "isinstance"=none)(hgT:Gl X y)(hmT:X.mg y=none)(hvT:bootBuiltins y=some (.type T))(ha:SE X Γ E a fa La ma)
  (hnT:y≠"__name__":=by decide) (hdT:(y == ("__debug__":Str))=false:=by decide)
  (he:starEach [a,.Name y p2] X.env=(false,eval a X.env) :: starEach [.Name y p2] X.env:=by rfl) (he2:starEach [.Name y p2] X.env=(false,eval (.Name y p2) X.env) :: starEach [] X.env:=by rfl) (hpl:(backTo pos (starEach [.Name y p2] X.env)).any (·.1)=false:=by rfl) :
  SE X Γ E (.Call (.Name "isinstance" p) [a,.Name y p2] [] pos) (f1 fa (fG T)) La .v:=by
 refine PE.post' (hX Bo hg hm (by decide +kernel) (aG ha (aG (BK hgT hmT hvT (show RelV (.ty T) _ from rfl) hnT hdT) a7 he2) he) (by decide) (by decide) he hpl) λσ H Q ⟨env,G,B,β,I,o⟩=>?_
 refine gK (r:=λx H1 Q=>Ho X.K [x,.ty T] H1 Q) ?_ I o
 intro B G H x dx d Q s hB bx e k
 unfold fG at e
 split at e
 ·cases e
 ·rename_i hn
  cases e
  rw[hK]
  exact⟨x,T,Hz dx,Bs dx T,rfl,bx.ty s (by simpa using hn),Gy hT,k _ G H (Ext.refl s) (.bl _)⟩
def i7 (fa fb fc:VF D)(g g':D->D->Option D):VF D:=λvs β=>(fa vs β).bnd λx β1=>(fb vs β1).bnd λy β2=>match g x y with
 |some (.bool true)=>(fc vs β2).bnd λz β3=>R.of (g' y z) β3
 |some (.bool false)=>.ok (.bool false) β2
 |_=>.bad
theorem tT {a b c:Expr}{fa fb fc:VF D}{ma mb mc:Md}{Γ:Fx}{E:XK}{pos:Pos}{op op':CmpOp}{r r':R2}{g g':D->D->Option D}(ho:lu X (compareOp op) r)(ho':lu X (compareOp op') r')(pr:mf Γ.K r g .v)(pr':mf Γ.K r' g' .v)(ha:SE X Γ E a fa [] ma)(hb:SE X Γ E b fb [] mb)(hc:SE X Γ E c fc [] mc)
  (hm:lastMarks [op,op'] [b,c]=false:=by with_unfolding_all rfl):SE X Γ E (.Compare a [op,op'] [b,c] pos) (i7 fa fb fc g g') [] .v:=by
 refine PE.post' (AN ho ho' ha hb hc hm) λσ H Q ⟨env,G,B,β,I,o⟩=>?_
 refine two (W:=λx y H2=>r x y H2 λz H3=>∃k,z=.bl k/\(if k=true then pT Γ E fc [] mc σ H3 λw' H4=>r' y w' H4 Q else Q (.bl false) H3)) I (o.bnd.imp λd1 β1 h=>h.bnd.imp λd2 β2 h x y G2 H2 I2 s2 m2 bx by'=>?_)
 obtain⟨cb,ec,h⟩:∃cb,g d1 d2=some (.bool cb)/\Out Γ E (if cb=true then (fc (vl env) β2).bnd λz β3=>R.of (g' d2 z) β3 else .ok (.bool false) β2) λd β'=>∀v G' H',SR Γ B G' H' σ (aQ [] env) β'->ah G G'->fM B H H'->VO Γ.K B H G' H' .v d v->Q v H':=by
  split at h
  ·rename_i q;exact⟨true,q,by rw[Kf rfl];exact h⟩
  ·rename_i q;exact⟨false,q,by rw[Ki KC];exact h⟩
  ·exact h.elim
 refine pr B G2 H2 x y d1 d2 _ _ I2.sub I2.boxThere bx by' ec λv G' H' x' vo=>?_
 cases vo
 refine⟨cb,rfl,?_⟩
 have I3:=I2.ext x'
 cases cb with
 |false=>rw[Ki KC] at h;exact pA (h _ G' H' I3 (s2.trans x'.gg) (m2.trans (x'.mov B)) (.bl false))
 |true=>
  rw[Kf rfl] at h
  refine o6 ⟨env,G',B,β2,I3,h.bnd.imp λd3 β3 h z G4 H4 I4 s4 m4 vz=>?_⟩
  obtain⟨d,e,k⟩:=h.of
  refine pr' B G4 H4 y z d2 d3 d Q I4.sub I4.boxThere (by'.mono (x'.gg.trans s4) ((x'.mov B).trans m4)) (vz.brw I3.boxThere) e λv G5 H5 x5 vo=>?_
  exact k v G5 H5 (I4.ext x5) (((s2.trans x'.gg).trans s4).trans x5.gg) (((m2.trans (x'.mov B)).trans m4).trans (x5.mov B)) vo
end
def dv.u1 {k:Nat}{A:Around}(r:dv k A):A.units + 100 < cLine:=by have:=r.un;omega
def JK (N:List Str)(sc:Scope)(NB:List Str)(own:Nat)(ixs:List Nat)(scope:Scope):Bool:=
 decide (scope.kind=.function) && (scope.names.all λy=>decide (y.2≠.cell)) && (scope.names.all λy=>decide (scope.names.lookup y.1=some y.2)) &&
 (scope.names.all λy=>decide (y.2=.free->(sc.names.lookup y.1=some .cell\/sc.names.lookup y.1=some .free))) && decide NB.Nodup && decide (NB.length=own + ixs.length) &&
 ((List.range ixs.length).all λk=>decide (NB[own + k]? =N[ixs.getD k 0]?) && (match NB[own + k]? with |some x=>decide ((x,NameKind.free)∈scope.names) |none=>true))
def dP {X:Cx}{NB:List Str}{own:Nat}{ixs:List Nat}{scope:Scope}(h:JK X.N X.env.scope NB own ixs scope=true):cE X NB own ixs scope:=by
 unfold JK at h
 simp only[Kq,KP,K0,KD] at h
 obtain⟨⟨⟨⟨⟨⟨h1,h2⟩,h3⟩,h4⟩,h5⟩,h6⟩,h7⟩:=h
 refine⟨h1,h2,h3,h4,h5,h6,λk hk=>⟨(h7 k hk).1,λx hx=>?_⟩⟩
 have:=(h7 k hk).2
 rw[hx] at this
 simpa using this
section
variable {X:Cx}{Γ:Fx}{E:XK}{e a b c:Expr}{f fa fb fc:VF D}{L La Lb:List Nat}{md ma mb mc:Md}{pos:Pos}{K:Frag}
def tN (fa:VF D)(neg:Bool):VF Bool:=λvs β=>(fa vs β).bnd λx β1=>.ok (if neg then !BV x else BV x) β1
def oT (Γ:Fx)(E:XK)(f:VF (Option Int))(L:List Nat):TO:=λσ H Q=>∃env G B β,SR Γ B G H σ env β/\
 Out Γ E (f (vl env) β) λd β'=>∀G' H',SR Γ B G' H' σ (aQ L env) β'->ah G G'->fM B H H'->Q d H'
def Ia (X:Cx)(Γ:Fx)(E:XK)(e:Option Expr)(f:VF (Option Int))(L:List Nat):Prop:=PO X e (oT Γ E f L)
def mR:Ia X Γ E none (λ_ β=>.ok none β) []:=λpins s σ H Q I ⟨env,G,B,β,J,o⟩=>Cp pins s σ H Q I (o G H J (ah.refl _) (fM.refl _ _))
def xH (fa:VF D):VF (Option Int):=λvs β=>(fa vs β).bnd λx β1=>match x with
 | .int i=>.ok (some i) β1
 |_=>.bad
theorem mI (ha:SE X Γ E a fa La ma):Ia X Γ E (some a) (xH fa) La:=λpins s σ H Q I ⟨env,G,B,β,J,o⟩=>by
 refine xh ha pins s σ H Q I ⟨env,G,B,β,J,o.bnd.imp λd1 β1 h x G1 H1 I1 s1 m1 vx=>?_⟩
 cases d1 with
 |int i=>exact⟨i,(vx.brw J.boxThere).int,h G1 H1 I1 s1 m1⟩
 |_=>exact h.elim
def cutD (xs:List D)(lo hi:Option Int):List D:=(xs.drop (HT.p0 xs.length 0 lo)).take (HT.p0 xs.length xs.length hi - HT.p0 xs.length 0 lo)
def C5 {G:Hp}{xs:List V}{ds:List D}(r:bI K G xs ds)(lo hi:Option Int):bI K G (u4 xs lo hi) (cutD ds lo hi):=by
 unfold u4 cutD
 rw[r.len]
 exact (r.drop _).take _
def wg (fa:VF D)(fl fh:VF (Option Int)):VF D:=λvs β=>(fa vs β).bnd λx β1=>(fl vs β1).bnd λl β2=>(fh vs β2).bnd λh β3=>match x with
 | .list ds=>.ok (.list (cutD ds l h)) β3
 |_=>.bad
theorem kI {lo hi:Option Expr}{fl fh:VF (Option Int)}{Ll Lh:List Nat}{p2:Pos}(hK:X.K=Γ.K)(ha:SE X Γ E a fa La ma)(hl:Ia X Γ E lo fl Ll)(hh:Ia X Γ E hi fh Lh):SE X Γ E (.Subscript a (.Slice lo hi none p2) pos) (wg fa fl fh) (La ++ Ll ++ Lh) .w:=by
 refine PE.post' (A8 C1 ha hl hh) λσ H Q ⟨env,G,B,β,I,o⟩=>?_
 refine⟨env,G,B,β,I,o.bnd.imp λd1 β1 h x G1 H1 I1 s1 m1 vx=>⟨aQ La env,G1,B,β1,I1,?_⟩⟩
 rw[i8]
 refine h.bnd.imp λl β2 h G2 H2 I2 s2 m2=>⟨aQ Ll (aQ La env),G2,B,β2,I2,?_⟩
 rw[i8,i8]
 refine h.bnd.imp λu β3 h G3 H3 I3 s3 m3=>?_
 rw[<-cW,<-cW,<-LU] at I3
 have bx:=((vx.brw I.boxThere).mono s2 m2).mono s3 m3
 cases d1 with
 |list ds=>
  obtain⟨p,xs,rfl,hq,r⟩:=bx.list I3.sub
  rw[hK]
  refine⟨p,xs,rfl,.inl hq,λq hn=>?_⟩
  have x:=Ext.own I3.sub (o:=.lst (u4 xs l u)) hn
  exact h _ _ _ (I3.ext x) ((s1.trans s2).trans s3) (((m1.trans m2).trans m3).trans (x.mov B)) ⟨q,rfl,dE ((m1.trans m2).trans m3) I3.boxThere hn,I3.sub.free hn,_,ak,C5 r l u⟩
 |_=>exact h.elim
def Ep:mf K (λx y H Q=>∃i j,[x,y]= [.int i,.int j]/\Q (.int (if j > i then j else i)) H) (uI λi j=>.int (if j > i then j else i)) .v:=by
 intro B G H x y dx dy d Q s hB bx by' e k
 obtain⟨i,j,rfl,rfl,rfl⟩:=km e
 obtain rfl:=bx.int
 obtain rfl:=by'.int
 exact⟨i,j,rfl,k _ G H (Ext.refl s) (.int _)⟩
def EH:mf K (λx y H Q=>∃i j,[x,y]= [.int i,.int j]/\Q (.int (if j < i then j else i)) H) (uI λi j=>.int (if j < i then j else i)) .v:=by
 intro B G H x y dx dy d Q s hB bx by' e k
 obtain⟨i,j,rfl,rfl,rfl⟩:=km e
 obtain rfl:=bx.int
 obtain rfl:=by'.int
 exact⟨i,j,rfl,k _ G H (Ext.refl s) (.int _)⟩
end
structure jY (K:Frag)(mg:Str->Option Value)(x:Str)(st:Stmt)(ps:List Str)(f:Addr)(fd:FuncData):Prop where
 mg:mg x=some (.ref f)
 F:BG K x x st f fd
 b:Binds K fd ps []
structure Exc (K:Frag)(mg:Str->Option Value)(ca:Str->Addr)(x:Str):Prop where
 mg:mg x=some (.ref (ca x))
 ex:PySem.W.excIn K (ca x) [.type "ValueError",.type "Exception",.type "BaseException",.type "object"] "ValueError.__new__"=true
def Exc.ca {K:Frag}{mg:Str->Option Value}{ca:Str->Addr}{x:Str}(h:Exc K mg ca x):ca x=ca x:=rfl
structure kh (mg:Str->Option Value):Prop where
 len:mg "len"=none
 range:mg "range"=none
 enumerate:mg "enumerate"=none
 zip:mg "zip"=none
 min:mg "min"=none
 max:mg "max"=none
 sum:mg "sum"=none
 abs:mg "abs"=none
 sorted:mg "sorted"=none
 reversed:mg "reversed"=none
 int:mg "int"=none
 str:mg "str"=none
 bool:mg "bool"=none
 list:mg "list"=none
 tuple:mg "tuple"=none
 dict:mg "dict"=none
 set:mg "set"=none
 isinstance:mg "isinstance"=none
 repr:mg "repr"=none
 any:mg "any"=none
 all:mg "all"=none
 divmod:mg "divmod"=none
inductive FB where
 |ok (d:D) (fresh:Bool) (β:Int)
 |bad
def FY (K:Frag)(n:Nat)(F:List D->Int->FB):Sp:=λvs H Q _=>∃b rest G ds β,vs=.ref b :: rest/\H b=some (.lst [.int β])/\G b=none/\ah G H/\ds.length=n/\bI K G rest ds/\match F ds β with
 | .ok d fr β'=>∀v G' H',fM (some b) H H'->H' b=some (.lst [.int β'])->ah G G'->ah G' H'->(∀c,Mx H c->G c=none->G' c=none)->FV K H G' H' fr d v->Q v H'
 | .bad=>False
structure iz (P:Program)(w:World)(K:Frag)(mg:Str->Option Value)(base:Heap)(x:Str)(ps:List Str)(k:Nat)(F:List D->Int->FB):Prop where
 ex:∃f fd,mg x=some (.ref f)/\PySem.W.keepIn K (.ref f)=true/\Binds K fd ps []/\eV P w K mg base (mn P w) k f fd ps (FY K (ps.length - 1) F)
 len:∀ds β,F ds β≠.bad->ds.length=ps.length - 1
def qy (vs:List Nv)(i:Nat):Bool:=match vs[i]? with
 |some .bx=>true
 |_=>false
def gq (i:Nat)(F:List D->Int->FB)(fr:VF (List D)):VF D:=λvs β=>if qy vs i=true then (fr vs β).bnd λds β1=>match F ds β1 with
 | .ok d _ β2=>.ok d β2
 | .bad=>.bad else .bad
def DF (i:Nat)(F:List D->Int->FB)(fr:VF (List D)):VF D:=λvs β=>if qy vs i=true then (fr vs β).bnd λds β1=>match F ds β1 with
 | .ok d true β2=>.ok d β2
 |_=>.bad else .bad
section
variable {X:Cx}{Γ:Fx}{E:XK}{e a b c:Expr}{f fa fb fc:VF D}{L La Lb:List Nat}{md ma mb mc:Md}{pos:Pos}{K:Frag}{es:List Expr}{fr:VF (List D)}
def CU {env:En}{i:Nat}(h:qy (vl env) i=true):env[i]? =some .bx:=by
 unfold qy at h
 split at h
 ·exact Gs (by assumption)
 ·cases h
def C4 {env:En}{i j:Nat}{d:D}(h:(hW env i)[j]? =some (.br d)):env[j]? =some (.br d):=by
 unfold hW at h
 split at h
 ·rename_i d' e
  by_cases z:i=j
  ·subst z
   rw[Kw (Ks.mp e).1] at h;cases h
  ·rw[Km z] at h;exact h
 ·exact h
theorem FN {L:List Nat}{env:En}{j:Nat}{d:D}(h:(aQ L env)[j]? =some (.br d)):env[j]? =some (.br d):=by
 unfold aQ at h
 induction L generalizing env with
 |nil=>exact h
 |cons i L ih=>exact C4 (ih h)
def SR.calledB {p:Addr}{β β':Int}{G1 H1 G2 H2:Hp}{σ:St}{env:En}(I1:SR Γ (some p) G1 H1 σ env β)(h:fM (some p) H1 H2)(hp:H2 p=some (.lst [.int β']))(g:ah G1 G2)(s:ah G2 H2)(n:∀b,Mx H1 b->G1 b=none->G2 b=none):SR Γ (some p) G2 H2 σ env β':=by
 obtain⟨b1,b2,b3⟩:=I1.box p rfl
 refine⟨s,I1.old.trans g,λb n1 n2=>n b (I1.thereM n1) (I1.new b n1 n2),λb o e np=>vd (I1.keep b o e np) h λz=>?_,λb hb=>?_,I1.fix,λb e=>?_,I1.len,λi t e=>?_,I1.sep⟩
 ·cases z
  rcases b3 with b3 |b3
  ·exact np b3
  ·rw[e] at b3;cases b3
 ·by_cases z:p=b
  ·subst z;exact Mx.lst hp
  ·exact (I1.pin b hb).same λo q=>h.1 b o q λy=>z (Option.some.inj y)
 ·cases e
  exact⟨hp,n p (Mx.lst b1) b2,b3⟩
 ·have q:=I1.slot i t e
  cases t with
  |no=>trivial
  |fz d=>obtain⟨v,h1,h2⟩:=q;exact⟨v,h1,h2.mono g⟩
  |ow d=>
   obtain⟨c,h1,h2,h3,h4,h5⟩:=q
   exact⟨c,h1,h2,n c h5.mx h3,h4,h5.mono g λo q=>h.1 c o q h4⟩
  |bx=>exact q
  |br d=>obtain⟨b1,c,h1,h4,hpp,h5⟩:=q;exact⟨b1,c,h1,h4,hpp,h5.mono g λo q=>h.1 c o q h4⟩
theorem Cn {F:List D->Int->FB}{ps:List Str}{Q:VK}{B:Option Addr}{G H:Hp}{σ:St}{env:En}{β:Int}{i:Nat}{p:Addr}(I:SR Γ B G H σ env β)(hK:X.K=Γ.K)(hp:B=some p){wv:Bool}
  (h:Out Γ E (fr (vl env) β) λds β1=>Out Γ E (match F ds β1 with
   | .ok d true β2=>.ok d β2
   | .ok d false β2=>if wv=true then .bad else .ok d β2
   | .bad=>.bad) λd β'=>∀v G' H',SR Γ B G' H' σ (aQ L env) β'->ah G G'->fM B H H'->VO Γ.K B H G' H' (if wv=true then .w else .v) d v->Q v H') (hl:∀ds β,F ds β≠.bad->ds.length=ps.length - 1) :
  aT Γ E fr L σ H λvs H1=>FY X.K (ps.length - 1) F (.ref p :: vs) H1 Q E:=by
 subst hp
 refine⟨env,G,_,β,I,h.imp λds β1 k vs G1 H1 I1 s1 m1 r=>?_⟩
 obtain⟨b1,b2,b3⟩:=I1.box p rfl
 refine⟨p,vs,G1,ds,β1,rfl,b1,b2,I1.sub,hl ds β1 λz=>by rw[z] at k;exact k,by rw[hK];exact r,?_⟩
 cases q:F ds β1 with
 |bad=>rw[q] at k;exact k
 |ok d fr' β2=>
  rw[q] at k
  intro v G' H' hh hb hg hs hn fv
  have I2:=I1.calledB hh hb hg hs hn
  cases fr' with
  |true=>
   obtain⟨c,rfl,p1,p2,p3⟩:∃a,v=.ref a/\H1 a=none/\G' a=none/\Own X.K G' H' a d:=fv
   rw[hK] at p3
   have hp:=dE m1 I1.boxThere p1
   cases wv with
   |true=>exact k _ G' H' I2 (s1.trans hg) (m1.trans hh) ⟨c,rfl,hp,p2,p3⟩
   |false=>
    obtain⟨q1,q2,q3,q4⟩:=I1.fresh p1
    obtain⟨G3,I3,s3,r3⟩:=I2.letIn q1 p2 q3 q4 p3
    exact k _ G3 H' I3 ((s1.trans hg).trans s3) (m1.trans hh) r3
  |false=>
   cases wv with
   |true=>exact k.elim
   |false=>
    have fv:Rp X.K G' v d:=fv
    rw[hK] at fv
    exact k _ G' H' I2 (s1.trans hg) (m1.trans hh) fv
theorem A7 {F:List D->Int->FB}{ps:List Str}{Q:VK}{i:Nat}{σ:St}{H:Hp}(hK:X.K=Γ.K){wv:Bool}(hl:∀ds β,F ds β≠.bad->ds.length=ps.length - 1)(h:pT Γ E (if wv=true then DF i F fr else gq i F fr) L (if wv=true then .w else .v) σ H Q) :
  rm i σ H λx H1=>aT Γ E fr L σ H1 λvs H2=>FY X.K (ps.length - 1) F (x :: vs) H2 Q E:=by
 obtain⟨env,G,B,β,I,o⟩:=h
 have hi:qy (vl env) i=true:=by
  by_cases hi:qy (vl env) i=true
  ·exact hi
  ·exfalso
   cases wv with
   |true=>simp only[Lg] at o;unfold DF at o;rw[Ki hi] at o;exact o
   |false=>simp only[Kx,KZ] at o;unfold gq at o;rw[Ki hi] at o;exact o
 obtain⟨p,e1,e2⟩:=I.slot i _ (CU hi)
 refine⟨.ref p,e1,Cn (i:=i) (ps:=ps) I hK e2 (wv:=wv) ?_ hl⟩
 cases wv with
 |true=>
  simp only[Lg] at o ⊢
  unfold DF at o
  rw[Kf hi] at o
  refine o.bnd.imp λds β1 h=>?_
  cases q:F ds β1 with
  |bad=>rw[q] at h;exact h
  |ok d b β2=>rw[q] at h;cases b <;> exact h
 |false=>
  simp only[Kx,KZ] at o ⊢
  unfold gq at o
  rw[Kf hi] at o
  refine o.bnd.imp λds β1 h=>?_
  cases q:F ds β1 with
  |bad=>rw[q] at h;exact h
  |ok d b β2=>rw[q] at h;cases b <;> exact h
def fu {x y:Str}{ps:List Str}{k:Nat}{F:List D->Int->FB}{p np:Pos}(i:Nat)(hf:iz X.prog X.w X.K X.mg X.base x ps k F)(hr:dv k X.A)(hx:Passes (mn X.prog X.w) X E)(hK:X.K=Γ.K)(hg:Gl X x)(ha:SA X Γ E es fr L)(hN:X.N[i]? =some y:=by rfl)(hv:qP X.env.scope y:=by first |exact Or.inl rfl |exact Or.inr (Or.inl rfl) |exact Or.inr (Or.inr rfl))(hd:(y == ("__debug__":Str))=false:=by decide)
  (hcd:(y == ("__classdict__":Str))=false:=by decide) (hdb:(x == ("__debug__":Str))=false:=by decide)
  (he:starEach (.Name y np :: es) X.env=(false,eval (.Name y np) X.env) :: starEach es X.env:=by rfl) (hpl:(backTo pos (starEach es X.env)).any (·.1)=false:=by rfl):SE X Γ E (.Call (.Name x p) (.Name y np :: es) [] pos) (gq i F fr) L .v:=by
 obtain⟨f,fd,hm,hk,hb,hF⟩:=hf.ex
 refine PE.post' (kF (dvs:=[]) hF hr hg hm hk hb .nil hx (aG (cM hN hv hd hcd) ha he) hdb he hpl) λσ H Q h=>?_
 have:=A7 (Q:=Q) (wv:=false) (ps:=ps) hK hf.len (by simpa using h)
 show rm i σ H λx H1=>aT Γ E fr L σ H1 λvs H2=>FY X.K (ps.length - 1) F ((x :: vs) ++ []) H2 Q E
 simpa using this
def Fd {x y:Str}{ps:List Str}{k:Nat}{F:List D->Int->FB}{p np:Pos}(i:Nat)(hf:iz X.prog X.w X.K X.mg X.base x ps k F)(hr:dv k X.A)(hx:Passes (mn X.prog X.w) X E)(hK:X.K=Γ.K)(hg:Gl X x)(ha:SA X Γ E es fr L)(hN:X.N[i]? =some y:=by rfl)(hv:qP X.env.scope y:=by first |exact Or.inl rfl |exact Or.inr (Or.inl rfl) |exact Or.inr (Or.inr rfl))(hd:(y == ("__debug__":Str))=false:=by decide)
  (hcd:(y == ("__classdict__":Str))=false:=by decide) (hdb:(x == ("__debug__":Str))=false:=by decide)
  (he:starEach (.Name y np :: es) X.env=(false,eval (.Name y np) X.env) :: starEach es X.env:=by rfl) (hpl:(backTo pos (starEach es X.env)).any (·.1)=false:=by rfl):SE X Γ E (.Call (.Name x p) (.Name y np :: es) [] pos) (DF i F fr) L .w:=by
 obtain⟨f,fd,hm,hk,hb,hF⟩:=hf.ex
 refine PE.post' (kF (dvs:=[]) hF hr hg hm hk hb .nil hx (aG (cM hN hv hd hcd) ha he) hdb he hpl) λσ H Q h=>?_
 have:=A7 (Q:=Q) (wv:=true) (ps:=ps) hK hf.len (by simpa using h)
 show rm i σ H λx H1=>aT Γ E fr L σ H1 λvs H2=>FY X.K (ps.length - 1) F ((x :: vs) ++ []) H2 Q E
 simpa using this
def zY:D->Option Int
 | .list [.int z]=>some z
 |_=>none
def BZ {d:D}{z:Int}(h:zY d=some z):d=.list [.int z]:=by
 unfold zY at h
 split at h
 ·cases h;rfl
 ·cases h
def J4 (f0:VF D)(F:List D->Int->FB)(n:Int):VF D:=λvs β=>(f0 vs β).bnd λd0 β1=>match zY d0 with
 |some z=>(match F [.int n] z with
  | .ok d _ _=>.ok d β1
  | .bad=>.bad)
 |none=>.bad
def oK (env:En):En:=env.map λs=>match s with
 | .bx=>.no
 |s=>s
theorem Ay {env:En}{i:Nat}{s:Sl}(h:(oK env)[i]? =some s)(n:s≠.no):env[i]? =some s/\s≠.bx:=by
 unfold oK at h
 rw[Kk] at h
 cases e:env[i]? with
 |none=>rw[e] at h;cases h
 |some t=>
  rw[e] at h
  have h:=Option.some.inj h
  cases t with
  |bx=>exact absurd h.symm n
  |no=>exact absurd h.symm n
  |fz d=>subst h;exact⟨rfl,λz=>by cases z⟩
  |ow d=>subst h;exact⟨rfl,λz=>by cases z⟩
  |br d=>subst h;exact⟨rfl,λz=>by cases z⟩
def xb (i:Nat)(L:List Nat)(f:VF D):SF:=λenv β=>toS (f (vl env) β) λd _=>match zY d with
 |some z=>.nx ((oK (aQ L env)).set i .bx) z
 |none=>.bad
theorem Cw {i:Nat}{x:Str}{pos':Pos}(hbx:Γ.bx=none)(he:SE X Γ E e f L .w)(hN:X.N.Nodup)(hi:X.N[i]? =some x:=by rfl)(hx:Loc X.env.scope x:=by first |exact Or.inl rfl |exact Or.inr rfl)(hs:swapsWith e (some (.Name x pos')) pos.line X.env=pure false:=by rfl)(hf:X.fn x=true\/X.env.scope.names.lookup x=some .local:=by first |exact .inl rfl |exact .inr rfl |assumption) :
  SS X Γ E (.Assign [.Name x pos'] e pos) (xb i L f):=by
 refine PS.post (nt hN hi hx he hs hf) λN σ H ⟨env,G,B,β,I,o⟩=>?_
 refine⟨env,G,B,β,I,bQ o λd β' k v G' H' I' s' m' vo=>?_⟩
 cases q:zY d with
 |none=>rw[q] at k;exact k.elim
 |some z=>
  rw[q] at k
  obtain rfl:=BZ q
  obtain⟨p,rfl,h1,h2,xs,h3,r⟩:=vo
  have hx2:H' p=some (.lst [.int z]):=by
   cases r with
   |cons r1 r2=>
    cases r1
    cases r2
    exact h3
  obtain⟨q1,q2,q3,q4⟩:=I.fresh h1
  refine k (some p) G' H' _ ⟨I'.sub,I'.old,I'.new,I'.keep,I'.pin,λb e=>(by rw[hbx] at e;cases e),λb e=>?_,?_,λj t e=>?_,λj j' c d1 d2 e1 e2 e3 e4=>?_⟩ s'
  ·cases e;exact⟨hx2,h2,.inr q1⟩
  ·rw[K3,K3];unfold oK;rw[Kb];exact I'.len
  ·by_cases hj:j=i
   ·subst hj
    by_cases hl:j < (oK (aQ L env)).length
    ·rw[Kw hl] at e
     cases e
     refine⟨p,?_,rfl⟩
     rw[Kw]
     rw[I'.len];unfold oK at hl;simpa using hl
    ·rw[Ma (by rw[K3];omega)] at e;cases e
   ·rw[Km (Ne.symm hj)] at e ⊢
    by_cases hn:t=.no
    ·subst hn;trivial
    ·obtain⟨e1,nb⟩:=Ay e hn
     have w:=I'.slot j t e1
     cases t with
     |no=>trivial
     |fz d=>exact w
     |bx=>exact absurd rfl nb
     |ow d=>
      obtain⟨a',g1,g2,g3,g4,g5⟩:=w
      exact⟨a',g1,g2,g3,λy=>q4 j d (rl e1) (by cases y;exact g1),g5⟩
     |br d=>
      obtain⟨b1,a',g1,g4,hpp,g5⟩:=w
      have e0:env[j]? =some (.br d):=FN e1
      obtain⟨_,a2,f1,_,_,f5⟩:=I.slot j _ e0
      rw[g1] at f1;cases f1
      obtain⟨o,ho⟩:=f5.obj
      exact⟨b1,a',g1,λy=>(by cases y;rw[h1] at ho;cases ho),hpp,g5⟩
  ·have back:∀{j:Nat} {d1:D},((oK (aQ L env)).set i Sl.bx)[j]? =some (.ow d1)->j≠i/\(aQ L env)[j]? =some (.ow d1):=λ{j d1} e=>by
    by_cases hj:j=i
    ·subst hj
     by_cases hl:j < (oK (aQ L env)).length
     ·rw[Kw hl] at e;cases e
     ·rw[Ma (by rw[K3];omega)] at e;cases e
    ·rw[Km (Ne.symm hj)] at e
     exact⟨hj,(Ay e (λy=>by cases y)).1⟩
   obtain⟨n1,w1⟩:=back e1
   obtain⟨n2,w2⟩:=back e2
   rw[Km (Ne.symm n1)] at e3
   rw[Km (Ne.symm n2)] at e4
   exact I'.sep j j' c d1 d2 w1 w2 e3 e4
end
section
variable {P:Program}{w:World}{K:Frag}{mg:Str->Option Value}{base:Heap}{ca:Str->Addr}
def qE:SO->FB
 | .nx _ β=>.ok .none false β
 | .rt d fr β=>.ok d fr β
 |_=>.bad
def vg (n:Nat)(ds:List D):En:=.bx :: ds.map Sl.fz ++ List.replicate (n - 1 - ds.length) .no
def k8 (n p:Nat)(m:SF):List D->Int->FB:=λds β=>if ds.length=p then qE (m (vg n ds) β) else .bad
abbrev Fx.fb (K:Frag)(H G:Hp)(ca:Str->Addr)(b:Addr):Fx:=⟨K,H,G,[b],ca,λ_=>false,some b⟩
def SR.startB {H G:Hp}{N:List Str}{b:Addr}{vs:List V}{ds:List D}{β:Int}(s:ah G H)(hb:H b=some (.lst [.int β]))(gb:G b=none)(r:bI K G vs ds)(hn:ds.length + 1<=N.length):SR (Fx.fb K H G ca b) (some b) G H (L2.start N (.ref b :: vs)) (vg N.length ds) β:=by
 have hl:=r.len
 refine⟨s,ah.refl _,λc _ h=>h,λc o h _=>Kt.of h,λc h=>?_,λc h=>h,λc h=>?_,?_,λi t e=>?_,λi j a d e h=>?_⟩
 ·have:c=b:=by simpa using h
  subst this;exact Mx.lst hb
 ·cases h;exact⟨hb,gb,.inl (by simp)⟩
 ·unfold L2.start vg;simp;omega
 ·cases i with
  |zero=>
   unfold vg at e
   cases e
   exact⟨b,rfl,rfl⟩
  |succ i=>
   unfold vg at e
   have e:(ds.map Sl.fz ++ List.replicate (N.length - 1 - ds.length) Sl.no)[i]? =some t:=by simpa using e
   by_cases hi:i < ds.length
   ·rw[KQ (by simpa using hi),Kk,J6 hi] at e
    cases e
    obtain⟨x,hx,rx⟩:=r.at (J6 hi)
    refine⟨x,?_,rx⟩
    unfold L2.start
    have hi':i < vs.length:=by rw[hl];exact hi
    rw[KQ (by simp;exact hi'),Kk,List.getElem?_cons_succ,hx];rfl
   ·rw[KO (by simpa using hi),LI] at e
    split at e
    ·cases e;trivial
    ·cases e
 ·unfold vg at h
  have hm:=Kj h
  rcases Ke.mp hm with z |hm
  ·cases z
  rcases KA.mp hm with z |z
  ·obtain⟨_,_,z⟩:=Kn.mp z;cases z
  ·have:=MT z;cases this
def jl {x qual:Str}{st:Stmt}{f:Addr}{fd:FuncData}{N:List Str}{ps:List Str}{k:Nat}{m:SF}(F:BG K x qual st f fd)(S:aI N ps (au st))(hp:1<=ps.length)
  (hbody:∀(cdv:Value) (A:Around) (outer:List Env) (s:Shared) (H G:Hp) (b:Addr) (E:XK),dv k (A.deeper (envOfC qual (au st) s.heap.objs.size f cdv))->BF (jT (mn P w) P w K mg base N qual (au st) f cdv A outer s H E) (Fx.fb K H G ca b) E (cu st) m) :
  eV P w K mg base (mn P w) (k + 1) f fd ps (FY K (ps.length - 1) (k8 N.length (ps.length - 1) m)):=by
 have hpn:ps.length<=N.length:=by have:=congrArg List.length S.pre;rw[K4] at this;omega
 refine F.zb S (λvs H Q E h=>?_) (λcdv A outer s H vs Q E hr h=>?_)
 ·obtain⟨b,rest,G,ds,β,rfl,hb,gb,sG,hl,r,_⟩:=h
  rw[KG,r.len];omega
 ·obtain⟨b,rest,G,ds,β,rfl,hb,gb,sG,hl,r,h⟩:=h
  refine⟨_,hbody cdv A outer s H G b E hr,?_⟩
  have I:=SR.startB (ca:=ca) (N:=N) sG hb gb r (by omega)
  refine⟨_,G,some b,β,I,?_⟩
  unfold k8 at h
  rw[Kf hl] at h
  have fin':∀{B G' H' σ env β},SR (Fx.fb K H G ca b) B G' H' σ env β->fM (some b) H H'/\H' b=some (.lst [.int β]):=λJ=>by
   have e:=J.fix b rfl
   have k:∀c o,H c=some o->some b≠some c->Kt _ c o:=λc o ec n=>J.keep c o ec λz=>n (show some b=some c by rw[show c=b by simpa using z])
   exact⟨⟨k,λc o u ec=>k c _ ec λz=>by cases z;rw[hb] at ec;cases ec⟩,(J.box b e).1⟩
  cases q:m (vg N.length ds) β with
  |nx env β'=>rw[q] at h;exact λB G' H' σ J s'=>h .non G' H' (fin' J).1 (fin' J).2 s' J.sub (λc h1 h2=>J.new c h1 h2) Rp.non
  |bk env β'=>rw[q] at h;exact h.elim
  |ct env β'=>rw[q] at h;exact h.elim
  |rt d fr β'=>
   rw[q] at h
   refine λB G' H' σ env v J s' rv=>h v G' H' (fin' J).1 (fin' J).2 s' J.sub (λc h1 h2=>J.new c h1 h2) ?_
   cases fr with
   |true=>exact rv
   |false=>exact rv
  |exc c=>rw[q] at h;exact h.elim
  |bad=>rw[q] at h;exact h.elim
def jq {n p:Nat}{m:SF}(ds:List D)(β:Int)(h:k8 n p m ds β≠.bad):ds.length=p:=by
 unfold k8 at h
 by_cases hl:ds.length=p
 ·exact hl
 ·rw[Ki hl] at h;exact absurd rfl h
end
def aL (p:Pr):D:=.tuple [.int p.1,.int p.2]
def ni:D->Option Pr
 | .tuple [.int a,.int b]=>some (a,b)
 |_=>none
def se {d:D}{p:Pr}(h:ni d=some p):d=aL p:=by
 unfold ni at h
 split at h
 ·cases h;rfl
 ·cases h
def yW (p:Pr):ni (aL p)=some p:=rfl
def fo:List D->Option (List Pr)
 | []=>some []
 |d :: ds=>match ni d,fo ds with
  |some p,some ps=>some (p :: ps)
  |_,_=>none
theorem jQ:∀{ds:List D} {ps:List Pr},fo ds=some ps->ds=ps.map aL
 | [],ps,h=>by cases h;rfl
 |d :: ds,ps,h=>by
  unfold fo at h
  split at h
  ·rename_i p qs h1 h2;cases h;rw[se h1,jQ h2];rfl
  ·cases h
theorem fV:∀ps:List Pr,fo (ps.map aL)=some ps
 | []=>rfl
 |p :: ps=>by
  show (match ni (aL p),fo (ps.map aL) with
   |some p,some ps=>some (p :: ps)
   |_,_=>none)=_
  rw[yW,fV ps]
section
variable {K:Frag}{X:Cx}{G H:Hp}
theorem bI.pairs:∀{ps:List Pr} {xs:List V},bI K G xs (ps.map aL)->aK K G xs ps
 | [],_,.nil=>.nil
 |p :: ps,_,.cons r t=>by
  cases r with
  |tup hq r=>
   cases r with
   |cons r1 r=>
    cases r with
    |cons r2 r=>cases r;cases r1;cases r2;exact .cons ⟨_,rfl,hq⟩ (bI.pairs t)
theorem aK.rps:∀{ps:List Pr} {xs:List V},aK K G xs ps->bI K G xs (ps.map aL)
 | [],_,.nil=>.nil
 |p :: ps,_,.cons r t=>by
  obtain⟨a,rfl,q⟩:=r
  exact .cons (.tup q (.cons (.int _) (.cons (.int _) .nil))) (aK.rps t)
def FZ (p:Pr):Bool:=decide (0<=p.1) && decide (p.1 < 8) && decide (0<=p.2) && decide (p.2 < 8)
def E9 {p:Pr}(h:FZ p=true):Sm p:=by
 unfold FZ at h
 simp only[Kq,K0] at h
 exact⟨⟨h.1.1.1,h.1.1.2⟩,h.1.2,h.2⟩
noncomputable def cc (d:D):Option D:=match hE d with
 |some ds=>(match fo ds with
  |some ps=>if ps.all FZ=true/\(OM.bP 8 (OM.Mem ps)).length < 64 then some (.list ((OM.bP 8 (OM.Mem ps)).map aL)) else none
  |none=>none)
 |none=>none
variable {Γ:Fx}{E:XK}{e a b c:Expr}{f fa fb fc:VF D}{L La Lb:List Nat}{md ma mb mc:Md}{pos:Pos}
theorem nz {p1 p2 pos2:Pos}(hc:X.calm=true)(hu:X.A.units + 64 < cLine)(hK:X.K=Γ.K)(hg:Gl X "sorted")(hm:X.mg "sorted"=none)(hg2:Gl X "set")(hm2:X.mg "set"=none)(ha:SE X Γ E a fa La ma)
  (he:starEach [a] X.env=(false,eval a X.env) :: starEach [] X.env:=by rfl)
  (he2:starEach [.Call (.Name "set" p2) [a] [] pos2] X.env=(false,eval (.Call (.Name "set" p2) [a] [] pos2) X.env) :: starEach [] X.env:=by rfl) :
  SE X Γ E (.Call (.Name "sorted" p1) [.Call (.Name "set" p2) [a] [] pos2] [] pos) (f1 fa cc) La .w:=by
 refine PE.post' (hX (qS hc) hg hm (by decide +kernel) (aG (fN (Am hc hu) hg2 hm2 (by decide +kernel) (aG ha a7 he) (by decide) (by decide) he) a7 he2) (by decide) (by decide) he2) λσ H Q ⟨env,G,B,β,I,o⟩=>?_
 refine gK (r:=λx H1 Q=>Hb X.prog X.w X.K [x] H1 λy H2=>uk X.prog X.w X.K [y] H2 Q) ?_ I o
 intro B G H x dx d Q s hB bx e k
 rw[hK]
 unfold cc at e
 cases q:hE dx with
 |none=>rw[q] at e;cases e
 |some ds=>
  rw[q] at e
  dsimp only at e
  cases q2:fo ds with
  |none=>rw[q2] at e;cases e
  |some ps=>
   rw[q2] at e
   dsimp only at e
   split at e
   ·rename_i hh
    obtain⟨h1,h2⟩:=hh
    cases e
    obtain⟨p,xs,rfl,hq,r⟩:=bx.seq q s
    rw[jQ q2] at r
    have pv:=(r.mono s).pairs
    have sm:∀p,p∈ps->Sm p:=λp hp=>E9 (KP.mp h1 p hp)
    refine⟨p,xs,ps,rfl,hq,pv,sm,λS qs hS hpv nd hm=>?_⟩
    have qsl:qs.length < 64:=by
     have:(pq qs).length<=(OM.bP 8 (OM.Mem ps)).length:=OM.nh nd λx hx=>by
      have hx':=(hm x).mp hx
      have hs:=sm x hx'
      exact OM.aU.mpr ⟨⟨⟨hs.1.1,hs.1.2⟩,hs.2.1,hs.2.2⟩,hx'⟩
     simp only[Kb] at this
     omega
    have xS:=Ext.own s (o:=yB X.prog X.w S qs) hS
    refine⟨S,qs,rfl,ak,hpv.grow (gp.new hS),λp hp=>sm p ((hm p).mp hp),nd,qsl,λl ws rs hl hpw hr hmem=>?_⟩
    have ers:rs=OM.bP 8 (OM.Mem ps):=OM.i6 hr (OM.cP _ _) λx=>by
     rw[hmem x,hm x,OM.aU]
     constructor
     ·intro hx;have hs:=sm x hx;exact⟨⟨⟨hs.1.1,hs.1.2⟩,hs.2.1,hs.2.2⟩,hx⟩
     ·intro hx;exact hx.2
    subst ers
    have hlH:H l=none:=by
     by_cases z:l=S
     ·subst z;exact hS
     ·rw[aq z] at hl;exact hl
    have lS:l≠S:=λz=>by subst z;rw[ak] at hl;cases hl
    have hh:ah H (upd (upd H S (yB X.prog X.w S qs)) l (.lst ws)):=(ah.new hS).trans (ah.new hl)
    have xx:=Ext.tups s hh
    refine k _ _ _ xx ⟨l,rfl,hlH,?_,ws,ak,?_⟩
    ·unfold ku
     rw[s.free hlH,ak]
     exact Ki λy=>y
    ·refine aK.rps (Paired.mapP hpw λv p ⟨a,ea,qa⟩=>⟨a,ea,n6 (s.trans hh) ?_⟩)
     exact qa.grow (gp.new hl)
   ·cases e
end
section
variable {K:Frag}{X:Cx}{G H:Hp}{Γ:Fx}{E:XK}{e a b c:Expr}{f fa fb fc:VF D}{L La Lb:List Nat}{md ma mb mc:Md}{pos apos cpos np:Pos}
def cR:D->Option D
 | .int n=>if 0<=n/\n<=1000 then some (.list (cn 0 n.toNat)) else none
 |_=>none
def xZ (n:Nat):bI K G ((List.range n).map λ(i:Nat)=>V.int (i:Int)) (cn 0 n):=by
 have key:∀l:List Nat,bI K G (l.map λ(i:Nat)=>V.int (i:Int)) (l.map λ(k:Nat)=>int (0 + k)):=by
  intro l
  induction l with
  |nil=>exact .nil
  |cons x l ih=>exact .cons (by show Rp K G (.int (x:Int)) (.int (0 + (x:Int)));rw[Mo];exact .int _) ih
 exact key _
theorem iP {p1 p2 pos2:Pos}(hc:X.calm=true)(hg:Gl X "list")(hm:X.mg "list"=none)(hg2:Gl X "range")(hm2:X.mg "range"=none)(ha:SE X Γ E a fa La ma)
  (he:starEach [a] X.env=(false,eval a X.env) :: starEach [] X.env:=by rfl)
  (he2:starEach [.Call (.Name "range" p2) [a] [] pos2] X.env=(false,eval (.Call (.Name "range" p2) [a] [] pos2) X.env) :: starEach [] X.env:=by rfl) :
  SE X Γ E (.Call (.Name "list" p1) [.Call (.Name "range" p2) [a] [] pos2] [] pos) (f1 fa cR) La .w:=by
 refine PE.post' (fN (oO hc) hg hm (by decide +kernel) (aG (fN zJ hg2 hm2 (by decide +kernel) (aG ha a7 he) (by decide) (by decide) he) a7 he2) (by decide) (by decide) he2) λσ H Q ⟨env,G,B,β,I,o⟩=>?_
 refine gK (r:=λx H1 Q=>∃n:Int,[x]= [.int n]/\∀p,H1 p=none->(λ(y:V) (H2:Hp)=>∃(p:Addr) (n:Int),[y]= [V.ref p]/\H2 p=some (.iB 0 n)/\0<=n/\n<=1000/\∀l,H2 l=none->Q (.ref l) (upd H2 l (.lst ((List.range n.toNat).map λ(i:Nat)=>V.int (i:Int))))) (V.ref p) (upd H1 p (.iB 0 n))) ?_ I o
 intro B G H x dx d Q s hB bx e k
 cases dx with
 |int n=>
  obtain rfl:=bx.int
  simp only[cR] at e
  split at e
  ·rename_i hh
   cases e
   refine⟨n,rfl,λp hp=>⟨p,n,rfl,ak,hh.1,hh.2,λl hl=>?_⟩⟩
   have hlp:l≠p:=λz=>by subst z;rw[ak] at hl;cases hl
   have hlH:H l=none:=by rw[aq hlp] at hl;exact hl
   have x1:=Ext.own s (o:=.iB 0 n) hp
   have x2:=Ext.own x1.gh (o:=.lst ((List.range n.toNat).map λ(i:Nat)=>V.int (i:Int))) hl
   exact k _ _ _ (x1.trans x2) ⟨l,rfl,hlH,s.free hlH,_,ak,xZ _⟩
  ·cases e
 |_=>cases e
def BS:D->Option D
 | .int i=>some (.int (if i < 0 then -i else i))
 |_=>none
theorem Hr:ye K (λx H Q=>∃i,[x]= [.int i]/\Q (.int (if i < 0 then -i else i)) H) BS .v:=by
 intro B G H x dx d Q s hB bx e k
 cases dx with
 |int i=>cases e;obtain rfl:=bx.int;exact⟨i,rfl,k _ G H (Ext.refl s) (.int _)⟩
 |_=>cases e
noncomputable def IT (d:D):Option D:=match d with
 | .list ds=>(match fo ds with
  |some ps=>if ps.all FZ=true/\ps.Nodup/\ps.length < 64 then some (.list ((OM.bP 8 (OM.Mem ps)).map aL)) else none
  |none=>none)
 |_=>none
def tq (ds:List D)(k:D):Option (D×List D):=match k with
 | .int i=>if -(2 ^ 63)<=i/\i < 2 ^ 63 then (match seqIndex? i ds.length with
  |some n=>(match ds[n]? with
   |some d=>some (d,ds.eraseIdx n)
   |none=>none)
  |none=>none) else none
 |_=>none
def fy (i j:Nat)(L:List Nat)(f:VF D):SF:=λenv β=>if o7 env[i]? =true/\o7 env[j]? =true/\i≠j then toS (f (vl env) β) λk β'=>match (aQ L env)[j]? with
 |some (.ow (.list es))=>(match tq es k with
  |some (d,es')=>FL i ((aQ L env).set j (.ow (.list es'))) β' λds=>if ds.length < sizeLine then some (ds ++ [d]) else none
  |none=>.bad)
 |_=>.bad else .bad
theorem bI.eraseIdx:∀{xs:List V} {ds:List D} (i:Nat),bI K G xs ds->bI K G (xs.eraseIdx i) (ds.eraseIdx i)
 |_,_,_,.nil=>.nil
 |_,_,0,.cons _ t=>t
 |_,_,i + 1,.cons r t=>.cons r (bI.eraseIdx i t)
theorem yH (i j:Nat){x y:Str}{np2 apos2 cpos2:Pos}(hb:∀j,Γ.br j=false)(he:SE X Γ E e f L md)(hN:X.N[i]? =some x:=by rfl)(hv:qP X.env.scope x:=by first |exact Or.inl rfl |exact Or.inr (Or.inl rfl) |exact Or.inr (Or.inr rfl))(hd:(x == ("__debug__":Str))=false:=by decide)
  (hcd:(x == ("__classdict__":Str))=false:=by decide)
  (hN2:X.N[j]? =some y:=by rfl) (hv2:qP X.env.scope y:=by first |exact Or.inl rfl |exact Or.inr (Or.inl rfl) |exact Or.inr (Or.inr rfl)) (hd2:(y == ("__debug__":Str))=false:=by decide)
  (hcd2:(y == ("__classdict__":Str))=false:=by decide)
  (hbase:attributeBase (.Name x np) "append" X.env (eval (.Name x np) X.env)=eval (.Name x np) X.env:=by rfl)
  (hfew:((backTo cpos (starEach [.Call (.Attribute (.Name y np2) "pop" apos2) [e] [] cpos2] X.env)).all (λx=> !x.1) && (backToKw cpos (keywordEach [] X.env)).all (λx=>x.1.isSome)
   && decide ([Expr.Call (.Attribute (.Name y np2) "pop" apos2) [e] [] cpos2].length + ([]:List Keyword).length + (if ([]:List Keyword).isEmpty then 0 else 1) < 30))=true:=by rfl)
  (hline:(apos.endLine == cpos.line)=true:=by rfl) (hs:starEach [.Call (.Attribute (.Name y np2) "pop" apos2) [e] [] cpos2] X.env=(false,eval (.Call (.Attribute (.Name y np2) "pop" apos2) [e] [] cpos2) X.env) :: starEach [] X.env:=by rfl)
  (hbase2:attributeBase (.Name y np2) "pop" X.env (eval (.Name y np2) X.env)=eval (.Name y np2) X.env:=by rfl)
  (hfew2:((backTo cpos2 (starEach [e] X.env)).all (λx=> !x.1) && (backToKw cpos2 (keywordEach [] X.env)).all (λx=>x.1.isSome)
   && decide ([e].length + ([]:List Keyword).length + (if ([]:List Keyword).isEmpty then 0 else 1) < 30))=true:=by rfl)
  (hline2:(apos2.endLine == cpos2.line)=true:=by rfl) (hs2:starEach [e] X.env=(false,eval e X.env) :: starEach [] X.env:=by rfl)
  (hsw:swapsWith (.Call (.Attribute (.Name x np) "append" apos) [.Call (.Attribute (.Name y np2) "pop" apos2) [e] [] cpos2] [] cpos) none pos.line X.env=pure false:=by rfl) :
  SS X Γ E (.Expr (.Call (.Attribute (.Name x np) "append" apos) [.Call (.Attribute (.Name y np2) "pop" apos2) [e] [] cpos2] [] cpos) pos) (fy i j L f):=by
 refine PS.post (jM (qe LJ Mm Mn hJ (cM hN hv hd hcd)
  (aG (qe LJ PySem.F.slot_list_pop PySem.F.type_list_pop AI (cM hN2 hv2 hd2 hcd2) (aG he a7 hs2) hbase2 hfew2 hline2 hs2 rfl) a7 hs) hbase hfew hline hs rfl) hsw) λN σ H ⟨env,G,B,β,I,o⟩=>?_
 unfold fy at o
 by_cases hO:o7 env[i]? =true/\o7 env[j]? =true/\i≠j
 case neg=>rw[Ki hO] at o;exact o.elim
 rw[Kf hO] at o
 obtain⟨hO1,hO2,hij⟩:=hO
 obtain⟨ds0,q0⟩:=mQ hO1
 obtain⟨es0,w0⟩:=mQ hO2
 obtain⟨p,h1,_,_,_,xs,h5,_⟩:=I.slot i _ q0
 obtain⟨q,k1,_,_,_,ys,k5,_⟩:=I.slot j _ w0
 refine⟨_,h1,.inl ⟨rfl,xs,.inl (.inl h5)⟩,?_⟩
 refine⟨_,k1,.inl ⟨rfl,ys,.inl (.inl k5)⟩,?_⟩
 refine⟨env,G,B,β,I,bQ o λkd β' k v G' H' I' s' m' vo=>?_⟩
 cases ej:(aQ L env)[j]? with
 |none=>rw[ej] at k;exact k.elim
 |some sj=>
  rw[ej] at k
  cases sj with
  |ow dj=>
   cases dj with
   |list es=>
    dsimp only at k
    cases ep:tq es kd with
    |none=>rw[ep] at k;exact k.elim
    |some pr=>
     obtain⟨d,es'⟩:=pr
     rw[ep] at k
     dsimp only at k
     unfold tq at ep
     cases kd <;> first | (cases ep;done) |skip
     rename_i ii
     dsimp only at ep
     split at ep
     ·rename_i hr
      cases eI:seqIndex? ii es.length with
      |none=>rw[eI] at ep;cases ep
      |some n=>
       rw[eI] at ep
       dsimp only at ep
       cases eD:es[n]? with
       |none=>rw[eD] at ep;cases ep
       |some d0=>
        rw[eD] at ep
        cases ep
        obtain rfl:=(vo.brw I.boxThere).int
        obtain⟨q',g1,_,_,_,zs,g5,g6⟩:=I'.slot j _ ej
        rw[k1] at g1;cases g1
        obtain⟨xv,ex,rx⟩:=g6.at eD
        refine⟨q,zs,ii,n,xv,rfl,rfl,g5,hr.1,hr.2,by rw[g6.len];exact eI,ex,?_⟩
        have I2:=I'.write hb ej k1 (o:=.lst (zs.eraseIdx n)) (d':=.list (es.eraseIdx n)) λH2 e2 s2=>⟨_,e2,g6.eraseIdx n⟩
        obtain⟨ds,fs,eq,eg,k⟩:=rT k
        by_cases hz:ds.length < sizeLine
        case neg=>rw[Ki hz] at eg;cases eg
        rw[Kf hz] at eg
        cases eg
        obtain⟨p',f1,_,_,_,us,f5,f6⟩:=I2.slot i _ eq
        rw[h1] at f1;cases f1
        refine⟨p,us,xv,rfl,rfl,f5,by rw[f6.len];exact hz,?_⟩
        exact k B G' _ σ (I2.write hb eq h1 λH2 e2 s2=>⟨_,e2,f6.snoc rx⟩) s'
     ·cases ep
   |_=>exact k.elim
  |_=>exact k.elim
end
def bg:List D->Int->FB
 | [.int m],β=>if 0 < m/\m < 1073741824 then .ok (.int (β % m)) false (β / m) else .bad
 |_,_=>.bad
def wW {ds:List D}{β:Int}(h:bg ds β≠.bad):∃m,ds= [.int m]/\0 < m/\m < 1073741824:=by
 unfold bg at h
 split at h
 ·rename_i m
  by_cases hh:0 < m/\m < 1073741824
  ·exact⟨m,rfl,hh.1,hh.2⟩
  ·rw[Ki hh] at h;exact absurd rfl h
 ·exact absurd rfl h
def iL {m β:Int}(h0:0 < m)(h1:m < 1073741824):bg [.int m] β=.ok (.int (β % m)) false (β / m):=Kf ⟨h0,h1⟩
def constsOf:List Expr->Option (List Int)
 | []=>some []
 | .Constant (.int i) _ _ :: es=>(constsOf es).map λr=>i :: r
 |_=>none
def JF (ns:List Int):VF (List D):=λ_ β=>.ok (ns.map int) β
theorem pK {X:Cx}{Γ:Fx}{E:XK}:∀{es:List Expr} {ns:List Int},constsOf es=some ns->SA X Γ E es (JF ns) []
 | [],ns,h=>by
  have e:ns= []:=by unfold constsOf at h;exact (Option.some.inj h).symm
  subst e
  exact ao
 |e :: es,ns,h=>by
  unfold constsOf at h
  split at h
  ·cases ‹_ :: _= []›
  ·next i a b es' heq=>
   cases heq
   cases q:constsOf es with
   |none=>rw[q] at h;cases h
   |some r=>
    rw[q] at h
    have e2:i :: r=ns:=Option.some.inj h
    subst e2
    exact ae aw (pK q) rfl
  ·cases h
section
variable {P:Program}{w:World}{K:Frag}{mg:Str->Option Value}{base:Heap}
def BR {X:Cx}{i j:Nat}{x y:Str}{px py pos:Pos}{k:Nat}(hN:X.N.Nodup)(hi:X.N[i]? =some x)(hj:X.N[j]? =some y)(hx:X.env.scope.names.lookup x=some .local)(hy:X.env.scope.names.lookup y=some .local)(hc:X.calm=true) :
  PG X (.Tuple [.Name x px,.Name y py] k pos) (C0 X.K 2 (nq (gL i) (nq (gL j) Dh))):=
 nD hc (cQ (bR hN hi (Or.inl hx) (Or.inr hx)) (cQ (bR hN hj (Or.inl hy) (Or.inr hy)) kX))
def Bq {b:Addr}{β m:Int}{H:Hp}{Q:VK}{G:Hp}(hb:H b=some (.lst [.int β]))(s:ah G H){p:Addr}(hp:H p=none)
  (kk:∀v G' H',fM (some b) H H'->H' b=some (.lst [.int (β / m)])->ah G G'->ah G' H'->(∀c,Mx H c->G c=none->G' c=none)->FV K H G' H' false (.int (β % m)) v->Q v H') (gb:G b=none) :
  Q (.int (β % m)) (upd (upd H p (.tup [.int (β / m),.int (β % m)])) b (.lst [.int (β / m)])):=by
 have hbp:b≠p:=ax hb hp
 refine kk _ G _ ⟨λc o e n=>Kt.of (by rw[aq (λz=>n (by rw[z])),aq (ax e hp)];exact e),λc o u e=>by rw[aq (λz=>by rw[z,hb] at e;cases e),aq (ax e hp)];exact e⟩ ak (ah.refl _) (λc o e=>?_) (λc _ h=>h) (.int _)
 obtain⟨u,eu,_⟩:=(s c o e).some
 exact gV (gV (s c o e) (ax eu hp) λx y w=>by rw[hp] at w;cases w) (λz=>by rw[z,gb] at e;cases e) λx y w=>by rw[aq hbp,hb] at w;cases w
end
end L2
namespace L2
open PySem PySem.SeqAt PySem.Spec PyProof.Rows
section
variable {K:Frag}{X:Cx}{G H:Hp}{Γ:Fx}{E:XK}{e a b c:Expr}{f fa fb fc:VF D}{L La Lb:List Nat}{md ma mb mc:Md}{pos apos cpos np:Pos}
def dr:List D->Option (List Int)
 | []=>some []
 | .int i :: ds=>(dr ds).map (i :: ·)
 |_=>none
theorem ll:∀{ds:List D} {ns:List Int},dr ds=some ns->ds=ns.map int
 | [],ns,h=>by cases h;rfl
 | .int i :: ds,ns,h=>by
  unfold dr at h
  cases q:dr ds with
  |none=>rw[q] at h;cases h
  |some ms=>rw[q] at h;cases h;rw[ll q];rfl
 | .none :: _,_,h=>by cases h
 | .bool _ :: _,_,h=>by cases h
 | .str _ :: _,_,h=>by cases h
 | .list _ :: _,_,h=>by cases h
 | .tuple _ :: _,_,h=>by cases h
 | .dict _ :: _,_,h=>by cases h
theorem bZ:∀ns:List Int,dr (ns.map int)=some ns
 | []=>rfl
 |n :: ns=>by show (dr (ns.map int)).map (n :: ·)=_;rw[bZ ns];rfl
abbrev Fx.at (Γ:Fx)(H0:Hp):Fx:=⟨Γ.K,H0,Γ.G0,Γ.par,Γ.ca,Γ.br,Γ.bx⟩
end
end L2
namespace L2
open PySem PySem.Spec PyProof.Rows
section
variable {K:Frag}{X:Cx}{G H:Hp}
def FH (neg:Bool):D->D->Option D
 | .str x,.str y=>some (.bool (if neg then !decide (x=y) else decide (x=y)))
 |_,_=>none
def Ba (x y:Str):decide (V.str x=V.str y)=decide (x=y):=by
 rw[LA];simp
def GV:mf K JC (FH true) .v:=by
 intro B G H x y dx dy d Q s hB bx by' e k
 cases dx <;> cases dy <;> first | (cases e;done) |skip
 cases e
 obtain rfl:=bx.str
 obtain rfl:=by'.str
 refine⟨rfl,?_⟩
 rw[Ba]
 exact k _ G H (Ext.refl s) (.bl _)
end
end L2
namespace L2
open PySem
section
variable {α γ:Type}
@[simp] theorem ky (a:α)(β:Int)(k:α->Int->R γ):(R.ok a β).bnd k=k a β:=rfl
@[simp] theorem HL (c:Str)(k:α->Int->R γ):(R.exc c:R α).bnd k=.exc c:=rfl
@[simp] theorem HK (k:α->Int->R γ):(R.bad:R α).bnd k=.bad:=rfl
@[simp] theorem Jj (a:α)(β:Int)(k:α->Int->R γ):(R.ok a β).okb k=k a β:=rfl
@[simp] theorem rg (a:α)(β:Int):R.of (some a) β=.ok a β:=rfl
@[simp] theorem of_none (β:Int):(R.of none β:R α)=.bad:=rfl
@[simp] theorem Jf (a:α)(β:Int)(k:α->Int->SO):toS (.ok a β) k=k a β:=rfl
@[simp] theorem HW (c:Str)(k:α->Int->SO):toS (.exc c:R α) k=.exc c:=rfl
@[simp] theorem HR (k:α->Int->SO):toS (.bad:R α) k=.bad:=rfl
end
section
variable (f fa fb fc:VF D)(t u:VF Bool)(m m':SF)(vs:List Nv)(β:Int)(env:En)(i j:Nat)(L:List Nat)
@[simp] theorem DX:gv i vs β=R.of (dat vs[i]?) β:=rfl
@[simp] theorem uF (d:D):dat (some (.da d))=some d:=rfl
@[simp] theorem IM (d:D):cst d vs β=.ok d β:=rfl
@[simp] theorem JM (g:D->Option D):f1 fa g vs β=(fa vs β).bnd λx β1=>R.of (g x) β1:=rfl
@[simp] theorem JR (g:D->D->Option D):f2 fa fb g vs β=(fa vs β).bnd λx β1=>(fb vs β1).bnd λy β2=>R.of (g x y) β2:=rfl
@[simp] theorem wR:af vs β=.ok [] β:=rfl
@[simp] theorem cg (fr:VF (List D)):aa fa fr vs β=(fa vs β).bnd λx β1=>(fr vs β1).bnd λxs β2=>.ok (x :: xs) β2:=rfl
@[simp] theorem qp:kA fa vs β=(fa vs β).bnd λx β1=>R.of (Fi x) β1:=rfl
@[simp] theorem rE:oJ t vs β=(t vs β).bnd λc β1=>.ok (!c) β1:=rfl
@[simp] theorem Jy:FX t u vs β=(t vs β).bnd λc β1=>if c=true then u vs β1 else .ok false β1:=rfl
@[simp] theorem qq:hG t u vs β=(t vs β).bnd λc β1=>if c=true then .ok true β1 else u vs β1:=rfl
@[simp] theorem JQ (n:Bool):tN fa n vs β=(fa vs β).bnd λx β1=>.ok (if n then !BV x else BV x) β1:=rfl
@[simp] theorem Jq:J1 t fa fb vs β=(t vs β).bnd λc β1=>if c=true then fa vs β1 else fb vs β1:=rfl
@[simp] theorem cX (c:Bool){β1:Int}(h:fa vs β=.ok (.bool c) β1):c8 fa vs β=.ok c β1:=by unfold c8;rw[h];rfl
@[simp] theorem uM:vl []= []:=rfl
@[simp] theorem qM (s:Sl):vl (s :: env)=s.val :: vl env:=rfl
@[simp] theorem uK (d:D):(Sl.fz d).val=.da d:=rfl
@[simp] theorem Iv (d:D):(Sl.ow d).val=.da d:=rfl
@[simp] theorem IH:Sl.no.val=.no:=rfl
@[simp] theorem IJ:Sl.bx.val=.bx:=rfl
@[simp] theorem HZ:aQ [] env=env:=rfl
@[simp] theorem GJ:aQ (i :: L) env=aQ L (hW env i):=rfl
@[simp] theorem HJ:aE m m' env β=(match m env β with
 | .nx env' β'=>m' env' β'
 |r=>r):=rfl
@[simp] theorem IP:jS L t m m' env β=toS (t (vl env) β) λc β'=>if c=true then m (aQ L env) β' else m' (aQ L env) β':=rfl
@[simp] theorem wy:bC f env β=toS (f (vl env) β) λd β'=>.rt d false β':=rfl
@[simp] theorem Ht:jX f env β=toS (f (vl env) β) λd β'=>.rt d true β':=rfl
@[simp] theorem IB:lP env β=.nx env β:=rfl
@[simp] theorem xK:bE i L f env β=toS (f (vl env) β) λd β'=>.nx ((aQ L env).set i (.fz d)) β':=rfl
@[simp] theorem Hw:jv i L f env β=toS (f (vl env) β) λd β'=>.nx ((aQ L env).set i (.ow d)) β':=rfl
@[simp] theorem Hf:tP L f env β=toS (f (vl env) β) λ_ β'=>.nx (aQ L env) β':=rfl
end
def aJ {m m':SF}{env env':En}{β β':Int}(h:m env β=.nx env' β'):aE m m' env β=m' env' β':=by unfold aE;rw[h]
def mP {m m':SF}{env:En}{β β':Int}{d:D}{b:Bool}(h:m env β=.rt d b β'):aE m m' env β=.rt d b β':=by unfold aE;rw[h]
def so {L:List Nat}{t:VF Bool}{m m':SF}{env:En}{β β':Int}(h:t (vl env) β=.ok true β'):jS L t m m' env β=m (aQ L env) β':=by unfold jS;rw[h];rfl
def l8 {L:List Nat}{t:VF Bool}{m m':SF}{env:En}{β β':Int}(h:t (vl env) β=.ok false β'):jS L t m m' env β=m' (aQ L env) β':=by unfold jS;rw[h];rfl
def aY {F:List D->FR}{fr:VF (List D)}{vs:List Nv}{β β1:Int}{ds:List D}{d:D}{b:Bool}(h:fr vs β=.ok ds β1)(e:F ds=.ok d b):aB F fr vs β=.ok d β1:=by unfold aB;rw[h];dsimp only[R.bnd];rw[e]
def A9 {F:List D->FR}{fr:VF (List D)}{vs:List Nv}{β β1:Int}{ds:List D}{d:D}(h:fr vs β=.ok ds β1)(e:F ds=.ok d true):tG F fr vs β=.ok d β1:=by unfold tG;rw[h];dsimp only[R.bnd];rw[e]
def bO {fa:VF D}{g:D->Option D}{vs:List Nv}{β β1:Int}{x d:D}(h:fa vs β=.ok x β1)(e:g x=some d):f1 fa g vs β=.ok d β1:=by unfold f1;rw[h];dsimp only[R.bnd];rw[e];rfl
def aF {fa fb:VF D}{g:D->D->Option D}{vs:List Nv}{β β1 β2:Int}{x y d:D}(h:fa vs β=.ok x β1)(h':fb vs β1=.ok y β2)(e:g x y=some d):f2 fa fb g vs β=.ok d β2:=by unfold f2;rw[h];dsimp only[R.bnd];rw[h'];dsimp only[R.bnd];rw[e];rfl
def cv {i:Nat}{F:List D->Int->FB}{fr:VF (List D)}{vs:List Nv}{β β1 β2:Int}{ds:List D}{d:D}{b:Bool}(hi:qy vs i=true)(h:fr vs β=.ok ds β1)(e:F ds β1=.ok d b β2):gq i F fr vs β=.ok d β2:=by unfold gq;rw[Kf hi,h];dsimp only[R.bnd];rw[e]
def FI {i:Nat}{F:List D->Int->FB}{fr:VF (List D)}{vs:List Nv}{β β1 β2:Int}{ds:List D}{d:D}(hi:qy vs i=true)(h:fr vs β=.ok ds β1)(e:F ds β1=.ok d true β2):DF i F fr vs β=.ok d β2:=by unfold DF;rw[Kf hi,h];dsimp only[R.bnd];rw[e]
def sz (n:Nat)(h:n<=1000):n<=sizeLine:=by rw[KH];omega
def Ha (n:Nat)(h:n<=1000):n < sizeLine:=by rw[KH];omega
def kK {fr:VF (List D)}{vs:List Nv}{β β1:Int}{ds:List D}(h:fr vs β=.ok ds β1)(hz:ds.length<=1000):bW fr vs β=.ok (.tuple ds) β1:=by unfold bW;rw[h];exact Kf (sz _ hz)
def dm {fr:VF (List D)}{vs:List Nv}{β β1:Int}{ds:List D}(h:fr vs β=.ok ds β1)(hz:ds.length<=1000):aH fr vs β=.ok (.list ds) β1:=by unfold aH;rw[h];exact Kf (sz _ hz)
def uZ {i:Nat}{env:En}{β:Int}{g:List D->Option (List D)}{ds es:List D}(h:env[i]? =some (.ow (.list ds)))(e:g ds=some es):FL i env β g=.nx (env.set i (.ow (.list es))) β:=by unfold FL;rw[h];dsimp only;rw[e]
def xB {i:Nat}{L:List Nat}{f:VF D}{env:En}{β β':Int}{ds:List D}{d:D}(hi:env[i]? =some (.ow (.list ds)))(hf:f (vl env) β=.ok d β')(hL:(aQ L env)[i]? =some (.ow (.list ds)))(hz:ds.length<=1000):rG i L f env β=.nx ((aQ L env).set i (.ow (.list (ds ++ [d])))) β':=by
 unfold rG
 rw[Kf (by rw[hi];rfl),hf]
 exact uZ hL (Kf (Ha _ hz))
def nF {i j:Nat}{L:List Nat}{f:VF D}{env:En}{β β':Int}{ds es es':List D}{k d:D}(hi:env[i]? =some (.ow (.list ds)))(hj:env[j]? =some (.ow (.list es)))(hij:i≠j)(hf:f (vl env) β=.ok k β')(hL:aQ L env=env)(hp:tq es k=some (d,es'))(hz:ds.length<=1000):fy i j L f env β=.nx ((env.set j (.ow (.list es'))).set i (.ow (.list (ds ++ [d])))) β':=by
 unfold fy
 rw[Kf ⟨by rw[hi];rfl,by rw[hj];rfl,hij⟩,hf,hL]
 dsimp only[toS]
 rw[hj]
 dsimp only
 rw[hp]
 exact uZ (by rw[Km (Ne.symm hij)];exact hi) (Kf (Ha _ hz))
theorem nP {t:Tg}{ft:VF Bool}{fe:VF D}{vs:List Nv}(g:D->Bool)(h:D->D):∀{ds:List D} {β:Int},(∀d,d∈ds->∃vs1,l9 t d vs=some vs1/\ft vs1 β=.ok (g d) β/\(g d=true->fe vs1 β=.ok (h d) β))->fT t ft fe vs ds β=.ok ((ds.filter g).map h) β
 | [],β,_=>rfl
 |d :: ds,β,hh=>by
  obtain⟨vs1,e1,e2,e3⟩:=hh d (Kd ..)
  have ih:=nP (t:=t) (ft:=ft) (fe:=fe) (vs:=vs) g h (ds:=ds) (β:=β) λd' hd=>hh d' (J9 _ hd)
  unfold fT
  rw[e1]
  dsimp only
  rw[e2]
  dsimp only[R.okb]
  cases q:g d with
  |true=>
   rw[Kf rfl,e3 q]
   dsimp only
   rw[ih,Mr q];rfl
  |false=>
   rw[Ki KC,ih,Ms (by rw[q];exact KC)]
def uX {own:Nat}{ixs:List Nat}{t:Tg}{fi:VF (List D)}{ft:VF Bool}{fe:VF D}{vs:List Nv}{β β1:Int}{ds:List D}(g:D->Bool)(h:D->D)(hi:fi vs β=.ok ds β1)(hz:ds.length<=1000)
  (hh:∀d,d∈ds->∃vs1,l9 t d (fw own ixs vs)=some vs1/\ft vs1 β1=.ok (g d) β1/\(g d=true->fe vs1 β1=.ok (h d) β1)):aS own ixs t fi ft fe vs β=.ok (.list ((ds.filter g).map h)) β1:=by
 unfold aS
 rw[hi]
 dsimp only[R.bnd]
 rw[Kf (sz _ hz),nP g h hh];rfl
def lB {own:Nat}{ixs:List Nat}{t:Tg}{fi:VF (List D)}{fe:VF D}{vs:List Nv}{β β1:Int}{ds:List D}(h:D->D)(hi:fi vs β=.ok ds β1)(hz:ds.length<=1000)
  (hh:∀d,d∈ds->∃vs1,l9 t d (fw own ixs vs)=some vs1/\fe vs1 β1=.ok (h d) β1):aS own ixs t fi mB fe vs β=.ok (.list (ds.map h)) β1:=by
 rw[uX (ft:=mB) (λ_=>true) h hi hz λd hd=>let ⟨vs1,e1,e2⟩:=hh d hd;⟨vs1,e1,rfl,λ_=>e2⟩]
 rw[List.filter_eq_self.mpr (λ_ _=>rfl)]
def fW {α:Type}{own:Nat}{ixs:List Nat}{t:Tg}{fi:VF (List D)}{fe:VF D}{vs:List Nv}{β β1:Int}{l:List α}{e:α->D}(h:α->D)(hi:fi vs β=.ok (l.map e) β1)(hz:l.length<=1000)
  (hh:∀x,x∈l->∃vs1,l9 t (e x) (fw own ixs vs)=some vs1/\fe vs1 β1=.ok (h x) β1):aS own ixs t fi mB fe vs β=.ok (.list (l.map h)) β1:=by
 unfold aS
 rw[hi]
 dsimp only[R.bnd]
 rw[Kf (sz _ (by rw[Kb];exact hz))]
 have key:∀m:List α,(∀x,x∈m->x∈l)->fT t mB fe (fw own ixs vs) (m.map e) β1=.ok (m.map h) β1:=by
  intro m
  induction m with
  |nil=>intro _;rfl
  |cons x m ih=>
   intro hm
   obtain⟨vs1,e1,e2⟩:=hh x (hm x (Kd ..))
   rw[K2]
   unfold fT
   rw[e1]
   dsimp only
   show (R.ok true β1).okb _=_
   dsimp only[R.okb]
   rw[Kf rfl,e2]
   dsimp only
   rw[ih λy hy=>hm y (J9 _ hy)];rfl
 rw[key l λ_ h=>h];rfl
def j9 {α:Type}{own:Nat}{ixs:List Nat}{t:Tg}{fi:VF (List D)}{ft:VF Bool}{fe:VF D}{vs:List Nv}{β β1:Int}{l:List α}{e:α->D}(g:α->Bool)(h:α->D)(hi:fi vs β=.ok (l.map e) β1)(hz:l.length<=1000)
  (hh:∀x,x∈l->∃vs1,l9 t (e x) (fw own ixs vs)=some vs1/\ft vs1 β1=.ok (g x) β1/\(g x=true->fe vs1 β1=.ok (h x) β1)):aS own ixs t fi ft fe vs β=.ok (.list ((l.filter g).map h)) β1:=by
 unfold aS
 rw[hi]
 dsimp only[R.bnd]
 rw[Kf (sz _ (by rw[Kb];exact hz))]
 have key:∀m:List α,(∀x,x∈m->x∈l)->fT t ft fe (fw own ixs vs) (m.map e) β1=.ok ((m.filter g).map h) β1:=by
  intro m
  induction m with
  |nil=>intro _;rfl
  |cons x m ih=>
   intro hm
   obtain⟨vs1,e1,e2,e3⟩:=hh x (hm x (Kd ..))
   have ih:=ih λy hy=>hm y (J9 _ hy)
   rw[K2]
   unfold fT
   rw[e1]
   dsimp only
   rw[e2]
   dsimp only[R.okb]
   cases q:g x with
   |true=>
    rw[Kf rfl,e3 q]
    dsimp only
    rw[ih,Mr q];rfl
   |false=>
    rw[Ki KC,ih,Ms (by rw[q];exact KC)]
 rw[key l λ_ h=>h];rfl
theorem ik {t:Tg}{m:SF}(Pv:Nat->En->Int->Prop):∀{ds:List D} {k:Nat} {env:En} {β:Int},Pv k env β->
  (∀i d env β,ds[i]? =some d->Pv (k + i) env β->∃env1,eH t d env=some env1/\∃env2 β2,m env1 β=.nx env2 β2/\Pv (k + i + 1) env2 β2)->∃env' β',gP t m ds env β=.nx env' β'/\Pv (k + ds.length) env' β'
 | [],k,env,β,h0,_=>⟨env,β,rfl,h0⟩
 |d :: ds,k,env,β,h0,hs=>by
  obtain⟨env1,e1,env2,β2,e2,h1⟩:=hs 0 d env β rfl h0
  obtain⟨env',β',e3,h2⟩:=ik Pv (t:=t) (m:=m) (ds:=ds) (k:=k + 1) h1 λi d' en be hi hp=>by
   have:=hs (i + 1) d' en be (by simpa using hi) (by rw[show k + (i + 1)=k + 1 + i by omega];exact hp)
   rw[show k + (i + 1) + 1=k + 1 + i + 1 by omega] at this
   exact this
  refine⟨env',β',?_,by rw[KG,show k + (ds.length + 1)=k + 1 + ds.length by omega];exact h2⟩
  unfold gP
  rw[e1]
  dsimp only
  rw[e2]
  exact e3
theorem iS {L:List Nat}{t:VF Bool}{m:SF}(Pv:Nat->En->Int->Prop)(Dn:En->Int->Prop):∀{n k:Nat} {env:En} {β:Int},k < n->Pv k env β->
  (∀k env β,Pv k env β->∃c β1,t (vl env) β=.ok c β1/\((c=false/\Dn (aQ L env) β1)\/(c=true/\∃env2 β2 k',m (aQ L env) β1=.nx env2 β2/\k' < k/\Pv k' env2 β2)))->∃env' β',iJ L t m n env β=.nx env' β'/\Dn env' β'
 | 0,k,env,β,hk,_,_=>by omega
 |n + 1,k,env,β,hk,h0,hs=>by
  obtain⟨c,β1,e1,hc⟩:=hs k env β h0
  unfold iJ
  rw[e1]
  dsimp only[toS]
  rcases hc with⟨rfl,hd⟩ | ⟨rfl,env2,β2,k',e2,hl,h1⟩
  ·exact⟨_,_,rfl,hd⟩
  ·rw[Kf rfl,e2]
   exact iS Pv Dn (n:=n) (k:=k') (by omega) h1 hs
end L2
namespace RM
open PySem L2
def nV:SF:=(bC (eJ (f1 (gv 0) (fG "int")) (f1 (f1 (gv 0) (fG "bool")) sF)))
def nX (bH:List D->FR):SF:=(bC (eJ (aB bH (aa (gv 0) af)) (i7 (cst (.int 0)) (gv 0) (gv 1) zu zc)))
def pX (bH:List D->FR):SF:=(bC (eJ (aB bH (aa (gv 0) af)) (i7 (cst (.int 1)) (gv 0) (cst (.int 8)) zu zu)))
def pF (bw:List D->FR):SF:=(aE (jS ([] ++ ([] ++ [])) (hG (oJ (kA (f1 (gv 0) (fG "tuple")))) (c8 (f2 (f1 (gv 0) c9) (cst (.int 2)) (cN true))))
 (bC (cst (.bool false)))
 lP)
 (bC (eJ (aB bw (aa (f2 (gv 0) (cst (.int 0)) cT) (aa (gv 1) af))) (aB bw (aa (f2 (gv 0) (cst (.int 1)) cT) (aa (gv 1) af))))))
def qV:SF:=(jX (aS 1 [0] (.nm 0) (gM (f2 (gv 0) (gv 0) eY)) mB (bW (aa (f2 (gv 0) (gv 1) zE) (aa (f2 (gv 0) (gv 1) lh) af)))))
def oo:SF:=(bC (f1 (aS 2 [] (.two 0 1) (bV (gv 0)) mB (f2 (gv 0) (gv 1) (cN false))) (b5 λbs=>bs.any id)))
def gi (fP fO ig dH:List D->FR):SF:=(aE (jS ([] ++ ([] ++ [])) (hG (oJ (kA (f1 (gv 0) (fG "tuple")))) (c8 (f2 (f1 (gv 0) c9) (cst (.int 2)) (cN true))))
 (bC (cst (.bool false)))
 lP)
 (aE (bE 1 ([] ++ []) (f2 (gv 0) (cst (.int 0)) cT))
 (aE (bE 2 ([] ++ []) (f2 (gv 0) (cst (.int 1)) cT))
 (aE (jS (([1] ++ []) ++ []) (hG (oJ (kA (aB fP (aa (gv 1) af)))) (oJ (kA (f1 (gv 2) (fG "tuple")))))
 (bC (cst (.bool false)))
 lP)
 (aE (jS ([] ++ [1]) (oJ (kA (f1 (aS 1 [1] (.nm 0) (bV (gv 2)) mB (aB fO (aa (gv 0) (aa (gv 1) af)))) (b5 λbs=>bs.all id))))
 (bC (cst (.bool false)))
 lP)
 (bC (eJ (f2 (gv 2) (aB ig (aa (gv 1) (aa (gv 2) af))) (cN false)) (f1 (aB dH (aa (gv 2) af)) sF))))))))
def fC (dF:List D->FR):SF:=(jS ([0] ++ []) (oJ (kA (aB dF (aa (gv 0) af))))
 (λenv β=>toS ((aa (cst (.str "this is no order")) af) (vl env) β) λds _=>if ds.length<=sizeLine then .exc "NoOrder" else .bad)
 lP)
def mh:SF:=(bC (eJ (f2 (gv 1) (gv 2) (cN true)) (eJ (f2 (bW (aa (gv 1) (aa (gv 2) af))) (f2 (gv 0) (cst (.int 1)) cT) (BA true)) (f2 (bW (aa (gv 2) (aa (gv 1) af))) (f2 (gv 0) (cst (.int 1)) cT) (BA true)))))
def eQ:SF:=(aE (jS ([] ++ []) (c8 (f2 (gv 1) (f1 (gv 0) c9) zc))
 (bC (f2 (gv 0) (gv 1) cT))
 lP)
 (bC (cst (.int 0))))
def iR:SF:=(aE (bE 2 [] (aH (JF [48271,69621,16807,39373,30269,40014,40692,50021,61687,71993,83869,95561,30307]))) (aE (bE 3 ((((([] ++ []) ++ []) ++ ([] ++ ([] ++ []))) ++ ([] ++ [])) ++ ([] ++ ([] ++ []))) (f2 (f2 (f2 (f2 (f2 (gv 0) (cst (.int 2147483647)) lh) (cst (.int 12345)) cO) (f2 (gv 2) (f2 (gv 1) (cst (.int 13)) lh) cT) eY) (f2 (cst (.int 977)) (gv 1) eY) cO) (f2 (cst (.int 7919)) (f2 (gv 1) (cst (.int 13)) zE) eY) cO))
 (aE (bE 3 ([] ++ []) (f2 (gv 3) (cst (.int 1000000007)) lh))
 (bC (f2 (f2 (f2 (f2 (gv 3) (gv 3) eY) (f2 (cst (.int 48271)) (gv 1) eY) cO) (cst (.int 1000000007)) lh) (cst (.int 7)) zE)))))
def i0 (c4 dR:List D->FR):SF:=(aE (bE 2 ([0] ++ ([1] ++ [])) (aB c4 (aa (gv 0) (aa (gv 1) af))))
 (aE (jS (([] ++ []) ++ []) (c8 (f2 (f2 (gv 2) (cst (.int 2)) lh) (cst (.int 0)) (cN false)))
 (jX (aH (aa (f2 (f1 (gv 2) BS) (cst (.int 2)) zE) af)))
 lP)
 (aE (bE 3 [] (cst (.int 0)))
 (aE (c5 (.nm 4) [] (gM (cst (.int 40)))
 (bE 3 (([] ++ []) ++ ([2] ++ ([4] ++ []))) (f2 (f2 (gv 3) (cst (.int 142857143)) eY) (aB dR (aa (gv 2) (aa (gv 4) af))) cO)))
 (jX (aH (aa (gv 3) af)))))))
def bL (av:List D->Int->FB):SF:=(aE (jv 2 [] (f1 (gv 1) D1))
 (aE (jv 3 [] (aH af))
 (aE (iJ ([] ++ []) (c8 (f2 (gv 2) (aH af) (cN true)))
 (fy 3 2 ([] ++ []) (gq 0 av (aa (f1 (gv 2) c9) af))) 1000)
 (Ar 3))))
noncomputable def dX:SF:=(aE (bE 1 [] (f1 (gv 0) cc))
 (aE (bE 2 [] (f1 (cst (.int 1)) vV))
 (aE (iJ ([] ++ []) (c8 (f2 (gv 2) (f1 (gv 1) c9) (cN true)))
 (aE (bE 2 [] (f1 (gv 1) c9))
 (aE (bE 3 [] (aH af))
 (aE (c5 (.two 4 5) [1] (bV (gv 1))
 (bE 3 ([] ++ ([] ++ [4])) (f2 (gv 3) (aS 2 [5,4] (.two 0 1) (bV (gv 1)) (c8 (f2 (gv 0) (gv 2) (cN false))) (bW (aa (gv 3) (aa (gv 1) af)))) dw)))
 (bE 1 ([] ++ []) (f1 (f2 (gv 1) (gv 3) dw) cc))))) 1000)
 (bC (f1 (gv 1) lV)))))
def fI (cm:List D->FR)(av aN:List D->Int->FB):SF:=(aE (bE 2 ([] ++ ([1] ++ [])) (f2 (cst (.int 1)) (gq 0 av (aa (gv 1) af)) cO))
 (aE (bE 3 ([] ++ []) (gq 0 aN (aa (f1 (gv 2) cR) af)))
 (aE (bE 4 (([] ++ ([] ++ ([] ++ ([] ++ [])))) ++ ([] ++ [])) (f2 (aH (aa (cst (.int 2)) (aa (cst (.int 3)) (aa (cst (.int 4)) (aa (cst (.int 7)) af))))) (gq 0 av (aa (cst (.int 4)) af)) cT))
 (aE (jv 5 [] (aH af))
 (aE (c5 (.nm 6) [] (gM (gv 2))
 (c5 (.nm 7) (([] ++ []) ++ []) (pH (f2 (gv 6) (cst (.int 1)) cO) (gv 2))
 (jS (([4] ++ []) ++ []) (c8 (f2 (gq 0 av (aa (gv 4) af)) (cst (.int 0)) (cN false)))
 (rG 5 (([] ++ []) ++ (([] ++ []) ++ [])) (bW (aa (f2 (gv 3) (gv 6) cT) (aa (f2 (gv 3) (gv 7) cT) af))))
 lP)))
 (bC (bW (aa (gv 2) (aa (aB cm (aa (gv 5) af)) af)))))))))
def kW:SF:=(bC (eJ (f2 (gv 1) (gv 2) (cN true)) (eJ (f2 (bW (aa (gv 1) (aa (gv 2) af))) (f2 (gv 0) (cst (.int 1)) cT) (BA true)) (f2 (bW (aa (gv 2) (aa (gv 1) af))) (f2 (gv 0) (cst (.int 1)) cT) (BA true)))))
def pz:D->Bool
 | .int _=>true
 |_=>false
def js:List D->FR
 | [d]=>if bG d=true then .bad else .ok (.bool (pz d)) false
 |_=>.bad
def kH {d:D}(h:bG d=false):js [d]=.ok (.bool (pz d)) false:=Ki (by rw[h];exact KC)
def v7 (ds:List D)(h:js ds≠.bad):bF 1 1 nV ds=js ds:=by
 unfold js at h
 split at h
 ·rename_i d
  cases q:bG d with
  |true=>rw[q] at h;exact absurd rfl h
  |false=>
   rw[kH q]
   have e1:fG "int" d=some (.bool (Bs d "int")):=by unfold fG;rw[q];rfl
   have e2:fG "bool" d=some (.bool (Bs d "bool")):=by unfold fG;rw[q];rfl
   show fin (bC (eJ (f1 (gv 0) (fG "int")) (f1 (f1 (gv 0) (fG "bool")) sF)) [.fz d] 0)=_
   unfold bC eJ f1 gv
   simp only[qM,uM,uK,List.getElem?_cons_zero,uF,rg,ky,e1,e2]
   cases d <;> rfl
 ·exact absurd rfl h
def dI (d:D)(n:Int):Bool:=match d with
 | .int i=>decide (0<=i/\i < n)
 |_=>false
def fm:List D->FR
 | [d,.int n]=>if bG d=true then .bad else .ok (.bool (dI d n)) false
 |_=>.bad
def wK {d:D}{n:Int}(h:bG d=false):fm [d,.int n]=.ok (.bool (dI d n)) false:=Ki (by rw[h];exact KC)
def tH {i lo n:Int}{vs:List Nv}{β:Int}{fa fb fc:VF D}{g':D->D->Option D}{q:Bool}(ha:fa vs β=.ok (.int lo) β)(hb:fb vs β=.ok (.int i) β)(hc:fc vs β=.ok (.int n) β)(hq:g' (.int i) (.int n)=some (.bool q)):i7 fa fb fc zu g' vs β=.ok (.bool (decide (lo<=i) && q)) β:=by
 unfold i7
 rw[ha];dsimp only[R.bnd];rw[hb];dsimp only[R.bnd]
 show (match (some (PyData.bool (decide (lo<=i))):Option D) with
  |some (.bool true)=>_
  |some (.bool false)=>_
  |_=>_)=_
 by_cases h:lo<=i
 ·rw[Kh h]
  dsimp only
  rw[hc]
  dsimp only[R.bnd]
  rw[hq];rfl
 ·rw[Kr h];rfl
def Ct (ds:List D)(h:fm ds≠.bad):bF 2 2 (nX js) ds=fm ds:=by
 unfold fm at h
 split at h
 ·rename_i d n
  cases q:bG d with
  |true=>rw[q] at h;exact absurd rfl h
  |false=>
   rw[wK q]
   show fin (bC (eJ (aB js (aa (gv 0) af)) (i7 (cst (.int 0)) (gv 0) (gv 1) zu zc)) [.fz d,.fz (.int n)] 0)=_
   unfold bC eJ aB
   simp only[qM,uM,uK,cg,wR,DX,List.getElem?_cons_zero,uF,rg,ky,kH q]
   cases d with
   |int i=>
    show fin (toS (i7 (cst (.int 0)) (gv 0) (gv 1) zu zc [.da (.int i),.da (.int n)] 0) _)=_
    rw[tH (lo:=0) (i:=i) (n:=n) rfl rfl rfl rfl]
    show FR.ok (.bool (decide (0<=i) && decide (i < n))) false=.ok (.bool (decide (0<=i/\i < n))) false
    rw[Bool.decide_and]
   |_=>rfl
 ·exact absurd rfl h
def DZ (d:D):Bool:=match d with
 | .int i=>decide (1<=i/\i<=8)
 |_=>false
def jZ:List D->FR
 | [d]=>if bG d=true then .bad else .ok (.bool (DZ d)) false
 |_=>.bad
def zl {d:D}(h:bG d=false):jZ [d]=.ok (.bool (DZ d)) false:=Ki (by rw[h];exact KC)
def Ei (ds:List D)(h:jZ ds≠.bad):bF 1 1 (pX js) ds=jZ ds:=by
 unfold jZ at h
 split at h
 ·rename_i d
  cases q:bG d with
  |true=>rw[q] at h;exact absurd rfl h
  |false=>
   rw[zl q]
   show fin (bC (eJ (aB js (aa (gv 0) af)) (i7 (cst (.int 1)) (gv 0) (cst (.int 8)) zu zu)) [.fz d] 0)=_
   unfold bC eJ aB
   simp only[qM,uM,uK,cg,wR,DX,List.getElem?_cons_zero,uF,rg,ky,kH q]
   cases d with
   |int i=>
    show fin (toS (i7 (cst (.int 1)) (gv 0) (cst (.int 8)) zu zu [.da (.int i)] 0) _)=_
    rw[tH (lo:=1) (i:=i) (n:=8) rfl rfl rfl rfl]
    show FR.ok (.bool (decide (1<=i) && decide (i<=8))) false=.ok (.bool (decide (1<=i/\i<=8))) false
    rw[Bool.decide_and]
   |_=>rfl
 ·exact absurd rfl h
def pairF:List D->FR
 | [d,.int n]=>(match ni d with
  |some p=>.ok (.bool (decide ((0<=p.1/\p.1 < n)/\(0<=p.2/\p.2 < n)))) false
  |none=>.bad)
 |_=>.bad
def zx (p:Pr)(n:Int):pairF [aL p,.int n]=.ok (.bool (decide ((0<=p.1/\p.1 < n)/\(0<=p.2/\p.2 < n)))) false:=rfl
def EG (ds:List D)(h:pairF ds≠.bad):bF 2 2 (pF fm) ds=pairF ds:=by
 unfold pairF at h
 split at h
 ·rename_i d n
  cases q:ni d with
  |none=>rw[q] at h;exact absurd rfl h
  |some p=>
   obtain rfl:=se q
   rw[zx]
   obtain⟨a,b⟩:=p
   show fin (toS (eJ (aB fm (aa (f2 (gv 0) (cst (.int 0)) cT) (aa (gv 1) af))) (aB fm (aa (f2 (gv 0) (cst (.int 1)) cT) (aa (gv 1) af))) [.da (.tuple [.int a,.int b]),.da (.int n)] 0) λd β'=>.rt d false β')=_
   have e1:aB fm (aa (f2 (gv 0) (cst (.int 0)) cT) (aa (gv 1) af)) [.da (.tuple [.int a,.int b]),.da (.int n)] 0=.ok (.bool (decide (0<=a/\a < n))) 0:=rfl
   have e2:aB fm (aa (f2 (gv 0) (cst (.int 1)) cT) (aa (gv 1) af)) [.da (.tuple [.int a,.int b]),.da (.int n)] 0=.ok (.bool (decide (0<=b/\b < n))) 0:=rfl
   unfold eJ
   rw[e1]
   dsimp only[R.bnd]
   by_cases c:0<=a/\a < n
   ·rw[Kh c,e2]
    show FR.ok (.bool (decide (0<=b/\b < n))) false=.ok (.bool (decide ((0<=a/\a < n)/\(0<=b/\b < n)))) false
    simp[c]
   ·rw[Kr c]
    show FR.ok (.bool false) false=.ok (.bool (decide ((0<=a/\a < n)/\(0<=b/\b < n)))) false
    simp[c]
 ·exact absurd rfl h
def aA (n:Nat)(l:List Pr):D:=.tuple [.int n,.tuple (l.map aL)]
open Classical in
noncomputable def qk (f:Nat->List Pr->FR):D->FR:=λd=>if h:∃nl:Nat×List Pr,d=aA nl.1 nl.2/\OM.Ord nl.1 nl.2 then f (Classical.choose h).1 (Classical.choose h).2 else .bad
def CC {p q:Pr}(h:aL p=aL q):p=q:=by
 obtain⟨a,b⟩:=p
 obtain⟨c,d⟩:=q
 unfold aL at h
 simp at h
 rw[h.1,h.2]
theorem l7:∀{l m:List Pr},l.map aL=m.map aL->l=m
 | [],[],_=>rfl
 | [],_ :: _,h=>by cases h
 |_ :: _,[],h=>by cases h
 |p :: l,q :: m,h=>by
  simp only[K2,List.cons.injEq] at h
  rw[CC h.1,l7 h.2]
def AM {n m:Nat}{l k:List Pr}(h:aA n l=aA m k):n=m/\l=k:=by
 unfold aA at h
 simp only[PyData.tuple.injEq,List.cons.injEq,int.injEq,and_true] at h
 exact⟨by omega,l7 h.2⟩
def sd {f:Nat->List Pr->FR}{n:Nat}{l:List Pr}(O:OM.Ord n l):qk f (aA n l)=f n l:=by
 unfold qk
 have h:∃nl:Nat×List Pr,aA n l=aA nl.1 nl.2/\OM.Ord nl.1 nl.2:=⟨(n,l),rfl,O⟩
 rw[dif_pos h]
 obtain⟨e,_⟩:=Classical.choose_spec h
 obtain⟨e1,e2⟩:=AM e
 rw[<-e1,<-e2]
def td {f:Nat->List Pr->FR}{d:D}(h:qk f d≠.bad):∃n l,d=aA n l/\OM.Ord n l:=by
 unfold qk at h
 by_cases q:∃nl:Nat×List Pr,d=aA nl.1 nl.2/\OM.Ord nl.1 nl.2
 ·obtain⟨nl,e,O⟩:=q;exact⟨nl.1,nl.2,e,O⟩
 ·rw[dif_neg q] at h;exact absurd rfl h
noncomputable def cI:List D->FR
 | [.int n,d]=>(match hE d with
  |some ds=>(match fo ds with
   |some ps=>(open Classical in if 1<=n/\n<=8/\OM.Wn n.toNat ps then .ok (.tuple ((OM.bP n.toNat (OM.Tr (OM.Mem ps))).map aL)) false else .bad)
   |none=>.bad)
  |none=>.bad)
 |_=>.bad
def z0 {n:Nat}{ps:List Pr}(h1:1<=n)(h8:n<=8)(w:OM.Wn n ps):cI [.int n,.tuple (ps.map aL)]=.ok (.tuple ((OM.bP n (OM.Tr (OM.Mem ps))).map aL)) false:=by
 unfold cI
 simp only[hE,fV]
 rw[Kf ⟨by omega,by omega,by rw[K6];exact w⟩,K6]
def jb:List D->FR
 | [.tuple ds]=>(match fo ds with
  |some ps=>if ps.length<=1000 then .ok (.bool (ps.any λp=>decide (p.1=p.2))) false else .bad
  |none=>.bad)
 |_=>.bad
theorem fR {α:Type}(f:α->Bool):∀l:List α,jE (l.map λx=>PyData.bool (f x))=some (l.map f)
 | []=>rfl
 |x :: l=>by
  show (jE (l.map λx=>PyData.bool (f x))).map (f x :: ·)=_
  rw[fR f l];rfl
def Ez (ds:List D)(h:jb ds≠.bad):bF 1 1 oo ds=jb ds:=by
 unfold jb at h
 split at h
 ·rename_i ds
  cases q:fo ds with
  |none=>rw[q] at h;exact absurd rfl h
  |some ps=>
   rw[q] at h
   dsimp only at h
   by_cases hz:ps.length<=1000
   case neg=>rw[Ki hz] at h;exact absurd rfl h
   obtain rfl:=jQ q
   have e:jb [.tuple (ps.map aL)]=.ok (.bool (ps.any λp=>decide (p.1=p.2))) false:=by
    unfold jb;simp only[fV];rw[Kf hz]
   rw[e]
   have ec:aS 2 [] (.two 0 1) (bV (gv 0)) mB (f2 (gv 0) (gv 1) (cN false)) [.da (.tuple (ps.map aL))] 0=.ok (.list (ps.map λp=>PyData.bool (decide (p.1=p.2)))) 0:=by
    exact fW (l:=ps) (e:=aL) (λp=>PyData.bool (decide (p.1=p.2))) rfl hz λp hp=>⟨_,rfl,rfl⟩
   show fin (toS ((aS 2 [] (.two 0 1) (bV (gv 0)) mB (f2 (gv 0) (gv 1) (cN false)) [.da (.tuple (ps.map aL))] 0).bnd λx β1=>R.of (b5 (λbs=>bs.any id) x) β1) λd β'=>.rt d false β')=_
   rw[ec]
   simp only[ky,b5]
   rw[fR]
   simp[fin,List.any_map]
 ·exact absurd rfl h
def pD (p:Pr):SeqAt.shaped (aL p)=true:=rfl
theorem wJ:∀l:List Pr,PyData.canLayAll0 (l.map aL)=true
 | []=>rfl
 |p :: l=>by
  show ((aL p).canLay0 && PyData.canLayAll0 (l.map aL))=true
  rw[wJ l];rfl
theorem wq:∀l:List Pr,PyData.depthAll (l.map aL)<=1
 | []=>by show (0:Nat)<=1;omega
 |p :: l=>by
  show max (aL p).depth (PyData.depthAll (l.map aL))<=1
  have h1:(aL p).depth=1:=by simp[aL,PyData.depth,PyData.depthAll]
  have h2:=wq l
  omega
def nu (l:List Pr):SeqAt.shaped (.tuple (l.map aL))=true:=by
 unfold SeqAt.shaped
 have h1:(PyData.tuple (l.map aL)).canLay0=true:=by simp only[PyData.canLay0];exact wJ l
 have h2:(PyData.tuple (l.map aL)).depth<=64:=by simp only[PyData.depth];have:=wq l;omega
 rw[h1,Kh h2];rfl
def AD (p q:Pr):PyData.eqv (aL p) (aL q)=decide (p=q):=by
 obtain⟨a,b⟩:=p
 obtain⟨c,d⟩:=q
 simp only[aL,PyData.eqv,PyData.eqvAll,Bool.and_true]
 rw[LA]
 simp
theorem xi:∀l m:List Pr,PyData.eqvAll (l.map aL) (m.map aL)=decide (l=m)
 | [],[]=>rfl
 | [],_ :: _=>rfl
 |_ :: _,[]=>rfl
 |p :: l,q :: m=>by
  show (PyData.eqv (aL p) (aL q) && PyData.eqvAll (l.map aL) (m.map aL))=_
  rw[AD,xi l m,LA]
  simp
def wA {n:Nat}{l:List Pr}(O:OM.Ord n l):l.length < 64:=by
 have h8:=O.hi
 have e:=O.closed
 by_cases h:l.length < 64
 ·exact h
 ·exfalso
  have h1:l.length<=n * n:=by rw[<-e];exact OM.AV _ _
  have h2:n * n<=64:=Lw h8 h8
  have hn:n=8:=by
   by_cases h7:n<=7
   ·have:n * n<=7 * 7:=Lw h7 h7
    omega
   ·omega
  have hlen:l.length=n * n:=by subst hn;omega
  have hg:l=OM.fZ n:=by
   refine OM.sub_eq O.ris (OM.sN n) (λx hx=>OM.fX.mpr (O.wn x hx)) ?_
   rw[hlen];unfold OM.fZ;simp
  have:((0:Int),(0:Int))∈l:=by rw[hg];exact OM.fX.mpr ⟨⟨by omega,by omega⟩,by omega,by omega⟩
  exact O.irr 0 this
def Ad {n:Nat}(h1:1<=n)(h8:n<=8):jZ [.int n]=.ok (.bool true) false:=by
 rw[zl rfl]
 show FR.ok (.bool (decide (1<=(n:Int)/\(n:Int)<=8))) false=_
 rw[Kh (by omega)]
def AQ (neg:Bool)(l m:List Pr):cN neg (.tuple (l.map aL)) (.tuple (m.map aL))=some (.bool (if neg then !decide (l=m) else decide (l=m))):=by
 unfold cN
 rw[nu,nu]
 simp only[Mu,Lg,PyData.eqv,xi]
def Dw {n:Nat}{l:List Pr}(O:OM.Ord n l):jb [.tuple (l.map aL)]=.ok (.bool false) false:=by
 have hl:=wA O
 unfold jb
 simp only[fV]
 rw[Kf (by omega)]
 have:(l.any λp=>decide (p.1=p.2))=false:=by
  rw[List.any_eq_false]
  intro p hp
  simp only[K0]
  intro e
  obtain⟨a,b⟩:=p
  simp only at e
  subst e
  exact O.irr a hp
 rw[this]
def xW {n:Nat}{l:List Pr}(O:OM.Ord n l):bF 3 1 (gi jZ pairF cI jb) [aA n l]=.ok (.bool true) false:=by
 have hl:=wA O
 show fin (gi jZ pairF cI jb [.fz (aA n l),.no,.no] 0)=_
 unfold gi
 rw[aJ (env':=[.fz (aA n l),.no,.no]) (β':=0) (by rfl)]
 rw[aJ (env':=[.fz (aA n l),.fz (.int n),.no]) (β':=0) (by rfl)]
 rw[aJ (env':=[.fz (aA n l),.fz (.int n),.fz (.tuple (l.map aL))]) (β':=0) (by rfl)]
 have e4:aB jZ (aa (gv 1) af) [.da (aA n l),.da (.int n),.da (.tuple (l.map aL))] 0=.ok (.bool true) 0:=aY rfl (Ad O.lo O.hi)
 rw[aJ (env':=[.fz (aA n l),.fz (.int n),.fz (.tuple (l.map aL))]) (β':=0) ?h4]
 case h4=>
  refine l8 ?_
  show hG (oJ (kA (aB jZ (aa (gv 1) af)))) _ [.da (aA n l),.da (.int n),.da (.tuple (l.map aL))] 0=_
  rw[qq,rE,qp,e4]
  rfl
 have e5:aS 1 [1] (.nm 0) (bV (gv 2)) mB (aB pairF (aa (gv 0) (aa (gv 1) af))) [.da (aA n l),.da (.int n),.da (.tuple (l.map aL))] 0=.ok (.list (l.map λ_=>PyData.bool true)) 0:=by
  refine fW (l:=l) (e:=aL) (λ_=>PyData.bool true) rfl (by omega) λp hp=>⟨_,rfl,?_⟩
  refine aY (b:=false) (ds:=[aL p,.int n]) rfl ?_
  rw[zx,Kh (by have:=O.wn p hp;exact this)]
 rw[aJ (env':=[.fz (aA n l),.fz (.int n),.fz (.tuple (l.map aL))]) (β':=0) ?h5]
 case h5=>
  refine l8 ?_
  show oJ (kA (f1 (aS 1 [1] (.nm 0) (bV (gv 2)) mB (aB pairF (aa (gv 0) (aa (gv 1) af)))) (b5 λbs=>bs.all id))) [.da (aA n l),.da (.int n),.da (.tuple (l.map aL))] 0=_
  rw[rE,qp,bO (d:=.bool true) e5 (by simp only[b5];rw[fR];simp)]
  rfl
 have e6:aB cI (aa (gv 1) (aa (gv 2) af)) [.da (aA n l),.da (.int n),.da (.tuple (l.map aL))] 0=.ok (.tuple (l.map aL)) 0:=aY rfl (by rw[z0 O.lo O.hi O.wn,O.closed])
 have e7:aB jb (aa (gv 2) af) [.da (aA n l),.da (.int n),.da (.tuple (l.map aL))] 0=.ok (.bool false) 0:=aY rfl (Dw O)
 show fin (toS (eJ (f2 (gv 2) (aB cI (aa (gv 1) (aa (gv 2) af))) (cN false)) (f1 (aB jb (aa (gv 2) af)) sF) [.da (aA n l),.da (.int n),.da (.tuple (l.map aL))] 0) _)=_
 unfold eJ
 rw[aF (d:=.bool true) (x:=.tuple (l.map aL)) rfl e6 (by rw[AQ];simp)]
 dsimp only[R.bnd]
 rw[bO (d:=.bool true) e7 rfl]
 rfl
noncomputable def dg:List D->FR
 | [d]=>qk (λ_ _=>.ok (.bool true) false) d
 |_=>.bad
def pS {n:Nat}{l:List Pr}(O:OM.Ord n l):dg [aA n l]=.ok (.bool true) false:=by simp only[dg];exact sd O
def vU (ds:List D)(h:dg ds≠.bad):bF 3 1 (gi jZ pairF cI jb) ds=dg ds:=by
 unfold dg at h
 split at h
 ·obtain⟨n,l,rfl,O⟩:=td h
  rw[xW O,pS O]
 ·exact absurd rfl h
noncomputable def nQ:List D->FR
 | [d]=>qk (λ_ _=>.ok .none false) d
 |_=>.bad
def Bi {n:Nat}{l:List Pr}(O:OM.Ord n l):nQ [aA n l]=.ok .none false:=by simp only[nQ];exact sd O
def C9 (ds:List D)(h:nQ ds≠.bad):bF 1 1 (fC dg) ds=nQ ds:=by
 unfold nQ at h
 split at h
 ·obtain⟨n,l,rfl,O⟩:=td h
  rw[Bi O]
  have e:aB dg (aa (gv 0) af) [.da (aA n l)] 0=.ok (.bool true) 0:=aY (ds:=[aA n l]) rfl (pS O)
  show fin (fC dg [.fz (aA n l)] 0)=_
  unfold fC
  rw[l8 (β':=0)]
  ·rfl
  ·show oJ (kA (aB dg (aa (gv 0) af))) [.da (aA n l)] 0=_
   rw[rE,qp,e];rfl
 ·exact absurd rfl h
abbrev cA (ns:List Int):D:=.dict [(.none,.list (ns.map int))]
def n5 {i j:Int}(h: -(2 ^ 64) < i/\i < 2 ^ 64):eY (.int i) (.int j)=some (.int (i * j)):=Kf (by dsimp only;rw[Kh h.1,Kh h.2];rfl)
def E3 {i j:Int}(h: -(2 ^ 64) < j/\j < 2 ^ 64):eY (.int i) (.int j)=some (.int (i * j)):=Kf (by dsimp only;rw[Kh h.1,Kh h.2,Mu,Bool.or_true])
def nU {i j:Int}(h:0 < j):lh (.int i) (.int j)=some (.int (i % j)):=Kf (Kh h)
def AE {i j:Int}(h:0 < j)(h2:j < 1073741824):zE (.int i) (.int j)=some (.int (i / j)):=Kf (by dsimp only;rw[Kh h,Kh h2];rfl)
theorem jH {α β:Type}(f:α->β)(l:List α)(i:Int):jc (l.map f) i=(jc l i).map f:=by
 unfold jc
 rw[Kb]
 cases we l.length i with
 |none=>rfl
 |some j=>simp
def q8 {α:Type}{l:List α}{k:Nat}(h:k < l.length):jc l (k:Int)=some l[k]:=iV (J6 h)
def Ft {fa fb:VF D}{vs:List Nv}{β β1 β2:Int}{i j:Int}(h:fa vs β=.ok (.int i) β1)(h':fb vs β1=.ok (.int j) β2):c8 (f2 fa fb zc) vs β=.ok (decide (i < j)) β2:=cX _ _ _ _ (aF h h' rfl)
def kT {neg:Bool}{fa fb:VF D}{vs:List Nv}{β β1 β2:Int}{i j:Int}(h:fa vs β=.ok (.int i) β1)(h':fb vs β1=.ok (.int j) β2):c8 (f2 fa fb (cN neg)) vs β=.ok (if neg then !decide (i=j) else decide (i=j)) β2:=by
 refine cX _ _ _ _ (aF h h' ?_)
 cases neg <;> rfl
def EA (ns:List Int)(k:Nat):∃z,bF 2 2 eQ [cA ns,.int k]=.ok (.int z) false:=by
 show ∃z,fin (eQ [.fz (cA ns),.fz (.int k)] 0)=.ok (.int z) false
 unfold eQ
 have e:c8 (f2 (gv 1) (f1 (gv 0) c9) zc) [.da (cA ns),.da (.int k)] 0=.ok (decide ((k:Int) < (ns.map int).length)) 0:=Ft rfl rfl
 by_cases h:k < ns.length
 ·refine⟨ns[k],?_⟩
  rw[Kh (by simp;exact h)] at e
  rw[mP (d:=.int ns[k]) (b:=false) (β':=0)]
  ·rfl
  ·rw[so e]
   show toS (f2 (gv 0) (gv 1) cT [.da (cA ns),.da (.int k)] 0) _=_
   rw[aF (x:=cA ns) (y:=.int k) (d:=.int ns[k]) (β1:=0) (β2:=0) rfl rfl]
   ·rfl
   ·show jc (ns.map int) (k:Int)=_
    rw[jH,q8 h];rfl
 ·refine⟨0,?_⟩
  rw[Kr (by simp;omega)] at e
  rw[aJ (env':=[.fz (cA ns),.fz (.int k)]) (β':=0)]
  ·rfl
  ·rw[l8 e];rfl
noncomputable def wx:List D->FR:=bF 2 2 eQ
noncomputable def zT:List D->FR:=bF 4 2 iR
abbrev uO:List Int:=[48271,69621,16807,39373,30269,40014,40692,50021,61687,71993,83869,95561,30307]
def Hv (c k:Int):∃z,zT [.int c,.int k]=.ok (.int z) false:=by
 show ∃z,fin (iR [.fz (.int c),.fz (.int k),.no,.no] 0)=.ok (.int z) false
 unfold iR
 rw[aJ (env':=[.fz (.int c),.fz (.int k),.fz (.list (uO.map int)),.no]) (β':=0) (by rfl)]
 obtain⟨j,hj⟩:∃j:Nat,k % 13=j:=⟨(k % 13).toNat,by omega⟩
 have hj13:j < uO.length:=by show j < 13;omega
 have e1:f2 (f2 (f2 (f2 (f2 (gv 0) (cst (.int 2147483647)) lh) (cst (.int 12345)) cO) (f2 (gv 2) (f2 (gv 1) (cst (.int 13)) lh) cT) eY) (f2 (cst (.int 977)) (gv 1) eY) cO) (f2 (cst (.int 7919)) (f2 (gv 1) (cst (.int 13)) zE) eY) cO [.da (.int c),.da (.int k),.da (.list (uO.map int)),.no] 0
   =.ok (.int ((c % 2147483647 + 12345) * uO[j] + 977 * k + 7919 * (k / 13))) 0:=by
  refine aF (aF (aF (aF (aF (x:=.int c) (y:=.int 2147483647) rfl rfl (nU (by omega))) rfl rfl) (aF (x:=.list (uO.map int)) rfl (aF (x:=.int k) (y:=.int 13) rfl rfl (nU (by omega))) (d:=.int uO[j]) ?_) (n5 ⟨by omega,by omega⟩)) (aF (x:=.int 977) (y:=.int k) rfl rfl (n5 ⟨by omega,by omega⟩)) rfl) (aF (x:=.int 7919) rfl (aF (x:=.int k) (y:=.int 13) rfl rfl (AE (by omega) (by omega))) (n5 ⟨by omega,by omega⟩)) rfl
  show jc (uO.map int) (k % 13)=_
  rw[hj,jH,q8 hj13];rfl
 generalize ((c % 2147483647 + 12345) * uO[j] + 977 * k + 7919 * (k / 13))=st at e1
 rw[aJ (env':=[.fz (.int c),.fz (.int k),.fz (.list (uO.map int)),.fz (.int st)]) (β':=0) ?h]
 case h=>
  show toS (f2 _ _ cO [.da (.int c),.da (.int k),.da (.list (uO.map int)),.no] 0) _=_
  rw[e1];rfl
 have e2:f2 (gv 3) (cst (.int 1000000007)) lh [.da (.int c),.da (.int k),.da (.list (uO.map int)),.da (.int st)] 0=.ok (.int (st % 1000000007)) 0:=aF rfl rfl (nU (by omega))
 rw[aJ (env':=[.fz (.int c),.fz (.int k),.fz (.list (uO.map int)),.fz (.int (st % 1000000007))]) (β':=0) ?h2]
 case h2=>
  show toS (f2 (gv 3) (cst (.int 1000000007)) lh [.da (.int c),.da (.int k),.da (.list (uO.map int)),.da (.int st)] 0) _=_
  rw[e2];rfl
 have hb: -(2 ^ 64) < st % 1000000007/\st % 1000000007 < 2 ^ 64:=⟨by omega,by omega⟩
 generalize st % 1000000007=u at hb
 have e3:f2 (f2 (f2 (f2 (gv 3) (gv 3) eY) (f2 (cst (.int 48271)) (gv 1) eY) cO) (cst (.int 1000000007)) lh) (cst (.int 7)) zE [.da (.int c),.da (.int k),.da (.list (uO.map int)),.da (.int u)] 0=.ok (.int ((u * u + 48271 * k) % 1000000007 / 7)) 0:=
  aF (aF (aF (aF (x:=.int u) (y:=.int u) rfl rfl (n5 hb)) (aF (x:=.int 48271) (y:=.int k) rfl rfl (n5 ⟨by omega,by omega⟩)) rfl) rfl (nU (by omega))) rfl (AE (by omega) (by omega))
 refine⟨(u * u + 48271 * k) % 1000000007 / 7,?_⟩
 show fin (toS (f2 _ (cst (.int 7)) zE [.da (.int c),.da (.int k),.da (.list (uO.map int)),.da (.int u)] 0) _)=_
 rw[e3];rfl
noncomputable def Fg:List D->FR:=bF 5 2 (i0 wx zT)
def Gi (ns:List Int)(k:Nat):∃z,Fg [cA ns,.int k]=.ok (.list [.int z]) true:=by
 obtain⟨c,hc⟩:=EA ns k
 show ∃z,fin (i0 wx zT [.fz (cA ns),.fz (.int k),.no,.no,.no] 0)=.ok (.list [.int z]) true
 unfold i0
 have e0:aB wx (aa (gv 0) (aa (gv 1) af)) [.da (cA ns),.da (.int k),.no,.no,.no] 0=.ok (.int c) 0:=aY rfl hc
 rw[aJ (env':=[.fz (cA ns),.fz (.int k),.fz (.int c),.no,.no]) (β':=0) ?h]
 case h=>
  show toS (aB wx _ [.da (cA ns),.da (.int k),.no,.no,.no] 0) _=_
  rw[e0];rfl
 have e1:c8 (f2 (f2 (gv 2) (cst (.int 2)) lh) (cst (.int 0)) (cN false)) [.da (cA ns),.da (.int k),.da (.int c),.no,.no] 0=.ok (decide (c % 2=0)) 0:=kT (neg:=false) (aF rfl rfl (nU (by omega))) rfl
 by_cases h:c % 2=0
 ·rw[Kh h] at e1
  refine⟨(if c < 0 then -c else c) / 2,?_⟩
  rw[mP (d:=.list [.int ((if c < 0 then -c else c) / 2)]) (b:=true) (β':=0)]
  ·rfl
  ·rw[so e1]
   show toS (aH (aa (f2 (f1 (gv 2) BS) (cst (.int 2)) zE) af) [.da (cA ns),.da (.int k),.da (.int c),.no,.no] 0) _=_
   rw[dm (ds:=[.int ((if c < 0 then -c else c) / 2)]) (β1:=0)]
   ·rfl
   ·have e2:f2 (f1 (gv 2) BS) (cst (.int 2)) zE [.da (cA ns),.da (.int k),.da (.int c),.no,.no] 0=.ok (.int ((if c < 0 then -c else c) / 2)) 0:=aF (bO (x:=.int c) rfl rfl) rfl (AE (by omega) (by omega))
    rw[cg,e2];rfl
   ·simp
 ·rw[Kr h] at e1
  rw[aJ (env':=[.fz (cA ns),.fz (.int k),.fz (.int c),.no,.no]) (β':=0) (by rw[l8 e1];rfl)]
  rw[aJ (env':=[.fz (cA ns),.fz (.int k),.fz (.int c),.fz (.int 0),.no]) (β':=0) (by rfl)]
  obtain⟨env',β',el,z,x,rfl,rfl⟩:=ik (t:=.nm 4) (m:=bE 3 (([] ++ []) ++ ([2] ++ ([4] ++ []))) (f2 (f2 (gv 3) (cst (.int 142857143)) eY) (aB zT (aa (gv 2) (aa (gv 4) af))) cO)) (ds:=cn 0 40) (k:=0)
   (λ_ env β=>∃(z:Int) (x:Sl),env= [.fz (cA ns),.fz (.int k),.fz (.int c),.fz (.int z),x]/\β=0) (env:=[.fz (cA ns),.fz (.int k),.fz (.int c),.fz (.int 0),.no]) (β:=0) ⟨0,.no,rfl,rfl⟩ (by
    rintro i d env β hi ⟨z,x,rfl,rfl⟩
    obtain⟨j,rfl⟩:∃j:Int,d=.int j:=by
     unfold cn at hi
     rw[Kk] at hi
     cases q:(List.range 40)[i]? with
     |none=>rw[q] at hi;cases hi
     |some j=>rw[q] at hi;cases hi;exact⟨_,rfl⟩
    obtain⟨y,hy⟩:=Hv c j
    refine⟨_,rfl,_,_,?_,z * 142857143 + y,.fz (.int j),rfl,rfl⟩
    show toS (f2 (f2 (gv 3) (cst (.int 142857143)) eY) (aB zT (aa (gv 2) (aa (gv 4) af))) cO [.da (cA ns),.da (.int k),.da (.int c),.da (.int z),.da (.int j)] 0) _=_
    rw[aF (d:=.int (z * 142857143 + y)) (aF (x:=.int z) (y:=.int 142857143) (β1:=0) (β2:=0) rfl rfl (E3 ⟨by omega,by omega⟩)) (aY (ds:=[.int c,.int j]) (β1:=0) rfl hy) rfl]
    rfl)
  refine⟨z,?_⟩
  rw[aJ (env':=[.fz (cA ns),.fz (.int k),.fz (.int c),.fz (.int z),x]) (β':=0) ?h2]
  case h2=>exact el
  show fin (toS (aH (aa (gv 3) af) [.da (cA ns),.da (.int k),.da (.int c),.da (.int z),x.val] 0) _)=_
  rw[dm (ds:=[.int z]) (β1:=0) rfl (by simp)]
  rfl
noncomputable def iW:List D->Int->FB:=k8 4 1 (bL bg)
theorem lay_ints:∀ns:List Int,PyData.canLayAll0 (ns.map int)=true
 | []=>rfl
 |n :: ns=>by
  show ((int n).canLay0 && PyData.canLayAll0 (ns.map int))=true
  rw[lay_ints ns];rfl
theorem nC:∀ns:List Int,PyData.depthAll (ns.map int)=0
 | []=>rfl
 |n :: ns=>by
  show max (int n).depth (PyData.depthAll (ns.map int))=0
  rw[nC ns];rfl
def shaped_ints (ns:List Int):SeqAt.shaped (.list (ns.map int))=true:=by
 unfold SeqAt.shaped
 have h1:(PyData.list (ns.map int)).canLay0=true:=by simp only[PyData.canLay0];exact lay_ints ns
 have h2:(PyData.list (ns.map int)).depth<=64:=by simp only[PyData.depth];rw[nC];omega
 rw[h1,Kh h2];rfl
theorem tK:∀l m:List Int,PyData.eqvAll (l.map int) (m.map int)=decide (l=m)
 | [],[]=>rfl
 | [],_ :: _=>rfl
 |_ :: _,[]=>rfl
 |p :: l,q :: m=>by
  show ((p == q) && PyData.eqvAll (l.map int) (m.map int))=_
  rw[tK l m,LA]
  simp
def fU (neg:Bool)(l m:List Int):cN neg (.list (l.map int)) (.list (m.map int))=some (.bool (if neg then !decide (l=m) else decide (l=m))):=by
 unfold cN
 rw[shaped_ints,shaped_ints]
 simp only[Mu,Lg,PyData.eqv,tK]
theorem dG {α:Type}:∀{l:List α} {k:Nat} {x:α},l[k]? =some x->(x :: l.eraseIdx k).Perm l
 | [],_,_,h=>by simp at h
 |y :: l,0,x,h=>by simp at h;subst h;exact List.Perm.refl _
 |y :: l,k + 1,x,h=>by
  have h:l[k]? =some x:=by simpa using h
  have ih:=dG h
  show (x :: y :: l.eraseIdx k).Perm (y :: l)
  exact (List.Perm.swap y x _).trans (ih.cons y)
theorem lI {α β:Type}(f:α->β):∀(l:List α) (k:Nat),(l.map f).eraseIdx k=(l.eraseIdx k).map f
 | [],_=>rfl
 |_ :: _,0=>rfl
 |x :: l,k + 1=>by simp[lI f l k]
def BX (ns:List Int)(hz:ns.length<=100)(β:Int):∃(ms:List Int) (β':Int),iW [.list (ns.map int)] β=.ok (.list (ms.map int)) true β'/\ms.Perm ns:=by
 show ∃(ms:List Int) (β':Int),qE (bL bg [.bx,.fz (.list (ns.map int)),.no,.no] β)=.ok (.list (ms.map int)) true β'/\ms.Perm ns
 unfold bL
 rw[aJ (env':=[.bx,.fz (.list (ns.map int)),.ow (.list (ns.map int)),.no]) (β':=β) (by rfl)]
 have ez:aH af [Nv.bx,.da (.list (ns.map int)),.da (.list (ns.map int)),.no] β=.ok (.list []) β:=dm rfl (by simp)
 rw[aJ (env':=[.bx,.fz (.list (ns.map int)),.ow (.list (ns.map int)),.ow (.list [])]) (β':=β) ?h]
 case h=>
  show toS (aH af [Nv.bx,.da (.list (ns.map int)),.da (.list (ns.map int)),.no] β) _=_
  rw[ez];rfl
 obtain⟨env',β',ew,ms,rfl,hp⟩:=iS (L:=[] ++ []) (t:=c8 (f2 (gv 2) (aH af) (cN true))) (m:=fy 3 2 ([] ++ []) (gq 0 bg (aa (f1 (gv 2) c9) af)))
  (λk env β=>∃ls ms:List Int,env= [.bx,.fz (.list (ns.map int)),.ow (.list (ls.map int)),.ow (.list (ms.map int))]/\(ms ++ ls).Perm ns/\k=ls.length)
  (λenv β=>∃ms:List Int,env= [.bx,.fz (.list (ns.map int)),.ow (.list []),.ow (.list (ms.map int))]/\ms.Perm ns) (n:=1000) (k:=ns.length) (env:=[.bx,.fz (.list (ns.map int)),.ow (.list (ns.map int)),.ow (.list [])]) (β:=β) (by omega) ⟨ns,[],rfl,by simp,rfl⟩ (by
   rintro k env β ⟨ls,ms,rfl,hp,rfl⟩
   have e1:aH af [Nv.bx,.da (.list (ns.map int)),.da (.list (ls.map int)),.da (.list (ms.map int))] β=.ok (.list (([]:List Int).map int)) β:=dm rfl (by simp)
   have et:c8 (f2 (gv 2) (aH af) (cN true)) [Nv.bx,.da (.list (ns.map int)),.da (.list (ls.map int)),.da (.list (ms.map int))] β=.ok (!decide (ls= [])) β:=
    cX _ _ _ _ (aF (x:=.list (ls.map int)) rfl e1 (by rw[fU];rfl))
   refine⟨_,_,et,?_⟩
   have hlen:=hp.length_eq
   rw[Ku] at hlen
   cases ls with
   |nil=>exact .inl ⟨rfl,ms,rfl,by simpa using hp⟩
   |cons y ys=>
    refine .inr ⟨rfl,?_⟩
    have hm:(0:Int) < ((y :: ys).length:Nat)/\(((y :: ys).length:Nat):Int) < 1073741824:=by
     have:(y :: ys).length<=100:=by omega
     constructor
     ·simp
     ·omega
    obtain⟨j,hj⟩:∃j:Nat,β % (((y :: ys).length:Nat):Int)=j:=⟨(β % (((y :: ys).length:Nat):Int)).toNat,by have:=L7 β (b:=(((y :: ys).length:Nat):Int)) (by omega);omega⟩
    have hj2:j < (y :: ys).length:=by have:=L3 β hm.1;omega
    have ef:gq 0 bg (aa (f1 (gv 2) c9) af) [Nv.bx,.da (.list (ns.map int)),.da (.list ((y :: ys).map int)),.da (.list (ms.map int))] β=.ok (.int (j:Int)) (β / (((y :: ys).length:Nat):Int)):=by
     refine cv (ds:=[.int (((y :: ys).length:Nat):Int)]) (b:=false) (by rfl) ?_ (by rw[iL hm.1 hm.2,hj])
     show R.ok [int ((((y :: ys).map int).length:Nat):Int)] β=_
     rw[Kb]
    have hpop:tq ((y :: ys).map int) (.int (j:Int))=some (.int (y :: ys)[j],((y :: ys).eraseIdx j).map int):=by
     unfold tq
     dsimp only
     rw[Kf ⟨by omega,by omega⟩]
     have es:seqIndex? (j:Int) ((y :: ys).map int).length=some j:=by
      rw[Kb]
      exact PySem.StrLaws.seqIndex_nonneg (by omega) (by omega)
     rw[es]
     dsimp only
     rw[Kk,J6 hj2,lI];rfl
    refine⟨[.bx,.fz (.list (ns.map int)),.ow (.list (((y :: ys).eraseIdx j).map int)),.ow (.list ((ms ++ [(y :: ys)[j]]).map int))],β / (((y :: ys).length:Nat):Int),((y :: ys).eraseIdx j).length,?_,?_,(y :: ys).eraseIdx j,ms ++ [(y :: ys)[j]],rfl,?_,rfl⟩
    ·show fy 3 2 ([] ++ []) (gq 0 bg (aa (f1 (gv 2) c9) af)) [.bx,.fz (.list (ns.map int)),.ow (.list ((y :: ys).map int)),.ow (.list (ms.map int))] β=_
     rw[nF (ds:=ms.map int) (es:=(y :: ys).map int) (by rfl) (by rfl) (by decide) ef (by rfl) hpop (by rw[Kb];omega),Ls]
     rfl
    ·rw[List.length_eraseIdx]
     rw[Kf hj2]
     show (y :: ys).length - 1 < (y :: ys).length
     simp
    ·rw[LU]
     exact (List.Perm.append_left ms (dG (J6 hj2))).trans hp)
 refine⟨ms,β',?_,hp⟩
 rw[aJ ew]
 rfl
def Gf {n:Nat}{l:List Pr}(h8:n<=8)(w:OM.Wn n l):OM.bP 8 (OM.Mem l)=OM.bP n (OM.Mem l):=by
 refine OM.i6 (OM.cP _ _) (OM.cP _ _) λx=>?_
 rw[OM.aU,OM.aU]
 constructor
 ·rintro⟨_,h⟩;exact⟨w x h,h⟩
 ·rintro⟨h1,h⟩;exact⟨⟨⟨h1.1.1,by omega⟩,h1.2.1,by omega⟩,h⟩
def Dp {n:Nat}{l:List Pr}(h1:1<=n)(h8:n<=8)(w:OM.Wn n l)(nd:l.Nodup)(irr:∀a,(a,a)∉l):l.length < 64:=by
 have:=OM.nh (l:=(0,0) :: l) (m:=OM.fZ n) (KI.mpr ⟨irr 0,nd⟩) (λx hx=>by
  rcases Ke.mp hx with e |e
  ·subst e;exact OM.fX.mpr ⟨⟨by simp,by simp;omega⟩,by simp,by simp;omega⟩
  ·exact OM.fX.mpr (w x e))
 have hg:(OM.fZ n).length=n * n:=by unfold OM.fZ;simp
 have hn:n * n<=64:=Lw h8 h8
 rw[hg,KG] at this
 omega
def Fu {n:Nat}{l:List Pr}(h8:n<=8)(w:OM.Wn n l):l.all FZ=true:=by
 rw[KP]
 intro p hp
 have:=w p hp
 unfold FZ
 rw[Kh this.1.1,Kh (by omega:p.1 < 8),Kh this.2.1,Kh (by omega:p.2 < 8)];rfl
def lX {n:Nat}{l:List Pr}{d:D}(h8:n<=8)(w:OM.Wn n l)(hl:(OM.bP n (OM.Mem l)).length < 64)(hd:hE d=some (l.map aL)):cc d=some (.list ((OM.bP n (OM.Mem l)).map aL)):=by
 unfold cc
 rw[hd]
 simp only[fV]
 rw[Gf h8 w,Kf ⟨Fu h8 w,hl⟩]
def uA (l:List Pr)(p:Pr):List Pr:=(l.filter λq=>decide (q.1=p.2)).map λq=>(p.1,q.2)
def wB (l:List Pr)(p:Pr):(uA l p).length<=l.length:=by unfold uA;rw[Kb];exact L9 ..
theorem tQ (l m:List Pr):(m.flatMap (uA l)).length<=m.length * l.length:=by
 induction m with
 |nil=>simp
 |cons p m ih=>
  rw[MY,Ku,KG,Nat.succ_mul]
  have:=wB l p
  omega
def mX {a b:List D}(h:a.length + b.length<=10000):dw (.list a) (.list b)=some (.list (a ++ b)):=Kf (by rw[KH];omega)
noncomputable def hZ:List D->FR:=bF 6 1 dX
def x8 {n:Nat}{ps:List Pr}(h1:1<=n)(h8:n<=8)(w:OM.Wn n ps)(irr:∀a,¬OM.Tr (OM.Mem ps) a a):hZ [.list (ps.map aL)]=.ok (.tuple ((OM.bP n (OM.Tr (OM.Mem ps))).map aL)) false:=by
 have blen:∀{l:List Pr},OM.DL n ps l->l.length < 64:=λ{l} B=>Dp h1 h8 B.wn (OM.ij B.ris) λa ha=>irr a (B.sup _ ha)
 show fin (dX [.fz (.list (ps.map aL)),.no,.no,.no,.no,.no] 0)=_
 unfold dX
 have B0:=OM.yR (ps:=ps) w
 have e0:f1 (gv 0) cc [.da (.list (ps.map aL)),.no,.no,.no,.no,.no] 0=.ok (.list ((OM.bP n (OM.Mem ps)).map aL)) 0:=bO rfl (lX h8 w (blen B0) rfl)
 rw[aJ (env':=[.fz (.list (ps.map aL)),.fz (.list ((OM.bP n (OM.Mem ps)).map aL)),.no,.no,.no,.no]) (β':=0) ?h0]
 case h0=>
  show toS (f1 (gv 0) cc [.da (.list (ps.map aL)),.no,.no,.no,.no,.no] 0) _=_
  rw[e0];rfl
 rw[aJ (env':=[.fz (.list (ps.map aL)),.fz (.list ((OM.bP n (OM.Mem ps)).map aL)),.fz (.int (-1)),.no,.no,.no]) (β':=0) (by rfl)]
 obtain⟨env',β',ew,rfl,x,sz,a,b,rfl⟩:=iS (L:=[] ++ []) (t:=c8 (f2 (gv 2) (f1 (gv 1) c9) (cN true)))
  (m:=aE (bE 2 [] (f1 (gv 1) c9)) (aE (bE 3 [] (aH af)) (aE (c5 (.two 4 5) [1] (bV (gv 1)) (bE 3 ([] ++ ([] ++ [4])) (f2 (gv 3) (aS 2 [5,4] (.two 0 1) (bV (gv 1)) (c8 (f2 (gv 0) (gv 2) (cN false))) (bW (aa (gv 3) (aa (gv 1) af)))) dw))) (bE 1 ([] ++ []) (f1 (f2 (gv 1) (gv 3) dw) cc)))))
  (λk env β=>β=0/\∃(l:List Pr) (sz:Int) (x a b:Sl),env= [.fz (.list (ps.map aL)),.fz (.list (l.map aL)),.fz (.int sz),x,a,b]/\OM.DL n ps l/\(sz= -1\/∃lp,OM.DL n ps lp/\l=OM.jB n lp/\sz=lp.length)/\k=2 * (64 - l.length) + (if sz=l.length then 0 else 1))
  (λenv β=>β=0/\∃(x sz a b:Sl),env= [.fz (.list (ps.map aL)),.fz (.list ((OM.bP n (OM.Tr (OM.Mem ps))).map aL)),sz,x,a,b])
  (n:=1000) (k:=2 * (64 - (OM.bP n (OM.Mem ps)).length) + (if (-1:Int)=(OM.bP n (OM.Mem ps)).length then 0 else 1)) (env:=[.fz (.list (ps.map aL)),.fz (.list ((OM.bP n (OM.Mem ps)).map aL)),.fz (.int (-1)),.no,.no,.no]) (β:=0)
  (by split <;> omega) ⟨rfl,_,_,_,_,_,rfl,B0,.inl rfl,rfl⟩ (by
   rintro k env β ⟨rfl,l,sz,x,a,b,rfl,B,hsz,rfl⟩
   have hl:=blen B
   have et:c8 (f2 (gv 2) (f1 (gv 1) c9) (cN true)) [.da (.list (ps.map aL)),.da (.list (l.map aL)),.da (.int sz),x.val,a.val,b.val] 0=.ok (!decide (sz=((l.map aL).length:Nat))) 0:=kT (neg:=true) rfl rfl
   rw[Kb] at et
   refine⟨_,_,et,?_⟩
   by_cases c:sz=(l.length:Nat)
   ·refine .inl ⟨by rw[Kh c];rfl,rfl,x,.fz (.int sz),a,b,?_⟩
    rcases hsz with h | ⟨lp,Bp,rfl,h⟩
    ·omega
    ·show [Sl.fz (.list (ps.map aL)),.fz (.list ((OM.jB n lp).map aL)),.fz (.int sz),x,a,b]=_
     rw[OM.zW Bp (by omega)]
   ·refine .inr ⟨by rw[Kr c];rfl,?_⟩
    obtain⟨B2,hs⟩:=OM.tW B
    have hl2:=blen B2
    have hge:l.length<=(OM.jB n l).length:=OM.nh (OM.ij B.ris) hs
    have eturn:∃x' a' b':Sl,aE (bE 2 [] (f1 (gv 1) c9)) (aE (bE 3 [] (aH af)) (aE (c5 (.two 4 5) [1] (bV (gv 1)) (bE 3 ([] ++ ([] ++ [4])) (f2 (gv 3) (aS 2 [5,4] (.two 0 1) (bV (gv 1)) (c8 (f2 (gv 0) (gv 2) (cN false))) (bW (aa (gv 3) (aa (gv 1) af)))) dw))) (bE 1 ([] ++ []) (f1 (f2 (gv 1) (gv 3) dw) cc)))) [.fz (.list (ps.map aL)),.fz (.list (l.map aL)),.fz (.int sz),x,a,b] 0
      =.nx [.fz (.list (ps.map aL)),.fz (.list ((OM.jB n l).map aL)),.fz (.int (l.length:Nat)),x',a',b'] 0:=by
     rw[aJ (env':=[.fz (.list (ps.map aL)),.fz (.list (l.map aL)),.fz (.int (l.length:Nat)),x,a,b]) (β':=0) ?g1]
     case g1=>
      show SO.nx [.fz (.list (ps.map aL)),.fz (.list (l.map aL)),.fz (.int ((l.map aL).length:Nat)),x,a,b] 0=_
      rw[Kb]
     have e3:aH af [.da (.list (ps.map aL)),.da (.list (l.map aL)),.da (.int (l.length:Nat)),x.val,a.val,b.val] 0=.ok (.list []) 0:=dm rfl (by simp)
     rw[aJ (env':=[.fz (.list (ps.map aL)),.fz (.list (l.map aL)),.fz (.int (l.length:Nat)),.fz (.list []),a,b]) (β':=0) ?g2]
     case g2=>
      show toS (aH af [.da (.list (ps.map aL)),.da (.list (l.map aL)),.da (.int (l.length:Nat)),x.val,a.val,b.val] 0) _=_
      rw[e3];rfl
     obtain⟨env2,β2,ef,rfl,a2,b2,rfl⟩:=ik (t:=.two 4 5) (m:=bE 3 ([] ++ ([] ++ [4])) (f2 (gv 3) (aS 2 [5,4] (.two 0 1) (bV (gv 1)) (c8 (f2 (gv 0) (gv 2) (cN false))) (bW (aa (gv 3) (aa (gv 1) af)))) dw)) (ds:=l.map aL) (k:=0)
      (λi env β=>β=0/\∃a b:Sl,env= [.fz (.list (ps.map aL)),.fz (.list (l.map aL)),.fz (.int (l.length:Nat)),.fz (.list (((l.take i).flatMap (uA l)).map aL)),a,b]) (env:=[.fz (.list (ps.map aL)),.fz (.list (l.map aL)),.fz (.int (l.length:Nat)),.fz (.list []),a,b]) (β:=0) ⟨rfl,a,b,rfl⟩ (by
       rintro i d env β hi ⟨rfl,a,b,rfl⟩
       rw[Kk] at hi
       cases q:l[i]? with
       |none=>rw[q] at hi;cases hi
       |some p=>
        rw[q] at hi
        cases hi
        have hil:i < l.length:=(Ks.mp q).1
        refine⟨[.fz (.list (ps.map aL)),.fz (.list (l.map aL)),.fz (.int (l.length:Nat)),.fz (.list (((l.take (0 + i)).flatMap (uA l)).map aL)),.fz (.int p.1),.fz (.int p.2)],rfl,[.fz (.list (ps.map aL)),.fz (.list (l.map aL)),.fz (.int (l.length:Nat)),.fz (.list (((l.take (0 + i + 1)).flatMap (uA l)).map aL)),.fz (.int p.1),.fz (.int p.2)],0,?_,rfl,_,_,rfl⟩
        have ec:aS 2 [5,4] (.two 0 1) (bV (gv 1)) (c8 (f2 (gv 0) (gv 2) (cN false))) (bW (aa (gv 3) (aa (gv 1) af))) [.da (.list (ps.map aL)),.da (.list (l.map aL)),.da (.int (l.length:Nat)),.da (.list (((l.take (0 + i)).flatMap (uA l)).map aL)),.da (.int p.1),.da (.int p.2)] 0=.ok (.list ((uA l p).map aL)) 0:=by
         rw[j9 (l:=l) (e:=aL) (λq=>decide (q.1=p.2)) (λq=>aL (p.1,q.2)) rfl (by omega) (β1:=0)]
         ·unfold uA;rw[map_map];rfl
         ·intro q hq
          refine⟨_,rfl,kT (neg:=false) (i:=q.1) (j:=p.2) rfl rfl,λ_=>?_⟩
          exact kK (ds:=[.int p.1,.int q.2]) rfl (by simp)
        have hk:(l.take (0 + i)).length<=63:=by rw[K4];omega
        have hfl:=tQ l (l.take (0 + i))
        have hfl2:(l.take (0 + i)).length * l.length<=63 * 63:=Lw hk (by omega)
        have hm1:=wB l p
        have e5:f2 (gv 3) (aS 2 [5,4] (.two 0 1) (bV (gv 1)) (c8 (f2 (gv 0) (gv 2) (cN false))) (bW (aa (gv 3) (aa (gv 1) af)))) dw [.da (.list (ps.map aL)),.da (.list (l.map aL)),.da (.int (l.length:Nat)),.da (.list (((l.take (0 + i)).flatMap (uA l)).map aL)),.da (.int p.1),.da (.int p.2)] 0=.ok (.list (((l.take (0 + i + 1)).flatMap (uA l)).map aL)) 0:=by
         refine aF rfl ec ?_
         rw[mX (by rw[Kb,Kb];omega),<-Ls]
         have:l.take (0 + i + 1)=l.take (0 + i) ++ [p]:=by rw[Mk,Lo,q];rfl
         rw[this,List.flatMap_append,MY,List.flatMap_nil,L5]
        show toS (f2 (gv 3) (aS 2 [5,4] (.two 0 1) (bV (gv 1)) (c8 (f2 (gv 0) (gv 2) (cN false))) (bW (aa (gv 3) (aa (gv 1) af)))) dw [.da (.list (ps.map aL)),.da (.list (l.map aL)),.da (.int (l.length:Nat)),.da (.list (((l.take (0 + i)).flatMap (uA l)).map aL)),.da (.int p.1),.da (.int p.2)] 0) _=_
        rw[e5];rfl)
     rw[Mk,Kb,Lv (Kg _)] at ef
     rw[aJ (env':=[.fz (.list (ps.map aL)),.fz (.list (l.map aL)),.fz (.int (l.length:Nat)),.fz (.list ((l.flatMap (uA l)).map aL)),a2,b2]) (β':=0) ?g3]
     case g3=>exact ef
     have hfl:=tQ l l
     have hfl2:l.length * l.length<=63 * 63:=Lw (by omega) (by omega)
     have e6:f1 (f2 (gv 1) (gv 3) dw) cc [.da (.list (ps.map aL)),.da (.list (l.map aL)),.da (.int (l.length:Nat)),.da (.list ((l.flatMap (uA l)).map aL)),a2.val,b2.val] 0=.ok (.list ((OM.jB n l).map aL)) 0:=by
      refine bO (x:=.list ((l ++ OM.more l).map aL)) (aF rfl rfl ?_) (lX h8 (OM.zr B) hl2 rfl)
      rw[mX (by rw[Kb,Kb];omega),<-Ls];rfl
     refine⟨.fz (.list ((l.flatMap (uA l)).map aL)),a2,b2,?_⟩
     show toS (f1 (f2 (gv 1) (gv 3) dw) cc [.da (.list (ps.map aL)),.da (.list (l.map aL)),.da (.int (l.length:Nat)),.da (.list ((l.flatMap (uA l)).map aL)),a2.val,b2.val] 0) _=_
     rw[e6];rfl
    obtain⟨x',a',b',et2⟩:=eturn
    refine⟨_,_,_,et2,?_,rfl,_,_,_,_,_,rfl,B2,.inr ⟨l,B,rfl,rfl⟩,rfl⟩
    rw[Ki c]
    split <;> omega)
 rw[aJ ew]
 rfl
def tV (ms:List Int)(ps:List Pr):Prop:=∀p,p∈ps->∃i j:Nat,i < j/\ms[i]? =some p.1/\ms[j]? =some p.2
theorem oH {α:Type}:∀{l:List α} {i j:Nat} {x:α},l.Nodup->l[i]? =some x->l[j]? =some x->i=j
 | [],_,_,_,_,h,_=>by simp at h
 |y :: l,0,0,_,_,_,_=>rfl
 |y :: l,0,j + 1,x,nd,h1,h2=>by
  simp at h1
  subst h1
  exact absurd (Kj (by simpa using h2)) (KI.mp nd).1
 |y :: l,i + 1,0,x,nd,h1,h2=>by
  simp at h2
  subst h2
  exact absurd (Kj (by simpa using h1)) (KI.mp nd).1
 |y :: l,i + 1,j + 1,x,nd,h1,h2=>by
  rw[oH (l:=l) (i:=i) (j:=j) (KI.mp nd).2 (by simpa using h1) (by simpa using h2)]
def Ag {ms:List Int}{ps:List Pr}(nd:ms.Nodup)(h:tV ms ps){a b:Int}(t:OM.Tr (OM.Mem ps) a b):∃i j:Nat,i < j/\ms[i]? =some a/\ms[j]? =some b:=by
 refine t.least (S:=λa b=>∃i j:Nat,i < j/\ms[i]? =some a/\ms[j]? =some b) (λa b r=>h _ r) ?_
 rintro a b c ⟨i,j,hij,h1,h2⟩ ⟨k,l,hkl,h3,h4⟩
 have:=oH nd h2 h3
 exact⟨i,l,by omega,h1,h4⟩
def ya {ms:List Int}{ps:List Pr}(nd:ms.Nodup)(h:tV ms ps)(a:Int):¬OM.Tr (OM.Mem ps) a a:=λt=>by
 obtain⟨i,j,hij,h1,h2⟩:=Ag nd h t
 have:=oH nd h1 h2
 omega
def iB (n:Nat):List Int:=(List.range n).map λ(k:Nat)=>(k:Int)
def jO (n:Nat):(iB n).length=n:=by unfold iB;simp
def mT {n:Nat}{x:Int}:x∈iB n↔0<=x/\x < n:=by
 unfold iB
 rw[Kn]
 constructor
 ·rintro⟨k,hk,rfl⟩
  have:=KD.mp hk
  omega
 ·intro h
  exact⟨x.toNat,KD.mpr (by omega),by omega⟩
def yI (n:Nat):(iB n).Nodup:=by
 unfold iB
 rw[Mb,Ln]
 exact (Mb.mp L0).imp λ{a b} h e=>h (by omega)
def qi (n:Nat):cn 0 n=(iB n).map int:=by
 unfold cn iB
 rw[map_map]
 refine LM λk _=>?_
 show int (0 + (k:Int))=_
 rw[Mo];rfl
theorem kP {lo:Int}{n i:Nat}{d:D}(h:(cn lo n)[i]? =some d):i < n/\d=.int (lo + i):=by
 unfold cn at h
 rw[Kk] at h
 cases q:(List.range n)[i]? with
 |none=>rw[q] at h;cases h
 |some j=>
  rw[q] at h
  cases h
  obtain⟨hi,ej⟩:=Ks.mp q
  rw[LV] at hi
  rw[List.getElem_range] at ej
  subst ej
  exact⟨hi,rfl⟩
def gr {n:Nat}(h:n<=1000):cR (.int n)=some (.list ((iB n).map int)):=by
 unfold cR
 dsimp only
 rw[Kf ⟨by omega,by omega⟩,K6,qi]
def kN {fa:VF D}{vs:List Nv}{β β1:Int}{n:Nat}(h:fa vs β=.ok (.int n) β1)(hn:n<=1000):gM fa vs β=.ok (cn 0 n) β1:=by
 unfold gM
 rw[h]
 simp only[ky]
 rw[Kf (lC (by omega) (by omega)),K6]
def Ac {fa fb:VF D}{vs:List Nv}{β β1 β2:Int}{i j:Int}(h:fa vs β=.ok (.int i) β1)(h':fb vs β1=.ok (.int j) β2)(hi:0<=i/\i<=1000)(hj:0<=j/\j<=1000):pH fa fb vs β=.ok (cn i (j - i).toNat) β2:=by
 unfold pH
 rw[h]
 simp only[ky]
 rw[h']
 simp only[ky]
 rw[Kf (by rw[lC (by omega) (by omega),lC (by omega) (by omega)];rfl)]
def gc {t:Tg}{L:List Nat}{fi:VF (List D)}{m:SF}{env:En}{β β1:Int}{ds:List D}(h:fi (vl env) β=.ok ds β1):c5 t L fi m env β=gP t m ds (aQ L env) β1:=by unfold c5;rw[h];rfl
noncomputable def qY:List D->Int->FB:=k8 8 1 (fI hZ bg iW)
def yV {n:Nat}{ms:List Int}{ps:List Pr}(h1:1<=n)(h8:n<=8)(hp:ms.Perm (iB n))(ha:tV ms ps):OM.Wn n ps/\(∀a,¬OM.Tr (OM.Mem ps) a a)/\OM.Ord n (OM.bP n (OM.Tr (OM.Mem ps))):=by
 have nd:ms.Nodup:=hp.nodup_iff.mpr (yI n)
 have w:OM.Wn n ps:=λp hm=>by
  obtain⟨i,j,_,e1,e2⟩:=ha p hm
  have m1:=mT.mp (hp.mem_iff.mp (Kj e1))
  have m2:=mT.mp (hp.mem_iff.mp (Kj e2))
  exact⟨m1,m2⟩
 have ir:=λa=>ya nd ha a
 exact⟨w,ir,OM.EZ h1 h8 w ir⟩
def kJ {m:Nat}(h:1<=m)(h2:m<=1000)(β:Int):∃j:Nat,j < m/\bg [.int m] β=.ok (.int (j:Int)) false (β / m):=by
 refine⟨(β % m).toNat,?_,?_⟩
 ·have h0:=L7 β (b:=(m:Int)) (by omega)
  have h3:=L3 β (b:=(m:Int)) (by omega)
  omega
 ·rw[iL (by omega) (by omega)]
  have h0:=L7 β (b:=(m:Int)) (by omega)
  rw[show ((β % m).toNat:Int)=β % m by omega]
def zA {most:Nat}(hm1:1<=most)(hm8:most<=8)(β:Int):∃(n:Nat) (l:List Pr) (β':Int),qY [.int most] β=.ok (aA n l) false β'/\OM.Ord n l/\n<=most:=by
 obtain⟨j,hj,ej⟩:=kJ hm1 (by omega) β
 show ∃(n:Nat) (l:List Pr) (β':Int),qE (fI hZ bg iW [.bx,.fz (.int most),.no,.no,.no,.no,.no,.no] β)=.ok (aA n l) false β'/\OM.Ord n l/\n<=most
 unfold fI
 generalize hβ1:β / (most:Int)=β1 at ej
 have n8:1 + j<=8:=by omega
 have e1:f2 (cst (.int 1)) (gq 0 bg (aa (gv 1) af)) cO [Nv.bx,.da (.int most),.no,.no,.no,.no,.no,.no] β=.ok (.int ((1 + j:Nat):Int)) β1:=by
  refine aF (x:=.int 1) rfl (cv (by rfl) rfl ej) ?_
  show some (int (1 + (j:Int)))=_
  rw[show ((1 + j:Nat):Int)=1 + (j:Int) by omega]
 rw[aJ (env':=[.bx,.fz (.int most),.fz (.int ((1 + j:Nat):Int)),.no,.no,.no,.no,.no]) (β':=β1) ?g1]
 case g1=>
  show toS (f2 (cst (.int 1)) (gq 0 bg (aa (gv 1) af)) cO [Nv.bx,.da (.int most),.no,.no,.no,.no,.no,.no] β) _=_
  rw[e1];rfl
 generalize hn:1 + j=n at n8
 have n1:1<=n:=by omega
 obtain⟨ms,β2,em,hp⟩:=BX (iB n) (by rw[jO];omega) β1
 have hml:ms.length=n:=by rw[hp.length_eq,jO]
 have e2:gq 0 iW (aa (f1 (gv 2) cR) af) [Nv.bx,.da (.int most),.da (.int n),.no,.no,.no,.no,.no] β1=.ok (.list (ms.map int)) β2:=by
  refine cv (ds:=[.list ((iB n).map int)]) (b:=true) (β1:=β1) (by rfl) ?_ em
  rw[cg,bO (x:=.int n) (d:=.list ((iB n).map int)) (β1:=β1) rfl (gr (by omega))];rfl
 rw[aJ (env':=[.bx,.fz (.int most),.fz (.int n),.fz (.list (ms.map int)),.no,.no,.no,.no]) (β':=β2) ?g2]
 case g2=>
  show toS (gq 0 iW (aa (f1 (gv 2) cR) af) [Nv.bx,.da (.int most),.da (.int n),.no,.no,.no,.no,.no] β1) _=_
  rw[e2];rfl
 obtain⟨q,hq,eq⟩:=kJ (m:=4) (by omega) (by omega) β2
 obtain⟨th,hth,hthv⟩:∃th:Nat,([2,3,4,7]:List Nat)[q]? =some th/\1<=th/\th<=7:=by
  rcases (show q=0\/q=1\/q=2\/q=3 by omega) with rfl |rfl |rfl |rfl
  ·exact⟨2,rfl,by omega,by omega⟩
  ·exact⟨3,rfl,by omega,by omega⟩
  ·exact⟨4,rfl,by omega,by omega⟩
  ·exact⟨7,rfl,by omega,by omega⟩
 generalize hβ3:β2 / ((4:Nat):Int)=β3 at eq
 have e3:f2 (aH (aa (cst (.int 2)) (aa (cst (.int 3)) (aa (cst (.int 4)) (aa (cst (.int 7)) af))))) (gq 0 bg (aa (cst (.int 4)) af)) cT [Nv.bx,.da (.int most),.da (.int n),.da (.list (ms.map int)),.no,.no,.no,.no] β2=.ok (.int th) β3:=by
  refine aF (x:=.list (([2,3,4,7]:List Nat).map λ(k:Nat)=>int (k:Int))) (y:=.int q) (dm rfl (by simp)) (cv (ds:=[.int 4]) (by rfl) rfl eq) ?_
  show jc (([2,3,4,7]:List Nat).map λ(k:Nat)=>int (k:Int)) (q:Int)=_
  rw[jH,iV hth];rfl
 rw[aJ (env':=[.bx,.fz (.int most),.fz (.int n),.fz (.list (ms.map int)),.fz (.int th),.no,.no,.no]) (β':=β3) ?g3]
 case g3=>
  show toS (f2 (aH (aa (cst (.int 2)) (aa (cst (.int 3)) (aa (cst (.int 4)) (aa (cst (.int 7)) af))))) (gq 0 bg (aa (cst (.int 4)) af)) cT [Nv.bx,.da (.int most),.da (.int n),.da (.list (ms.map int)),.no,.no,.no,.no] β2) _=_
  rw[e3];rfl
 have e4:aH af [Nv.bx,.da (.int most),.da (.int n),.da (.list (ms.map int)),.da (.int th),.no,.no,.no] β3=.ok (.list []) β3:=dm rfl (by simp)
 rw[aJ (env':=[.bx,.fz (.int most),.fz (.int n),.fz (.list (ms.map int)),.fz (.int th),.ow (.list []),.no,.no]) (β':=β3) ?g4]
 case g4=>
  show toS (aH af [Nv.bx,.da (.int most),.da (.int n),.da (.list (ms.map int)),.da (.int th),.no,.no,.no] β3) _=_
  rw[e4];rfl
 obtain⟨env',β',ef,ps,a,b,rfl,hal,hpl⟩:=ik (t:=.nm 6) (m:=c5 (.nm 7) (([] ++ []) ++ []) (pH (f2 (gv 6) (cst (.int 1)) cO) (gv 2))
   (jS (([4] ++ []) ++ []) (c8 (f2 (gq 0 bg (aa (gv 4) af)) (cst (.int 0)) (cN false)))
   (rG 5 (([] ++ []) ++ (([] ++ []) ++ [])) (bW (aa (f2 (gv 3) (gv 6) cT) (aa (f2 (gv 3) (gv 7) cT) af)))) lP)) (ds:=cn 0 n) (k:=0)
  (λi env β=>∃(ps:List Pr) (a b:Sl),env= [.bx,.fz (.int most),.fz (.int n),.fz (.list (ms.map int)),.fz (.int th),.ow (.list (ps.map aL)),a,b]/\tV ms ps/\ps.length<=8 * i)
  (env:=[.bx,.fz (.int most),.fz (.int n),.fz (.list (ms.map int)),.fz (.int th),.ow (.list []),.no,.no]) (β:=β3) ⟨[],.no,.no,rfl,λp hp=>(by cases hp),by simp⟩ (by
   rintro i d env β hi ⟨ps,a,b,rfl,hal,hpl⟩
   obtain⟨hin,rfl⟩:=kP hi
   refine⟨[.bx,.fz (.int most),.fz (.int n),.fz (.list (ms.map int)),.fz (.int th),.ow (.list (ps.map aL)),.fz (.int (0 + (i:Int))),b],rfl,?_⟩
   have er:pH (f2 (gv 6) (cst (.int 1)) cO) (gv 2) [Nv.bx,.da (.int most),.da (.int n),.da (.list (ms.map int)),.da (.int th),.da (.list (ps.map aL)),.da (.int (0 + (i:Int))),b.val] β=.ok (cn (0 + (i:Int) + 1) ((n:Int) - (0 + (i:Int) + 1)).toNat) β:=Ac rfl rfl ⟨by omega,by omega⟩ ⟨by omega,by omega⟩
   rw[gc (env:=[.bx,.fz (.int most),.fz (.int n),.fz (.list (ms.map int)),.fz (.int th),.ow (.list (ps.map aL)),.fz (.int (0 + (i:Int))),b]) er]
   obtain⟨env',β',ef,qs,b,rfl,hal2,hql⟩:=ik (t:=.nm 7) (m:=jS (([4] ++ []) ++ []) (c8 (f2 (gq 0 bg (aa (gv 4) af)) (cst (.int 0)) (cN false)))
     (rG 5 (([] ++ []) ++ (([] ++ []) ++ [])) (bW (aa (f2 (gv 3) (gv 6) cT) (aa (f2 (gv 3) (gv 7) cT) af)))) lP) (ds:=cn (0 + (i:Int) + 1) ((n:Int) - (0 + (i:Int) + 1)).toNat) (k:=0)
    (λk env β=>∃(qs:List Pr) (b:Sl),env= [.bx,.fz (.int most),.fz (.int n),.fz (.list (ms.map int)),.fz (.int th),.ow (.list (qs.map aL)),.fz (.int (0 + (i:Int))),b]/\tV ms qs/\qs.length<=8 * i + k)
    (env:=[.bx,.fz (.int most),.fz (.int n),.fz (.list (ms.map int)),.fz (.int th),.ow (.list (ps.map aL)),.fz (.int (0 + (i:Int))),b]) (β:=β) ⟨ps,b,rfl,hal,by omega⟩ (by
     rintro k d env β hk ⟨qs,b,rfl,hal,hql⟩
     obtain⟨hkn,rfl⟩:=kP hk
     have hkn:i + 1 + k < n:=by omega
     refine⟨[.bx,.fz (.int most),.fz (.int n),.fz (.list (ms.map int)),.fz (.int th),.ow (.list (qs.map aL)),.fz (.int (0 + (i:Int))),.fz (.int (0 + (i:Int) + 1 + (k:Int)))],rfl,?_⟩
     obtain⟨z,hz,ez⟩:=kJ hthv.1 (by omega) β
     have et:c8 (f2 (gq 0 bg (aa (gv 4) af)) (cst (.int 0)) (cN false)) [Nv.bx,.da (.int most),.da (.int n),.da (.list (ms.map int)),.da (.int th),.da (.list (qs.map aL)),.da (.int (0 + (i:Int))),.da (.int (0 + (i:Int) + 1 + (k:Int)))] β=.ok (decide ((z:Int)=0)) (β / th):=kT (neg:=false) (cv (ds:=[.int th]) (by rfl) rfl ez) rfl
     by_cases c:(z:Int)=0
     ·rw[Kh c] at et
      have h1:i < ms.length:=by omega
      have h2:i + 1 + k < ms.length:=by omega
      refine⟨[.bx,.fz (.int most),.fz (.int n),.fz (.list (ms.map int)),.fz (.int th),.ow (.list ((qs ++ [(ms[i],ms[i + 1 + k])]).map aL)),.fz (.int (0 + (i:Int))),.fz (.int (0 + (i:Int) + 1 + (k:Int)))],β / th,?_,qs ++ [(ms[i],ms[i + 1 + k])],_,rfl,?_,?_⟩
      ·rw[so et]
       have ep:bW (aa (f2 (gv 3) (gv 6) cT) (aa (f2 (gv 3) (gv 7) cT) af)) [Nv.bx,.da (.int most),.da (.int n),.da (.list (ms.map int)),.da (.int th),.da (.list (qs.map aL)),.da (.int (0 + (i:Int))),.da (.int (0 + (i:Int) + 1 + (k:Int)))] (β / th)=.ok (aL (ms[i],ms[i + 1 + k])) (β / th):=by
        refine kK (ds:=[.int ms[i],.int ms[i + 1 + k]]) ?_ (by simp)
        have a1:f2 (gv 3) (gv 6) cT [Nv.bx,.da (.int most),.da (.int n),.da (.list (ms.map int)),.da (.int th),.da (.list (qs.map aL)),.da (.int (0 + (i:Int))),.da (.int (0 + (i:Int) + 1 + (k:Int)))] (β / th)=.ok (.int ms[i]) (β / th):=by
         refine aF rfl rfl ?_
         show jc (ms.map int) (0 + (i:Int))=_
         rw[Mo,jH,q8 h1];rfl
        have a2:f2 (gv 3) (gv 7) cT [Nv.bx,.da (.int most),.da (.int n),.da (.list (ms.map int)),.da (.int th),.da (.list (qs.map aL)),.da (.int (0 + (i:Int))),.da (.int (0 + (i:Int) + 1 + (k:Int)))] (β / th)=.ok (.int ms[i + 1 + k]) (β / th):=by
         refine aF rfl rfl ?_
         show jc (ms.map int) (0 + (i:Int) + 1 + (k:Int))=_
         rw[show (0 + (i:Int) + 1 + (k:Int))=((i + 1 + k:Nat):Int) by omega,jH,q8 h2];rfl
        rw[cg,a1]
        dsimp only[R.bnd]
        rw[cg,a2];rfl
       have:=xB (i:=5) (L:=([] ++ []) ++ (([] ++ []) ++ [])) (env:=[.bx,.fz (.int most),.fz (.int n),.fz (.list (ms.map int)),.fz (.int th),.ow (.list (qs.map aL)),.fz (.int (0 + (i:Int))),.fz (.int (0 + (i:Int) + 1 + (k:Int)))]) (ds:=qs.map aL) (by rfl) ep (by rfl) (by rw[Kb];omega)
       rw[Ls]
       exact this
      ·intro p hp
       rcases KA.mp hp with hp |hp
       ·exact hal p hp
       ·have:p=(ms[i],ms[i + 1 + k]):=by simpa using hp
        subst this
        exact⟨i,i + 1 + k,by omega,J6 h1,J6 h2⟩
      ·rw[Ku];simp;omega
     ·rw[Kr c] at et
      refine⟨_,_,by rw[l8 et];rfl,qs,_,rfl,hal,by omega⟩)
   have hlen:(cn (0 + (i:Int) + 1) ((n:Int) - (0 + (i:Int) + 1)).toNat).length<=7:=by rw[p9];omega
   exact⟨_,_,ef,qs,_,b,rfl,hal2,by omega⟩)
 rw[aJ (env':=[.bx,.fz (.int most),.fz (.int n),.fz (.list (ms.map int)),.fz (.int th),.ow (.list (ps.map aL)),a,b]) (β':=β') ?g5]
 case g5=>
  rw[gc (env:=[.bx,.fz (.int most),.fz (.int n),.fz (.list (ms.map int)),.fz (.int th),.ow (.list []),.no,.no]) (kN (n:=n) rfl (by omega))]
  exact ef
 obtain⟨w,ir,O⟩:=yV n1 n8 hp hal
 refine⟨n,OM.bP n (OM.Tr (OM.Mem ps)),β',?_,O,by omega⟩
 have e9:bW (aa (gv 2) (aa (aB hZ (aa (gv 5) af)) af)) [Nv.bx,.da (.int most),.da (.int n),.da (.list (ms.map int)),.da (.int th),.da (.list (ps.map aL)),a.val,b.val] β'=.ok (aA n (OM.bP n (OM.Tr (OM.Mem ps)))) β':=by
  refine kK (ds:=[.int n,.tuple ((OM.bP n (OM.Tr (OM.Mem ps))).map aL)]) ?_ (by simp)
  have a1:aB hZ (aa (gv 5) af) [Nv.bx,.da (.int most),.da (.int n),.da (.list (ms.map int)),.da (.int th),.da (.list (ps.map aL)),a.val,b.val] β'=.ok (.tuple ((OM.bP n (OM.Tr (OM.Mem ps))).map aL)) β':=aY rfl (x8 n1 n8 w ir)
  rw[cg]
  show (R.ok (int n) β').bnd _=_
  dsimp only[R.bnd]
  rw[cg,a1];rfl
 show qE (toS (bW (aa (gv 2) (aa (aB hZ (aa (gv 5) af)) af)) [Nv.bx,.da (.int most),.da (.int n),.da (.list (ms.map int)),.da (.int th),.da (.list (ps.map aL)),a.val,b.val] β') _)=_
 rw[e9];rfl
theorem wO (p:Pr):∀l:List Pr,((l.map aL).any λe=>PyData.eqv e (aL p))=decide (p∈l)
 | []=>rfl
 |q :: l=>by
  rw[K2,Mv,wO p l,AD,LA]
  simp only[Bool.or_eq_true,K0,Ke]
  exact⟨λh=>h.imp Eq.symm id,λh=>h.imp Eq.symm id⟩
def Ca (l:List Pr):(l.map aL).all SeqAt.shaped=true:=by
 rw[KP]
 intro d hd
 obtain⟨p,_,rfl⟩:=Kn.mp hd
 exact pD p
def wQ (neg:Bool)(p:Pr)(l:List Pr):BA neg (aL p) (.tuple (l.map aL))=some (.bool (if neg then !decide (p∈l) else decide (p∈l))):=by
 unfold BA
 simp only[hE,pD,Ca,Mu,Lg,wO]
def wU (neg:Bool)(i j:Int):cN neg (.int i) (.int j)=some (.bool (if neg then !decide (i=j) else decide (i=j))):=rfl
theorem wY {fa fb:VF D}{vs:List Nv}{β:Int}{a b:Bool}(h:fa vs β=.ok (.bool a) β)(h':fb vs β=.ok (.bool b) β):eJ fa fb vs β=.ok (.bool (a && b)) β:=by
 unfold eJ
 rw[h]
 dsimp only[R.bnd]
 cases a with
 |true=>exact h'
 |false=>rfl
def sU {fa fb:VF D}{vs:List Nv}{β:Int}{a b:Int}(h:fa vs β=.ok (.int a) β)(h':fb vs β=.ok (.int b) β):bW (aa fa (aa fb af)) vs β=.ok (aL (a,b)) β:=by
 refine kK (ds:=[.int a,.int b]) ?_ (by simp)
 rw[cg,h]
 dsimp only[R.bnd]
 rw[cg,h'];rfl
def qm (l:List Pr)(p:Pr):Bool:= !decide (p.1=p.2) && (!decide ((p.1,p.2)∈l) && !decide ((p.2,p.1)∈l))
def JB {n:Nat}{l:List Pr}{fa:VF D}{vs:List Nv}{β:Int}(h:fa vs β=.ok (aA n l) β):f2 fa (cst (.int 1)) cT vs β=.ok (.tuple (l.map aL)) β:=aF h rfl rfl
def DN {n:Nat}{l:List Pr}{fa:VF D}{vs:List Nv}{β:Int}(h:fa vs β=.ok (aA n l) β):f2 fa (cst (.int 0)) cT vs β=.ok (.int n) β:=aF h rfl rfl
def Il:List D->FR:=bF 3 3 mh
def oU:List D->FR:=bF 3 3 kW
def Hg (n:Nat)(l:List Pr)(a b:Int):Il [aA n l,.int a,.int b]=.ok (.bool (qm l (a,b))) false:=by
 show fin (toS (eJ (f2 (gv 1) (gv 2) (cN true)) (eJ (f2 (bW (aa (gv 1) (aa (gv 2) af))) (f2 (gv 0) (cst (.int 1)) cT) (BA true)) (f2 (bW (aa (gv 2) (aa (gv 1) af))) (f2 (gv 0) (cst (.int 1)) cT) (BA true))) [.da (aA n l),.da (.int a),.da (.int b)] 0) _)=_
 rw[wY (aF (x:=.int a) (y:=.int b) rfl rfl (wU true a b)) (wY (aF (sU (a:=a) (b:=b) rfl rfl) (JB (n:=n) (l:=l) rfl) (wQ true (a,b) l)) (aF (sU (a:=b) (b:=a) rfl rfl) (JB (n:=n) (l:=l) rfl) (wQ true (b,a) l)))]
 rfl
def DM (n:Nat)(l:List Pr)(a b:Int):oU [aA n l,.int a,.int b]=.ok (.bool (qm l (a,b))) false:=Hg n l a b
def jt (n:Nat):(OM.fZ n).length=n * n:=by unfold OM.fZ;simp
def cK {fa:VF D}{vs:List Nv}{β:Int}{c:Bool}(h:fa vs β=.ok (.bool c) β):kA fa vs β=.ok c β:=by rw[qp,h];rfl
theorem zo {c:Nat}:∀(ts:List Str) (k:Nat) (acc:Str),(∀t∈ts,t.length + 2<=c)->(textFrom k acc ts).length<=acc.length + c * ts.length
 | [],k,acc,_=>by show acc.length<=_;omega
 |t :: r,k,acc,h=>by
  have ih:=zo r (k + 1) (acc ++ (if k > 0 then ", " else "":String) ++ t) λu hu=>h u (J9 _ hu)
  have e:(acc ++ (if k > 0 then ", " else "":String) ++ t).length=acc.length + (if k > 0 then 2 else 0) + t.length:=by
   rw[My,My]
   split <;> rfl
  rw[e] at ih
  have ht:=h t (Kd ..)
  show (textFrom (k + 1) _ r).length<=_
  have e2:c * (t :: r).length=c * r.length + c:=by rw[KG,Nat.mul_succ]
  rw[e2]
  have:(if k > 0 then 2 else 0:Nat)<=2:=by split <;> omega
  omega
end RM
namespace L2
open PySem PySem.Spec PyProof.Rows
section
variable {κ:Type}[DecidableEq κ]
def CB (kvs:List (κ×V))(k:κ):Option V:=(kvs.find? λkv=>decide (kv.1=k)).map (·.2)
def putK (kvs:List (κ×V))(k:κ)(v:V):List (κ×V):=
 if (kvs.any λkv=>decide (kv.1=k))=true then kvs.map (λkv=>if kv.1=k then (kv.1,v) else kv) else kvs ++ [(k,v)]
def tJ (kvs:List (κ×V))(k:κ)(v:V):(putK kvs k v).length<=kvs.length + 1:=by
 unfold putK
 split
 ·rw[Kb];omega
 ·rw[Ku,KG,Mz];omega
theorem zj.getD {o:Option V}{u:Option Value}{d:V}{d':Value}(r:zj o u)(rd:RelV d d'):RelV (o.getD d) (u.getD d'):=by
 cases o with
 |none=>cases u with
  |none=>exact rd
  |some _=>exact (show False from r).elim
 |some _=>cases u with
  |none=>exact (show False from r).elim
  |some _=>exact r
theorem KV.any {kvs:List (κ×V)}{vs:List (κ×Value)}(r:KV kvs vs)(k:κ):(kvs.any λkv=>decide (kv.1=k))=vs.any λkv=>decide (kv.1=k):=by
 unfold KV at r
 induction r with
 |nil=>rfl
 |cons h t ih=>rw[Mv,Mv,ih,h.1]
theorem KV.repl {kvs:List (κ×V)}{vs:List (κ×Value)}(r:KV kvs vs)(k:κ){y:V}{u:Value}(ry:RelV y u) :
  KV (kvs.map λkv=>if kv.1=k then (kv.1,y) else kv) (vs.map λkv=>if kv.1=k then (kv.1,u) else kv):=by
 unfold KV at r ⊢
 induction r with
 |nil=>exact .nil
 | @cons p q ps qs h t ih=>
  rw[K2,K2]
  refine .cons ?_ ih
  obtain⟨h1,h2⟩:=h
  by_cases e:p.1=k
  ·rw[Kf e,Kf (h1.symm.trans e)];exact⟨h1,ry⟩
  ·rw[Ki e,Ki (λz=>e (h1.trans z))];exact⟨h1,h2⟩
def KV.put {kvs:List (κ×V)}{vs:List (κ×Value)}(r:KV kvs vs)(k:κ){y:V}{u:Value}(ry:RelV y u):KV (putK kvs k y) (stored vs k u):=by
 unfold putK stored
 rw[r.any k]
 by_cases e:(vs.any λkv=>decide (kv.1=k))=true
 ·rw[Kf e,Kf e];exact r.repl k ry
 ·rw[Ki e,Ki e];exact Paired.snoc r ⟨rfl,ry⟩
end
theorem Gr {P:Program}{w:World}{k:Key}{u:Value}(r:RelV (kV k) u):(cU P w).is k u=true:=by
 cases k with
 |inl i=>obtain⟨t,e⟩:=(show ∃t,u=Value.int i t from r);subst e;exact uz P w i t
 |inr x=>obtain⟨t,e⟩:=(show ∃t,u=Value.str x t from r);subst e;exact uc P w x t
section
variable {P:Program}{w:World}{H:Hp}{h:Heap}{a:Addr}
def Ga {u:HO}(ok:jP P w H h)(e:Rd H a u):bA P w H h a u:=e.ok ok
def GO {kvs:List (Key×V)}(ok:jP P w H h)(e:Rd H a (.dK kvs)):kvs.length<=sizeLine/\(a == sysModules)=false/\∃vs,KV kvs vs/\h.DictOf (cU P w) a vs:=
 show bA P w H h a (.dK kvs) from Ga ok e
def DC {kvs:List (Key×V)}(ok:jP P w H h)(e:H a=some (.dK kvs)):kvs.length<=sizeLine/\(a == sysModules)=false/\∃vs,KV kvs vs/\h.DictOf (cU P w) a vs:=GO ok (.inl e)
end
def Dd (H:Hp)(a:Addr)(y:V)(r:Option V):Prop:=
 (∃kvs k,Rd H a (.dK kvs)/\y=kV k/\r=CB kvs k)\/∃kvs k b,Rd H a (.dT kvs)/\y=.ref b/\Rd H b (.tup (k.map kV))/\r=CB kvs k
def BY (H:Hp)(a:Addr)(y v:V)(H':Hp):Prop:=
 (∃kvs k,H a=some (.dK kvs)/\y=kV k/\kvs.length < sizeLine/\H'=upd H a (.dK (putK kvs k v)))\/
 ∃kvs k b,H a=some (.dT kvs)/\y=.ref b/\Rd H b (.tup (k.map kV))/\kvs.length < sizeLine/\H'=upd H a (.dT (putK kvs k v))
def Dd.k {H:Hp}{a:Addr}{kvs:List (Key×V)}{k:Key}(e:H a=some (.dK kvs)):Dd H a (kV k) (CB kvs k):=.inl ⟨kvs,k,.inl e,rfl,rfl⟩
def Dd.t {H:Hp}{a b:Addr}{kvs:List (List Key×V)}{k:List Key}(e:H a=some (.dT kvs))(eb:Rd H b (.tup (k.map kV))):Dd H a (.ref b) (CB kvs k):=.inr ⟨kvs,k,b,.inl e,rfl,eb,rfl⟩
def BY.k {H:Hp}{a:Addr}{kvs:List (Key×V)}{k:Key}{v:V}(e:H a=some (.dK kvs))(hl:kvs.length < sizeLine):BY H a (kV k) v (upd H a (.dK (putK kvs k v))):=.inl ⟨kvs,k,e,rfl,hl,rfl⟩
def BY.t {H:Hp}{a b:Addr}{kvs:List (List Key×V)}{k:List Key}{v:V}(e:H a=some (.dT kvs))(eb:Rd H b (.tup (k.map kV)))(hl:kvs.length < sizeLine) :
  BY H a (.ref b) v (upd H a (.dT (putK kvs k v))):=.inr ⟨kvs,k,b,e,rfl,eb,hl,rfl⟩
section
variable {X:Cx}{pins:List (Addr×Obj)}{σ:St}{H:Hp}{s:Shared}{a:Addr}{y v:V}{u r:Value}{o:Option V}{A:Around}{E:Value->Shared->Prop}
def Inv.big (I:Inv X pins σ H s):sysModules < s.heap.objs.size:=by
 have h:mainGlobals < s.heap.objs.size:=(I.mod.glob.keeps I.bk).lt
 exact Nat.lt_trans (by decide) h
def Dg {h':Heap}{t':Nat}{ob:HO}(I:Inv X pins σ H s)(mu:GG (H a))(hs:Heap.SameBut a s.heap h')(he:∃q,h'.get? a=some q)(new:bA X.prog X.w (upd H a ob) h' a ob) :
  Inv X pins σ (upd H a ob) {s with heap:=h',toks:=t'}:=
 I.write (x:=a) (e:=a) mu (.inl rfl) (λb q hb z=>(hs.2 b hb).trans z) he new
def EW {P:Program}{w:World}{H':Hp}{h':Heap}{kvs:List (Key×V)}{vs:List (Key×Value)}(z:kvs.length<=sizeLine)(hd:(a == sysModules)=false)(rel:KV kvs vs)(dd:h'.DictOf (cU P w) a vs) :
  bA P w H' h' a (.dK kvs):=⟨z,hd,vs,rel,dd⟩
end
def Bd {P:Program}{w:World}{H:Hp}(h:Heap)(hb:sysModules < h.objs.size):bA P w H (h.push {cls:=.type "dict",data:=.dict #[]}) h.objs.size (.dK []):=
 ⟨KY _,beq_eq_false_iff_ne.mpr (Ne.symm (KN hb)),[],.nil,Heap.DictOf.new h⟩
def uS:List (TE×TE)->St->Hp->(List (V×V)->Hp->Prop)->Prop
 | [],_,H,Q=>Q [] H
 | (tk,tv) :: r,σ,H,Q=>tk σ H λx H1=>tv σ H1 λy H2=>uS r σ H2 λps H3=>Q ((x,y) :: ps) H3
abbrev VV:List (V×V)->List (Value×Value)->Prop:=Paired λp q=>RelV p.1 q.1/\RelV p.2 q.2
def HV (X:Cx)(pos:Pos)(keys:List (Option Expr))(values:List Expr)(trs:List (TE×TE)):Prop:=
 ∀(pins:List (Addr×Obj)) (s:Shared) (σ:St) (H:Hp) (Q:List (V×V)->Hp->Prop),Inv X pins σ H s->uS trs σ H Q->
  wpAny (model X.prog X.w) X.A (evalPairs (pairTrees keys values X.env pos)) (λvs s'=>∃ps H',Inv X pins σ H' s'/\VV ps vs/\Q ps H') X.xe s
def Cs {X:Cx}{pos:Pos}:HV X pos [] [] []:=λpins s σ H Q I h=>pairTrees_nil_walk ⟨[],H,I,.nil,h⟩
def z5 {X:Cx}{pos:Pos}{k v:Expr}{ks:List (Option Expr)}{vs:List Expr}{tk tv:TE}{trs:List (TE×TE)}(hk:PE X k tk)(hv:PE X v tv)(hr:HV X pos ks vs trs) :
  HV X pos (some k :: ks) (v :: vs) ((tk,tv) :: trs):=λpins s σ H Q I h=>
 pairTrees_cons_walk (b7 (hk pins s σ H _ I h) λu s1 ⟨x,H1,I1,rx,q1⟩=>b7 (hv pins s1 σ H1 _ I1 q1) λw2 s2 ⟨y,H2,I2,ry,q2⟩=>
  b7 (hr pins s2 σ H2 _ I2 q2) λws s3 ⟨ps,H3,I3,rel,q3⟩=>⟨(x,y) :: ps,H3,I3,.cons ⟨rx,ry⟩ rel,q3⟩)
def oI (kvs more:List (Key×V)):List (Key×V):=more.foldl (λacc kv=>putK acc kv.1 kv.2) kvs
theorem KV.merge:∀{more:List (Key×V)} {rs:List (Key×Value)} {kvs:List (Key×V)} {vs:List (Key×Value)},KV more rs->KV kvs vs->KV (oI kvs more) (merged vs rs):=by
 intro more rs kvs vs r
 unfold KV at r
 induction r generalizing kvs vs with
 |nil=>intro q;exact q
 | @cons p q ps qs h t ih=>
  intro r0
  have e:KV (putK kvs p.1 p.2) (stored vs q.1 q.2):=by
   have:=r0.put p.1 h.2
   rw[<-h.1];exact this
  exact ih e
theorem jW:∀(more kvs:List (Key×V)),(oI kvs more).length<=kvs.length + more.length
 | [],kvs=>by show kvs.length<=kvs.length + 0;omega
 |p :: r,kvs=>by
  have h1:=jW r (putK kvs p.1 p.2)
  have h2:=tJ kvs p.1 p.2
  show (oI (putK kvs p.1 p.2) r).length<=_
  rw[KG];omega
theorem oq {P:Program}{w:World}:∀{kvs:List (Key×V)} {ws:List (Value×Value)},VV (kvs.map λkv=>(kV kv.1,kv.2)) ws->∃rs,Carries (cU P w) ws rs/\KV kvs rs
 | [],_,r=>by rw[List.map_nil] at r;cases r;exact⟨[],True.intro,.nil⟩
 |p :: kvs,_,r=>by
  rw[K2] at r
  cases r with
  | @cons a b as bs h t=>
   obtain⟨rs,c,q⟩:=oq (P:=P) (w:=w) t
   obtain⟨b1,b2⟩:=b
   exact⟨(p.1,b2) :: rs,⟨Gr h.1,rfl,c⟩,.cons ⟨rfl,h.2⟩ q⟩
def GH (trs:List (TE×TE)):TE:=λσ H Q=>∀p,H p=none->uS trs σ (upd H p (.dK [])) λps H2=>H2 p=some (.dK [])/\∃kvs:List (Key×V),ps=kvs.map (λkv=>(kV kv.1,kv.2))/\kvs.length<=15/\Q (.ref p) (upd H2 p (.dK (oI [] kvs)))
def CA {X:Cx}{pos:Pos}{keys:List (Option Expr)}{values:List Expr}{trs:List (TE×TE)}(h:HV X pos keys values trs)(hall:keys.all (·.isSome)=true)(hl:keys.length=values.length)(h0:keys≠ [])
  (h15:keys.length<=15):PE X (.Dict keys values pos) (GH trs):=by
 intro pins s σ H Q I q
 have hn:=I.hok.fresh (Kg s.heap.objs.size)
 have I1:=I.laid (a:=s.heap.objs.size) (o:=.dK []) (h':=s.heap.push {cls:=.type "dict",data:=.dict #[]}) (t':=s.toks) (λ_ _ q=>Ka _ q) (Kg _) (Bd s.heap I.big)
 refine wpAny_Dict_walk (knd:=cU X.prog X.w) hall hl h0 h15 (b7 (h pins _ σ _ _ I1 (q _ hn)) λws s2 ⟨ps,H2,I2,rel,e,kvs,ep,lk,q2⟩=>?_)
 subst ep
 obtain⟨rs,c,rk⟩:=oq (P:=X.prog) (w:=X.w) rel
 obtain⟨z,hd,vs0,r0,dd⟩:=DC I2.hok e
 cases r0
 refine⟨rs,c,dd,λh' dd' hs=>⟨.ref s.heap.objs.size,_,?_,rfl,q2⟩⟩
 have hz:(oI [] kvs).length<=sizeLine:=by
  have h1:=jW kvs []
  rw[Mz] at h1
  rw[KH];omega
 have he:∃q,h'.get? s.heap.objs.size=some q:=let ⟨q,_,_,hq,_⟩:=dd';⟨q,hq⟩
 exact Dg I2 (by rw[e];exact True.intro) hs he (EW hz hd (rk.merge .nil) dd')
section
variable {X:Cx}{Γ:Fx}{E:XK}{pos:Pos}
def B4 {k:Str}{i:Int}{j j'}{p p':Pos}:SE X Γ E (.Dict [some (.Constant (.str k) j p)] [.Constant (.int i) j' p'] pos) (cst (.dict [(.str k,.int i)])) [] .v:=by
 refine PE.post' (CA (z5 zX nZ Cs) rfl rfl (by simp) (by simp)) ?_
 rintro σ H Q ⟨env,G,B,β,I,o⟩ p hp
 have o:∀v G' H',SR Γ B G' H' σ (aQ [] env) β->ah G G'->fM B H H'->Rp Γ.K G' v (.dict [(.str k,.int i)])->Q v H':=o
 refine⟨ak,[(.inr k,.int i)],rfl,by simp,?_⟩
 rw[CZ]
 have xn:=Ext.new I.sub (o:=.dK [((.inr k:Key),V.int i)]) hp
 exact o _ _ _ (I.ext xn) xn.gg (xn.hh.mov B) (.dK (kvs:=[((.inr k:Key),V.int i)]) ak (.cons (.int i) .nil))
end
mutual
def xw:D->Bool
 | .list ds=>vv ds
 | .tuple ds=>vv ds
 | .dict kvs=> !kvs.isEmpty && kvs.all λkv=>match kv.1,kv.2 with
  | .str _,.int _=>true
  |_,_=>false
 |_=>true
def vv:List D->Bool
 | []=>true
 |d :: ds=>xw d && vv ds
end
section
variable {X:Cx}{pins:List (Addr×Obj)}{σ:St}{H:Hp}{s:Shared}
theorem tO {P:Program}{w:World}{K:Frag}{h:Heap}:∀{kvs:List (Key×V)} {ds:List (D×D)} {vs:List (Key×Value)} {es:List DictEntry},yx K H kvs ds->KV kvs vs->Pairs (cU P w) es vs->
  (ds.all λkv=>match kv.1,kv.2 with
   | .str _,.int _=>true
   |_,_=>false)=true->ReadsAll h (es.map (·.key)) (ds.map (·.1)) []/\ReadsAll h (es.map (·.val)) (ds.map (·.2)) []
 | [],_,_,_,.nil,kv,ps,_=>by
  cases kv
  cases ps
  exact⟨.nil,.nil⟩
 | (k,x) :: kvs,_,_,_,.cons r rk,kv,ps,hd=>by
  cases kv with
  |cons h1 h2=>
   cases ps with
   |cons q1 q2 q3=>
    rw[Mw,Kq] at hd
    obtain⟨i1,i2⟩:=tO (P:=P) (w:=w) (h:=h) rk h2 q3 hd.2
    obtain⟨hd1,_⟩:=hd
    obtain⟨e1,rv⟩:=h1
    cases k with
    |inl i=>cases hd1
    |inr y=>
     rw[<-e1] at q1
     have q1:oz (Sum.inr y) _=true:=q1
     rcases bD q1 with⟨i,t,e,_⟩ | ⟨z,t,e,ek⟩
     ·cases e
     ·cases e
      cases r with
      |int i=>
       obtain⟨t',ev⟩:=rv
       refine⟨?_,?_⟩
       ·show ReadsAll h (_ :: _) (PyData.str y :: _) ([] ++ [])
        dsimp only
        rw[ek]
        exact .cons (.str y t) i1
       ·show ReadsAll h (_ :: _) (int i :: _) ([] ++ [])
        dsimp only
        rw[q2,ev]
        exact .cons (.int i t') i2
      |_=>cases hd1
def Inv.notSys (I:Inv X pins σ H s){a:Addr}{u:HO}(h:Rd H a u):a≠sysModules:=λe=>by
 obtain⟨mm,o,es,ep,ho,_⟩:=I.mod.sys
 have:=(I.bs _ o ho).2
 rw[<-e] at this
 rcases h with h | ⟨_,h⟩ <;> (rw[h] at this;cases this)
mutual
theorem Rp.readsL (I:Inv X pins σ H s):∀{x:V} {d:D} {u:Value},Rp X.K H x d->RelV x u->xw d=true->∃as,Reads s.heap u d as/\sysModules∉as
 |_,_,_,.non,r,_=>by cases r;exact⟨_,.none,by simp⟩
 |_,_,_,.bl b,r,_=>by cases r;exact⟨_,.bool b,by simp⟩
 |_,_,_,.int i,r,_=>by obtain⟨t,rfl⟩:=r;exact⟨_,.int i t,by simp⟩
 |_,_,_,.str x,r,_=>by obtain⟨t,rfl⟩:=r;exact⟨_,.str x t,by simp⟩
 |_,_,_,.tup h hs,r,n=>by
  cases r
  obtain⟨its,rv,⟨o,ho,hc,k,hd⟩,_⟩:=I.tuple h
  obtain⟨as,q,m⟩:=bI.readsL I hs rv n
  exact⟨_,.tuple ho hc hd (by simpa using q),m⟩
 |_,_,_,.lst (a:=a) h hs,r,n=>by
  cases r
  obtain⟨_,its,k,rv,_,ho⟩:=I.lstR (.inl h)
  obtain⟨as,q,m⟩:=bI.readsL I hs rv n
  refine⟨_,.list ho rfl rfl (by simpa using q),λz=>?_⟩
  rcases Ke.mp z with e |z
  ·exact I.notSys (.inl h) e.symm
  ·exact m z
 |_,_,_,.scr h,r,n=>by cases n
 |_,_,_,.dK (a:=a) h hs,r,n=>by
  cases r
  obtain⟨_,hsy,vs,kv,o,es,ep,ho,hex,hdt,_,hp,_⟩:=DC I.hok h
  obtain⟨q1,q2⟩:=tO (h:=s.heap) hs kv hp (by
   have n:(!_ && _)=true:=n
   rw[Kq] at n
   exact n.2)
  refine⟨_,.dict ho hex.1 hdt q1 q2,?_⟩
  have:a≠sysModules:=λz=>by rw[z] at hsy;simp at hsy
  simp only[L5,Kz]
  exact λz=>this z.symm
 |_,_,_,.dT h hs,r,n=>by
  cases hs with
  |nil=>cases n
  |cons _ _=>
   simp[xw] at n
theorem bI.readsL (I:Inv X pins σ H s):∀{xs:List V} {ds:List D} {us:List Value},bI X.K H xs ds->Vals xs us->vv ds=true->∃as,ReadsAll s.heap us ds as/\sysModules∉as
 |_,_,_,.nil,r,_=>by cases r;exact⟨_,.nil,by simp⟩
 |_,_,_,.cons h hs,r,n=>by
  have n:(xw _ && vv _)=true:=n
  rw[Kq] at n
  cases r with
  |cons r1 r2=>
   obtain⟨as,q,m⟩:=Rp.readsL I h r1 n.1
   obtain⟨bs,q',m'⟩:=bI.readsL I hs r2 n.2
   exact⟨_,.cons q q',λz=>(KA.mp z).elim m m'⟩
end
end
def AS (d:D):Bool:=d.showable && decide (d.depth<=64) && decide (d.shown.length<=sizeLine) && ((zh d && !d.hasDict) || xw d)
def j6 (d:D):Option D:=if AS d=true then some (.str d.shown) else none
def Bv (K:Frag):List V->Hp->VK->Prop:=λxs H Q=>∃x d,xs= [x]/\Rp K H x d/\AS d=true/\Q (.str d.shown) H
section
variable {X:Cx}
theorem n0 (hg:X.A.guards=some [])(hu:X.A.units + 100 < cLine):b6 X (.builtin "repr") (Bv X.K):=by
 intro pins s σ H xs us Q I r h
 obtain⟨x,d,rfl,hd,ok,q⟩:=h
 obtain⟨u,rfl,rx⟩:=vals1 r
 unfold AS at ok
 simp only[Kq,Bool.or_eq_true,K0] at ok
 obtain⟨⟨⟨h1,h2⟩,h3⟩,h4⟩:=ok
 have key:∀{a:Addr},u=.ref a->wpAny (model X.prog X.w) X.A (call (.builtin "repr") [u]) (EP X pins σ Q) X.xe s:=λ{a} e=>by
  subst e
  rcases h4 with h4 |h4
  ·obtain⟨as,rd⟩:=(hd.rep h4.1).reads I rx
   exact repr_of_reads' rd h1 (PyData.noDict_hsm (by simpa using h4.2)) hg (by omega) (λb o e=>e) (λh' u tk k=>⟨.str _,H,I.kept (t':=tk) k,⟨u,rfl⟩,q⟩) h3
  ·obtain⟨as,rd,m⟩:=hd.readsL I rx h4
   exact repr_of_reads' rd h1 (λ_=>m) hg (by omega) (λb o e=>e) (λh' u tk k=>⟨.str _,H,I.kept (t':=tk) k,⟨u,rfl⟩,q⟩) h3
 cases hd with
 |non=>cases rx;exact P.repr_of_none ⟨.str _,H,I.tok _,⟨_,rfl⟩,q⟩
 |bl b=>cases rx;exact P.repr_of_bool ⟨.str _,H,I.tok _,⟨_,rfl⟩,q⟩
 |int i=>obtain⟨t,rfl⟩:=rx;exact P.repr_of_int (by simpa[PyData.showable] using h1) ⟨.str _,H,I.tok _,⟨_,rfl⟩,q⟩
 |str y=>obtain⟨t,rfl⟩:=rx;exact P.repr_of_str ⟨.str _,H,I.tok _,⟨_,rfl⟩,q⟩ h3
 |tup _ _=>cases rx;exact key rfl
 |lst _ _=>cases rx;exact key rfl
 |scr _=>cases rx;exact key rfl
 |dK _ _=>cases rx;exact key rfl
 |dT _ _=>cases rx;exact key rfl
end
def xk {K:Frag}:ye K (λx=>Bv K [x]) j6 .v:=by
 intro B G H x dx d Q s hB bx e k
 unfold j6 at e
 split at e
 ·rename_i hh
  cases e
  exact⟨x,dx,rfl,bx.rpH s,hh,k _ G H (Ext.refl s) (.str _)⟩
 ·cases e
def isStar:Expr->Bool
 | .Starred _ _=>true
 |_=>false
def yN {a:Expr}{es:List Expr}{env:Env}(h:isStar a=false):starEach (a :: es) env=(false,eval a env) :: starEach es env:=by
 cases a <;> first |rfl |cases h
def EI (sc:Scope)(x:Str):Bool:=match sc.names.lookup x with
 |some .local=>true
 |some .cell=>true
 |some .free=>true
 |_=>false
def CT {sc:Scope}{x:Str}(h:EI sc x=true):qP sc x:=by
 unfold EI at h
 unfold qP
 split at h
 ·exact .inl (by assumption)
 ·exact .inr (.inl (by assumption))
 ·exact .inr (.inr (by assumption))
 ·cases h
def uP (N:List Str)(sc:Scope):List (Str×Nat)->Bool
 | []=>true
 | (x,i) :: r=>decide (N[i]? =some x) && (EI sc x && ((!(x == ("__debug__":Str))) && ((!(x == ("__classdict__":Str))) && uP N sc r)))
theorem xA {N:List Str}{sc:Scope}:∀{l:List (Str×Nat)} {x:Str} {i:Nat},uP N sc l=true->l.lookup x=some i->N[i]? =some x/\qP sc x/\(x == ("__debug__":Str))=false/\(x == ("__classdict__":Str))=false
 | [],_,_,_,h=>by cases h
 | (y,j) :: r,x,i,h,e=>by
  simp only[uP,Kq,K0,Me] at h
  obtain⟨h1,h2,h3,h4,h5⟩:=h
  rw[ML] at e
  split at e
  ·rename_i q
   have q:x=y:=by simpa using q
   subst q
   cases e
   exact⟨h1,CT h2,h3,h4⟩
  ·exact xA h5 e
def yo:Expr->Option Int
 | .Constant (.int i) _ _=>some i
 |_=>none
theorem mW {e:Expr}{i:Int}(h:yo e=some i):∃j p,e=.Constant (.int i) j p:=by
 cases e with
 |Constant c j p=>cases c <;> first | (cases h;exact⟨_,_,rfl⟩) |cases h
 |_=>cases h
def Jg (op:UnaryOp)(e:Expr):Option Int:=match op with
 | .USub=>yo e
 |_=>none
def DJ:Operator->Bool
 | .Pow=>true
 |_=>false
def Bb {o:Operator}(h:DJ o=true):o=.Pow:=by cases o <;> first |rfl |cases h
def E8 (ks:List (Option Expr))(vs:List Expr):Option (Str×Int):=match ks,vs with
 | [some (.Constant (.str k) _ _)],[v]=>(yo v).map λi=>(k,i)
 |_,_=>none
def Ck {ks:List (Option Expr)}{vs:List Expr}{r:Str×Int}(h:E8 ks vs=some r):∃j p j' p',ks= [some (.Constant (.str r.1) j p)]/\vs= [.Constant (.int r.2) j' p']:=by
 unfold E8 at h
 split at h
 ·rename_i k j p v
  cases q:yo v with
  |none=>rw[q] at h;cases h
  |some i=>
   rw[q] at h
   cases h
   obtain⟨j',p',rfl⟩:=mW q
   exact⟨_,_,_,_,rfl,rfl⟩
 ·cases h
def ID:Const->Option D
 | .int i=>some (.int i)
 | .bool b=>some (.bool b)
 | .none=>some .none
 | .str x=>some (.str x)
 |_=>none
mutual
def rD (nm:List (Str×Nat)):Expr->Option (VF D×List Nat)
 | .Name x _=>(nm.lookup x).map λi=>(gv i,[i])
 | .Constant c _ _=>(ID c).map λd=>(cst d,[])
 | .UnaryOp op a _=>(Jg op a).map λi=>(cst (.int (-i)),[])
 | .BinOp a o b _=>if DJ o=true then (yo a).bind λi=>(yo b).map λj=>(f2 (cst (.int i)) (cst (.int j)) Bc,[]) else none
 | .Dict ks vs _=>(E8 ks vs).map λr=>(cst (.dict [(.str r.1,.int r.2)]),[])
 | .Tuple es _ _=>(DK nm es).map λr=>(bW r.1,r.2)
 | .List es _=>(DK nm es).map λr=>(aH r.1,r.2)
 | .BoolOp ..=>none
 | .NamedExpr ..=>none
 | .Lambda ..=>none
 | .IfExp ..=>none
 | .Set ..=>none
 | .ListComp ..=>none
 | .SetComp ..=>none
 | .DictComp ..=>none
 | .GeneratorExp ..=>none
 | .Await ..=>none
 | .Yield ..=>none
 | .YieldFrom ..=>none
 | .Compare ..=>none
 | .Call ..=>none
 | .FormattedValue ..=>none
 | .JoinedStr ..=>none
 | .Attribute ..=>none
 | .Subscript ..=>none
 | .Starred ..=>none
 | .Slice ..=>none
def DK (nm:List (Str×Nat)):List Expr->Option (VF (List D)×List Nat)
 | []=>some (af,[])
 |e :: es=>(rD nm e).bind λr=>(DK nm es).map λq=>(aa r.1 q.1,r.2 ++ q.2)
end
section
variable {X:Cx}{Γ:Fx}{E:XK}{nm:List (Str×Nat)}
theorem jA {α β:Type}{o:Option α}{f:α->β}{b:β}(h:o.map f=some b):∃a,o=some a/\f a=b:=by
 cases o with
 |none=>cases h
 |some a=>exact⟨a,rfl,Option.some.inj h⟩
theorem v8 {α β:Type}{o:Option α}{f:α->Option β}{b:β}(h:o.bind f=some b):∃a,o=some a/\f a=some b:=by
 cases o with
 |none=>cases h
 |some a=>exact⟨a,rfl,h⟩
mutual
theorem Gg (hc:uP X.N X.env.scope nm=true)(hb:∀i,Γ.br i=false):∀{e:Expr} {f:VF D} {L:List Nat},rD nm e=some (f,L)->SE X Γ E e f L .v/\isStar e=false
 | .Name x p,f,L,h=>by
  rw[rD] at h
  obtain⟨i,q,e⟩:=jA h
  cases e
  obtain⟨h1,h2,h3,h4⟩:=xA hc q
  exact⟨az i (hb i) h1 h2 h3 h4,rfl⟩
 | .Constant c j p,f,L,h=>by
  rw[rD] at h
  obtain⟨d,q,e⟩:=jA h
  cases e
  cases c <;> first | (cases q;first |exact⟨aw,rfl⟩ |exact⟨gJ,rfl⟩ |exact⟨Ee,rfl⟩ |exact⟨zi,rfl⟩) |cases q
 | .UnaryOp op a p,f,L,h=>by
  rw[rD] at h
  obtain⟨i,q,e⟩:=jA h
  cases e
  cases op <;> first | (cases q;done) |skip
  obtain⟨j,p,rfl⟩:=mW q
  exact⟨xE ox wo aw,rfl⟩
 | .BinOp a op b p,f,L,h=>by
  rw[rD] at h
  split at h
  ·rename_i ho
   obtain rfl:=Bb ho
   obtain⟨i,q,h⟩:=v8 h
   obtain⟨j,q2,e⟩:=jA h
   cases e
   obtain⟨j1,p1,rfl⟩:=mW q
   obtain⟨j2,p2,rfl⟩:=mW q2
   exact⟨bo EE GB aw aw,rfl⟩
  ·cases h
 | .Dict ks vs p,f,L,h=>by
  rw[rD] at h
  obtain⟨r,q,e⟩:=jA h
  cases e
  obtain⟨_,_,_,_,rfl,rfl⟩:=Ck q
  exact⟨B4,rfl⟩
 | .Tuple es c p,f,L,h=>by
  rw[rD] at h
  obtain⟨r,q,e⟩:=jA h
  cases e
  exact⟨iw (qN hc hb q),rfl⟩
 | .List es p,f,L,h=>by
  rw[rD] at h
  obtain⟨r,q,e⟩:=jA h
  cases e
  exact⟨SE.wv (aO (qN hc hb q)),rfl⟩
 | .BoolOp ..,_,_,h=>by rw[rD] at h;cases h
 | .NamedExpr ..,_,_,h=>by rw[rD] at h;cases h
 | .Lambda ..,_,_,h=>by rw[rD] at h;cases h
 | .IfExp ..,_,_,h=>by rw[rD] at h;cases h
 | .Set ..,_,_,h=>by rw[rD] at h;cases h
 | .ListComp ..,_,_,h=>by rw[rD] at h;cases h
 | .SetComp ..,_,_,h=>by rw[rD] at h;cases h
 | .DictComp ..,_,_,h=>by rw[rD] at h;cases h
 | .GeneratorExp ..,_,_,h=>by rw[rD] at h;cases h
 | .Await ..,_,_,h=>by rw[rD] at h;cases h
 | .Yield ..,_,_,h=>by rw[rD] at h;cases h
 | .YieldFrom ..,_,_,h=>by rw[rD] at h;cases h
 | .Compare ..,_,_,h=>by rw[rD] at h;cases h
 | .Call ..,_,_,h=>by rw[rD] at h;cases h
 | .FormattedValue ..,_,_,h=>by rw[rD] at h;cases h
 | .JoinedStr ..,_,_,h=>by rw[rD] at h;cases h
 | .Attribute ..,_,_,h=>by rw[rD] at h;cases h
 | .Subscript ..,_,_,h=>by rw[rD] at h;cases h
 | .Starred ..,_,_,h=>by rw[rD] at h;cases h
 | .Slice ..,_,_,h=>by rw[rD] at h;cases h
theorem qN (hc:uP X.N X.env.scope nm=true)(hb:∀i,Γ.br i=false):∀{es:List Expr} {f:VF (List D)} {L:List Nat},DK nm es=some (f,L)->SA X Γ E es f L
 | [],f,L,h=>by rw[DK] at h;cases h;exact ao
 |e :: es,f,L,h=>by
  rw[DK] at h
  obtain⟨r,q,h⟩:=v8 h
  obtain⟨r2,q2,e⟩:=jA h
  cases e
  obtain⟨a,b⟩:=Gg hc hb q
  exact ae a (qN hc hb q2) (yN b)
end
def CH {es:List Expr}{p:Pos}{t:Option Expr}{l:Nat}{env:Env}:swapsWith (.List es p) t l env=pure false:=rfl
def DG {es:List Expr}{f:VF (List D)}{L:List Nat}{pos:Pos}(nm:List (Str×Nat))(hc:uP X.N X.env.scope nm=true)(hb:∀i,Γ.br i=false)(h:DK nm es=some (f,L)):SE X Γ E (.List es pos) (aH f) L .w:=aO (qN hc hb h)
def Gq {i:Nat}{x:Str}{es:List Expr}{f:VF (List D)}{L:List Nat}{pos' p pos:Pos}(nm:List (Str×Nat))(hc:uP X.N X.env.scope nm=true)(hb:∀i,Γ.br i=false)(h:DK nm es=some (f,L))(hN:X.N.Nodup)(hi:X.N[i]? =some x)(hx:Loc X.env.scope x)(hf:X.fn x=true\/X.env.scope.names.lookup x=some .local) :
  SS X Γ E (.Assign [.Name x pos'] (.List es p) pos) (bE i L (aH f)):=aV (SE.wv (DG nm hc hb h)) hN hi hx CH hf
end
end L2
section
namespace HT
open PySem PyProof.Rows PySem.Builtin PyProof
theorem nG {α β:Type}{f g:α->Option β}:∀{l:List α},(∀m,m∈l->f m=g m)->l.filterMap f=l.filterMap g
 | [],_=>rfl
 |x :: l,h=>by rw[LW,LW,h x (Kd ..),nG λm hm=>h m (J9 _ hm)]
def ym {α:Type}(xs:Array α):((List.range xs.size).filterMap λ(m:Nat)=>xs[(((xs.size:Int) - 1) + (m:Int) * (-1)).toNat]?)=xs.toList.reverse:=by
 have e:∀m,m∈List.range xs.size->xs[(((xs.size:Int) - 1) + (m:Int) * (-1)).toNat]? =xs.toList.reverse[m]?:=λm hm=>by
  have hm:=KD.mp hm
  rw[List.getElem?_reverse (by simpa using hm)]
  have:(((xs.size:Int) - 1) + (m:Int) * (-1)).toNat=xs.toList.length - 1 - m:=by simp;omega
  rw[this]
  simp
 have e2:((List.range xs.size).filterMap λ(m:Nat)=>xs[(((xs.size:Int) - 1) + (m:Int) * (-1)).toNat]?)=(List.range xs.toList.reverse.length).filterMap λm=>xs.toList.reverse[m]?:=by
  rw[List.length_reverse,LX]
  exact nG e
 rw[e2]
 generalize xs.toList.reverse=l
 clear e e2
 apply Mc
 intro i
 have key:∀n,n<=l.length->(List.range n).filterMap (λm=>l[m]?)=l.take n:=by
  intro n
  induction n with
  |zero=>intro _;simp
  |succ n ih=>
   intro hn
   rw[List.range_succ,List.filterMap_append,ih (by omega),List.take_succ,J6 (by omega)]
   simp[J6 (show n < l.length by omega)]
 rw[key l.length (Kg _),List.take_length]
end HT
namespace L2
open PySem PySem.Spec PyProof.Rows
section
variable {X:Cx}{Γ:Fx}{E:XK}{e a:Expr}{te:TE}{fa:VF D}{La:List Nat}{ma:Md}{pos p2 p3 p4:Pos}{j:Nat}
theorem bI.reverse {K:Frag}{G:Hp}:∀{xs:List V} {ds:List D},bI K G xs ds->bI K G xs.reverse ds.reverse
 |_,_,.nil=>.nil
 |_,_,.cons h hs=>by rw[MW,MW];exact (bI.reverse hs).snoc h
end
end L2
end
namespace L2
open PySem PySem.Spec PyProof.Rows
def zQ (items:Array Value):slicePick items none none (some (-1))=items.toList.reverse.toArray:=by
 have e:slicePick items none none (some (-1))=(((List.range (if ((items.size:Int) - 1) > -1 then (((items.size:Int) - 1) - (-1) - (-1) - 1) / (-(-1)) else 0).toNat).map λ(k:Nat)=>(((items.size:Int) - 1) + (-1) * (k:Int)).toNat).filterMap (items[·]?)).toArray:=rfl
 rw[e]
 have ec:(if ((items.size:Int) - 1) > -1 then (((items.size:Int) - 1) - (-1) - (-1) - 1) / (-(-1)) else 0).toNat=items.size:=by
  rw[show (-(-1:Int))=1 by rfl,Int.ediv_one]
  split <;> omega
 rw[ec,List.filterMap_map]
 congr 1
 rw[<-HT.ym]
 refine HT.nG λm _=>?_
 show items[(((items.size:Int) - 1) + (-1) * (m:Int)).toNat]? =items[(((items.size:Int) - 1) + (m:Int) * (-1)).toNat]?
 rw[Int.mul_comm]
section
variable {X:Cx}{Γ:Fx}{E:XK}{e a:Expr}{te:TE}{fa:VF D}{La:List Nat}{ma:Md}{pos p2 p3 p4:Pos}{j:Nat}
def AU (he:PE X e te):PE X (.Subscript e (.Slice none none (some (.UnaryOp .USub (.Constant (.int 1) j p3) p4)) p2) pos) (λσ H Q=>te σ H λx H1=>∃a xs,x=.ref a/\fQ X.K H1 a xs/\∀l,H1 l=none->Q (.ref l) (upd H1 l (.lst xs.reverse))):=by
 intro pins s σ H Q I h
 refine Subscript_ (b7 (he pins s σ H _ I h) λv s1 ⟨x,H1,I1,r1,q1⟩=>?_)
 obtain⟨a,xs,rfl,hx,q⟩:=q1
 cases r1
 refine wpAny_Slice ?_
 rw[evalPart_none]
 refine Kc (Kc ?_)
 refine b7 (xh (D6 ox nZ) pins s1 σ H1 (λo H2=>o=some (-1)/\H2=H1) I1 ⟨1,rfl, -1,rfl,rfl,rfl⟩) λvs s2 ⟨o,H2,I2,ps,q2,q3⟩=>?_
 subst q2 q3
 have I3:Inv X pins σ H2 {s2 with heap:=s2.heap.push {cls:=.type "slice",data:=.fields #[.none,.none,vs]}}:=I2.kept (t':=s2.toks) λb ob q=>Ka _ q
 obtain⟨its,r,ht,hz⟩:=I3.list hx
 have hlen:=r.length
 show wpAny (model X.prog X.w) X.A (subscriptTail e (.Slice none none (some (.UnaryOp .USub (.Constant (.int 1) j p3) p4)) p2) (.ref a) (.ref s2.heap.objs.size)) (EP X pins σ Q) X.xe {s2 with heap:=s2.heap.push {cls:=.type "slice",data:=.fields #[.none,.none,vs]}}
 refine tail_any (ops:=[.ref a,.ref s2.heap.objs.size]) ht.isList.typeIs slot_list_getitem.lookup ?_ (by with_unfolding_all rfl)
 refine wpAny_getItem_list_slice ht.isList (Heap.IsSliceOf.new ..) .none .none ps (by simp) ?_ (by rw[Kv] <;> omega)
 rw[zQ]
 refine⟨.ref _,_,I3.laid (t':=s2.toks) (o:=.lst xs.reverse) (λb ob q=>Ka _ q) (Kg _) ?_,rfl,q _ (I3.hok.fresh (Kg _))⟩
 exact⟨by rw[List.length_reverse];exact hz,_,0,r.reverse,Ky _ rfl⟩
def v9:D->Option D
 | .list ds=>some (.list ds.reverse)
 |_=>none
theorem zR (hK:X.K=Γ.K)(ha:SE X Γ E a fa La ma):SE X Γ E (.Subscript a (.Slice none none (some (.UnaryOp .USub (.Constant (.int 1) j p3) p4)) p2) pos) (f1 fa v9) La .w:=by
 refine PE.post' (AU ha) ?_
 rintro σ H Q ⟨env,G,B,β,I,o⟩
 refine⟨env,G,B,β,I,o.bnd.imp λd1 β1 h x G1 H1 I1 s1 m1 vx=>?_⟩
 have bx:=vx.brw I.boxThere
 obtain⟨d,e,k⟩:=h.of
 cases d1 with
 |list ds=>
  cases e
  obtain⟨p,xs,rfl,hq,r⟩:=bx.list I1.sub
  rw[hK]
  refine⟨p,xs,rfl,.inl hq,λl hl=>?_⟩
  have x:=Ext.own I1.sub (o:=.lst xs.reverse) hl
  exact k _ _ _ (I1.ext x) s1 (m1.trans (x.hh.mov B)) ⟨l,rfl,dE m1 I1.boxThere hl,I1.sub.free hl,xs.reverse,ak,r.reverse⟩
 |_=>cases e
end
end L2
namespace L2
open PySem PyProof.Rows
section
variable {X:Cx}{K:Frag}{pins:List V}{σ:St}{H:Hp}{s:Shared}{E:XK}
def IU (ns:List Int):Nat:=(firstMet (λi=>ns.getD i 0) ns.length).length
def Ik (d:D):Option D:=match hE d with
 |some ds=>(match dr ds with
  |some ns=>if ns.length<=1000 then some (.int (IU ns)) else none
  |none=>none)
 |none=>none
theorem bI.intsB {G:Hp}:∀{ns:List Int} {xs:List V},bI K G xs (ns.map int)->xs=ns.map V.int
 | [],_,.nil=>rfl
 |n :: ns,_,.cons r t=>by cases r;rw[bI.intsB t];rfl
variable {Γ:Fx}{e a b c:Expr}{f fa fb fc:VF D}{L La Lb:List Nat}{md ma mb mc:Md}{pos:Pos}
def sortI (ns:List Int):List Int:=ns.mergeSort λa b=>decide (a<=b)
def sortI_perm (ns:List Int):(sortI ns).Perm ns:=List.mergeSort_perm ..
def zU (ns:List Int):(sortI ns).Pairwise (· <= ·):=by
 have:=List.pairwise_mergeSort (le:=λa b:Int=>decide (a<=b)) (λa b c h1 h2=>by simp only[K0] at *;omega) (λa b=>by simp only[Bool.or_eq_true,K0];omega) ns
 exact this.imp λh=>by simpa using h
def kg {ns ms:List Int}(h:ms.Perm ns)(h2:ms.Pairwise (· <= ·)):ms=sortI ns:=
 List.Perm.eq_of_pairwise (le:=(· <= ·)) (λa b _ _ h1 h2=>by omega) h2 (zU ns) (h.trans (sortI_perm ns).symm)
def zp (K:Frag):List V->Hp->VK->Prop:=λxs H Q=>∃a ns,xs= [.ref a]/\fQ K H a (ns.map V.int)/\ns.length < 64/\∀l,H l=none->Q (.ref l) (upd H l (.lst ((sortI ns).map V.int)))
theorem qD:∀{us:List Value} {ns:List Int},IntsAre us ns->Vals (ns.map V.int) us
 |_,_,.nil=>.nil
 |_,_,.cons n t hr=>.cons ⟨t,rfl⟩ (qD hr)
def kq:b6 X (.builtin "sorted") (zp X.K):=by
 intro pins s σ H xs us Q I r h
 obtain⟨a,ns,rfl,hq,hl,q⟩:=h
 obtain⟨u,rfl,rx⟩:=vals1 r
 cases rx
 obtain⟨its,rv,pl,hz⟩:=I.list hq
 have hil:its.length=ns.length:=by rw[<-rv.length,Kb]
 refine sorted_ints pl.isList (intsAre_of rv) (by omega) λout ns' a1 a2 a3=>?_
 obtain rfl:=kg a2 a3
 obtain⟨c,he⟩:=sortedAll_at s.heap its out
 have hf:H (s.heap.objs.size + 1)=none:=I.hok.fresh (MN _)
 have hz':((sortI ns).map V.int).length<=sizeLine:=by
  have:=a2.length_eq
  rw[Kb,KH];omega
 have I2:Inv X pins σ (upd H (s.heap.objs.size + 1) (.lst ((sortI ns).map V.int))) {s with heap:=sortedAll s.heap its out,toks:=s.toks}:=I.laid (t':=s.toks) (λ_ _=>sortedAll_old) (MN _) (show bA X.prog X.w _ _ _ (.lst ((sortI ns).map V.int)) from⟨hz',out.toList,c,qD a1,he⟩)
 exact⟨.ref _,_,I2,rfl,q _ hf⟩
def jF (d:D):Option D:=match d with
 | .list ds=>(match dr ds with
  |some ns=>if ns.length < 64 then some (.list ((sortI ns).map int)) else none
  |none=>none)
 |_=>none
theorem qR:ye K (λx=>zp K [x]) jF .w:=by
 intro B G H x dx d Q s hB bx e k
 cases dx with
 |list ds=>
  simp only[jF] at e
  cases q2:dr ds with
  |none=>rw[q2] at e;cases e
  |some ns=>
   rw[q2] at e
   dsimp only at e
   split at e
   ·rename_i hz
    cases e
    obtain⟨p,xs,rfl,hq,r⟩:=bx.list s
    rw[ll q2] at r
    have r:=r.intsB
    subst r
    refine⟨p,ns,rfl,.inl hq,hz,λl hl=>?_⟩
    have hh:ah H (upd H l (.lst ((sortI ns).map V.int))):=ah.new hl
    refine k _ _ _ (Ext.tups s hh) ⟨l,rfl,hl,?_,_,ak,bI.ints _⟩
    unfold ku
    rw[s.free hl,ak]
    exact Ki λy=>y
   ·cases e
 |_=>cases e
end
end L2
namespace L2
open PySem
section
variable {K:Frag}{h:Heap}{mg:Str->Option Value}
theorem BC {α:Type}{P:List α->Prop}(q:∀a,P [a]):∀us:List α,us.length=1->P us
 | [a],_=>q a
theorem ln2 {α:Type}{P:List α->Prop}(q:∀a b,P [a,b]):∀us:List α,us.length=2->P us
 | [a,b],_=>q a b
theorem Jv {α:Type}{P:List α->Prop}(q:∀a b c,P [a,b,c]):∀us:List α,us.length=3->P us
 | [a,b,c],_=>q a b c
theorem JY {α:Type}{P:List α->Prop}(q:∀a b c d,P [a,b,c,d]):∀us:List α,us.length=4->P us
 | [a,b,c,d],_=>q a b c d
def bc (x:Str)(st:Stmt)(ps:List Str):Prop:=∀(kV doc pm:Value) (an:Option Addr) (cdv ct:Value) (us:List Value),us.length=ps.length->bindArgs (PySem.W.fnOf x x (gy st) (cu st) (au st) .none kV doc pm an cdv ct) ⟨us,[]⟩=pure (ps.zip us)
structure Fo (K:Frag)(mg:Str->Option Value)(x:Str)(st:Stmt)(ps:List Str):Prop where
 ex:∃f fd,jY K mg x st ps f fd
def b4 {x:Str}{st:Stmt}{ps:List Str}{f:Addr}{oc:Value}{od an:Option Addr}{sl:Array (Option Value)}{kV doc pm cdv ct:Value}(X:K.In h)(G:h.Ns mainGlobals mg)(b:bc x st ps)(a:PySem.W.nsIn K mainGlobals x=some (some (.ref f)))
  (l:K.lookup f=some ⟨oc,od,.func (PySem.W.fnOf x x (gy st) (cu st) (au st) .none kV doc pm an cdv ct),sl⟩) (c:PySem.W.codeIn K cdv x=true) (k:PySem.W.keepIn K (.ref f)=true):Fo K mg x st ps:=
 ⟨⟨f,_,PySem.W.mg_of X G a,vm l c k,(vm l c k).binds b⟩⟩
def Jd:List Str:=["len","range","enumerate","zip","min","max","sum","abs","sorted","reversed","int","str","bool","list","tuple","dict","set","isinstance","repr","any","all","divmod"]
def IE (K:Frag):Bool:=Jd.all λx=>match PySem.W.nsIn K mainGlobals x with
 |some none=>true
 |_=>false
def FE (q:IE K=true){x:Str}(hx:x∈Jd):PySem.W.nsIn K mainGlobals x=some none:=by
 have:=KP.mp q x hx
 split at this
 ·assumption
 ·cases this
def GF (X:K.In h)(G:h.Ns mainGlobals mg)(q:IE K=true):kh mg:=by
 have key:∀{x:Str},x∈Jd->mg x=none:=λhx=>PySem.W.mg_none_of X G (FE q hx)
 constructor <;> exact key (by decide)
end
end L2
namespace L2
open PySem PyProof.Rows
section
variable {X:Cx}{K:Frag}{pins:List V}{σ:St}{H:Hp}{s:Shared}{E:XK}
def tE (ns:List Int):Int:=ns.getD (argBest (λi j=>decide (ns.getD i 0 > ns.getD j 0)) (ns.length - 1)) 0
def tf (ns:List Int):Int:=ns.getD (argBest (λi j=>decide (ns.getD i 0 < ns.getD j 0)) (ns.length - 1)) 0
def getD_mem {ns:List Int}{i:Nat}(h:i < ns.length):ns.getD i 0∈ns:=by
 rw[Ko,J6 h];exact KS h
def mem_getD {ns:List Int}{x:Int}(h:x∈ns):∃i,i < ns.length/\ns.getD i 0=x:=by
 obtain⟨i,hi,e⟩:=List.getElem_of_mem h
 exact⟨i,hi,by rw[Ko,J6 hi];exact e⟩
def AJ {ns:List Int}(h:ns≠ []):tE ns∈ns:=by
 have h1:=(argBest_gt (λi=>ns.getD i 0) (ns.length - 1)).1
 have:=LZ.mpr h
 exact getD_mem (by omega)
def C8 {ns:List Int}{x:Int}(h:x∈ns):x<=tE ns:=by
 obtain⟨i,hi,e⟩:=mem_getD h
 rw[<-e];exact (argBest_gt (λi=>ns.getD i 0) (ns.length - 1)).2 i (by omega)
def Bk {ns:List Int}(h:ns≠ []):tf ns∈ns:=by
 have h1:=(argBest_lt (λi=>ns.getD i 0) (ns.length - 1)).1
 have:=LZ.mpr h
 exact getD_mem (by omega)
def C7 {ns:List Int}{x:Int}(h:x∈ns):tf ns<=x:=by
 obtain⟨i,hi,e⟩:=mem_getD h
 rw[<-e];exact (argBest_lt (λi=>ns.getD i 0) (ns.length - 1)).2 i (by omega)
theorem nv:∀{us:List Value} {ns:List Int},IntsAre us ns->∃xs:List (Int×Tok),us=xs.map (λp=>Value.int p.1 p.2)/\xs.map (·.1)=ns
 |_,_,.nil=>⟨[],rfl,rfl⟩
 |_,_,.cons n t hr=>by
  obtain⟨xs,e1,e2⟩:=nv hr
  exact⟨(n,t) :: xs,by rw[e1];rfl,by rw[<-e2];rfl⟩
def kO {us:List Value}{ns:List Int}(h:IntsAre us ns):∃xs:Array (Int×Tok),us.toArray=intItems xs/\(∀i,numAt xs i=ns.getD i 0)/\xs.size=ns.length:=by
 obtain⟨xs,e1,e2⟩:=nv h
 refine⟨xs.toArray,?_,λi=>?_,?_⟩
 ·rw[e1,intItems,List.map_toArray]
 ·rw[numAt_eq];show ((xs.map (·.1)).getD i 0)=_;rw[e2]
 ·rw[<-e2];simp
def vP (K:Frag)(g:List Int->Int):List V->Hp->VK->Prop:=λxs H Q=>∃a ns,xs= [.ref a]/\(fQ K H a (ns.map V.int)\/gk K H a (ns.map V.int))/\0 < ns.length/\Q (.int (g ns)) H
def tx {t:Addr}{A:Around}{prog:Program}{w:World}{xs:Array (Int×Tok)}{Em:Value->Shared->Prop}{op:CmpOp}{bt:Nat->Nat->Bool}{Q:Value->Shared->Prop}(hh:A.handled=none)(hT:s.heap.IsTuple t (intItems xs))(hne:0 < xs.size)(hc:CmpOf prog w A op (λi v=>(intItems xs)[i]? =some v) bt)
  (h:∀v h' tk,(intItems xs)[argBest bt (xs.size - 1)]? =some v->(∀b o,s.heap.get? b=some o->h'.get? b=some o)->Q v {s with heap:=h',toks:=tk}) :
  wpAny (model prog w) A (pyIter (.ref t)) (λit s₂=>∃I fp wr n P St bt,it=.ref I/\Walks prog w A I fp wr n P St/\St 0 s₂.heap/\(∀b∈fp,b < s₂.heap.objs.size)/\0 < n/\CmpOf prog w A op P bt/\
   ∀v h' tk,P (argBest bt (n - 1)) v->(∀b o,b∉wr->s₂.heap.get? b=some o->h'.get? b=some o)->Q v {s₂ with heap:=h',toks:=tk}) Em s:=by
 have hlt:t < s.heap.objs.size:=by obtain⟨_,e,_⟩:=hT;exact Kl e
 refine MS hT ?_
 refine⟨_,[_,t],[_],_,_,_,bt,rfl,Walks.tuple (A:=A) hh _ t (KN hlt) (intItems xs),⟨⟨_,Ky _ rfl,rfl,rfl⟩,?_⟩,λc hc=>?_,by simpa[intItems] using hne,hc,λv h' tk hP hk=>?_⟩
 ·exact hT.push _
 ·show c < (s.heap.push _).objs.size
  rw[LH]
  rcases Ke.mp hc with rfl |hc
  ·exact Nat.lt_succ_self _
  ·rcases Ke.mp hc with rfl |hc
   ·exact MF hlt
   ·cases hc
 ·refine h v h' tk (by simpa[intItems] using hP) λc o e=>hk c o (λhm=>?_) (Ka _ e)
  rcases Ke.mp hm with e1 |hm
  ·exact absurd (e1▸Kl e) (KU _)
  ·cases hm
def lj {xs:Array (Int×Tok)}{ns:List Int}{bt:Nat->Nat->Bool}{v:Value}(hx:∀i,numAt xs i=ns.getD i 0)(hp:(intItems xs)[argBest bt (xs.size - 1)]? =some v):∃t,v=.int (ns.getD (argBest bt (xs.size - 1)) 0) t:=by
 obtain⟨t,e⟩:=intItems_at hp
 exact⟨t,by rw[e,hx]⟩
def yc (hc:X.calm=true):b6 X (.builtin "max") (vP X.K tE):=by
 intro pins s σ H xs us Q I r h
 obtain⟨a,ns,rfl,hq,hz,q⟩:=h
 obtain⟨u,rfl,rx⟩:=vals1 r
 cases rx
 have hh:=I.ok.hd hc
 rcases hq with hq |hq
 ·obtain⟨its,rv,pl,_⟩:=I.list hq
  obtain⟨xs,e,hx,hs⟩:=kO (intsAre_of rv)
  refine max_intList (xs:=xs) hh (e▸pl.isList) (by omega) λv h' tk hp k=>⟨_,H,I.kept k,?_,q⟩
  obtain⟨t,rfl⟩:=lj hx hp
  simp only[hx,hs];exact⟨t,rfl⟩
 ·obtain⟨its,rv,pl,_⟩:=I.tuple hq
  obtain⟨xs,e,hx,hs⟩:=kO (intsAre_of rv)
  refine call_max_walk (tx (xs:=xs) hh (e▸pl) (by omega) (CmpOf.ints_gt (numAt xs) (λ_ _=>intItems_at)) λv h' tk hp k=>⟨_,H,I.kept k,?_,q⟩)
  obtain⟨t,rfl⟩:=lj hx hp
  simp only[hx,hs];exact⟨t,rfl⟩
def yE (hc:X.calm=true):b6 X (.builtin "min") (vP X.K tf):=by
 intro pins s σ H xs us Q I r h
 obtain⟨a,ns,rfl,hq,hz,q⟩:=h
 obtain⟨u,rfl,rx⟩:=vals1 r
 cases rx
 have hh:=I.ok.hd hc
 rcases hq with hq |hq
 ·obtain⟨its,rv,pl,_⟩:=I.list hq
  obtain⟨xs,e,hx,hs⟩:=kO (intsAre_of rv)
  refine min_intList (xs:=xs) hh (e▸pl.isList) (by omega) λv h' tk hp k=>⟨_,H,I.kept k,?_,q⟩
  obtain⟨t,rfl⟩:=lj hx hp
  simp only[hx,hs];exact⟨t,rfl⟩
 ·obtain⟨its,rv,pl,_⟩:=I.tuple hq
  obtain⟨xs,e,hx,hs⟩:=kO (intsAre_of rv)
  refine call_min_walk (tx (xs:=xs) hh (e▸pl) (by omega) (CmpOf.ints_lt (numAt xs) (λ_ _=>intItems_at)) λv h' tk hp k=>⟨_,H,I.kept k,?_,q⟩)
  obtain⟨t,rfl⟩:=lj hx hp
  simp only[hx,hs];exact⟨t,rfl⟩
def gW (g:List Int->Int)(d:D):Option D:=match hE d with
 |some ds=>(match dr ds with
  |some ns=>if 0 < ns.length then some (.int (g ns)) else none
  |none=>none)
 |none=>none
theorem xg {g:List Int->Int}:ye K (λx=>vP K g [x]) (gW g) .v:=by
 intro B G H x dx d Q s hB bx e k
 unfold gW at e
 cases q:hE dx with
 |none=>rw[q] at e;cases e
 |some ds=>
  rw[q] at e
  dsimp only at e
  cases q2:dr ds with
  |none=>rw[q2] at e;cases e
  |some ns=>
   rw[q2] at e
   dsimp only at e
   split at e
   ·rename_i hz
    cases e
    obtain⟨p,xs,rfl,hq,r⟩:=bx.seq q s
    rw[ll q2] at r
    have r:=r.intsB
    subst r
    exact⟨p,ns,rfl,hq,hz,k _ G H (Ext.refl s) (.int _)⟩
   ·cases e
end
end L2
namespace RM
open PySem L2
def k7:SF:=(bC (eJ (f1 (gv 0) (fG "int")) (f1 (f1 (gv 0) (fG "bool")) sF)))
def lq:SF:=(bC (eJ (f1 (gv 0) (fG "bool")) (f2 (gv 0) (gv 1) (cN false))))
def iX (av:List D->Int->FB):SF:=(aE (bE 1 ([] ++ ([] ++ ([] ++ ([] ++ ([] ++ ([] ++ ([] ++ ([] ++ ([] ++ ([] ++ (([] ++ []) ++ (([] ++ ([] ++ [])) ++ (([] ++ []) ++ []))))))))))))) (aH (aa (cst .none) (aa (cst (.bool true)) (aa (cst (.bool false)) (aa (cst (.int (-1))) (aa (cst (.int 0)) (aa (cst (.int 1)) (aa (cst (.str "")) (aa (cst (.str "1")) (aa (bW af) (aa (aH af) (aa (bW (aa (cst (.int 0)) af)) (aa (bW (aa (cst (.int 1)) (aa (bW af) af))) (aa (aH (aa (cst (.int 0)) af)) af)))))))))))))))
 (aE (bE 1 ([] ++ ([] ++ (([] ++ ([] ++ [])) ++ ([] ++ ((([] ++ ([] ++ [])) ++ []) ++ ([] ++ [])))))) (f2 (gv 1) (aH (aa (cst (.dict [(.str "a",.int 1)])) (aa (bW (aa (cst (.int 0)) (aa (cst (.int 1)) af))) (aa (f2 (cst (.int 10)) (cst (.int 39)) Bc) (aa (bW (aa (bW (aa (cst (.int 0)) (aa (cst (.int 1)) af))) af)) (aa (cst (.str "a")) af)))))) dw))
 (bC (f2 (gv 1) (gq 0 av (aa (cst (.int 18)) af)) cT))))
end RM
namespace L2.ST
open PySem PySem.SetTable
def xm (k:Int):Prop:=0<=k/\k < 8
def AG {t:SetTable}{hs:List Int}(T:Tab t hs)(h:Int):∃j,t.freeSlot h=some (j,false)/\j∉t.place/\j<=t.mask/\Reach t.mask (· ∈t.place) h j:=by
 obtain⟨n,h1,h2,h3⟩:=T.first h
 refine⟨(dh t.mask n (st t.mask h)).j,?_,h2,?_,⟨n,h1,rfl,h3⟩⟩
 ·have e:t.probe (λ_=>h + 1) h (t.probeStart h)=some (.empty (dh t.mask n (st t.mask h)).j none):=by
   unfold probe
   rw[Bu]
   refine sk n _ _ h1 rfl (λm hm=>?_) (T.slotE h2)
   obtain⟨i,e,q⟩:=T.slotL (h3 m hm)
   exact⟨i,e,λz=>by omega⟩
  unfold freeSlot
  rw[e];rfl
 ·have:=rM n (DB t.mask h)
  unfold In at this;omega
def zL {mask:Nat}(hm:yk mask){es:List (Int×Value)}(hl:es.length * 5 < mask * 3)(finger moves:Nat)(led:Bool) :
  ∃(t:SetTable) (order:Array Nat) (es':List (Int×Value)),laid mask finger moves led true (es.toArray.map (·.1))=some (t,order)/\order.filterMap (λi=>es.toArray[i]?)=es'.toArray/\es'.length=es.length/\
   (∀q,q∈es'↔q∈es)/\Tab t (es'.map (·.1))/\t.led=led/\coversAll order es.length=true/\es'.Perm es:=by
 obtain⟨t,order,e,el,em,nd,mem,T⟩:=pP hm (es.toArray.map (·.1)) (by simpa using hl) finger moves led
 have hsz:(es.toArray.map (·.1)).size=es.length:=by simp
 obtain⟨es',f1,f2,f3,f4⟩:=filterMap_get es.toArray order.toList λk hk=>by
  have:=(mem k).mp hk;rw[hsz] at this;simpa using this
 have hpm:order.toList.Perm (List.range es.length):=(List.perm_ext_iff_of_nodup nd L0).mpr λx=>by rw[mem x,hsz,KD]
 have hlen:order.toList.length=es.length:=by rw[hpm.length_eq,LV]
 have hp:es'.Perm es:=by
  rw[<-f1]
  refine (hpm.filterMap _).trans ?_
  have:=filterMap_getElem?_range es.toArray
  simp only[Kv,Lm] at this
  rw[this]
 refine⟨t,order,es',e,?_,by omega,λq=>hp.mem_iff,?_,el,by unfold coversAll;exact List.isPerm_iff.mpr hpm,hp⟩
 ·apply Array.toList_inj.mp
  rw[Array.toList_filterMap,<-f1]
 ·have:(order.toList.map λk=>(es.toArray.map (·.1)).toList.getD k 0)=es'.map (·.1):=by
   apply Mc
   intro i
   rw[Kk,Kk]
   cases hi:order.toList[i]? with
   |none=>
    have:es'[i]? =none:=Mg.mpr (by rw[f2];exact Mg.mp hi)
    rw[this];rfl
   |some k=>
    have hk:k < es.length:=by have:=(mem k).mp (Kj hi);rwa [hsz] at this
    have:=f3 i k hi
    rw[MH,J6 hk] at this
    rw[this]
    simp[hk]
  rw[<-this];exact T
structure nN (f:Int->Int)(led:Bool)(h:Heap)(S:Addr)(es:List (Int×Value)):Prop where
 ex:∃o ep t,h.get? S=some o/\o.ExactSet/\o.data=.set es.toArray ep t/\Tab t (es.map (·.1))/\t.led=led
 el:∀e,e∈es->∃k tk,e=(f k,.int k tk)/\xm k
 nd:(es.map (·.1)).Nodup
def nN.len {f:Int->Int}{led:Bool}{h:Heap}{S:Addr}{es:List (Int×Value)}(P:nN f led h S es):es.length<=8:=by
 have:=bu (m:=(List.range 8).map λ(k:Nat)=>f (k:Int)) P.nd λx hx=>by
  obtain⟨e,he,rfl⟩:=Kn.mp hx
  obtain⟨k,tk,rfl,h0,h8⟩:=P.el e he
  exact Kn.mpr ⟨k.toNat,KD.mpr (by omega),by show f ((k.toNat:Nat):Int)=f k;rw[Mq h0]⟩
 simpa using this
section
variable {prog:Program}{w:World}{A:Around}{E:Value->Shared->Prop}{s:Shared}
theorem nN.add {led:Bool}{S:Addr}{es:List (Int×Value)}{k:Int}{tk:Tok}{Q:Bool->Shared->Prop}(hinj:∀a b,xm a->xm b->(intKind prog w).hash a=(intKind prog w).hash b->a=b)(P:nN (intKind prog w).hash led s.heap S es)(hs:xm k)
  (h:∀(b:Bool) (h':Heap) (es':List (Int×Value)),Heap.SameBut S s.heap h'->nN (intKind prog w).hash led h' S es'->(∀e,e∈es'->e∈es\/e=((intKind prog w).hash k,.int k tk))->(∀e,e∈es->e∈es')->(∃tk',((intKind prog w).hash k,Value.int k tk')∈es')->Q b {s with heap:=h'}) :
  wpAny (model prog w) A (setAddHashed S (.int k tk) ((intKind prog w).hash k)) Q E s:=by
 obtain⟨o,ep,t,ho,hex,hd,T,hled⟩:=P.ex
 have hl8:=P.len
 have hfit:t.fits es.toArray.size=true:=ju T (by simp)
 have hel:ElemsOf (intKind prog w) es.toArray.toList:=λe he=>by
  obtain⟨k',tk',rfl,_⟩:=P.el e (by simpa using he)
  exact⟨⟨k',by simp[intKind,Value.isInt],rfl⟩,rfl⟩
 have hb:es.toArray.size < scanBound:=by unfold scanBound;simp;omega
 have hsc:(Value.int k tk).scannable=true:=rfl
 have hkey:(intKind prog w).is k (.int k tk)=true:=by simp[intKind,Value.isInt]
 unfold setAddHashed setAddHashedIn
 refine Lp (J8 (K7 ho hd hfit ?_))
 dsimp only
 rw[byScan_of hsc hb hel]
 simp only[↓reduceIte]
 unfold setAddByScan
 refine J8 ?_
 refine J8 (wpAny_rule ?_)
 refine J8 (wpAny_setScan_of hkey ho hd hfit hel ?_)
 cases hr:List.findIdx? (λe=>(intKind prog w).is k e.2) es.toArray.toList with
 |some j=>
  dsimp only
  obtain⟨hj,hpj,_⟩:=List.findIdx?_eq_some_iff_getElem.mp hr
  refine Kc (Kc ?_)
  have hm:es.toArray.toList[j]∈es:=by simpa using KS hj
  obtain⟨k',tk',e,_⟩:=P.el _ hm
  rw[e] at hpj hm
  have:k'=k:=by simpa[intKind,Value.isInt] using hpj
  subst this
  exact h false s.heap es (Heap.SameBut.refl ..) P (λe he=>.inl he) (λe he=>he) ⟨tk',hm⟩
 |none=>
  dsimp only
  obtain⟨hh,hhe⟩:∃hh,hh=(intKind prog w).hash k:=⟨_,rfl⟩
  have hn:hh∉es.map (·.1):=λz=>by
   obtain⟨e,he,e1⟩:=Kn.mp z
   obtain⟨k',tk',rfl,hk'⟩:=P.el e he
   have:k'=k:=hinj _ _ hk' hs (e1.trans hhe)
   subst this
   have:=List.findIdx?_eq_none_iff.mp hr _ (by simpa using he)
   simp[intKind,Value.isInt] at this
  rw[<-hhe]
  obtain⟨j,e1,e2,e3,e4⟩:=AG T hh
  obtain⟨q1,q2⟩:=ly t j T.dum
  have hpl:(t.put j).1.plain=true:=by rw[q1];exact T.plain
  have hbl:(t.put j).2<=es.length:=by
   rw[q2]
   have:=(bN T.rise j).1
   rw[T.size] at this;simpa using this
  obtain⟨es1,hes1⟩:∃es1,es1=es.take (t.put j).2 ++ (hh,Value.int k tk) :: es.drop (t.put j).2:=⟨_,rfl⟩
  have hins:insertAt es.toArray (t.put j).2 (hh,Value.int k tk)=es1.toArray:=by
   apply Array.toList_inj.mp
   rw[a9 _ _ _ (by simpa using hbl),hes1]
  have perm:es1.Perm ((hh,Value.int k tk) :: es):=by
   rw[hes1]
   refine List.perm_middle.trans ?_
   rw[L8]
  have len1:es1.length=es.length + 1:=by rw[perm.length_eq];rfl
  have nd1:(es1.map (·.1)).Nodup:=(perm.map (·.1)).nodup_iff.mpr (KI.mpr ⟨hn,P.nd⟩)
  have el1:∀e,e∈es1->∃k tk,e=((intKind prog w).hash k,.int k tk)/\xm k:=λe he=>by
   rcases Ke.mp (perm.mem_iff.mp he) with z |z
   ·exact⟨k,tk,by rw[z,hhe],hs⟩
   ·exact P.el e z
  have psz:(t.put j).1.place.size=es.length + 1:=by
   rw[q1]
   show (insertAt t.place (below t.place j) j).size=_
   rw[<-LX,a9 _ _ _ (bN T.rise j).1]
   have:=T.size
   simp at this ⊢
   have:=(bN T.rise j).1
   omega
  have dum1:(t.put j).1.dummies=#[]:=by rw[q1];exact T.dum
  have mask1:(t.put j).1.mask=t.mask:=by rw[q1]
  have tsz:t.place.size=es.length:=by simpa using T.size
  have hload:=T.load
  rw[tsz] at hload
  have hfit1:(t.put j).1.fits es1.toArray.size=true:=by
   unfold SetTable.fits SetTable.fill
   have hpl2:es.length + 1<=t.mask:=by
    rcases T.mask with e |e |e <;> rw[e] at hload ⊢ <;> omega
   rw[psz,dum1,mask1]
   simp[len1,hpl2]
  have hL:layNew t es.toArray hh (.int k tk)=(es1.toArray,(t.put j).1,false,false):=by
   unfold layNew
   rw[e1]
   dsimp only
   rw[hins]
   unfold orStandIn
   rw[hfit1];rfl
  have hgw:∀{s₁:Shared} {Q':Unit->Shared->Prop},Q' () s₁->wpAny (model prog w) A (match false with |true=>rule "set.scan.the-table-gave-way" |false=>pure ()) Q' E s₁:=λhq=>Kc hq
  rw[hL]
  dsimp only
  refine J8 (hgw ?_)
  rw[hpl]
  simp only[↓reduceIte]
  refine J8 ?_
  rw[hashByValue_scannable 8 hsc]
  refine Kc ?_
  rw[show plainKind (Value.int k tk)=true from rfl]
  simp only[↓reduceIte]
  have hsize:es1.toArray.size<=sizeLine:=by rw[KH];simp;omega
  refine J8 (MX ho hd ?_ hsize)
  have ho1:(s.heap.update S (Obj.putSet es1.toArray (t.put j).1)).get? S=some {o with data:=.set es1.toArray (ep + 1) (t.put j).1}:=by
   have:=K5 (Obj.putSet es1.toArray (t.put j).1) ho (by rw[MR _ _ hd];rfl)
   rw[MR _ _ hd] at this;exact this
  have sb1:=Heap.SameBut.update s.heap S (Obj.putSet es1.toArray (t.put j).1)
  have m1:∀e,e∈es1->e∈es\/e=((intKind prog w).hash k,.int k tk):=λe he=>by
   rcases Ke.mp (perm.mem_iff.mp he) with z |z
   ·exact .inr (by rw[z,hhe])
   ·exact .inl z
  have m2:∀e,e∈es->e∈es1:=λe he=>perm.mem_iff.mpr (J9 _ he)
  have m3:((intKind prog w).hash k,Value.int k tk)∈es1:=perm.mem_iff.mpr (by rw[<-hhe];exact Kd ..)
  simp only[Bool.not_false,Bool.true_and]
  cases htf:(t.put j).1.tooFull with
  |false=>
   simp only[Kx,KZ]
   have hload2:(t.place.size + 1) * 5 < t.mask * 3:=by
    unfold SetTable.tooFull SetTable.fill at htf
    rw[psz,dum1,mask1] at htf
    simp at htf
    rw[tsz];exact htf
   obtain⟨T1,_⟩:=T.put e2 e3 e4 hload2
   refine Kc (Kc (h true _ es1 sb1 ⟨⟨_,ep + 1,_,ho1,hex,rfl,?_,?_⟩,el1,nd1⟩ m1 m2 ⟨tk,m3⟩))
   ·rw[hes1]
    simpa[List.map_take,List.map_drop] using T1
   ·rw[q1];exact hled
  |true=>
   simp only[Lg]
   have hfull:t.mask * 3<=(es.length + 1) * 5:=by
    unfold SetTable.tooFull SetTable.fill at htf
    rw[psz,dum1,mask1] at htf
    simpa using htf
   have hcase:∃mask',yk mask'/\sizeAbove (grown (es.length + 1)) - 1=mask'/\(es.length + 1) * 5 < mask' * 3:=by
    rcases T.mask with e |e |e
    ·have:es.length + 1=5:=by rw[e] at hfull hload;omega
     rw[this,AW.1]
     exact⟨31,.inr (.inl rfl),rfl,by decide⟩
    ·rw[e] at hfull;omega
    ·rw[e] at hfull;omega
   obtain⟨mask',hm3,em,hl2⟩:=hcase
   obtain⟨t2,order,es2,g1,g2,g3,g4,g5,g6,g7,g8⟩:=zL hm3 (es:=es1) (by rw[len1];exact hl2) (t.put j).1.finger ((t.put j).1.movedTo mask') (t.put j).1.led
   have hfit2:t2.fits es2.toArray.size=true:=ju g5 (by simp)
   have hR:relayAll (t.put j).1 es1.toArray (grown es1.toArray.size)=(es2.toArray,t2,false):=by
    unfold relayAll
    rw[mi _ _ _ hpl,Kv,len1,em,g1]
    dsimp only
    rw[g2,hfit2,<-len1,g7];rfl
   rw[hR]
   dsimp only
   refine J8 (hgw ?_)
   have hsize2:es2.toArray.size<=sizeLine:=by rw[KH];simp;omega
   refine J8 (MX ho1 rfl ?_ hsize2)
   have ho2:((s.heap.update S (Obj.putSet es1.toArray (t.put j).1)).update S (Obj.putSet es2.toArray t2)).get? S=some {o with data:=.set es2.toArray (ep + 1 + 1) t2}:=by
    have:=K5 (Obj.putSet es2.toArray t2) ho1 (by rw[MR (ep:=ep + 1) _ _ rfl];rfl)
    rw[MR (ep:=ep + 1) _ _ rfl] at this;exact this
   have sb2:=sb1.trans (Heap.SameBut.update _ S (Obj.putSet es2.toArray t2))
   refine Kc (Kc (h true _ es2 sb2 ⟨⟨_,ep + 1 + 1,t2,ho2,hex,rfl,g5,?_⟩,λe he=>el1 e ((g4 e).mp he),(g8.map (·.1)).nodup_iff.mpr nd1⟩ (λe he=>m1 e ((g4 e).mp he)) (λe he=>(g4 e).mpr (m2 e he)) ⟨tk,(g4 _).mpr m3⟩))
   rw[g6,q1];exact hled
def nE (vs:List Value)(ns:List Int):Prop:=vs.length=ns.length/\∀(i:Nat) (v:Value) (m:Int),vs[i]? =some v->ns[i]? =some m->(∃tk,v=.int m tk)/\xm m
abbrev vZ (prog:Program)(w:World)(h:Heap)(S:Addr)(ns:List Int)(k:Nat):Prop:=∃es:List (Int×Value),nN (intKind prog w).hash (dz w) h S es/\
 (∀e,e∈es->∃m tk,e=((intKind prog w).hash m,.int m tk)/\m∈ns.take k)/\∀m,m∈ns.take k->∃tk,((intKind prog w).hash m,Value.int m tk)∈es
def nN.to {f:Int->Int}{led:Bool}{h h':Heap}{S:Addr}{es:List (Int×Value)}(P:nN f led h S es)(k:∀o,h.get? S=some o->h'.get? S=some o):nN f led h' S es:=by
 obtain⟨o,ep,t,ho,r⟩:=P.ex
 exact⟨⟨o,ep,t,k o ho,r⟩,P.el,P.nd⟩
def wX:∀k:Nat,k < 8->hashInt (k:Int)=(k:Int):=by decide +kernel
def CD (prog:Program)(w:World):∀a b,xm a->xm b->(intKind prog w).hash a=(intKind prog w).hash b->a=b:=λa b ha hb e=>by
 have e:hashInt a=hashInt b:=e
 obtain⟨a0,a8⟩:=ha
 obtain⟨b0,b8⟩:=hb
 have ea:=wX a.toNat (by omega)
 have eb:=wX b.toNat (by omega)
 rw[Mq a0] at ea
 rw[Mq b0] at eb
 omega
theorem kz {R:Result->Shared->Prop}{I:Addr}{fp wr:List Addr}{n:Nat}{P:Nat->Value->Prop}{St:Nat->Heap->Prop}(W:Walks prog w A.in1 I fp wr n P St)(S:Addr)(hSf:S∉fp){vs:List Value}{ns:List Int}(hn:vs.length=n)(hP:∀i v,P i v->vs[i]? =some v)
  (hps:nE vs ns):∀(k i:Nat) (s:Shared),n - i=k->i<=n->St i s.heap->vZ prog w s.heap S ns i->
   (∀h' tk,(∀b o,b∉S :: wr->s.heap.get? b=some o->h'.get? b=some o)->vZ prog w h' S ns n->R (.ok (.ret .none)) {s with heap:=h',toks:=tk})->
   codeAny (model prog w) A (.builtin "set.update.loop" ⟨[.ref S,.ref I],[]⟩) R s:=by
 have nw:S∉wr:=λh=>hSf (W.sub _ h)
 intro k
 induction k with
 |zero=>
  intro i s hk hi hst hF hR
  obtain rfl:i=n:=by omega
  refine LL LD ?_
  rw[LG K8 _]
  show wpAny _ A.in1 (pyNext (.ref I) >>= λr=>_) _ _ s
  refine J8 (W.done s _ _ hst λh' tk hm=>?_)
  show wpAny _ A.in1 (ret Value.none) _ _ _
  obtain⟨es,Q1,Q2,Q3⟩:=hF
  exact Kc (hR h' tk (λb o hb e=>hm b o (λz=>hb (J9 _ z)) e) ⟨es,Q1.to λo e=>hm S o nw e,Q2,Q3⟩)
 |succ k ih=>
  intro i s hk hi hst hF hR
  have hlt:i < n:=by omega
  refine LL LD ?_
  rw[LG K8 _]
  show wpAny _ A.in1 (pyNext (.ref I) >>= λr=>_) _ _ s
  refine J8 (W.item i s _ _ hlt hst λv h1 tk1 hv hst1 hm=>?_)
  have hvi:=hP i v hv
  have hip:i < ns.length:=by rw[<-hps.1,hn];exact hlt
  obtain⟨⟨tv,rfl⟩,hsm⟩:=hps.2 i v ns[i] hvi (J6 hip)
  obtain⟨es,Q1,Q2,Q3⟩:=hF
  have P1:nN (intKind prog w).hash (dz w) h1 S es:=Q1.to λo e=>hm S o nw e
  show wpAny _ A.in1 (holding [Value.int ns[i] tv] (setAdd S (.int ns[i] tv)) >>= λ_=>_) _ _ _
  refine J8 (Lp ?_)
  unfold setAdd
  refine Lp (J8 (wpAny_pyHash_int ?_))
  refine nN.add (CD prog w) (s:={s with heap:=h1,toks:=tk1 + 1}) P1 hsm λb h2 es' sb P2 m1 m2 m3=>?_
  have htk:∀{α:Type} {l:List α} {x:α},x∈l.take i->x∈l.take (i + 1):=λ{α l x} hx=>by
   rw[Lo];exact LF _ hx
  refine Kc ⟨plainId_quiet K8 _,ih (i + 1) _ (by omega) hlt (W.frame _ _ _ hst1 λb hb o e=>?_) ⟨es',P2,λe he=>?_,λm hm'=>?_⟩ λh' tk hm' F'=>?_⟩
  ·rw[sb.2 b λz=>hSf (by rw[<-z];exact hb)];exact e
  ·rcases m1 e he with z |z
   ·obtain⟨m,t',e',hmm⟩:=Q2 e z
    exact⟨m,t',e',htk hmm⟩
   ·refine⟨ns[i],tv,z,?_⟩
    rw[Lo,J6 hip];exact KR _ (by simp)
  ·rw[Lo,J6 hip] at hm'
   rcases KA.mp hm' with z |z
   ·obtain⟨t',ht'⟩:=Q3 m z
    exact⟨t',m2 _ ht'⟩
   ·have:m=ns[i]:=by simpa using z
    subst this
    exact m3
  ·refine hR h' tk (λb o hb e=>hm' b o hb ?_) F'
   show h2.get? b=some o
   rw[sb.2 b λz=>hb (by rw[z];exact Kd)]
   exact hm b o (λz=>hb (J9 _ z)) e
set_option maxHeartbeats 3200000 in
theorem my {l:Addr}{vs:List Value}{ns:List Int}{T:String}{itO:Obj}{St:Addr->Nat->Heap->Prop}{Q:Value->Shared->Prop}(X:Src prog w s.heap l vs T itO St)(hh:A.handled=none)(hps:nE vs ns)
  (h:∀(h':Heap) (tk:Nat),vZ prog w h' s.heap.objs.size ns vs.length->(∀b o,s.heap.get? b=some o->h'.get? b=some o)->Q (.ref s.heap.objs.size) {s with heap:=h',toks:=tk}) :
  wpAny (model prog w) A (call (.type "set") [.ref l]) Q E s:=by
 obtain⟨c0,tl0,hmro0⟩:=Lk.mro
 have hmade0:=Lk.made
 have hsub0:=Lk.sub
 refine wpAny_call (codeAny_of_tree ?_)
 show wpAny _ _ (callAny (.type "set") ⟨[.ref l],[]⟩) _ _ _
 refine Kc ⟨Code.quiet_builtin _ (by decide +kernel),LL F.entry_type_call ?_⟩
 (rw[Around.under_plain (weight_type_call_type "set" [.ref l] []) rfl])
 have g1:=Lk.notType
 have g2:=Lk.canCreate
 have g3:=F.typeCall_set_1 (.ref l)
 repeat (any_goals (first |assumption |wp_step))
 refine Mi (ml (.ref l) (E:=E) (Q1:=λobj s1=>obj=.ref s.heap.objs.size/\s1={s with heap:=s.heap.push {cls:=.type "set",dict:=none,data:=.set #[] 0 (.fresh 0 0 (dz w))}}) ⟨rfl,rfl⟩) λr s1 hr=>?_
 cases r with
 |error e=>exact hr
 |ok fl=>
  cases fl with
  |ret obj=>
   obtain⟨rfl,rfl⟩:=hr
   generalize hO:({cls:=.type "set",dict:=none,data:=.set #[] 0 (.fresh 0 0 (dz w))}:Obj)=O
   have hS0:(s.heap.push O).get? s.heap.objs.size=some O:=Ky _ (by rw[<-hO];rfl)
   have hT0:Shared.TypeIs {s with heap:=s.heap.push O} (.ref s.heap.objs.size) "set":=⟨_,hS0,by rw[<-hO]⟩
   have g4:=Lk.init.lookup
   have g5:=Lk.init.bind (.ref s.heap.objs.size)
   repeat (any_goals (first |assumption |wp_step))
   refine Mi (codeAny_call_builtin (R:=wants (λr s2=>r=.none/\∃h' tk,s2={s with heap:=h',toks:=tk}/\vZ prog w h' s.heap.objs.size ns vs.length/\(∀b o,s.heap.get? b=some o->h'.get? b=some o)) E)
    Lk.init.plain F.entry_set_init (check_set_init_1 hT0 ?_)) λr2 s2 hr2=>?_
   ·obtain⟨ol,hol,hcl⟩:=X.ty
    have hol':(s.heap.push O).get? l=some ol:=Ka _ hol
    have e1:=X.ns
    have e2:=X.nf
    have e3:=X.nd
    have hTl:Shared.TypeIs {s with heap:=s.heap.push O} (.ref l) T:=⟨ol,hol',hcl⟩
    have hdat:O.data=.set #[] 0 (.fresh 0 0 (dz w)):=by rw[<-hO]
    (unfold Builtin.«set.__init__» noKeywords Builtin.Frozenset.updateFrom)
    subst hO
    obtain⟨oc,od,odt,osl⟩:=ol
    simp only at hcl
    subst hcl
    (generalize hPI0:pyIter=PI0)
    wp_walk
    subst hPI0
    have kp:∀b o,s.heap.get? b=some o->(s.heap.push {cls:=.type "set",dict:=none,data:=.set #[] 0 (.fresh 0 0 (dz w))}).get? b=some o:=λb o e=>Ka _ e
    refine X.it _ _ _ _ kp ?_
    refine J8 (wpAny_runValue ?_)
    have hlS:l < s.heap.objs.size:=Kl hol
    have hh3:A.in1.in1.in1.handled=none:=by simp[hh]
    have hneI:l≠(s.heap.push {cls:=.type "set",dict:=none,data:=.set #[] 0 (.fresh 0 0 (dz w))}).objs.size:=by
     rw[LH];exact KN (MF hlS)
    have hSf:s.heap.objs.size∉ [(s.heap.push {cls:=.type "set",dict:=none,data:=.set #[] 0 (.fresh 0 0 (dz w))}).objs.size,l]:=by
     rw[LH]
     intro z
     rcases Ke.mp z with e |z
     ·exact absurd e (KN (Nat.lt_succ_self _))
     ·exact absurd (Kz.mp z) (Nat.ne_of_gt hlS)
    refine kz (X.wk _ _ hh3 hneI) s.heap.objs.size hSf rfl (λi v e=>e) hps (vs.length - 0) 0 _ (by omega) (KY _) (X.st _ kp) ?_ ?_
    ·refine⟨[],⟨⟨_,0,_,Ka _ hS0,⟨rfl,rfl,rfl⟩,rfl,pZ _,rfl⟩,λq hq=>(by cases hq),nodup_nil⟩,λq hq=>(by cases hq),λp hp=>(by simp at hp)⟩
    ·intro h' tk hm F'
     show wpAny _ _ _ _ _ _
     refine Kc ?_
     show wpAny _ _ (ret Value.none) _ _ _
     refine Kc ⟨rfl,h',tk,rfl,F',λb o e=>hm b o (λz=>?_) (Ka _ (kp b o e))⟩
     have hlt:=Kl e
     rw[LH] at z
     rcases Ke.mp z with z |z
     ·exact absurd hlt (by rw[z];exact KU _)
     ·rw[Kz.mp z] at hlt
      exact absurd hlt (Nat.not_lt.mpr (MN _))
   ·cases r2 with
    |error e=>exact hr2
    |ok fl2=>
     cases fl2 with
     |ret r=>
      obtain⟨rfl,h',tk,rfl,hF,hk⟩:=hr2
      repeat (any_goals (first |assumption |wp_step))
      exact h _ _ hF hk
     |_=>exact hr2.elim
  |_=>exact hr.elim
end
end L2.ST
namespace L2
open PySem PySem.Spec PyProof.Rows L2.ST
def HU:List Int:=[0,1,2,3,4,5,6,7]
def sI (ns:List Int):List Int:=HU.filter λk=>decide (k∈ns)
def Di {k:Int}(h:xm k):k∈HU:=by
 obtain⟨h0,h8⟩:=h
 simp only[HU,Ke,L1,or_false];omega
def DY (ns:List Int):(sI ns).Nodup:=List.Nodup.sublist (MO ..) (by decide)
def Hi (ns:List Int):(sI ns).Pairwise (· < ·):=List.Pairwise.sublist (MO ..) (by decide)
def EJ {ns:List Int}(h:∀k,k∈ns->xm k){k:Int}:k∈sI ns↔k∈ns:=by
 unfold sI
 rw[Lj,decide_eq_true_iff]
 exact⟨λx=>x.2,λx=>⟨Di (h k x),x⟩⟩
def Cm {ns ms:List Int}(h:∀k,k∈ns->xm k)(nd:ms.Nodup)(hm:∀k,k∈ms↔k∈ns):sortI ms=sI ns:=
 (kg ((List.perm_ext_iff_of_nodup (DY ns) nd).mpr λk=>(EJ h).trans (hm k).symm) ((Hi ns).imp λh=>Int.le_of_lt h)).symm
section
variable {K:Frag}{X:Cx}{G H:Hp}
def Az (w:World)(S:Addr)(es:List (Int×Value))(h:Heap):Prop:=∃o ep t,h.get? S=some o/\o.ExactSet/\o.data=.set es.toArray ep t/\Tab t (es.map (·.1))/\t.led=dz w
def r9 (w:World)(S:Addr)(es:List (Int×Value)):HO:=.ext (Az w S es)
def JI (f:Int->Int)(es:List (Int×Value))(ns:List Int):Prop:=(∀e,e∈es->∃m tk,e=(f m,.int m tk)/\m∈ns)/\(∀m,m∈ns->∃tk,(f m,Value.int m tk)∈es)/\(es.map (·.1)).Nodup/\es.length<=8
def DH (P:Program)(w:World)(K:Frag):List V->Hp->VK->Prop:=λxs H Q=>∃a ns,xs= [.ref a]/\(fQ K H a (ns.map V.int)\/gk K H a (ns.map V.int))/\(∀k,k∈ns->xm k)/\
 ∀S es,H S=none->JI (intKind P w).hash es ns->Q (.ref S) (upd H S (r9 w S es))
def xV (hc:X.calm=true):b6 X (.type "set") (DH X.prog X.w X.K):=by
 intro pins s σ H xs us Q I r h
 obtain⟨a,ns,rfl,hq,hs,q⟩:=h
 obtain⟨u,rfl,rx⟩:=vals1 r
 cases rx
 have hh:=I.ok.hd hc
 have core:∀{its:List Value} {T:String} {itO:Obj} {St:Addr->Nat->Heap->Prop},Vals (ns.map V.int) its->Src X.prog X.w s.heap a its T itO St->wpAny (model X.prog X.w) X.A (call (.type "set") [.ref a]) (EP X pins σ Q) X.xe s:=λ{its T itO St} rv src=>by
  have hlen:its.length=ns.length:=by rw[<-rv.length,Kb]
  have sm:nE its ns:=⟨hlen,λi v m e1 e2=>by
   obtain⟨t,ht⟩:=(intsAre_of rv).get i m e2
   rw[e1] at ht
   cases ht
   exact⟨⟨t,rfl⟩,hs m (Kj e2)⟩⟩
  refine my src hh sm λh' tk F k=>?_
  obtain⟨es,P1,P2,P3⟩:=F
  rw[hlen,Lv (Kg _)] at P2 P3
  have hf:H s.heap.objs.size=none:=I.hok.fresh (Kg _)
  obtain⟨o,ep,t,ho,r1⟩:=P1.ex
  have new:bA X.prog X.w (upd H s.heap.objs.size (r9 X.w s.heap.objs.size es)) h' s.heap.objs.size (r9 X.w s.heap.objs.size es):=
   ⟨⟨o,ep,t,ho,r1⟩,⟨o,ho⟩,λh1 h2 ⟨o1,ep1,t1,g1,g2⟩ kk=>⟨o1,ep1,t1,kk _ g1,g2⟩⟩
  exact⟨.ref _,_,I.laid (t':=tk) k (Kg _) new,rfl,q _ es hf ⟨P2,P3,P1.nd,P1.len⟩⟩
 rcases hq with hq |hq
 ·obtain⟨its,rv,pl,hz⟩:=I.list hq
  exact core rv (Src.list pl.isList)
 ·obtain⟨its,rv,pl,hz⟩:=I.tuple hq
  exact core rv (Src.tuple pl)
def qj (P:Program)(w:World)(K:Frag):List V->Hp->VK->Prop:=λxs H Q=>∃S es ns,xs= [.ref S]/\H S=some (r9 w S es)/\JI (intKind P w).hash es ns/\(∀k,k∈ns->xm k)/\∀l,H l=none->Q (.ref l) (upd H l (.lst ((sI ns).map V.int)))
theorem om {f:Int->Int}{ns:List Int}:∀{es:List (Int×Value)},(∀e,e∈es->∃m tk,e=(f m,Value.int m tk)/\m∈ns)->∃ms,IntsAre (es.map (·.2)) ms/\es.map (·.1)=ms.map f/\∀m,m∈ms↔∃tk,(f m,Value.int m tk)∈es
 | [],_=>⟨[],.nil,rfl,λm=>⟨(λh=>by cases h),(λ⟨_,h⟩=>by cases h)⟩⟩
 |e :: es,h=>by
  obtain⟨ms,a1,a2,a3⟩:=om λe he=>h e (J9 _ he)
  obtain⟨m,tk,rfl,_⟩:=h e (Kd ..)
  refine⟨m :: ms,.cons m tk a1,by rw[K2,K2,a2],λx=>?_⟩
  rw[Ke,a3 x]
  constructor
  ·rintro (rfl | ⟨t,ht⟩)
   ·exact⟨tk,Kd ..⟩
   ·exact⟨t,J9 _ ht⟩
  ·rintro⟨t,ht⟩
   rcases Ke.mp ht with z |z
   ·simp only[Prod.mk.injEq,Value.int.injEq] at z;exact .inl z.2.1
   ·exact .inr ⟨t,z⟩
def oR (hc:X.calm=true):b6 X (.builtin "sorted") (qj X.prog X.w X.K):=by
 intro pins s σ H xs us Q I r h
 obtain⟨S,es,ns,rfl,hS,⟨h1,h2,nd,hl⟩,hs,q⟩:=h
 obtain⟨u,rfl,rx⟩:=vals1 r
 cases rx
 have hh:=I.ok.hd hc
 obtain⟨⟨o,ep,t,ho,hex,hd,T,hled⟩,_,_⟩:Az X.w S es s.heap/\_:=I.hok S _ hS
 have T':Tab t (es.toArray.toList.map (·.1)):=by rw[Lm];exact T
 have htp:=lx X.w S ep es.toArray
 rw[Lm] at htp
 obtain⟨ms,a1,a2,a3⟩:=om (f:=(intKind X.prog X.w).hash) (ns:=ns) (es:=(told X.w S ep es.toArray).toList) λe he=>h1 e (htp.mem_iff.mp he)
 have ndm:ms.Nodup:=by
  have:((told X.w S ep es.toArray).toList.map (·.1)).Nodup:=(htp.map (·.1)).nodup_iff.mpr nd
  rw[a2] at this
  exact (Ln.mp this).imp λhxy e=>hxy (by rw[e])
 have hms:∀m,m∈ms↔m∈ns:=λm=>by
  rw[a3 m]
  constructor
  ·rintro⟨tk,ht⟩
   obtain⟨m',tk',e,hm'⟩:=h1 _ (htp.mem_iff.mp ht)
   simp only[Prod.mk.injEq,Value.int.injEq] at e
   rw[e.2.1];exact hm'
  ·intro hm
   obtain⟨tk,ht⟩:=h2 m hm
   exact⟨tk,htp.mem_iff.mpr ht⟩
 have hlen:((told X.w S ep es.toArray).toList.map (·.2)).length<=8:=by rw[Kb,htp.length_eq];exact hl
 (refine Calls.call_function_entry kind_sorted plain_sorted entry_sorted (args_sorted1 _) ?_)
 unfold Builtin.«sorted»
 refine J8 (m:=checkCount "sorted" 1 1 ([Value.ref S]:List Value).length) (Kc ?_)
 refine J8 (me (by simpa using hh) ho hd hex.1 T' hled (by simp;omega) λh1' tk1 vs ev k1=>?_)
 rw[ev]
 generalize hvs:(told X.w S ep es.toArray).toList.map (·.2)=vs' at a1 hlen
 have hz:vs'.length<=sizeLine:=by rw[KH];omega
 refine J8 (wpAny_newList ?_ hz)
 show wpAny _ _ _ _ _ {s with heap:=h1'.push (seqObj "list" vs'.toArray 0),toks:=tk1}
 have hoL:(h1'.push (seqObj "list" vs'.toArray 0)).get? h1'.objs.size=some (seqObj "list" vs'.toArray 0):=Ky _ rfl
 refine J8 (Lp (Ml slot_list_sort ⟨_,hoL,rfl⟩ entry_list_sort (list_sort_tree hoL a1 (by omega) λout ns' b1 b2 b3=>⟨_,rfl,?_⟩) (args_list_sort _)))
 refine Kc ⟨_,rfl,?_⟩
 obtain rfl:=kg b2 b3
 rw[Cm hs ndm hms] at b1
 obtain⟨c,he⟩:∃c,(sortedHeap (h1'.push (seqObj "list" vs'.toArray 0)) h1'.objs.size vs' out).get? h1'.objs.size=some (seqObj "list" out c):=sortedHeap_at hoL
 have k2:∀b o,h1'.get? b=some o->(sortedHeap (h1'.push (seqObj "list" vs'.toArray 0)) h1'.objs.size vs' out).get? b=some o:=λb o e=>by
  have hlt:=Kl e
  rw[sortedHeap_old (KN hlt) (by rw[size_push'];exact MF hlt),Heap.get?_push_ne _ _ _ (KN hlt)];exact e
 have I1:Inv X pins σ H {s with heap:=h1',toks:=tk1}:=I.kept k1
 have hf:H h1'.objs.size=none:=I1.hok.fresh (Kg _)
 have hz':((sI ns).map V.int).length<=sizeLine:=by
  have:(sI ns).length<=8:=(MO (l:=HU)).length_le
  rw[Kb,KH];omega
 have I2:Inv X pins σ (upd H h1'.objs.size (.lst ((sI ns).map V.int))) {s with heap:=sortedHeap (h1'.push (seqObj "list" vs'.toArray 0)) h1'.objs.size vs' out,toks:=tk1}:=I1.laid (t':=tk1) k2 (Kg _) (show bA X.prog X.w _ _ _ (.lst ((sI ns).map V.int)) from⟨hz',out.toList,c,qD b1,he⟩)
 exact⟨.ref _,_,I2,rfl,q _ hf⟩
def Jk (k:Int):Bool:=decide (0<=k) && decide (k < 8)
def cJ (d:D):Option D:=match hE d with
 |some ds=>(match dr ds with
  |some ns=>if ns.all Jk=true then some (.list ((sI ns).map int)) else none
  |none=>none)
 |none=>none
variable {Γ:Fx}{E:XK}{e a b c:Expr}{f fa fb fc:VF D}{L La Lb:List Nat}{md ma mb mc:Md}{pos:Pos}
theorem l6 {p1 p2 pos2:Pos}(hc:X.calm=true)(hK:X.K=Γ.K)(hg:Gl X "sorted")(hm:X.mg "sorted"=none)(hg2:Gl X "set")(hm2:X.mg "set"=none)(ha:SE X Γ E a fa La ma)
  (he:starEach [a] X.env=(false,eval a X.env) :: starEach [] X.env:=by rfl)
  (he2:starEach [.Call (.Name "set" p2) [a] [] pos2] X.env=(false,eval (.Call (.Name "set" p2) [a] [] pos2) X.env) :: starEach [] X.env:=by rfl) :
  SE X Γ E (.Call (.Name "sorted" p1) [.Call (.Name "set" p2) [a] [] pos2] [] pos) (f1 fa cJ) La .w:=by
 refine PE.post' (hX (oR hc) hg hm (by decide +kernel) (aG (fN (xV hc) hg2 hm2 (by decide +kernel) (aG ha a7 he) (by decide) (by decide) he) a7 he2) (by decide) (by decide) he2) λσ H Q ⟨env,G,B,β,I,o⟩=>?_
 refine gK (r:=λx H1 Q=>DH X.prog X.w X.K [x] H1 λy H2=>qj X.prog X.w X.K [y] H2 Q) ?_ I o
 intro B G H x dx d Q s hB bx e k
 rw[hK]
 unfold cJ at e
 cases q:hE dx with
 |none=>rw[q] at e;cases e
 |some ds=>
  rw[q] at e
  dsimp only at e
  cases q2:dr ds with
  |none=>rw[q2] at e;cases e
  |some ns=>
   rw[q2] at e
   dsimp only at e
   split at e
   ·rename_i hh
    cases e
    obtain⟨p,xs,rfl,hq,r⟩:=bx.seq q s
    rw[ll q2] at r
    have r:=r.intsB
    subst r
    have sm:∀k,k∈ns->xm k:=λk hk=>by
     have:=KP.mp hh k hk
     unfold Jk at this
     simp only[Kq,K0] at this
     exact this
    refine⟨p,ns,rfl,hq,sm,λS es hS he'=>?_⟩
    refine⟨S,es,ns,rfl,ak,he',sm,λl hl=>?_⟩
    have hlH:H l=none:=by
     by_cases z:l=S
     ·subst z;exact hS
     ·rw[aq z] at hl;exact hl
    have hh:ah H (upd (upd H S (r9 X.w S es)) l (.lst ((sI ns).map V.int))):=(ah.new hS).trans (ah.new hl)
    refine k _ _ _ (Ext.tups s hh) ⟨l,rfl,hlH,?_,_,ak,bI.ints _⟩
    unfold ku
    rw[s.free hlH,ak]
    exact Ki λy=>y
   ·cases e
end
end L2
namespace L2
open PySem PySem.Spec PyProof.Rows
section
variable {Γ:Fx}{B:Option Addr}{G H G3 H3:Hp}{σ σ1:St}{env env1:En}{β β':Int}
def SR.poke (I:SR Γ B G H σ env β)(hbr:∀j,Γ.br j=false){a:Addr}{zs ys:List V}(h0:Γ.H0 a=none)(hg:G a=none)(hb:B≠some a)(hn:∀(j:Nat) (d':D),env[j]? =some (.ow d')->σ[j]?≠some (some (.ref a)))(ha:H a=some (.lst zs)):SR Γ B G (upd H a (.lst ys)) σ env β:=by
 have hf:∀x y,H a≠some (.aQ x y):=λx y w=>by rw[ha] at w;cases w
 refine⟨λb u q=>gV (I.sub b u q) (λz=>by rw[z,hg] at q;cases q) hf,I.old,I.new,λb u q n=>gV (I.keep b u q n) (λz=>by rw[z,h0] at q;cases q) hf,λb q=>?_,I.fix,λb q=>?_,I.len,λj s q=>?_,I.sep⟩
 ·by_cases z:b=a
  ·subst z;exact Mx.lst ak
  ·exact (I.pin b q).same λo e=>Kt.of (by rw[aq z];exact e)
 ·obtain⟨k1,k2,k3⟩:=I.box b q
  exact⟨by rw[aq (λz=>hb (by rw[<-z];exact q))];exact k1,k2,k3⟩
 ·have w:=I.slot j s q
  cases s with
  |no=>trivial
  |fz d1=>exact w
  |ow d1=>
   obtain⟨c,w1,w2,w3,w4,w5⟩:=w
   have ca:c≠a:=λz2=>hn j d1 q (by rw[<-z2];exact w1)
   exact⟨c,w1,w2,w3,w4,w5.mono (ah.refl _) λo q=>Kt.of (by rw[aq ca];exact q)⟩
  |bx=>exact w
  |br d1=>obtain⟨b1,_⟩:=w;rw[hbr j] at b1;cases b1
end
def aP (c:List Int):D:=.list (c.map int)
section
variable (ft tc:VF Bool)(fx:VF D)(d0:D)
def FU (t:Int)(c:List Int):List Nv:=[.da (aP c),.da d0,.da (.int t)]
def uG (t β:Int)(c:List Int):Bool:=match ft (FU d0 t c) β with
 | .ok _ β'=>decide (β'=β)
 |_=>false
def l4 (t β:Int)(c:List Int):Bool:=match ft (FU d0 t c) β with
 | .ok b _=>b
 |_=>false
def mz (t β:Int)(cs:List (List Int)):List Nat:=(List.range cs.length).filter λk=>l4 ft d0 t β (cs.getD k [])
def mC (cs:List (List Int))(t:Int)(fit:List (List Int)):En:=[.bx,.fz d0,.fz (.list (cs.map aP)),.fz (.int t),.ow (.list (fit.map aP))]
def j5 (t β:Int)(cs:List (List Int)):List (List Int):=(mz ft d0 t β cs).map λk=>cs.getD k []
def zg:List D->List (List Int)->Int->SO
 | [],cs,β=>.nx [.bx,.fz d0,.ow (.list (cs.map aP)),.no,.no] β
 | .int t :: ds,cs,β=>if cs.length<=100/\(∀c,c∈cs->c.length<=100)/\cs.all (uG ft d0 t β)=true then
   toS (tc (vl (mC d0 cs t (j5 ft d0 t β cs))) β) λc β1=>if c=true then
     toS (fx (vl (mC d0 cs t (j5 ft d0 t β cs))) β1) λdj β2=>(match dj with
      | .int j=>(match (if 0<=j then (mz ft d0 t β cs)[j.toNat]? else none) with
       |some k=>zg ds (cs.set k (cs.getD k [] ++ [t])) β2
       |none=>.bad)
      |_=>.bad)
    else zg ds (cs ++ [[t]]) β1
   else .bad
 |_ :: _,_,_=>.bad
end
def xG (fi:VF (List D))(ft tc:VF Bool)(fx:VF D):SF:=λenv β=>match env with
 | [.bx,.fz d0,.ow (.list []),.no,.no]=>toS (fi (vl env) β) λds β1=>zg ft tc fx d0 ds [] β1
 |_=>.bad
section
variable {Γ:Fx}{B:Option Addr}{G H G3 H3:Hp}{σ σ3:St}{env env' env3:En}{β β3:Int}
def SR.shape (I:SR Γ B G H σ env β)(J:SR Γ B G3 H3 σ3 env3 β3)(hbr:∀j,Γ.br j=false)(s:ah G G3)(m:fM B H H3)(hl:σ3.length=env'.length)(he:∀(j:Nat) (t:Sl),env'[j]? =some t->t=Sl.no\/(env[j]? =some t/\σ3[j]? =σ[j]?)):SR Γ B G H3 σ3 env' β3:=by
 refine⟨s.trans J.sub,I.old,I.new,J.keep,J.pin,I.fix,λb e=>⟨(J.box b e).1,(I.box b e).2⟩,hl,λj t q=>?_,λj k c d1 d2 q1 q2 q3 q4=>?_⟩
 ·rcases he j t q with rfl | ⟨e,es⟩
  ·trivial
  ·have w:=I.slot j t e
   rw[es]
   cases t with
   |no=>trivial
   |fz d=>exact w
   |ow d=>
    obtain⟨c,w1,w2,w3,w4,w5⟩:=w
    exact⟨c,w1,w2,w3,w4,w5.mono (ah.refl _) λo q=>m.1 c o q w4⟩
   |bx=>exact w
   |br d=>obtain⟨b1,_⟩:=w;rw[hbr j] at b1;cases b1
 ·rcases he j _ q1 with z | ⟨e1,s1⟩
  ·cases z
  ·rcases he k _ q2 with z | ⟨e2,s2⟩
   ·cases z
   ·rw[s1] at q3;rw[s2] at q4
    exact I.sep j k c d1 d2 e1 e2 q3 q4
open Classical in
noncomputable def pB (S:List Addr)(G H:Hp):Hp:=λx=>if x∈S then H x else G x
def mH {S:List Addr}{x:Addr}(h:x∈S):pB S G H x=H x:=Kf h
def jg {S:List Addr}{x:Addr}(h:x∉S):pB S G H x=G x:=Ki h
def SR.letS (I:SR Γ B G H σ env β)(hbr:∀j,Γ.br j=false)(S:List Addr)(h:∀b,b∈S->Γ.H0 b=none/\G b=none/\B≠some b)(hn:oM env):SR Γ B (pB S G H) H σ env β/\ah G (pB S G H):=by
 have sG:ah G (pB S G H):=λb o e=>Kt.of (by rw[jg λz=>by rw[(h b z).2.1] at e;cases e];exact e)
 refine⟨⟨λb u q=>?_,I.old.trans sG,λb n1 n2=>?_,I.keep,I.pin,I.fix,λb q=>?_,I.len,λj s q=>?_,I.sep⟩,sG⟩
 ·by_cases z:b∈S
  ·rw[mH z] at q;exact Kt.of q
  ·rw[jg z] at q;exact I.sub b u q
 ·rw[jg λz=>n1.1 (h b z).1];exact I.new b n1 n2
 ·obtain⟨k1,k2,k3⟩:=I.box b q
  exact⟨k1,by rw[jg λz=>(h b z).2.2 q];exact k2,k3⟩
 ·have w:=I.slot j s q
  cases s with
  |no=>trivial
  |fz d'=>obtain⟨v,w1,w2⟩:=w;exact⟨v,w1,w2.mono sG⟩
  |ow d'=>exact absurd q (hn j d')
  |bx=>exact w
  |br d'=>obtain⟨b1,_⟩:=w;rw[hbr j] at b1;cases b1
theorem mL {K:Frag}:∀c:List Int,bI K G (c.map V.int) (c.map int)
 | []=>.nil
 |i :: c=>.cons (.int i) (mL c)
structure DI (Γ:Fx)(d0:D)(σ:St)(H:Hp)(β:Int)(cs:List (List Int))(B:Option Addr)(G:Hp)(a:Addr)(bs:List Addr):Prop where
 sr:SR Γ B G H σ [.bx,.fz d0,.no,.no,.no] β
 fa:σ[2]? =some (some (.ref a))
 ha:H a=some (.lst (bs.map V.ref))
 len:bs.length=cs.length
 hb:∀(k:Nat) (b:Addr),bs[k]? =some b->H b=some (.lst ((cs.getD k []).map V.int))
 h0:∀b,b∈a :: bs->Γ.H0 b=none/\G b=none/\B≠some b
 nd:(a :: bs).Nodup
def tR (d0:D):oM [.bx,.fz d0,.no,.no,.no]:=λj d e=>by
 have:=Kj e
 simp at this
theorem sX {K:Frag}{bs:List Addr}{cs:List (List Int)}(len:bs.length=cs.length)(hb:∀(k:Nat) (b:Addr),bs[k]? =some b->G b=some (.lst ((cs.getD k []).map V.int))):bI K G (bs.map V.ref) (cs.map aP):=by
 induction bs generalizing cs with
 |nil=>
  cases cs with
  |nil=>exact .nil
  |cons c cs=>simp at len
 |cons b bs ih=>
  cases cs with
  |nil=>simp at len
  |cons c cs=>
   refine .cons (.lst (by simpa using hb 0 b rfl) (mL c)) (ih (by simpa using len) λk b e=>?_)
   have:=hb (k + 1) b (by simpa using e)
   simpa using this
theorem xo {K:Frag}{bs:List Addr}{cs:List (List Int)}(len:bs.length=cs.length)(hb:∀(k:Nat) (b:Addr),bs[k]? =some b->G b=some (.lst ((cs.getD k []).map V.int))):∀{ks:List Nat},(∀k,k∈ks->k < cs.length)->bI K G (ks.map λk=>V.ref (bs.getD k 0)) ((ks.map λk=>cs.getD k []).map aP)
 | [],_=>.nil
 |k :: ks,h=>by
  have hk:=h k (Kd ..)
  have e:bs[k]? =some (bs.getD k 0):=by rw[Ko,J6 (by omega)];rfl
  exact .cons (.lst (hb k _ e) (mL _)) (xo len hb λk h'=>h k (J9 _ h'))
def FJ {ft:VF Bool}{Lc Lt:List Nat}{d0:D}{t:Int}{cs:List (List Int)}{a:Addr}{bs:List Addr}{Q:VK}{FD:D}(I:SR Γ B G H σ [.bx,.fz d0,.fz FD,.fz (.int t),.no] β)(ha:σ[2]? =some (some (.ref a)))(hA:G a=some (.lst (bs.map V.ref)))(len:bs.length=cs.length)(hB:∀(k:Nat) (b:Addr),bs[k]? =some b->G b=some (.lst ((cs.getD k []).map V.int)))
  (ok:cs.all (uG ft d0 t β)=true) (hz:cs.length<=100)
  (k:∀Da G' H',SR Γ B G' H' σ [.bx,.fz d0,.fz FD,.fz (.int t),.no] β->ah G G'->fM B H H'->H Da=none->G' Da=none->H' Da=some (.lst ((mz ft d0 t β cs).map λk=>V.ref (bs.getD k 0)))->Q (.ref Da) H') :
  qB 1 [1,3] (JO Γ.K (rm 2)) (gL 0) (tU Γ 1 [1,3] Lc ft Lt) (rm 0) σ H Q:=by
 refine⟨.ref a,ha,a,bs.map V.ref,rfl,.inl ⟨.inl (.inl (I.sub _ _ hA)),?_⟩⟩
 intro Da hD
 obtain⟨q1,q2,q3,q4⟩:=I.fresh hD
 have Ib0:=I.block 1 [1,3] hD
 have hbr:∀j,oN (benv 1 [1,3] [.bx,.fz d0,.fz FD,.fz (.int t),.no]) j=false:=λj=>by
  unfold oN
  split
  ·rename_i d e
   have:=Kj e
   simp[benv,F0] at this
  ·rfl
 generalize oN (benv 1 [1,3] [.bx,.fz d0,.fz FD,.fz (.int t),.no])=br at Ib0 hbr
 have eb:benv 1 [1,3] [.bx,.fz d0,.fz FD,.fz (.int t),.no]= [.no,.fz d0,.fz (.int t)]:=rfl
 rw[eb] at Ib0
 have sz:(1000:Nat) < sizeLine:=by decide +kernel
 let sel (i:Nat):List V:=((List.range i).filter λk=>l4 ft d0 t β (cs.getD k [])).map λk=>V.ref (bs.getD k 0)
 have sell:∀i,(sel i).length<=i:=λi=>by
  show (((List.range i).filter _).map _).length<=i
  rw[Kb]
  have:=L9 (λk=>l4 ft d0 t β (cs.getD k [])) (List.range i)
  rw[LV] at this;exact this
 refine⟨λi n σ' H'=>n=cs.length - i/\i<=cs.length/\∃s0 Gc,SR (Γ.gx (upd H Da (.lst [])) G (Da :: B.toList) br B) B Gc H' σ' [s0,.fz d0,.fz (.int t)] β/\(∀d,s0≠.ow d)/\H' Da=some (.lst (sel i)),⟨cs.length,rfl,KY _,.no,G,Ib0,(λd z=>by cases z),ak⟩,?_⟩
 rintro i n σ' H' ⟨rfl,hi,s0,Gc,Ib,hs0,hacc⟩
 obtain⟨Io,mv,gD⟩:=I.unblock hD Ib
 have hA':H' a=some (.lst (bs.map V.ref)):=Ib.sub _ _ (Ib.old _ _ hA)
 by_cases hlt:i < cs.length
 ·have hib:i < bs.length:=by omega
  refine .inr ⟨⟨bs.map V.ref,V.ref bs[i],.inl (.inl hA'),by simp[hib]⟩,λσ' H'=>∃s0 Gc,SR (Γ.gx (upd H Da (.lst [])) G (Da :: B.toList) br B) B Gc H' σ' [s0,.fz d0,.fz (.int t)] β/\(∀d,s0≠.ow d)/\H' Da=some (.lst (sel (i + 1))),λσ2 H2 h=>⟨cs.length - (i + 1),by omega,rfl,hlt,h⟩,λx H2 y=>?_⟩
  obtain⟨rfl,y⟩:=y
  have ex:=y (bs.map V.ref) (.inl (.inl hA'))
  have ebi:bs[i]? =some (bs.getD i 0):=by rw[Ko,J6 hib];rfl
  rw[Kk,ebi] at ex
  have ex:V.ref (bs.getD i 0)=x:=Option.some.inj ex
  subst ex
  have hc:cs.getD i []∈cs:=by rw[Ko,J6 hlt];exact KS hlt
  have okc:=KP.mp ok _ hc
  have rp:Rp Γ.K Gc (.ref (bs.getD i 0)) (aP (cs.getD i [])):=.lst (Ib.old _ _ (hB i _ ebi)) (mL _)
  have I4:SR (Γ.gx (upd H Da (.lst [])) G (Da :: B.toList) br B) B Gc H2 (σ'.set 0 (some (.ref (bs.getD i 0)))) [.fz (aP (cs.getD i [])),.fz d0,.fz (.int t)] β:=Ib.set' 0 rp
  have σl:σ'.length=3:=Ib.len
  have σ0:(σ'.set 0 (some (V.ref (bs.getD i 0))))[0]? =some (some (.ref (bs.getD i 0))):=Kw (by omega)
  have seli:sel (i + 1)=sel i ++ (if l4 ft d0 t β (cs.getD i [])=true then [V.ref (bs.getD i 0)] else []):=by
   show (((List.range (i + 1)).filter _).map _)=(((List.range i).filter _).map _) ++ _
   rw[List.range_succ,List.filter_append,Ls]
   congr 1
   by_cases z:l4 ft d0 t β (cs.getD i [])=true
   ·rw[Kf z,Mr (p:=λk=>l4 ft d0 t β (cs.getD k [])) z];rfl
   ·rw[Ki z,Ms (p:=λk=>l4 ft d0 t β (cs.getD k [])) z];rfl
  refine⟨_,_,_,_,_,λj _=>hbr j,_,Gc,B,β,I4,?_⟩
  show Out _ _ (ft (FU d0 t (cs.getD i [])) β) _
  unfold uG at okc
  unfold l4 at seli
  cases ef:ft (FU d0 t (cs.getD i [])) β with
  |exc c=>rw[ef] at okc;cases okc
  |bad=>rw[ef] at okc;cases okc
  |ok c β'=>
   rw[ef] at okc seli
   have okc:=MZ okc
   subst okc
   dsimp only at seli
   intro G5 H5 I5 s5 m5
   have nO:oM [.fz (aP (cs.getD i [])),.fz d0,.fz (.int t)]:=λj d e=>by
    have:=Kj e
    simp at this
   rw[ou nO] at I5
   have a5:H5 Da=some (.lst (sel i)):=m5.1 _ _ hacc q3
   cases c with
   |false=>
    refine pA ⟨_,G5,I5,(λd z=>by cases z),?_⟩
    rw[seli,Ki KC,L5];exact a5
   |true=>
    have:=sell i
    refine o6 ⟨_,σ0,sel i,a5,by omega,_,G5,I5.updD (Kd ..) (Mx.lst (show upd H Da (.lst []) Da=some (.lst []) from ak)) q2 q3,(λd z=>by cases z),?_⟩
    rw[seli,Kf rfl];exact ak
 ·have e:i=cs.length:=by omega
  subst e
  exact .inl ⟨⟨_,.inl (.inl hA'),by rw[Kb];omega⟩,⟨_,hacc⟩,k Da Gc H' Io Ib.old mv hD gD hacc⟩
end
section
variable {Γ:Fx}{B:Option Addr}{G H G2 H2:Hp}{σ:St}{β:Int}{d0:D}{cs:List (List Int)}{a:Addr}{bs:List Addr}
def DI.ext (I:DI Γ d0 σ H β cs B G a bs)(hbr:∀j,Γ.br j=false)(x:Ext G H G2 H2):DI Γ d0 σ H2 β cs B G a bs:=by
 refine⟨I.sr.shape (I.sr.ext x) hbr x.gg (x.hh.mov B) I.sr.len λj t e=>.inr ⟨e,rfl⟩,I.fa,x.hh _ _ I.ha,I.len,λk b e=>x.hh _ _ (I.hb k b e),I.h0,I.nd⟩
def set_same {σ:St}{i:Nat}{v:Option V}(h:σ[i]? =some v):σ.set i v=σ:=by
 obtain⟨h1,h2⟩:=Ks.mp h
 rw[<-h2];exact List.set_getElem_self h1
def EK {l:List Addr}(h:l.Nodup){i j:Nat}(hi:i < l.length)(hj:j < l.length)(e:l[i]=l[j]):i=j:=by
 rcases ME i j with q |q |q
 ·exact absurd e (LB.mp h i j hi hj q)
 ·exact q
 ·exact absurd e.symm (LB.mp h j i hj hi q)
theorem GQ {env:En}(h:env= [.bx,.fz d0,.no,.no,.no]){σ σ3:St}(h0:σ3[0]? =σ[0]?)(h1:σ3[1]? =σ[1]?):∀(j:Nat) (t:Sl),([.bx,.fz d0,.no,.no,.no]:En)[j]? =some t->t=Sl.no\/(env[j]? =some t/\σ3[j]? =σ[j]?):=by
 subst h
 intro j t e
 match j,e with
 | 0,e=>exact .inr ⟨e,h0⟩
 | 1,e=>exact .inr ⟨e,h1⟩
 | 2,e=>cases e;exact .inl rfl
 | 3,e=>cases e;exact .inl rfl
 | 4,e=>cases e;exact .inl rfl
 |j + 5,e=>simp at e
end
section
variable {X:Cx}{Γ:Fx}{E:XK}{it cnd idx tst:Expr}{Li Lc Lt Lq Lx:List Nat}{mx:Md}{fi:VF (List D)}{ft tc:VF Bool}{fx:VF D}{NB:List Str}{scope:Scope}
def yh {xf xt xp xc:Str}{pt pp pc pc' pf cpos spos p1 p2 p3 p4 p5 p6 q1 q2 q3 q4 q5 q6 pif fpos:Pos}
  (hbr:∀j,Γ.br j=false) (hp:PassesOwn (model X.prog X.w) X.A X.env X.xe) (hc:X.calm=true) (hK:X.K=Γ.K) (hN:X.N.Nodup) (hi:SI X Γ E (.Name xt pt) it fi Li .v) (S:cE X NB 1 [1,3] scope)
  (ht:∀H0 G0 par br bx C ex s3 H3 pn,(∀j,E6 1 [1,3] Lc j=true->br j=false)->Be (gx X NB scope C ex s3 H3 pn) [tst] (qT (Γ.gx H0 G0 par br bx) E0 ft Lt))
  (hq:y0 X Γ E cnd tc Lq) (hx:SE X Γ E idx fx Lx mx) (hpi:rX idx)
  (hgn:∀C ex s3 H3 pn,PG (gx X NB scope C ex s3 H3 pn) (.Name xc pc') (gL 0)) (hen:∀C ex s3 H3 pn,PE (gx X NB scope C ex s3 H3 pn) (.Name xc pc) (rm 0))
  (hLi:∀env,aQ Li env=env:=by intro _;rfl) (hLq:∀env,aQ Lq env=env:=by intro _;rfl) (hLx:∀env,aQ Lx env=env:=by intro _;rfl)
  (hNf:X.N[2]? =some xf:=by rfl) (hNt:X.N[3]? =some xt:=by rfl) (hNp:X.N[4]? =some xp:=by rfl)
  (lt:Loc X.env.scope xt:=by first |exact Or.inl rfl |exact Or.inr rfl) (vf:qP X.env.scope xf:=by first |exact Or.inl rfl |exact Or.inr (Or.inl rfl) |exact Or.inr (Or.inr rfl)) (vt:qP X.env.scope xt:=by first |exact Or.inl rfl |exact Or.inr (Or.inl rfl) |exact Or.inr (Or.inr rfl)) (vp:qP X.env.scope xp:=by first |exact Or.inl rfl |exact Or.inr (Or.inl rfl) |exact Or.inr (Or.inr rfl))
  (hft:X.fn xt=true\/X.env.scope.names.lookup xt=some .local:=by first |exact .inl rfl |exact .inr rfl |assumption) (hlp:X.env.scope.names.lookup xp=some .local:=by rfl)
  (df:(xf == ("__debug__":Str))=false:=by decide) (cf:(xf == ("__classdict__":Str))=false:=by decide) (dt:(xt == ("__debug__":Str))=false:=by decide) (ct:(xt == ("__classdict__":Str))=false:=by decide) (dp:(xp == ("__debug__":Str))=false:=by decide) (cp:(xp == ("__classdict__":Str))=false:=by decide)
  (hs1:∀x,foldedSetIterable it X.env x=pure x:=by intro _;rfl) (hs2:∀x,foldedSetIterable (.Name xf pf) X.env x=pure x:=by intro _;rfl)
  (hsw:swapsWith (.ListComp (.Name xc pc) [⟨.Name xc pc',.Name xf pf,[tst],0⟩] scope cpos) (some (.Name xp pp)) spos.line X.env=pure true:=by rfl)
  (hba:attributeBase (.Subscript (.Name xp p1) idx p2) "append" X.env (eval (.Subscript (.Name xp p1) idx p2) X.env)=eval (.Subscript (.Name xp p1) idx p2) X.env:=by rfl)
  (hw1:((backTo p5 (starEach [.Name xt p4] X.env)).all (λx=> !x.1) && (backToKw p5 (keywordEach [] X.env)).all (λx=>x.1.isSome)
   && decide ([Expr.Name xt p4].length + ([]:List Keyword).length + (if ([]:List Keyword).isEmpty then 0 else 1) < 30))=true:=by rfl)
  (hl1:(p3.endLine == p5.line)=true:=by rfl) (hsa1:starEach [.Name xt p4] X.env=(false,eval (.Name xt p4) X.env) :: starEach [] X.env:=by rfl)
  (hsw1:swapsWith (.Call (.Attribute (.Subscript (.Name xp p1) idx p2) "append" p3) [.Name xt p4] [] p5) none p6.line X.env=pure false:=by rfl)
  (hbb:attributeBase (.Name xf q1) "append" X.env (eval (.Name xf q1) X.env)=eval (.Name xf q1) X.env:=by rfl)
  (hw2:((backTo q5 (starEach [.List [.Name xt q3] q4] X.env)).all (λx=> !x.1) && (backToKw q5 (keywordEach [] X.env)).all (λx=>x.1.isSome)
   && decide ([Expr.List [.Name xt q3] q4].length + ([]:List Keyword).length + (if ([]:List Keyword).isEmpty then 0 else 1) < 30))=true:=by rfl)
  (hl2:(q2.endLine == q5.line)=true:=by rfl) (hsa2:starEach [.List [.Name xt q3] q4] X.env=(false,eval (.List [.Name xt q3] q4) X.env) :: starEach [] X.env:=by rfl) (hsa3:starEach [.Name xt q3] X.env=(false,eval (.Name xt q3) X.env) :: starEach [] X.env:=by rfl)
  (hsw2:swapsWith (.Call (.Attribute (.Name xf q1) "append" q2) [.List [.Name xt q3] q4] [] q5) none q6.line X.env=pure false:=by rfl) :
  SS X Γ E (.For (.Name xt pt) it [.Assign [.Name xp pp] (.ListComp (.Name xc pc) [⟨.Name xc pc',.Name xf pf,[tst],0⟩] scope cpos) spos,
   .If cnd [.Expr (.Call (.Attribute (.Subscript (.Name xp p1) idx p2) "append" p3) [.Name xt p4] [] p5) p6] [.Expr (.Call (.Attribute (.Name xf q1) "append" q2) [.List [.Name xt q3] q4] [] q5) q6] pif] [] fpos) (xG fi ft tc fx):=by
 refine PS.post (ny hp hc hi (bR hN hNt lt hft) (eT (zm (g:=gL 0) (tt:=tU Γ 1 [1,3] Lc ft Lt) (te:=rm 0) hc S (A2 (cM hNf vf df cf)) hgn
   (λC ex s3 H3 pn pins s σ H Q I ⟨H0,G0,par,br,bx,b,q⟩=>ht H0 G0 par br bx C ex s3 H3 pn b pins s σ H Q I q) hen hN hNp hlp hsw hs2)
  (dk (Au hq
   (dk (jM (qe LJ Mm Mn hJ (jw dZ (cM hNp vp dp cp) hx hpi) (aG (cM hNt vt dt ct) a7 hsa1) hba hw1 hl1 hsa1 rfl) hsw1))
   (dk (jM (qe LJ Mm Mn hJ (cM hNf vf df cf) (aG (vE (aG (cM hNt vt dt ct) a7 hsa3)) a7 hsa2) hbb hw2 hl2 hsa2 rfl) hsw2))))) hs1) λN σ H ⟨env,G,B,β,I,o⟩=>?_
 unfold xG at o
 split at o
 case h_2=>exact o.elim
 rename_i d0
 refine⟨_,G,B,β,I,bQ o λds β1 q J G1 H1 I1 s1 m1 w=>?_⟩
 rw[hLi] at I1
 have w:Walk Γ.K B G1 (λ_=>none) ds J:=w
 obtain⟨a0,f1,f2,f3,f4,xs,f5,f6⟩:=I1.slot 2 _ rfl
 cases f6
 have D0:DI Γ d0 σ H1 β1 [] B G1 a0 []:=⟨I1.shape I1 hbr (ah.refl _) (fM.refl _ _) I1.len λj t e=>by
   match j,e with
   | 0,e=>exact .inr ⟨e,rfl⟩
   | 1,e=>exact .inr ⟨e,rfl⟩
   | 2,e=>cases e;exact .inl rfl
   | 3,e=>cases e;exact .inl rfl
   | 4,e=>cases e;exact .inl rfl
   |j + 5,e=>simp at e,f1,f5,rfl,(λk b e=>by simp at e),(λb h=>by rw[Kz] at h;subst h;exact⟨f2,f3,f4⟩),by simp⟩
 have sz:(1000:Nat) < sizeLine:=by decide +kernel
 refine⟨λi n σ H=>n=ds.length - i/\i<=ds.length/\∃β a bs cs,DI Γ d0 σ H β cs B G1 a bs/\mJ Γ E G N (zg ft tc fx d0 (ds.drop i) cs β),⟨ds.length,by simp,KY _,β1,a0,[],[],D0,by rw[List.drop_zero];exact q⟩,?_⟩
 rintro i n σ H ⟨rfl,hi',β,a,bs,cs,DD,q⟩
 obtain⟨w1,w2⟩:=w G1 H i (ah.refl _) DD.sr.sub ⟨(λb o e=>by cases e),λb o u e=>by cases e⟩
 by_cases hlt:i < ds.length
 ·obtain⟨go,yl⟩:=w1 hlt
  refine .inr ⟨go,λσ H=>∃β a bs cs,DI Γ d0 σ H β cs B G1 a bs/\mJ Γ E G N (zg ft tc fx d0 (ds.drop (i + 1)) cs β),λσ2 H2 h=>⟨ds.length - (i + 1),by omega,rfl,hlt,h⟩,λx H2 y=>?_⟩
  obtain⟨Gx,d,x2,ed,rd⟩:=yl x H2 y
  have ed':ds[i]=d:=by rw[J6 hlt] at ed;exact Option.some.inj ed
  rw[Mh hlt,ed'] at q
  have DE:=DD.ext hbr x2
  obtain⟨t,rfl⟩:∃t,d=.int t:=by
   cases d with
   |int t=>exact⟨t,rfl⟩
   |_=>exact q.elim
  have q:mJ Γ E G N (if cs.length<=100/\(∀c,c∈cs->c.length<=100)/\cs.all (uG ft d0 t β)=true then
   toS (tc (vl (mC d0 cs t (j5 ft d0 t β cs))) β) λc β1=>if c=true then
     toS (fx (vl (mC d0 cs t (j5 ft d0 t β cs))) β1) λdj β2=>(match dj with
      | .int j=>(match (if 0<=j then (mz ft d0 t β cs)[j.toNat]? else none) with
       |some k=>zg ft tc fx d0 (ds.drop (i + 1)) (cs.set k (cs.getD k [] ++ [t])) β2
       |none=>.bad)
      |_=>.bad)
    else zg ft tc fx d0 (ds.drop (i + 1)) (cs ++ [[t]]) β1
   else .bad):=q
  by_cases hcd:cs.length<=100/\(∀c,c∈cs->c.length<=100)/\cs.all (uG ft d0 t β)=true
  case neg=>rw[Ki hcd] at q;exact q.elim
  rw[Kf hcd] at q
  obtain⟨c1,c2,c3⟩:=hcd
  cases rd
  obtain⟨IL,sL⟩:=DE.sr.letS hbr (a :: bs) DE.h0 (tR d0)
  have gA:pB (a :: bs) G1 H2 a=some (.lst (bs.map V.ref)):=by rw[mH (Kd ..)];exact DE.ha
  have gB:∀(k:Nat) (b:Addr),bs[k]? =some b->pB (a :: bs) G1 H2 b=some (.lst ((cs.getD k []).map V.int)):=λk b e=>by rw[mH (J9 _ (Kj e))];exact DE.hb k b e
  have rF:Rp Γ.K (pB (a :: bs) G1 H2) (.ref a) (.list (cs.map aP)):=.lst gA (sX DE.len gB)
  have I3:=IL.set' 2 rF
  rw[set_same DE.fa] at I3
  have I4:SR Γ B (pB (a :: bs) G1 H2) H2 (σ.set 3 (some (.int t))) [.bx,.fz d0,.fz (.list (cs.map aP)),.fz (.int t),.no] β:=I3.set' 3 (.int t)
  have σl:σ.length=5:=DE.sr.len
  have fa3:(σ.set 3 (some (V.int t)))[2]? =some (some (.ref a)):=by rw[Km (by decide)];exact DE.fa
  unfold gL GN
  dsimp only
  rw[hK]
  refine FJ I4 fa3 gA DE.len gB c3 c1 λDa Gc Hc Ic sc mc hD gD hDa=>?_
  obtain⟨r1,r2,r3,r4⟩:=I4.fresh hD
  have gA':Gc a=some (.lst (bs.map V.ref)):=sc _ _ gA
  have gB':∀(k:Nat) (b:Addr),bs[k]? =some b->Gc b=some (.lst ((cs.getD k []).map V.int)):=λk b e=>sc _ _ (gB k b e)
  have Hm:∀k,k∈mz ft d0 t β cs->k < cs.length:=λk hk=>KD.mp (Lj.mp hk).1
  have ow:Own Γ.K Gc Hc Da (.list ((j5 ft d0 t β cs).map aP)):=⟨_,hDa,xo DE.len gB' Hm⟩
  have I5:SR Γ B Gc Hc ((σ.set 3 (some (.int t))).set 4 (some (.ref Da))) (mC d0 cs t (j5 ft d0 t β cs)) β:=Ic.setOw' 4 r1 gD r3 ow λj d' e=>r4 j d' e
  generalize hσ2:(σ.set 3 (some (V.int t))).set 4 (some (V.ref Da))=σ2 at I5
  have g0:σ2[0]? =σ[0]?:=by rw[<-hσ2,Km (by decide),Km (by decide)]
  have g1:σ2[1]? =σ[1]?:=by rw[<-hσ2,Km (by decide),Km (by decide)]
  have g2:σ2[2]? =some (some (.ref a)):=by rw[<-hσ2,Km (by decide)];exact fa3
  have g3:σ2[3]? =some (some (.int t)):=by rw[<-hσ2,Km (by decide),Kw (by omega)]
  have g4:σ2[4]? =some (some (.ref Da)):=by rw[<-hσ2,Kw (by rw[K3];omega)]
  have l2:σ2.length=5:=by rw[<-hσ2,K3,K3];exact σl
  unfold GX
  refine⟨_,Gc,B,β,I5,bQ q λc β' k G6 H6 I6 s6 m6=>?_⟩
  rw[hLq] at I6
  have S6:ah G1 G6:=sL.trans (sc.trans s6)
  have M6:fM B H2 H6:=mc.trans m6
  have hA6:H6 a=some (.lst (bs.map V.ref)):=I6.sub _ _ (s6 _ _ gA')
  cases c with
  |true=>
   refine o6 ?_
   rw[Kf rfl] at k
   refine⟨_,g4,mC d0 cs t (j5 ft d0 t β cs),G6,B,β',I6,bQ k λdj β2 k v G7 H7 I7 s7 m7 vo=>?_⟩
   rw[hLx] at I7
   split at k
   case h_2=>exact k.elim
   rename_i j
   have vj:=(vo.brw I6.boxThere).int
   subst vj
   split at k
   case h_2=>exact k.elim
   rename_i kk ek
   by_cases hj:0<=j
   case neg=>rw[Ki hj] at ek;cases ek
   rw[Kf hj] at ek
   have hkk:=Hm kk (Kj ek)
   have hkb:bs[kk]? =some (bs.getD kk 0):=by rw[Ko,J6 (by rw[DE.len];exact hkk)];rfl
   have hD7:H7 Da=some (.lst ((mz ft d0 t β cs).map λk=>V.ref (bs.getD k 0))):=(m6.trans m7).1 _ _ hDa r3
   have hb7:∀(k:Nat) (b:Addr),bs[k]? =some b->H7 b=some (.lst ((cs.getD k []).map V.int)):=λk b e=>I7.sub _ _ (s7 _ _ (s6 _ _ (gB' k b e)))
   have hA7:H7 a=some (.lst (bs.map V.ref)):=I7.sub _ _ (s7 _ _ (s6 _ _ gA'))
   have at1:jc ((mz ft d0 t β cs).map λk=>V.ref (bs.getD k 0)) j=some (.ref (bs.getD kk 0)):=by
    have hjl:=(Ks.mp ek).1
    unfold jc we
    rw[Kb,Kf hj]
    rw[Kf (by omega)]
    simp only[Option.bind_some]
    rw[Kk,ek];rfl
   have hcl:(cs.getD kk []).length<=100:=by
    refine c2 _ ?_
    rw[Ko,J6 hkk];exact KS hkk
   refine⟨Da,_,j,_,rfl,rfl,.inl (.inl hD7),at1,.inl ⟨rfl,_,.inl (.inl (hb7 kk _ hkb))⟩,_,g3,?_⟩
   refine⟨_,_,_,rfl,rfl,hb7 kk _ hkb,by rw[Kb];omega,β2,a,bs,cs.set kk (cs.getD kk [] ++ [t]),?_,k⟩
   have SS:=DE.sr.shape I7 hbr (S6.trans s7) (M6.trans m7) (env':=[.bx,.fz d0,.no,.no,.no]) l2 (GQ rfl g0 g1)
   have hm:=Kj hkb
   obtain⟨z1,z2,z3⟩:=DE.h0 _ (J9 _ hm)
   have na:a≠bs.getD kk 0:=λz=>(KI.mp DE.nd).1 (by rw[z];exact hm)
   refine⟨SS.poke hbr z1 z2 z3 (λj d e=>absurd e (tR d0 j d)) (hb7 kk _ hkb),g2,by rw[aq na];exact hA7,by rw[K3];exact DE.len,λk' b e=>?_,DE.h0,DE.nd⟩
   by_cases z:k'=kk
   ·rw[z,hkb] at e
    have e:=Option.some.inj e
    rw[<-e,ak,z]
    rw[Ko (l:=cs.set kk _),Kw hkk]
    simp
   ·have nb:b≠bs.getD kk 0:=λzz=>z (by
     have nd:=(KI.mp DE.nd).2
     obtain⟨k1,k2⟩:=Ks.mp e
     obtain⟨j1,j2⟩:=Ks.mp hkb
     exact EK nd k1 j1 (by rw[k2,j2,zz]))
    rw[aq nb,hb7 k' b e]
    rw[Ko (l:=cs.set kk _),Km (Ne.symm z),Ko]
  |false=>
   refine pA ?_
   rw[Ki KC] at k
   refine⟨_,g2,.inl ⟨rfl,_,.inl (.inl hA6)⟩,_,g3,by simp;omega,λp hp=>?_⟩
   have hA7:upd H6 p (.lst [V.int t]) a=some (.lst (bs.map V.ref)):=by rw[aq (ax hA6 hp)];exact hA6
   refine⟨a,_,_,rfl,rfl,hA7,by rw[Kb,DE.len];omega,β',a,bs ++ [p],cs ++ [[t]],?_,k⟩
   have SS:=DE.sr.shape I6 hbr S6 M6 (env':=[.bx,.fz d0,.no,.no,.no]) l2 (GQ rfl g0 g1)
   have hb6:∀(k:Nat) (b:Addr),bs[k]? =some b->H6 b=some (.lst ((cs.getD k []).map V.int)):=λk b e=>I6.sub _ _ (s6 _ _ (gB' k b e))
   have S2:=SS.ext (Ext.own SS.sub (o:=.lst [V.int t]) hp)
   obtain⟨z1,z2,z3⟩:=DE.h0 a (Kd ..)
   obtain⟨y1,y2,y3,_⟩:=SS.fresh hp
   have pn:p∉a :: bs:=λz=>by
    rcases Ke.mp z with z |z
    ·rw[z,hA6] at hp;cases hp
    ·obtain⟨k,hk⟩:=List.getElem?_of_mem z
     rw[hb6 k p hk] at hp;cases hp
   have ap:p≠a:=λz=>pn (by rw[z];exact Kd ..)
   refine⟨S2.poke hbr z1 z2 z3 (λj d e=>absurd e (tR d0 j d)) hA7,g2,by rw[ak,Ls];rfl,by rw[Ku,Ku,DE.len];rfl,λk b e=>?_,λb hb=>?_,?_⟩
   ·by_cases z:k < bs.length
    ·rw[KQ z] at e
     have nb:b≠a:=λz=>(KI.mp DE.nd).1 (by rw[<-z];exact Kj e)
     rw[aq nb,aq (ax (hb6 k b e) hp),hb6 k b e]
     rw[Ko (l:=cs ++ _),KQ (by rw[<-DE.len];exact z),Ko]
    ·rw[KO (by omega)] at e
     have hk:k - bs.length=0:=by
      obtain⟨h1,_⟩:=Ks.mp e
      simp at h1;omega
     rw[hk] at e
     cases e
     rw[aq ap,ak]
     rw[Ko,KO (by rw[<-DE.len];omega),<-DE.len,hk];rfl
   ·rcases Ke.mp hb with z |z
    ·rw[z];exact⟨z1,z2,z3⟩
    ·rcases KA.mp z with z |z
     ·exact DE.h0 b (J9 _ z)
     ·rw[Kz] at z;rw[z];exact⟨y1,y2,y3⟩
   ·rw[<-List.cons_append]
    refine List.nodup_append.mpr ⟨DE.nd,by simp,λx hx y hy e=>?_⟩
    rw[Kz] at hy
    rw[e,hy] at hx
    exact pn hx
 ·have e:i=ds.length:=by omega
  subst e
  rw[MM] at q
  refine .inl ⟨w2 (Kg _),?_⟩
  obtain⟨IL,sL⟩:=DD.sr.letS hbr bs (λb hb=>DD.h0 b (J9 _ hb)) (tR d0)
  obtain⟨z1,z2,z3⟩:=DD.h0 a (Kd ..)
  have na:a∉bs:=(KI.mp DD.nd).1
  have gB:∀(k:Nat) (b:Addr),bs[k]? =some b->pB bs G1 H b=some (.lst ((cs.getD k []).map V.int)):=λk b e=>by rw[mH (Kj e)];exact DD.hb k b e
  have I9:=IL.setOw' 2 z1 (by rw[jg na];exact z2) z3 (d:=.list (cs.map aP)) ⟨_,DD.ha,sX DD.len gB⟩ λj d e=>absurd e (tR d0 j d)
  rw[set_same DD.fa] at I9
  exact q B _ H σ I9 (s1.trans sL)
end
end L2
namespace RM
open PySem L2
def qF (c6:List D->FR):SF:=(bC (f1 (f1 (aS 1 [0,2] (.nm 0) (bV (gv 1)) mB (aB c6 (aa (gv 1) (aa (gv 0) (aa (gv 2) af))))) (b5 λbs=>bs.any id)) sF))
noncomputable def iZ (bw lM:List D->FR):SF:=(aE (jS ([] ++ ([] ++ [])) (hG (oJ (kA (f1 (gv 0) (fG "list")))) (c8 (f2 (f1 (gv 0) c9) (cst (.int 0)) (cN false))))
 (bC (cst (.bool false)))
 lP)
 (aE (jS (([] ++ []) ++ ([] ++ [])) (hG (oJ (kA (f1 (aS 1 [1] (.nm 0) (bV (gv 0)) mB (aB bw (aa (gv 0) (aa (f2 (gv 1) (cst (.int 0)) cT) af)))) (b5 λbs=>bs.all id)))) (c8 (f2 (gv 0) (f1 (gv 0) cJ) (cN true))))
 (bC (cst (.bool false)))
 lP)
 (bC (f1 (aS 1 [1,0] (.nm 0) (bV (gv 0)) mB (aB lM (aa (gv 1) (aa (gv 2) (aa (gv 0) af))))) (b5 λbs=>bs.all id)))))
noncomputable def fH (cF dB:List D->FR):SF:=(aE (tP ([1] ++ []) (aB cF (aa (gv 1) af)))
 (aE (jS ([] ++ ([] ++ [1])) (hG (oJ (kA (f1 (gv 0) (fG "list")))) (oJ (kA (f1 (aS 1 [1] (.nm 0) (bV (gv 0)) mB (aB dB (aa (gv 0) (aa (gv 1) af)))) (b5 λbs=>bs.all id)))))
 (bC (cst (.bool false)))
 lP)
 (aE (jv 2 [] (aH af))
 (aE (c5 (.nm 3) [0] (bV (gv 0))
 (zk 2 [] (gv 3)))
 (bC (f2 (f1 (gv 2) jF) (f1 (f2 (gv 1) (cst (.int 0)) cT) cR) (cN false)))))))
noncomputable def iD (cC aZ:List D->FR):SF:=(aE (jS [] (oJ (kA (f1 (gv 0) (fG "list"))))
 (bC (cst (.bool false)))
 lP)
 (aE (bE 2 [] (aH af))
 (aE (c5 (.nm 3) [0] (bV (gv 0))
 (aE (jS ([] ++ (([] ++ []) ++ ([] ++ []))) (hG (oJ (kA (f1 (gv 3) (fG "list")))) (hG (c8 (f2 (gv 3) (aH af) (cN false))) (oJ (kA (f1 (aS 1 [] (.nm 0) (bV (gv 3)) mB (aB cC (aa (gv 0) af))) (b5 λbs=>bs.all id))))))
 (bC (cst (.bool false)))
 lP)
 (aE (jS (([] ++ []) ++ (([] ++ ([] ++ [])) ++ ([] ++ []))) (hG (c8 (f2 (f1 (gv 3) (gW tf)) (cst (.int 0)) zc)) (hG (c8 (f2 (f1 (gv 3) (gW tE)) (f2 (gv 1) (cst (.int 0)) cT) HH)) (c8 (f2 (gv 3) (f1 (gv 3) cJ) (cN true)))))
 (bC (cst (.bool false)))
 lP)
 (aE (c5 (.nm 4) [3] (bV (gv 3))
 (jS (([] ++ [1,4]) ++ []) (c8 (f2 (aS 1 [1,4] (.nm 0) (bV (gv 3)) (kA (aB aZ (aa (gv 1) (aa (gv 2) (aa (gv 0) af))))) (gv 0)) (aH af) (cN true)))
 (bC (cst (.bool false)))
 lP))
 (bE 2 ([] ++ []) (f2 (gv 2) (gv 3) dw))))))
 (bC (f2 (f1 (gv 2) jF) (f1 (f2 (gv 1) (cst (.int 0)) cT) cR) (cN false))))))
def dW (aZ:List D->FR)(av aN:List D->Int->FB):SF:=(aE (jv 2 [] (aH af))
 (aE (xG (gM (f2 (gv 1) (cst (.int 0)) cT)) (c8 (f2 (aS 1 [1,2] (.nm 0) (bV (gv 0)) (kA (aB aZ (aa (gv 1) (aa (gv 0) (aa (gv 2) af))))) (gv 0)) (aH af) (cN false))) (FX (c8 (f2 (gv 4) (aH af) (cN true))) (c8 (f2 (gq 0 av (aa (cst (.int 4)) af)) (cst (.int 0)) HS))) (gq 0 av (aa (f1 (gv 4) c9) af)))
 (jX (DF 0 aN (aa (gv 2) af)))))
noncomputable def gH (av:List D->Int->FB):SF:=(aE (bE 4 ([] ++ []) (gq 0 av (aa (f1 (gv 1) c9) af)))
 (aE (bE 5 ([] ++ []) (f2 (gv 1) (gv 4) cT))
 (aE (bE 6 ([] ++ []) (gq 0 av (aa (f1 (gv 1) c9) af)))
 (aE (bE 7 (((([] ++ []) ++ []) ++ []) ++ ((([] ++ (([2] ++ []) ++ [])) ++ []) ++ (([] ++ []) ++ (([] ++ []) ++ (([] ++ []) ++ ([] ++ (([5] ++ ((([] ++ []) ++ []) ++ [])) ++ []))))))) (aH (aa (aH (aa (wg (gv 5) (xH (cst (.int 1))) (λ_ β=>.ok none β)) af)) (aa (aH (aa (f2 (gv 5) (aH (aa (gq 0 av (aa (gv 2) af)) af)) dw) af)) (aa (aH (aa (aH af) af)) (aa (aH (aa (f1 (gv 5) v9) af)) (aa (aH (aa (f1 (gv 5) lV) af)) (aa (aH af) (aa (aH (aa (gv 5) (aa (aH (aa (f2 (gv 5) (cst (.int 0)) cT) af)) af))) af)))))))))
 (aE (bE 7 ([] ++ ((((([] ++ []) ++ []) ++ ((([] ++ []) ++ []) ++ [])) ++ []) ++ (([3] ++ []) ++ ((([] ++ ([] ++ [])) ++ []) ++ [])))) (f2 (gv 7) (aH (aa (aH (aa (f2 (wg (gv 5) (λ_ β=>.ok none β) (xH (f1 (cst (.int 1)) vV))) (aH (aa (f2 (f2 (gv 5) (f1 (cst (.int 1)) vV) cT) (cst (.int 1)) (cN false)) af)) dw) af)) (aa (aH (aa (gv 3) af)) (aa (aH (aa (f1 (f2 (gv 5) (f2 (gv 1) (gv 6) cT) dw) jF) af)) af)))) dw))
 (aE (bE 8 ([] ++ []) (gq 0 av (aa (cst (.int 11)) af)))
 (aE (jS ([] ++ []) (c8 (f2 (gv 8) (cst (.int 10)) zc))
 (jX (f2 (f2 (wg (gv 1) (λ_ β=>.ok none β) (xH (gv 4))) (f2 (gv 7) (gv 8) cT) dw) (wg (gv 1) (xH (f2 (gv 4) (cst (.int 1)) cO)) (λ_ β=>.ok none β)) dw))
 lP)
 (bC (f1 (gv 1) lV)))))))))
def xa (dA cz cG dJ:List D->FR)(cH cj dQ c7:List D->Int->FB):SF:=(aE (c5 (.nm 1) ([] ++ ([] ++ [])) (gM (f2 (cst (.int 1)) (f2 (f1 (gv 0) c9) (cst (.int 4)) (uI λi j=>.int (if j < i then j else i))) (uI λi j=>.int (if j > i then j else i))))
 (aE (xb 2 ([0] ++ ([1] ++ [])) (tG dA (aa (gv 0) (aa (gv 1) af))))
 (aE (bE 3 ([] ++ []) (gq 2 cH (aa (cst (.int 7)) af)))
 (aE (bE 4 ([3] ++ []) (gq 2 cj (aa (gv 3) af)))
 (aE (bE 5 [] (gq 2 dQ af))
 (aE (jv 6 ([4] ++ ([5] ++ ([] ++ ((([] ++ []) ++ []) ++ ((([] ++ []) ++ []) ++ []))))) (aH (aa (gv 4) (aa (gv 5) (aa (aH af) (aa (aS 1 [] (.nm 0) (gM (f2 (gv 3) (cst (.int 0)) cT)) mB (aH (aa (gv 0) af))) (aa (aH (aa (f1 (f2 (gv 3) (cst (.int 0)) cT) cR) af)) af)))))))
 (aE (c5 (.nm 7) [] (gM (cst (.int 4)))
 (rG 6 ([4] ++ (([] ++ []) ++ ([5] ++ []))) (gq 2 c7 (aa (gv 4) (aa (f2 (gv 3) (cst (.int 0)) cT) (aa (gv 5) af))))))
 (c5 (.nm 8) [6] (bV (gv 6))
 (aE (bE 9 [] (f1 (gv 8) j6))
 (jS ((([8] ++ ([3] ++ [])) ++ (([8] ++ ([3] ++ [])) ++ [])) ++ ([] ++ [])) (hG (oJ (kA (aB cz (aa (aB cG (aa (gv 8) (aa (gv 3) af))) (aa (aB dJ (aa (gv 8) (aa (gv 3) af))) af))))) (c8 (f2 (f1 (gv 8) j6) (gv 9) (FH true))))
 (bC (cst (.bool false)))
 lP))))))))))
 (bC (cst (.bool true))))
end RM
namespace RQ
open PySem L2 RM
def top (i:Nat):Stmt:=PySem.Challenge.pw_rowsorder_k18_chains_looked_at.main.body.getD i (.Pass ⟨0,0,0,0⟩)
section
variable {P:Program}{w:World}{K:Frag}{mg:Str->Option Value}{base:Heap}{ca:Str->Addr}
abbrev iu:Stmt:=top 2
def uw:aI ["thing"] ["thing"] (au iu):=⟨rfl,rfl,rfl,by decide +kernel,rfl,by decide +kernel,by decide +kernel⟩
def qQ {f:Addr}{fd:FuncData}(F:jY K mg "is_whole" iu ["thing"] f fd)(B:kh mg):fL P w K mg base ca "is_whole" ["thing"] 1 (bF 1 1 (nV)):=
 ⟨⟨f,fd,F.mg,F.F.kp,F.b,bp (N:=["thing"]) (k:=0) F.F uw λcdv A outer s H G E hr=>
  (ay (aR (gj (fq "int" (by decide) rfl rfl B.isinstance rfl B.int (by decide +kernel) (ag 0)) (iF (rL (fq "bool" (by decide) rfl rfl B.isinstance rfl B.bool (by decide +kernel) (ag 0)))) (λ_ _=>rfl))))⟩,λds h=>aW ds h⟩
abbrev i4:Stmt:=top 3
def sf:aI ["thing","bound"] ["thing","bound"] (au i4):=⟨rfl,rfl,rfl,by decide +kernel,rfl,by decide +kernel,by decide +kernel⟩
def rN {f:Addr}{fd:FuncData}{bH:List D->FR}(F:jY K mg "is_below" i4 ["thing","bound"] f fd)(B:kh mg)(dN:fL P w K mg base ca "is_whole" ["thing"] 1 bH):fL P w K mg base ca "is_below" ["thing","bound"] 2 (bF 2 2 (nX bH)):=
 ⟨⟨f,fd,F.mg,F.F.kp,F.b,bp (N:=["thing","bound"]) (k:=1) F.F sf λcdv A outer s H G E hr=>
  (ay (aR (gj (aX dN (hr.mono (by decide)) bz rfl rfl (ae (az 0 rfl) ao)) (iF (tT zt wL Er Cj aw (ag 0) (ag 1))) (λ_ _=>rfl))))⟩,λds h=>aW ds h⟩
abbrev jL:Stmt:=top 4
def u9:aI ["thing"] ["thing"] (au jL):=⟨rfl,rfl,rfl,by decide +kernel,rfl,by decide +kernel,by decide +kernel⟩
def tX {f:Addr}{fd:FuncData}{bH:List D->FR}(F:jY K mg "is_many" jL ["thing"] f fd)(B:kh mg)(dN:fL P w K mg base ca "is_whole" ["thing"] 1 bH){oQ:Tok}(gO:mg "MOST_THINGS"=some (.int 8 oQ)):fL P w K mg base ca "is_many" ["thing"] 2 (bF 1 1 (pX bH)):=
 ⟨⟨f,fd,F.mg,F.F.kp,F.b,bp (N:=["thing"]) (k:=1) F.F u9 λcdv A outer s H G E hr=>
  (ay (aR (gj (aX dN (hr.mono (by decide)) bz rfl rfl (ae (az 0 rfl) ao)) (iF (tT zt zt Er Er aw (ag 0) (Dx (by rfl) gO))) (λ_ _=>rfl))))⟩,λds h=>aW ds h⟩
abbrev jK:Stmt:=top 5
def vD:aI ["thing","many"] ["thing","many"] (au jK):=⟨rfl,rfl,rfl,by decide +kernel,rfl,by decide +kernel,by decide +kernel⟩
def sS {f:Addr}{fd:FuncData}{bw:List D->FR}(F:jY K mg "is_pair" jK ["thing","many"] f fd)(B:kh mg)(cZ:fL P w K mg base ca "is_below" ["thing","bound"] 2 bw):fL P w K mg base ca "is_pair" ["thing","many"] 3 (bF 2 2 (pF bw)):=
 ⟨⟨f,fd,F.mg,F.F.kp,F.b,bp (N:=["thing","many"]) (k:=2) F.F vD λcdv A outer s H G E hr=>
  (ar (e8 (r6.t (jy (de (cL rfl (fq "tuple" (by decide) rfl rfl B.isinstance rfl B.tuple (by decide +kernel) (ag 0)))) (iI (bX (gQ hr.units) gn (aM cw jD rfl B.len Lz (ag 0)) aw (ba _))) (λ_ _=>rfl)))
  (ay (aR gJ))
  cx)
  (ay (aR (gj (aX cZ (hr.mono (by decide)) bz rfl rfl (ae (bY bh dC (ag 0) aw (λ_ _=>rfl)) (ae (az 1 rfl) ao))) (iF (aX cZ (hr.mono (by decide)) bz rfl rfl (ae (bY bh dC (ag 0) aw (λ_ _=>rfl)) (ae (az 1 rfl) ao)))) (λ_ _=>rfl)))))⟩,λds h=>aW ds h⟩
abbrev du:Stmt:=top 6
def o9:aI ["many"] ["many"] (au du):=⟨rfl,rfl,rfl,by decide +kernel,rfl,by decide +kernel,by decide +kernel⟩
def ot {f:Addr}{fd:FuncData}(F:jY K mg "every_pair" du ["many"] f fd)(B:kh mg):fL P w K mg base ca "every_pair" ["many"] 1 (bF 1 1 (qV)):=
 ⟨⟨f,fd,F.mg,F.F.kp,F.b,bp (N:=["many"]) (k:=0) F.F o9 λcdv A outer s H G E hr=>
  (ay (kY (cV (NB:=["number","many"]) (own:=1) (ixs:=[0]) [] rfl (dP (by kernel_rfl)) (λ_ _=>rfl) (nk rfl B.range (bo ji kc (ag 0) (ag 0))) (λH0 G0 par br bx C ex s3 H3 pn=>(di (i:=0) (show (["number","many"]:List Str).Nodup by decide +kernel))) (λH0 G0 par br bx C ex s3 H3 pn hB1=>fJ) (λH0 G0 par br bx C ex s3 H3 pn hB1=>(iw (ae (bo kC Df (ag 0) (ag 1)) (ae (bo kn pI (ag 0) (ag 1)) ao)))))))⟩,λds h=>aW ds h⟩
abbrev iq:Stmt:=top 13
def ub:aI ["pairs"] ["pairs"] (au iq):=⟨rfl,rfl,rfl,by decide +kernel,rfl,by decide +kernel,by decide +kernel⟩
def qW {f:Addr}{fd:FuncData}(F:jY K mg "has_ring" iq ["pairs"] f fd)(B:kh mg):fL P w K mg base ca "has_ring" ["pairs"] 1 (bF 1 1 (oo)):=
 ⟨⟨f,fd,F.mg,F.F.kp,F.b,bp (N:=["pairs"]) (k:=0) F.F ub λcdv A outer s H G E hr=>
  (ay (aR (aM (ur rfl) ip rfl B.any (by decide +kernel) (cV (NB:=["a","b"]) (own:=2) (ixs:=[]) [] rfl (dP (by kernel_rfl)) (λ_ _=>rfl) (o8 rfl (ag 0)) (λH0 G0 par br bx C ex s3 H3 pn=>(vB (i:=0) (j:=1) (show (["a","b"]:List Str).Nodup by decide +kernel))) (λH0 G0 par br bx C ex s3 H3 pn hB1=>fJ) (λH0 G0 par br bx C ex s3 H3 pn hB1=>(fg (fk hr.units) gn (ag 0) (ag 1) (ba _)))))))⟩,λds h=>aW ds h⟩
abbrev i3:Stmt:=top 11
def jj:aI ["thing","many","pairs"] ["thing"] (au i3):=⟨rfl,rfl,rfl,by decide +kernel,rfl,by decide +kernel,by decide +kernel⟩
def rb {f:Addr}{fd:FuncData}{fP fO ig dH:List D->FR}(F:jY K mg "is_order" i3 ["thing"] f fd)(B:kh mg)(lG:fL P w K mg base ca "is_many" ["thing"] 2 fP)(lA:fL P w K mg base ca "is_pair" ["thing","many"] 3 fO)(nI:fL P w K mg base ca "closed" ["many","pairs"] 3 ig)(j7:fL P w K mg base ca "has_ring" ["pairs"] 1 dH):fL P w K mg base ca "is_order" ["thing"] 4 (bF 3 1 (gi fP fO ig dH)):=
 ⟨⟨f,fd,F.mg,F.F.kp,F.b,bp (N:=["thing","many","pairs"]) (k:=3) F.F jj λcdv A outer s H G E hr=>
  (ar (e8 (r6.t (jy (de (cL rfl (fq "tuple" (by decide) rfl rfl B.isinstance rfl B.tuple (by decide +kernel) (ag 0)))) (iI (bX (gQ hr.units) gn (aM cw jD rfl B.len Lz (ag 0)) aw (ba _))) (λ_ _=>rfl)))
  (ay (aR gJ))
  cx)
  (ar (aV (i:=1) (bY bh dC (ag 0) aw (λ_ _=>rfl)) jj.nd)
  (ar (aV (i:=2) (bY bh dC (ag 0) aw (λ_ _=>rfl)) jj.nd)
  (ar (e8 (r6.t (jy (de (cL rfl (aX lG (hr.mono (by decide)) bz rfl rfl (ae (az 1 rfl) ao)))) (iI (de (cL rfl (fq "tuple" (by decide) rfl rfl B.isinstance rfl B.tuple (by decide +kernel) (ag 2))))) (λ_ _=>rfl)))
  (ay (aR gJ))
  cx)
  (ar (e8 (de (cL rfl (aM (jm rfl) ip rfl B.all (by decide +kernel) (cV (NB:=["pair","many"]) (own:=1) (ixs:=[1]) [1] rfl (dP (by kernel_rfl)) (λ_ _=>rfl) (o8 rfl (ag 2)) (λH0 G0 par br bx C ex s3 H3 pn=>(di (i:=0) (show (["pair","many"]:List Str).Nodup by decide +kernel))) (λH0 G0 par br bx C ex s3 H3 pn hB1=>fJ) (λH0 G0 par br bx C ex s3 H3 pn hB1=>(aX lA (hr.mono (by decide)) l5 rfl rfl (ae (az 0 (hB1 0 (by decide))) (ae (az 1 (hB1 1 (by decide))) ao))))))))
  (ay (aR gJ))
  cx)
  (ay (aR (gj (fg (fk hr.units) gn (ag 2) (aX nI (hr.mono (by decide)) bz rfl rfl (ae (az 1 rfl) (ae (az 2 rfl) ao))) (ba _)) (iF (rL (aX j7 (hr.mono (by decide)) bz rfl rfl (ae (az 2 rfl) ao)))) (λ_ _=>rfl)))))))))⟩,λds h=>aW ds h⟩
abbrev fA:Stmt:=top 14
def pC:aI ["thing"] ["thing"] (au fA):=⟨rfl,rfl,rfl,by decide +kernel,rfl,by decide +kernel,by decide +kernel⟩
def nK {f:Addr}{fd:FuncData}{dF:List D->FR}(F:jY K mg "need_order" fA ["thing"] f fd)(B:kh mg)(kx:fL P w K mg base ca "is_order" ["thing"] 4 dF)(hU:Exc K mg ca "NoOrder"):fL P w K mg base ca "need_order" ["thing"] 5 (bF 1 1 (fC dF)):=
 ⟨⟨f,fd,F.mg,F.F.kp,F.b,bp (N:=["thing"]) (k:=4) F.F pC λcdv A outer s H G E hr=>
  (ay (e8 (de (cL rfl (aX kx (hr.mono (by decide)) bz rfl rfl (ae (az 0 rfl) ao))))
  (ay (Ab hU.ex hU.ca rfl hU.mg (ae zi ao)))
  cx))⟩,λds h=>aW ds h⟩
abbrev gC:Stmt:=top 15
def rJ:aI ["order","a","b"] ["order","a","b"] (au gC):=⟨rfl,rfl,rfl,by decide +kernel,rfl,by decide +kernel,by decide +kernel⟩
def o5 {f:Addr}{fd:FuncData}(F:jY K mg "are_apart" gC ["order","a","b"] f fd)(B:kh mg):fL P w K mg base ca "are_apart" ["order","a","b"] 1 (bF 3 3 (mh)):=
 ⟨⟨f,fd,F.mg,F.F.kp,F.b,bp (N:=["order","a","b"]) (k:=0) F.F rJ λcdv A outer s H G E hr=>
  (ay (aR (gj (fg (gQ hr.units) gn (ag 1) (ag 2) (ba _)) (gj (fg (jJ hr.u1) C3 (iw (ae (az 1 rfl) (ae (az 2 rfl) ao))) (bY bh dC (ag 0) aw (λ_ _=>rfl)) (by with_unfolding_all rfl)) (iF (fg (jJ hr.u1) C3 (iw (ae (az 2 rfl) (ae (az 1 rfl) ao))) (bY bh dC (ag 0) aw (λ_ _=>rfl)) (by with_unfolding_all rfl))) (λ_ _=>rfl)) (λ_ _=>rfl))))⟩,λds h=>aW ds h⟩
abbrev rn:Stmt:=top 17
def Cv:aI ["order","chain","thing"] ["order","chain","thing"] (au rn):=⟨rfl,rfl,rfl,by decide +kernel,rfl,by decide +kernel,by decide +kernel⟩
def AH {f:Addr}{fd:FuncData}{c6:List D->FR}(F:jY K mg "fits" rn ["order","chain","thing"] f fd)(B:kh mg)(jr:fL P w K mg base ca "are_apart" ["order","a","b"] 1 c6):fL P w K mg base ca "fits" ["order","chain","thing"] 2 (bF 3 3 (qF c6)):=
 ⟨⟨f,fd,F.mg,F.F.kp,F.b,bp (N:=["order","chain","thing"]) (k:=1) F.F Cv λcdv A outer s H G E hr=>
  (ay (aR (rL (aM (ur rfl) ip rfl B.any (by decide +kernel) (cV (NB:=["one","order","thing"]) (own:=1) (ixs:=[0,2]) [0,2] rfl (dP (by kernel_rfl)) (λ_ _=>rfl) (o8 rfl (ag 1)) (λH0 G0 par br bx C ex s3 H3 pn=>(di (i:=0) (show (["one","order","thing"]:List Str).Nodup by decide +kernel))) (λH0 G0 par br bx C ex s3 H3 pn hB1=>fJ) (λH0 G0 par br bx C ex s3 H3 pn hB1=>(aX jr (hr.mono (by decide)) l5 rfl rfl (ae (az 1 (hB1 1 (by decide))) (ae (az 0 (hB1 0 (by decide))) (ae (az 2 (hB1 2 (by decide))) ao))))))))))⟩,λds h=>aW ds h⟩
abbrev iH:Stmt:=top 18
def uv:aI ["thing","order"] ["thing","order"] (au iH):=⟨rfl,rfl,rfl,by decide +kernel,rfl,by decide +kernel,by decide +kernel⟩
def qu {f:Addr}{fd:FuncData}{bw lM:List D->FR}(F:jY K mg "is_chain" iH ["thing","order"] f fd)(B:kh mg)(cZ:fL P w K mg base ca "is_below" ["thing","bound"] 2 bw)(vJ:fL P w K mg base ca "fits" ["order","chain","thing"] 2 lM):fL P w K mg base ca "is_chain" ["thing","order"] 3 (bF 2 2 (iZ bw lM)):=
 ⟨⟨f,fd,F.mg,F.F.kp,F.b,bp (N:=["thing","order"]) (k:=2) F.F uv λcdv A outer s H G E hr=>
  (ar (e8 (r6.t (jy (de (cL rfl (fq "list" (by decide) rfl rfl B.isinstance rfl B.list (by decide +kernel) (ag 0)))) (iI (bX (fk hr.units) gn (aM cw jD rfl B.len Lz (ag 0)) aw (ba _))) (λ_ _=>rfl)))
  (ay (aR gJ))
  cx)
  (ar (e8 (r6.t (jy (de (cL rfl (aM (jm rfl) ip rfl B.all (by decide +kernel) (cV (NB:=["one","order"]) (own:=1) (ixs:=[1]) [] rfl (dP (by kernel_rfl)) (λ_ _=>rfl) (o8 rfl (ag 0)) (λH0 G0 par br bx C ex s3 H3 pn=>(di (i:=0) (show (["one","order"]:List Str).Nodup by decide +kernel))) (λH0 G0 par br bx C ex s3 H3 pn hB1=>fJ) (λH0 G0 par br bx C ex s3 H3 pn hB1=>(aX cZ (hr.mono (by decide)) l5 rfl rfl (ae (az 0 (hB1 0 (by decide))) (ae (bY bh dC (ag 1) aw (λ_ _=>rfl)) ao)))))))) (iI (bX (gQ hr.units) gn (ag 0) (l6 rfl rfl rfl B.sorted rfl B.set (ag 0)) (ba _))) (λ_ _=>rfl)))
  (ay (aR gJ))
  cx)
  (ay (aR (aM (jm rfl) ip rfl B.all (by decide +kernel) (cV (NB:=["one","order","thing"]) (own:=1) (ixs:=[1,0]) [0,1] rfl (dP (by kernel_rfl)) (λ_ _=>rfl) (o8 rfl (ag 0)) (λH0 G0 par br bx C ex s3 H3 pn=>(di (i:=0) (show (["one","order","thing"]:List Str).Nodup by decide +kernel))) (λH0 G0 par br bx C ex s3 H3 pn hB2=>fJ) (λH0 G0 par br bx C ex s3 H3 pn hB2=>(aX vJ (hr.mono (by decide)) l5 rfl rfl (ae (az 1 (hB2 1 (by decide))) (ae (az 2 (hB2 2 (by decide))) (ae (az 0 (hB2 0 (by decide))) ao)))))))))))⟩,λds h=>aW ds h⟩
abbrev fF:Stmt:=top 19
def gZ:aI ["thing","order","held","chain"] ["thing","order"] (au fF):=⟨rfl,rfl,rfl,by decide +kernel,rfl,by decide +kernel,by decide +kernel⟩
def nS {f:Addr}{fd:FuncData}{cF dB:List D->FR}(F:jY K mg "are_chains" fF ["thing","order"] f fd)(B:kh mg)(iM:fL P w K mg base ca "need_order" ["thing"] 5 cF)(j8:fL P w K mg base ca "is_chain" ["thing","order"] 3 dB):fL P w K mg base ca "are_chains" ["thing","order"] 6 (bF 4 2 (fH cF dB)):=
 ⟨⟨f,fd,F.mg,F.F.kp,F.b,bp (N:=["thing","order","held","chain"]) (k:=5) F.F gZ λcdv A outer s H G E hr=>
  (ar (De (aX iM (hr.mono (by decide)) bz rfl rfl (ae (az 1 rfl) ao)))
  (ar (e8 (r6.t (jy (de (cL rfl (fq "list" (by decide) rfl rfl B.isinstance rfl B.list (by decide +kernel) (ag 0)))) (iI (de (cL rfl (aM (jm rfl) ip rfl B.all (by decide +kernel) (cV (NB:=["chain","order"]) (own:=1) (ixs:=[1]) [1] rfl (dP (by kernel_rfl)) (λ_ _=>rfl) (o8 rfl (ag 0)) (λH0 G0 par br bx C ex s3 H3 pn=>(di (i:=0) (show (["chain","order"]:List Str).Nodup by decide +kernel))) (λH0 G0 par br bx C ex s3 H3 pn hB1=>fJ) (λH0 G0 par br bx C ex s3 H3 pn hB1=>(aX j8 (hr.mono (by decide)) l5 rfl rfl (ae (az 0 (hB1 0 (by decide))) (ae (az 1 (hB1 1 (by decide))) ao))))))))) (λ_ _=>rfl)))
  (ay (aR gJ))
  cx)
  (ar (jN (i:=2) (aO ao) gZ.nd)
  (ar (gR PassesOwn.leaving rfl (zq rfl (az 0 rfl)) (di (i:=3) gZ.nd)
  (ay (yr 2 (λ_=>rfl) (ag 3))))
  (ay (aR (fg (fk hr.units) gn (aM kq qR rfl B.sorted (by decide +kernel) (ag 2)) (iP rfl rfl B.list rfl B.range (bY bh dC (ag 1) aw (λ_ _=>rfl))) (ba _))))))))⟩,λds h=>aW ds h⟩
abbrev gz:Stmt:=top 21
def rH:aI ["script","k"] ["script","k"] (au gz):=⟨rfl,rfl,rfl,by decide +kernel,rfl,by decide +kernel,by decide +kernel⟩
def pj {f:Addr}{fd:FuncData}(F:jY K mg "_law_cell" gz ["script","k"] f fd)(B:kh mg):fL P w K mg base ca "_law_cell" ["script","k"] 1 (bF 2 2 (eQ)):=
 ⟨⟨f,fd,F.mg,F.F.kp,F.b,bp (N:=["script","k"]) (k:=0) F.F rH λcdv A outer s H G E hr=>
  (ar (e8 (bX wL Cj (ag 1) (aM cw jD rfl B.len Lz (ag 0)) (ba _))
  (ay (aR (bY bh dC (ag 0) (ag 1) (λ_ _=>rfl))))
  cx)
  (ay (aR aw)))⟩,λds h=>aW ds h⟩
abbrev dD:Stmt:=top 22
def gE:aI ["cell","k","some","stir"] ["cell","k"] (au dD):=⟨rfl,rfl,rfl,by decide +kernel,rfl,by decide +kernel,by decide +kernel⟩
def rB:∃(es:List Expr) (p1 p2 p3:Pos),cu dD=.Assign [.Name "some" p1] (.List es p2) p3 :: (cu dD).drop 1/\constsOf es=some [48271,69621,16807,39373,30269,40014,40692,50021,61687,71993,83869,95561,30307]:=⟨_,_,_,_,rfl,by kernel_rfl⟩
def rW {f:Addr}{fd:FuncData}(F:jY K mg "_law_mix" dD ["cell","k"] f fd)(B:kh mg):fL P w K mg base ca "_law_mix" ["cell","k"] 1 (bF 4 2 (iR)):=by
 obtain⟨es,p1,p2,p3,hb,hes⟩:=rB
 refine⟨⟨f,fd,F.mg,F.F.kp,F.b,bp (N:=["cell","k","some","stir"]) (k:=0) F.F gE λcdv A outer s H G E hr=>?_⟩,λds h=>aW ds h⟩
 rw[hb]
 exact (ar (aV (i:=2) (SE.wv (aO (pK hes))) gE.nd) (ar (aV (i:=3) (bo jC jk (bo jC jk (bo ji kc (bo jC jk (bo kn pI (ag 0) aw) aw) (bY bh dC (ag 2) (bo kn pI (ag 1) aw) (λ_ _=>rfl))) (bo ji kc aw (ag 1))) (bo ji kc aw (bo kC Df (ag 1) aw))) gE.nd)
  (ar (aV (i:=3) (bo kn pI (ag 3) aw) gE.nd)
  (ay (aR (bo kC Df (bo kn pI (bo jC jk (bo ji kc (ag 3) (ag 3)) (bo ji kc aw (ag 1))) aw) aw))))))
abbrev iE:Stmt:=top 23
def eS:aI ["script","k","cell","number","j"] ["script","k"] (au iE):=⟨rfl,rfl,rfl,by decide +kernel,rfl,by decide +kernel,by decide +kernel⟩
def qH {f:Addr}{fd:FuncData}{c4 dR:List D->FR}(F:jY K mg "_law_box" iE ["script","k"] f fd)(B:kh mg)(jz:fL P w K mg base ca "_law_cell" ["script","k"] 1 c4)(kl:fL P w K mg base ca "_law_mix" ["cell","k"] 1 dR):fL P w K mg base ca "_law_box" ["script","k"] 2 (bF 5 2 (i0 c4 dR)):=
 ⟨⟨f,fd,F.mg,F.F.kp,F.b,bp (N:=["script","k","cell","number","j"]) (k:=1) F.F eS λcdv A outer s H G E hr=>
  (ar (aV (i:=2) (aX jz (hr.mono (by decide)) bz rfl rfl (ae (az 0 rfl) (ae (az 1 rfl) ao))) eS.nd)
  (ar (e8 (bX (fk hr.units) gn (bo kn pI (ag 2) aw) aw (ba _))
  (ay (kY (aO (ae (bo kC Df (aM An Hr rfl B.abs (by decide +kernel) (ag 2)) aw) ao))))
  cx)
  (ar (aV (i:=3) aw eS.nd)
  (ar (gR PassesOwn.leaving rfl (nk rfl B.range aw) (di (i:=4) eS.nd)
  (ay (aV (i:=3) (bo jC jk (bo ji kc (ag 3) aw) (aX kl (hr.mono (by decide)) bz rfl rfl (ae (az 2 rfl) (ae (az 4 rfl) ao)))) eS.nd)))
  (ay (kY (aO (ae (az 3 rfl) ao))))))))⟩,λds h=>aW ds h⟩
abbrev gu:Stmt:=top 24
def lg:aI ["box","many","left","digit"] ["box","many"] (au gu):=⟨rfl,rfl,rfl,by decide +kernel,rfl,by decide +kernel,by decide +kernel⟩
def oS {f:Addr}{fd:FuncData}(F:jY K mg "_law_take" gu ["box","many"] f fd)(B:kh mg):iz P w K mg base "_law_take" ["box","many"] 1 bg:=by
 refine⟨⟨f,fd,F.mg,F.F.kp,F.b,?_⟩,λds β h=>?_⟩
 ·refine F.F.zb lg (λvs H Q E h=>?_) (λcdv A outer s H vs Q E hr h=>?_)
  ·obtain⟨b,rest,G,ds,β,rfl,hb,gb,sG,hl,r,_⟩:=h
   rw[KG,r.len,hl];rfl
  ·obtain⟨b,rest,G,ds,β,rfl,hb,gb,sG,hl,r,h⟩:=h
   obtain⟨m,rfl,h0,h1⟩:=wW (λz=>by rw[z] at h;exact h)
   rw[iL h0 h1] at h
   have kk:∀v G' H',fM (some b) H H'->H' b=some (.lst [.int (β / m)])->ah G G'->ah G' H'->(∀c,Mx H c->G c=none->G' c=none)->FV K H G' H' false (.int (β % m)) v->Q v H':=h
   cases r with
   |cons r1 r2=>
    cases r1
    cases r2
    refine⟨_,eT (qw (hX uo rfl B.divmod (by decide +kernel) (aG (jw dZ (pv 0) nZ (λ_ _=>rfl)) (aG (pv 1) a7))) (BR (i:=2) (j:=3) lg.nd rfl rfl rfl rfl rfl))
     (eT (qw (pv 2) (vL (pv 0) nZ set_list)) (dk (lR (pv 3)))),?_⟩
    refine⟨_,rfl,b,_,0,.int β,rfl,rfl,.inl (.inl hb),rfl,_,rfl,β,m,rfl,⟨h0,h1⟩,λp hp=>⟨p,_,rfl,.inl (.inl ak),rfl,_,_,rfl,_,_,rfl,rfl,?_⟩⟩
    have hbp:b≠p:=ax hb hp
    exact⟨_,rfl,_,rfl,b,[.int β],0,0,rfl,rfl,by rw[aq hbp];exact hb,rfl,_,rfl,Bq hb sG hp kk gb⟩
 ·obtain⟨m,rfl,_⟩:=wW h
  rfl
abbrev fD:Stmt:=top 25
def oZ:aI ["thing"] ["thing"] (au fD):=⟨rfl,rfl,rfl,by decide +kernel,rfl,by decide +kernel,by decide +kernel⟩
def m8 {f:Addr}{fd:FuncData}(F:jY K mg "_law_whole" fD ["thing"] f fd)(B:kh mg):fL P w K mg base ca "_law_whole" ["thing"] 1 (bF 1 1 (k7)):=
 ⟨⟨f,fd,F.mg,F.F.kp,F.b,bp (N:=["thing"]) (k:=0) F.F oZ λcdv A outer s H G E hr=>
  (ay (aR (gj (fq "int" (by decide) rfl rfl B.isinstance rfl B.int (by decide +kernel) (ag 0)) (iF (rL (fq "bool" (by decide) rfl rfl B.isinstance rfl B.bool (by decide +kernel) (ag 0)))) (λ_ _=>rfl))))⟩,λds h=>aW ds h⟩
abbrev fK:Stmt:=top 26
def pw:aI ["found","due"] ["found","due"] (au fK):=⟨rfl,rfl,rfl,by decide +kernel,rfl,by decide +kernel,by decide +kernel⟩
def oi {f:Addr}{fd:FuncData}(F:jY K mg "_law_truth" fK ["found","due"] f fd)(B:kh mg):fL P w K mg base ca "_law_truth" ["found","due"] 1 (bF 2 2 (lq)):=
 ⟨⟨f,fd,F.mg,F.F.kp,F.b,bp (N:=["found","due"]) (k:=0) F.F pw λcdv A outer s H G E hr=>
  (ay (aR (gj (fq "bool" (by decide) rfl rfl B.isinstance rfl B.bool (by decide +kernel) (ag 0)) (iF (fg (fk hr.units) gn (ag 0) (ag 1) (ba _))) (λ_ _=>rfl))))⟩,λds h=>aW ds h⟩
abbrev i9:Stmt:=top 27
def jx:aI ["box","some"] ["box"] (au i9):=⟨rfl,rfl,rfl,by decide +kernel,rfl,by decide +kernel,by decide +kernel⟩
def rY {f:Addr}{fd:FuncData}{av:List D->Int->FB}(F:jY K mg "_law_odd" i9 ["box"] f fd)(B:kh mg)(aC:iz P w K mg base "_law_take" ["box","many"] 1 av):iz P w K mg base "_law_odd" ["box"] 2 (k8 2 0 (iX av)):=
 ⟨⟨f,fd,F.mg,F.F.kp,F.b,jl (ca:=λ_=>0) (N:=["box","some"]) (k:=1) F.F jx (by decide) λcdv A outer s H G b E hr=>
  (@ar _ _ _ _ _ _ _ (@Gq _ _ _ 1 _ _ (aa (cst .none) (aa (cst (.bool true)) (aa (cst (.bool false)) (aa (cst (.int (-1))) (aa (cst (.int 0)) (aa (cst (.int 1)) (aa (cst (.str "")) (aa (cst (.str "1")) (aa (bW af) (aa (aH af) (aa (bW (aa (cst (.int 0)) af)) (aa (bW (aa (cst (.int 1)) (aa (bW af) af))) (aa (aH (aa (cst (.int 0)) af)) af))))))))))))) ([] ++ ([] ++ ([] ++ ([] ++ ([] ++ ([] ++ ([] ++ ([] ++ ([] ++ ([] ++ (([] ++ []) ++ (([] ++ ([] ++ [])) ++ (([] ++ []) ++ []))))))))))))) _ _ _ [] (by kernel_rfl) (λ_=>rfl) (by kernel_rfl) jx.nd rfl (by first |exact Or.inl rfl |exact Or.inr rfl) (by first |exact .inl rfl |exact .inr rfl))
  (ar (aV (i:=1) (SE.wv (bo eG jV (ag 1) (@DG _ _ _ _ (aa (cst (.dict [(.str "a",.int 1)])) (aa (bW (aa (cst (.int 0)) (aa (cst (.int 1)) af))) (aa (f2 (cst (.int 10)) (cst (.int 39)) Bc) (aa (bW (aa (bW (aa (cst (.int 0)) (aa (cst (.int 1)) af))) af)) (aa (cst (.str "a")) af))))) ([] ++ (([] ++ ([] ++ [])) ++ ([] ++ ((([] ++ ([] ++ [])) ++ []) ++ ([] ++ []))))) _ [] (by kernel_rfl) (λ_=>rfl) (by kernel_rfl)))) jx.nd)
  (ay (aR (bY bh dC (ag 1) (fu 0 aC (hr.mono (by decide)) bz rfl rfl (ae aw ao)) (λ_ _=>rfl))))))⟩,λds β h=>jq ds β h⟩
abbrev cS:Stmt:=top 28
def dM:aI ["box","some","left","found"] ["box","some"] (au cS):=⟨rfl,rfl,rfl,by decide +kernel,rfl,by decide +kernel,by decide +kernel⟩
def kR {f:Addr}{fd:FuncData}{av:List D->Int->FB}(F:jY K mg "_law_mixed_up" cS ["box","some"] f fd)(B:kh mg)(aC:iz P w K mg base "_law_take" ["box","many"] 1 av):iz P w K mg base "_law_mixed_up" ["box","some"] 2 (k8 4 1 (bL av)):=
 ⟨⟨f,fd,F.mg,F.F.kp,F.b,jl (ca:=λ_=>0) (N:=["box","some","left","found"]) (k:=1) F.F dM (by decide) λcdv A outer s H G b E hr=>
  (ar (jN (i:=2) (kZ rK FT rfl B.list (by decide +kernel) (ag 1)) dM.nd)
  (ar (jN (i:=3) (aO ao) dM.nd)
  (ar (sC 1000 PassesOwn.leaving (bX (gQ hr.units) gn (ag 2) (aO ao) (ba _))
  (ay (yH 3 2 (λ_=>rfl) (fu 0 aC (hr.mono (by decide)) bz rfl rfl (ae (aM cw jD rfl B.len Lz (ag 2)) ao)))))
  (ay (Cr 3)))))⟩,λds β h=>jq ds β h⟩
abbrev dS:Stmt:=top 29
def bq:aI ["pairs","found","size","more","a","b"] ["pairs"] (au dS):=⟨rfl,rfl,rfl,by decide +kernel,rfl,by decide +kernel,by decide +kernel⟩
def mr {f:Addr}{fd:FuncData}(F:jY K mg "_law_closed" dS ["pairs"] f fd)(B:kh mg):fL P w K mg base ca "_law_closed" ["pairs"] 1 (bF 6 1 (dX)):=
 ⟨⟨f,fd,F.mg,F.F.kp,F.b,bp (N:=["pairs","found","size","more","a","b"]) (k:=0) F.F bq λcdv A outer s H G E hr=>
  (ar (aV (i:=1) (SE.wv (nz rfl hr.units rfl rfl B.sorted rfl B.set (ag 0))) bq.nd)
  (ar (aV (i:=2) (xE ox wo aw) bq.nd)
  (ar (sC 1000 PassesOwn.leaving (bX (gQ hr.units) gn (ag 2) (aM cw jD rfl B.len Lz (ag 1)) (ba _))
  (ar (aV (i:=2) (aM cw jD rfl B.len Lz (ag 1)) bq.nd)
  (ar (aV (i:=3) (SE.wv (aO ao)) bq.nd)
  (ar (gR PassesOwn.leaving rfl (zq rfl (az 1 rfl)) (vB (i:=4) (j:=5) bq.nd)
  (ay (aV (i:=3) (SE.wv (bo eG jV (ag 3) (cV (NB:=["c","d","b","a"]) (own:=2) (ixs:=[5,4]) [4] rfl (dP (by kernel_rfl)) (λ_ _=>rfl) (o8 rfl (ag 1)) (λH0 G0 par br bx C ex s3 H3 pn=>(vB (i:=0) (j:=1) (show (["c","d","b","a"]:List Str).Nodup by decide +kernel))) (λH0 G0 par br bx C ex s3 H3 pn hB1=>(mU (bX (fk hr.units) gn (ag 0) (ag 2) (ba _)))) (λH0 G0 par br bx C ex s3 H3 pn hB1=>(iw (ae (az 3 (hB1 3 (by decide))) (ae (az 1 (hB1 1 (by decide))) ao))))))) bq.nd)))
  (ay (aV (i:=1) (SE.wv (nz rfl hr.units rfl rfl B.sorted rfl B.set (bo eG jV (ag 1) (ag 3)))) bq.nd))))))
  (ay (aR (kZ dY rP rfl B.tuple (by decide +kernel) (ag 1)))))))⟩,λds h=>aW ds h⟩
abbrev fE:Stmt:=top 30
def bM:aI ["box","most","many","names","thin","pairs","i","j"] ["box","most"] (au fE):=⟨rfl,rfl,rfl,by decide +kernel,rfl,by decide +kernel,by decide +kernel⟩
def nr {f:Addr}{fd:FuncData}{cm:List D->FR}{av aN:List D->Int->FB}(F:jY K mg "_law_order" fE ["box","most"] f fd)(B:kh mg)(gY:fL P w K mg base ca "_law_closed" ["pairs"] 1 cm)(aC:iz P w K mg base "_law_take" ["box","many"] 1 av)(bK:iz P w K mg base "_law_mixed_up" ["box","some"] 2 aN):iz P w K mg base "_law_order" ["box","most"] 3 (k8 8 1 (fI cm av aN)):=
 ⟨⟨f,fd,F.mg,F.F.kp,F.b,jl (ca:=ca) (N:=["box","most","many","names","thin","pairs","i","j"]) (k:=2) F.F bM (by decide) λcdv A outer s H G b E hr=>
  (ar (aV (i:=2) (bo jC jk aw (fu 0 aC (hr.mono (by decide)) bz rfl rfl (ae (az 1 rfl) ao))) bM.nd)
  (ar (aV (i:=3) (fu 0 bK (hr.mono (by decide)) bz rfl rfl (ae (SE.wv (iP rfl rfl B.list rfl B.range (ag 2))) ao)) bM.nd)
  (ar (aV (i:=4) (bY bh dC (aO (ae aw (ae aw (ae aw (ae aw ao))))) (fu 0 aC (hr.mono (by decide)) bz rfl rfl (ae aw ao)) (λ_ _=>rfl)) bM.nd)
  (ar (jN (i:=5) (aO ao) bM.nd)
  (ar (gR PassesOwn.leaving rfl (nk rfl B.range (ag 2)) (di (i:=6) bM.nd)
  (ay (gR PassesOwn.leaving rfl (GK rfl B.range (bo jC jk (ag 6) aw) (ag 2)) (di (i:=7) bM.nd)
  (ay (e8 (bX (fk hr.units) gn (fu 0 aC (hr.mono (by decide)) bz rfl rfl (ae (az 4 rfl) ao)) aw (ba _))
  (ay (qg 5 (λ_=>rfl) (iw (ae (bY bh dC (ag 3) (ag 6) (λ_ _=>rfl)) (ae (bY bh dC (ag 3) (ag 7) (λ_ _=>rfl)) ao)))))
  cx)))))
  (ay (aR (iw (ae (az 2 rfl) (ae (aX gY (hr.mono (by decide)) bz rfl rfl (ae (az 5 rfl) ao)) ao))))))))))⟩,λds β h=>jq ds β h⟩
abbrev fB:Stmt:=top 31
def oY:aI ["order","a","b"] ["order","a","b"] (au fB):=⟨rfl,rfl,rfl,by decide +kernel,rfl,by decide +kernel,by decide +kernel⟩
def oC {f:Addr}{fd:FuncData}(F:jY K mg "_law_apart" fB ["order","a","b"] f fd)(B:kh mg):fL P w K mg base ca "_law_apart" ["order","a","b"] 1 (bF 3 3 (kW)):=
 ⟨⟨f,fd,F.mg,F.F.kp,F.b,bp (N:=["order","a","b"]) (k:=0) F.F oY λcdv A outer s H G E hr=>
  (ay (aR (gj (fg (gQ hr.units) gn (ag 1) (ag 2) (ba _)) (gj (fg (jJ hr.u1) C3 (iw (ae (az 1 rfl) (ae (az 2 rfl) ao))) (bY bh dC (ag 0) aw (λ_ _=>rfl)) (by with_unfolding_all rfl)) (iF (fg (jJ hr.u1) C3 (iw (ae (az 2 rfl) (ae (az 1 rfl) ao))) (bY bh dC (ag 0) aw (λ_ _=>rfl)) (by with_unfolding_all rfl))) (λ_ _=>rfl)) (λ_ _=>rfl))))⟩,λds h=>aW ds h⟩
abbrev iA:Stmt:=top 32
def eZ:aI ["thing","order","some","chain","one"] ["thing","order"] (au iA):=⟨rfl,rfl,rfl,by decide +kernel,rfl,by decide +kernel,by decide +kernel⟩
def ra {f:Addr}{fd:FuncData}{cC aZ:List D->FR}(F:jY K mg "_law_are" iA ["thing","order"] f fd)(B:kh mg)(iQ:fL P w K mg base ca "_law_whole" ["thing"] 1 cC)(cy:fL P w K mg base ca "_law_apart" ["order","a","b"] 1 aZ):fL P w K mg base ca "_law_are" ["thing","order"] 2 (bF 5 2 (iD cC aZ)):=
 ⟨⟨f,fd,F.mg,F.F.kp,F.b,bp (N:=["thing","order","some","chain","one"]) (k:=1) F.F eZ λcdv A outer s H G E hr=>
  (ar (e8 (de (cL rfl (fq "list" (by decide) rfl rfl B.isinstance rfl B.list (by decide +kernel) (ag 0))))
  (ay (aR gJ))
  cx)
  (ar (aV (i:=2) (SE.wv (aO ao)) eZ.nd)
  (ar (gR PassesOwn.leaving rfl (zq rfl (az 0 rfl)) (di (i:=3) eZ.nd)
  (ar (e8 (r6.t (jy (de (cL rfl (fq "list" (by decide) rfl rfl B.isinstance rfl B.list (by decide +kernel) (ag 3)))) (jy (bX (fk hr.units) gn (ag 3) (aO ao) (ba _)) (iI (de (cL rfl (aM (jm rfl) ip rfl B.all (by decide +kernel) (cV (NB:=["one"]) (own:=1) (ixs:=[]) [] rfl (dP (by kernel_rfl)) (λ_ _=>rfl) (o8 rfl (ag 3)) (λH0 G0 par br bx C ex s3 H3 pn=>(di (i:=0) (show (["one"]:List Str).Nodup by decide +kernel))) (λH0 G0 par br bx C ex s3 H3 pn hB1=>fJ) (λH0 G0 par br bx C ex s3 H3 pn hB1=>(aX iQ (hr.mono (by decide)) l5 rfl rfl (ae (az 0 (hB1 0 (by decide))) ao)))))))) (λ_ _=>rfl)) (λ_ _=>rfl)))
  (ay (aR gJ))
  cx)
  (ar (e8 (r6.t (jy (bX wL Cj (aM (yE rfl) xg rfl B.min (by decide +kernel) (ag 3)) aw (ba _)) (jy (bX GD Jm (aM (yc rfl) xg rfl B.max (by decide +kernel) (ag 3)) (bY bh dC (ag 1) aw (λ_ _=>rfl)) (ba _)) (iI (bX (gQ hr.units) gn (ag 3) (l6 rfl rfl rfl B.sorted rfl B.set (ag 3)) (ba _))) (λ_ _=>rfl)) (λ_ _=>rfl)))
  (ay (aR gJ))
  cx)
  (ar (gR PassesOwn.leaving rfl (zq rfl (az 3 rfl)) (di (i:=4) eZ.nd)
  (ay (e8 (bX (gQ hr.units) gn (cV (NB:=["other","order","one"]) (own:=1) (ixs:=[1,4]) [1,4] rfl (dP (by kernel_rfl)) (λ_ _=>rfl) (o8 rfl (ag 3)) (λH0 G0 par br bx C ex s3 H3 pn=>(di (i:=0) (show (["other","order","one"]:List Str).Nodup by decide +kernel))) (λH0 G0 par br bx C ex s3 H3 pn hB2=>(mU (cL rfl (aX cy (hr.mono (by decide)) l5 rfl rfl (ae (az 1 (hB2 1 (by decide))) (ae (az 2 (hB2 2 (by decide))) (ae (az 0 (hB2 0 (by decide))) ao))))))) (λH0 G0 par br bx C ex s3 H3 pn hB2=>(az 0 (hB2 0 (by decide))))) (aO ao) (ba _))
  (ay (aR gJ))
  cx)))
  (ay (aV (i:=2) (SE.wv (bo eG jV (ag 2) (ag 3))) eZ.nd))))))
  (ay (aR (fg (fk hr.units) gn (aM kq qR rfl B.sorted (by decide +kernel) (ag 2)) (iP rfl rfl B.list rfl B.range (bY bh dC (ag 1) aw (λ_ _=>rfl))) (ba _)))))))⟩,λds h=>aW ds h⟩
abbrev dU:Stmt:=top 33
def gf:aI ["box","order","found","thing","fit"] ["box","order"] (au dU):=⟨rfl,rfl,rfl,by decide +kernel,rfl,by decide +kernel,by decide +kernel⟩
def mF {f:Addr}{fd:FuncData}{aZ:List D->FR}{av aN:List D->Int->FB}(F:jY K mg "_law_parted" dU ["box","order"] f fd)(B:kh mg)(cy:fL P w K mg base ca "_law_apart" ["order","a","b"] 1 aZ)(aC:iz P w K mg base "_law_take" ["box","many"] 1 av)(bK:iz P w K mg base "_law_mixed_up" ["box","some"] 2 aN):iz P w K mg base "_law_parted" ["box","order"] 3 (k8 5 1 (dW aZ av aN)):=
 ⟨⟨f,fd,F.mg,F.F.kp,F.b,jl (ca:=ca) (N:=["box","order","found","thing","fit"]) (k:=2) F.F gf (by decide) λcdv A outer s H G b E hr=>
  (ar (jN (i:=2) (aO ao) gf.nd)
  (ar (yh (NB:=["chain","order","thing"]) (Lc:=[1,3]) (λ_=>rfl) PassesOwn.leaving rfl rfl gf.nd (nk rfl B.range (bY bh dC (ag 1) aw (λ_ _=>rfl))) (dP (by kernel_rfl)) (λH0 G0 par br bx C ex s3 H3 pn hB1=>(mU (bX (fk hr.units) gn (cV (NB:=["one","order","thing"]) (own:=1) (ixs:=[1,2]) [1,2] rfl (dP (by kernel_rfl)) (λi hi=>hB1 i (by revert i hi;decide)) (o8 rfl (ag 0)) (λH0 G0 par br bx C ex s3 H3 pn=>(di (i:=0) (show (["one","order","thing"]:List Str).Nodup by decide +kernel))) (λH0 G0 par br bx C ex s3 H3 pn hB2=>(mU (cL rfl (aX cy (hr.mono (by decide)) l5 rfl rfl (ae (az 1 (hB2 1 (by decide))) (ae (az 0 (hB2 0 (by decide))) (ae (az 2 (hB2 2 (by decide))) ao))))))) (λH0 G0 par br bx C ex s3 H3 pn hB2=>(az 0 (hB2 0 (by decide))))) (aO ao) (ba _)))) (r6.t (FP (bX (gQ hr.units) gn (ag 4) (aO ao) (ba _)) (BM (bX Hh Jc (fu 0 aC (hr.mono (by decide)) bz rfl rfl (ae aw ao)) aw (ba _))) (λ_ _=>rfl))) (fu 0 aC (hr.mono (by decide)) bz rfl rfl (ae (aM cw jD rfl B.len Lz (ag 4)) ao)) (λ_ _=>rfl) (λC ex s3 H3 pn=>bR (show (["chain","order","thing"]:List Str).Nodup by decide +kernel) rfl (by first |exact Or.inl rfl |exact Or.inr rfl)) (λC ex s3 H3 pn=>cM rfl (by first |exact Or.inl rfl |exact Or.inr (Or.inl rfl) |exact Or.inr (Or.inr rfl))))
  (ay (kY (Fd 0 bK (hr.mono (by decide)) bz rfl rfl (ae (az 2 rfl) ao))))))⟩,λds β h=>jq ds β h⟩
abbrev gG:Stmt:=top 34
def b9:aI ["box","some","many","odd","at","chain","to","news","kind"] ["box","some","many","odd"] (au gG):=⟨rfl,rfl,rfl,by decide +kernel,rfl,by decide +kernel,by decide +kernel⟩
def pe {f:Addr}{fd:FuncData}{av:List D->Int->FB}(F:jY K mg "_law_bent" gG ["box","some","many","odd"] f fd)(B:kh mg)(aC:iz P w K mg base "_law_take" ["box","many"] 1 av):iz P w K mg base "_law_bent" ["box","some","many","odd"] 2 (k8 9 3 (gH av)):=
 ⟨⟨f,fd,F.mg,F.F.kp,F.b,jl (ca:=λ_=>0) (N:=["box","some","many","odd","at","chain","to","news","kind"]) (k:=1) F.F b9 (by decide) λcdv A outer s H G b E hr=>
  (ar (aV (i:=4) (fu 0 aC (hr.mono (by decide)) bz rfl rfl (ae (aM cw jD rfl B.len Lz (ag 1)) ao)) b9.nd)
  (ar (aV (i:=5) (bY bh dC (ag 1) (ag 4) (λ_ _=>rfl)) b9.nd)
  (ar (aV (i:=6) (fu 0 aC (hr.mono (by decide)) bz rfl rfl (ae (aM cw jD rfl B.len Lz (ag 1)) ao)) b9.nd)
  (ar (aV (i:=7) (SE.wv (aO (ae (SE.wv (aO (ae (SE.wv (kI rfl (ag 5) (mI aw) mR)) ao))) (ae (SE.wv (aO (ae (SE.wv (bo eG jV (ag 5) (aO (ae (fu 0 aC (hr.mono (by decide)) bz rfl rfl (ae (az 2 rfl) ao)) ao)))) ao))) (ae (SE.wv (aO (ae (SE.wv (aO ao)) ao))) (ae (SE.wv (aO (ae (SE.wv (zR rfl (ag 5))) ao))) (ae (SE.wv (aO (ae (kZ dY rP rfl B.tuple (by decide +kernel) (ag 5)) ao))) (ae (SE.wv (aO ao)) (ae (SE.wv (aO (ae (az 5 rfl) (ae (SE.wv (aO (ae (bY bh dC (ag 5) aw (λ_ _=>rfl)) ao))) ao)))) ao))))))))) b9.nd)
  (ar (aV (i:=7) (SE.wv (bo eG jV (ag 7) (aO (ae (SE.wv (aO (ae (SE.wv (bo eG jV (kI rfl (ag 5) mR (mI (xE ox wo aw))) (aO (ae (fg (fk hr.units) gn (bY bh dC (ag 5) (xE ox wo aw) (λ_ _=>rfl)) aw (ba _)) ao)))) ao))) (ae (SE.wv (aO (ae (az 3 rfl) ao))) (ae (SE.wv (aO (ae (SE.wv (aM kq qR rfl B.sorted (by decide +kernel) (bo eG jV (ag 5) (bY bh dC (ag 1) (ag 6) (λ_ _=>rfl))))) ao))) ao)))))) b9.nd)
  (ar (aV (i:=8) (fu 0 aC (hr.mono (by decide)) bz rfl rfl (ae aw ao)) b9.nd)
  (ar (e8 (bX wL Cj (ag 8) aw (ba _))
  (ay (kY (bo eG jV (bo eG jV (kI rfl (ag 1) mR (mI (ag 4))) (bY bh dC (ag 7) (ag 8) (λ_ _=>rfl))) (kI rfl (ag 1) (mI (bo jC jk (ag 4) aw)) mR))))
  cx)
  (ay (aR (kZ dY rP rfl B.tuple (by decide +kernel) (ag 1)))))))))))⟩,λds β h=>jq ds β h⟩
abbrev j4:Stmt:=top 35
def gS:aI ["script","k","box","order","some","odd","things","turn","thing","kept"] ["script"] (au j4):=⟨rfl,rfl,rfl,by decide +kernel,rfl,by decide +kernel,by decide +kernel⟩
def Co {f:Addr}{fd:FuncData}{dA cz cG dJ:List D->FR}{cH cj dQ c7:List D->Int->FB}(F:jY K mg "law" j4 ["script"] f fd)(B:kh mg)(kf:fL P w K mg base ca "_law_box" ["script","k"] 2 dA)(ja:fL P w K mg base ca "_law_truth" ["found","due"] 1 cz)(iO:fL P w K mg base ca "are_chains" ["thing","order"] 6 cG)(ki:fL P w K mg base ca "_law_are" ["thing","order"] 2 dJ)(iy:iz P w K mg base "_law_order" ["box","most"] 3 cH)(gX:iz P w K mg base "_law_parted" ["box","order"] 3 cj)(kj:iz P w K mg base "_law_odd" ["box"] 2 dQ)(jo:iz P w K mg base "_law_bent" ["box","some","many","odd"] 2 c7):eV P w K mg base (mn P w) 7 f fd ["script"] (BE K ca 1 (bF 10 1 (xa dA cz cG dJ cH cj dQ c7))):=
 bp (N:=["script","k","box","order","some","odd","things","turn","thing","kept"]) (k:=6) F.F gS λcdv A outer s H G E hr=>
  (ar (gR PassesOwn.leaving rfl (nk rfl B.range (sO (yQ rfl) Ep rfl B.max (by decide +kernel) aw (sO (yd rfl) EH rfl B.min (by decide +kernel) (aM cw jD rfl B.len Lz (ag 0)) aw))) (di (i:=1) gS.nd)
  (ar (Cw (i:=2) rfl (AY kf (hr.mono (by decide)) bz rfl rfl (ae (az 0 rfl) (ae (az 1 rfl) ao))) gS.nd)
  (ar (aV (i:=3) (fu 2 iy (hr.mono (by decide)) bz rfl rfl (ae aw ao)) gS.nd)
  (ar (aV (i:=4) (fu 2 gX (hr.mono (by decide)) bz rfl rfl (ae (az 3 rfl) ao)) gS.nd)
  (ar (aV (i:=5) (fu 2 kj (hr.mono (by decide)) bz rfl rfl ao) gS.nd)
  (ar (jN (i:=6) (aO (ae (az 4 rfl) (ae (az 5 rfl) (ae (SE.wv (aO ao)) (ae (SE.wv (cV (NB:=["thing"]) (own:=1) (ixs:=[]) [] rfl (dP (by kernel_rfl)) (λ_ _=>rfl) (nk rfl B.range (bY bh dC (ag 3) aw (λ_ _=>rfl))) (λH0 G0 par br bx C ex s3 H3 pn=>(di (i:=0) (show (["thing"]:List Str).Nodup by decide +kernel))) (λH0 G0 par br bx C ex s3 H3 pn hB1=>fJ) (λH0 G0 par br bx C ex s3 H3 pn hB1=>(SE.wv (aO (ae (az 0 (hB1 0 (by decide))) ao)))))) (ae (SE.wv (aO (ae (SE.wv (iP rfl rfl B.list rfl B.range (bY bh dC (ag 3) aw (λ_ _=>rfl)))) ao))) ao)))))) gS.nd)
  (ar (gR PassesOwn.leaving rfl (nk rfl B.range aw) (di (i:=7) gS.nd)
  (ay (qg 6 (λ_=>rfl) (fu 2 jo (hr.mono (by decide)) bz rfl rfl (ae (az 4 rfl) (ae (bY bh dC (ag 3) aw (λ_ _=>rfl)) (ae (az 5 rfl) ao)))))))
  (ay (gR PassesOwn.leaving rfl (zq rfl (az 6 rfl)) (di (i:=8) gS.nd)
  (ar (aV (i:=9) (aM (n0 hr.gd hr.u1) xk rfl B.repr (by decide +kernel) (ag 8)) gS.nd)
  (ay (e8 (r6.t (jy (de (cL rfl (aX ja (hr.mono (by decide)) bz rfl rfl (ae (aX iO (hr.mono (by decide)) bz rfl rfl (ae (az 8 rfl) (ae (az 3 rfl) ao))) (ae (aX ki (hr.mono (by decide)) bz rfl rfl (ae (az 8 rfl) (ae (az 3 rfl) ao))) ao))))) (iI (bX HG GV (aM (n0 hr.gd hr.u1) xk rfl B.repr (by decide +kernel) (ag 8)) (ag 9) (ba _))) (λ_ _=>rfl)))
  (ay (aR gJ))
  cx))))))))))))
  (ay (aR gJ)))
end
end RQ
namespace RM
open PySem L2
def bS {t:VF Bool}{vs:List Nv}{β:Int}{a:Bool}(h:t vs β=.ok a β):oJ t vs β=.ok (!a) β:=by rw[rE,h];rfl
def Cb {α:Type}{fa:VF D}{vs:List Nv}{β:Int}{l:List α}{f:α->Bool}(h:fa vs β=.ok (.list (l.map λq=>PyData.bool (f q))) β):f1 fa (b5 λbs=>bs.all id) vs β=.ok (.bool (l.all f)) β:=by
 refine bO h ?_
 simp only[b5]
 rw[fR]
 simp[List.all_map]
section
variable {fa fb:VF D}{vs:List Nv}{β:Int}
def qA {l:List D}{f:D->Bool}(h:fa vs β=.ok (.list (l.map λq=>PyData.bool (f q))) β):f1 fa (b5 λbs=>bs.all id) vs β=.ok (.bool (l.all f)) β:=by
 refine bO h ?_
 simp only[b5]
 rw[fR]
 simp[List.all_map]
def oF {t u:VF Bool}(h:t vs β=.ok true β):hG t u vs β=.ok true β:=by rw[qq,h];rfl
def eM {t u:VF Bool}{c:Bool}(h:t vs β=.ok false β)(h':u vs β=.ok c β):hG t u vs β=.ok c β:=by rw[qq,h];exact h'
end
def Sq (c k:Nat)(d:D):Prop:=d.showable=true/\d.depth<=k/\d.shown.length<=c
def Sq.mono {c k c' k':Nat}{d:D}(h:Sq c k d)(h1:c<=c')(h2:k<=k'):Sq c' k' d:=⟨h.1,Lf h.2.1 h2,Lf h.2.2 h1⟩
theorem uR {c k:Nat}:∀{ds:List D},(∀d,d∈ds->Sq c k d)->PyData.showableAll ds=true/\PyData.depthAll ds<=k/\(∀t,t∈PyData.shownAll ds->t.length<=c)/\(PyData.shownAll ds).length=ds.length
 | [],_=>⟨by simp[PyData.showableAll],by simp[PyData.depthAll],λt h=>by simp[PyData.shownAll] at h,by simp[PyData.shownAll]⟩
 |d :: ds,h=>by
  obtain⟨h1,h2,h3,h4⟩:=uR λx hx=>h x (J9 _ hx)
  obtain⟨q1,q2,q3⟩:=h d (Kd ..)
  refine⟨?_,?_,λt ht=>?_,?_⟩
  ·rw[PyData.showableAll,q1,h1];rfl
  ·rw[PyData.depthAll];omega
  ·rw[PyData.shownAll] at ht
   rcases Ke.mp ht with rfl |ht
   ·exact q3
   ·exact h3 t ht
  ·rw[PyData.shownAll,KG,KG,h4]
theorem uq {c:Nat}:∀{ts:List Str},(∀t,t∈ts->t.length<=c)->(Str.join ", " ts).length<=(c + 2) * ts.length
 | [],_=>by show (Str.join ", " []).length<=_;exact KY _
 | [x],h=>by
  have:=h x (Kd ..)
  show x.length<=(c + 2) * 1
  omega
 |x :: y :: r,h=>by
  have ih:=uq (ts:=y :: r) λt ht=>h t (J9 _ ht)
  have:=h x (Kd ..)
  show (x ++ ", " ++ Str.join ", " (y :: r)).length<=_
  rw[My,My]
  have e2:((", ":String):Str).length=2:=rfl
  rw[e2]
  have e:(c + 2) * (x :: y :: r).length=(c + 2) * (y :: r).length + (c + 2):=by rw[KG,Nat.mul_succ]
  omega
def z8 {c k:Nat}{ds:List D}(h:∀d,d∈ds->Sq c k d):Sq (3 + (c + 2) * ds.length) (k + 1) (.tuple ds):=by
 obtain⟨h1,h2,h3,h4⟩:=uR h
 refine⟨by rw[PyData.showable];exact h1,by rw[PyData.depth];omega,?_⟩
 rw[PyData.shown]
 unfold tupleText
 rw[My,My]
 have j:=uq h3
 rw[h4] at j
 have e1:((("(":String):Str)).length=1:=rfl
 have e3:((if (PyData.shownAll ds).length == 1 then ",)" else ")":String):Str).length<=2:=by split <;> exact by decide
 rw[e1]
 omega
def Ak {c k:Nat}{ds:List D}(h:∀d,d∈ds->Sq c k d):Sq (2 + (c + 2) * ds.length) (k + 1) (.list ds):=by
 obtain⟨h1,h2,h3,h4⟩:=uR h
 refine⟨by rw[PyData.showable];exact h1,by rw[PyData.depth];omega,?_⟩
 rw[PyData.shown]
 unfold listText
 rw[My]
 have:=zo (c:=c + 2) (PyData.shownAll ds) 0 "[" λt ht=>by have:=h3 t ht;omega
 rw[h4] at this
 have e1:((("[":String):Str)).length=1:=rfl
 have e2:((("]":String):Str)).length=1:=rfl
 rw[e1] at this
 rw[e2];omega
def Bf (d:D):Prop:=xw d=true
theorem uT:∀{ds:List D},(∀d,d∈ds->Bf d)->vv ds=true
 | [],_=>rfl
 |d :: ds,h=>by
  have h1:=uT λx hx=>h x (J9 _ hx)
  have q1:xw d=true:=h d (Kd ..)
  rw[vv,q1,h1];rfl
def Ao {ds:List D}(h:∀d,d∈ds->Bf d):Bf (.tuple ds):=by show xw (.tuple ds)=true;rw[xw];exact uT h
def Af {ds:List D}(h:∀d,d∈ds->Bf d):Bf (.list ds):=by show xw (.list ds)=true;rw[xw];exact uT h
def Gb {c k:Nat}{d:D}(h:Sq c k d)(hc:c<=100000)(hk:k<=64)(hf:Bf d):AS d=true:=by
 unfold AS
 have h1:d.depth<=64:=Lf h.2.1 hk
 have h2:d.shown.length<=sizeLine:=Lf (Lf h.2.2 hc) (by rw[KH];omega)
 rw[h.1,Kh h1,Kh h2]
 have b:xw d=true:=hf
 rw[b,Bool.or_true];rfl
def Ja:List Int:=[-1,0,1,2,3,4,5,6,7,8,9]
def A1:∀i∈Ja,(int i).showable=true/\(int i).shown.length<=20:=by decide +kernel
def xI {i:Int}(h: -1<=i/\i<=9):i∈Ja:=by
 simp only[Ja,Ke,L1,or_false]
 omega
def BB (d:D):Prop:=d=.none\/(∃b,d=.bool b)\/∃i:Int,d=.int i/\ -1<=i/\i<=9
def BB.sq {d:D}(h:BB d):Sq 20 0 d:=by
 rcases h with rfl | ⟨b,rfl⟩ | ⟨i,rfl,h⟩
 ·exact⟨by simp[PyData.showable],by simp[PyData.depth],by rw[PyData.shown];decide⟩
 ·exact⟨by simp[PyData.showable],by simp[PyData.depth],by rw[PyData.shown];cases b <;> decide⟩
 ·exact⟨(A1 i (xI h)).1,by simp[PyData.depth],(A1 i (xI h)).2⟩
def BB.bf {d:D}(h:BB d):Bf d:=by
 rcases h with rfl | ⟨b,rfl⟩ | ⟨i,rfl,h⟩ <;> exact by simp[Bf,xw]
def BB.scr {d:D}(h:BB d):bG d=false:=by
 rcases h with rfl | ⟨b,rfl⟩ | ⟨i,rfl,h⟩ <;> rfl
section
variable {vs:List Nv}{β β1 β2:Int}{fa:VF D}{fr:VF (List D)}{d:D}{ds:List D}
def ac {fa:VF D}{fr:VF (List D)}(h:fa vs β=.ok d β)(h':fr vs β=.ok ds β):aa fa fr vs β=.ok (d :: ds) β:=by rw[cg,h];dsimp only[R.bnd];rw[h']
def an:af vs β=.ok [] β:=rfl
def tp (h:fr vs β=.ok ds β)(hz:ds.length<=1000:=by simp):bW fr vs β=.ok (.tuple ds) β:=kK h hz
def lp (h:fr vs β=.ok ds β)(hz:ds.length<=1000:=by simp):aH fr vs β=.ok (.list ds) β:=dm h hz
def ck (d:D):cst d vs β=.ok d β:=rfl
end
def GC {vs:List Nv}{β:Int}:f2 (cst (.int 10)) (cst (.int 39)) Bc vs β=.ok (.int 1000000000000000000000000000000000000000) β:=aF (x:=.int 10) (y:=.int 39) rfl rfl (by rfl)
def mK {i:Int}(h: -1<=i/\i<=9):BB (.int i):=.inr (.inr ⟨i,rfl,h⟩)
def zv {d:D}(h:bG d=false):fG "list" d=some (.bool (match d with | .list _=>true |_=>false)):=by
 unfold fG;rw[h];cases d <;> rfl
def yb:D->Bool
 | .list _=>true
 |_=>false
theorem mY {d:D}(h:yb d=true):∃ds,d=.list ds:=by
 cases d with
 |list ds=>exact⟨ds,rfl⟩
 |_=>cases h
def w9 {fa:VF D}{vs:List Nv}{β:Int}{d:D}(ha:fa vs β=.ok d β)(h:bG d=false):f1 fa (fG "list") vs β=.ok (.bool (yb d)) β:=bO ha (by rw[zv h];cases d <;> rfl)
def zM {fa:VF D}{vs:List Nv}{β:Int}{ds:List D}(ha:fa vs β=.ok (.list ds) β):f1 fa c9 vs β=.ok (.int ds.length) β:=bO ha rfl
def Ge (e:D):Prop:=bG e=false/\∀es,e=.tuple es->es.length<=100/\∀x,x∈es->bG x=false
def J5 (n:Int):D->Bool
 | .tuple [x,y]=>dI x n && dI y n
 |_=>false
def GR:List D->FR:=bF 1 1 k7
def IV {d:D}(h:bG d=false):GR [d]=.ok (.bool (pz d)) false:=by
 have:=v7 [d] (by rw[kH h];exact λz=>by cases z)
 rw[kH h] at this
 exact this
def Sp (p:Pr):Prop:=(0<=p.1/\p.1<=8)/\(0<=p.2/\p.2<=8)
def El (e:D):Prop:=Ge e/\Sq 100 8 e/\Bf e
def Ej {es:List D}(hl:es.length<=100)(h:∀x,x∈es->bG x=false):Ge (.tuple es):=⟨rfl,λes' e=>by cases e;exact⟨hl,h⟩⟩
def J0:D->Bool
 | .tuple es=>decide (es.length<=100) && es.all λx=> !bG x
 |_=>true
def gm:List D:=[.none,.bool true,.bool false,.int (-1),.int 0,.int 1,.str "",.str "1",.tuple [],.list [],.tuple [.int 0],.tuple [.int 1,.tuple []],.list [.int 0],.dict [(.str "a",.int 1)],.tuple [.int 0,.int 1],.int 1000000000000000000000000000000000000000,.tuple [.tuple [.int 0,.int 1]],.str "a"]
def CS:∀x∈gm,(x.showable=true/\x.depth<=5/\x.shown.length<=60)/\xw x=true/\bG x=false/\J0 x=true:=by decide +kernel
def lK {o:D}(h:o∈gm):El o:=by
 obtain⟨h1,h2,h3,h4⟩:=CS o h
 refine⟨⟨h3,λes e=>?_⟩,Sq.mono (c:=60) (k:=5) h1 (by omega) (by omega),h2⟩
 subst e
 have hb:(decide (es.length<=100) && es.all λx=> !bG x)=true:=h4
 rw[Kq,K0,KP] at hb
 exact⟨hb.1,λx hx=>by have:=hb.2 x hx;rwa [Me] at this⟩
def wc {fa fb:VF D}{vs:List Nv}{β:Int}{ds:List D}{i:Nat}(ha:fa vs β=.ok (.list ds) β)(hb:fb vs β=.ok (.int ((i:Nat):Int)) β):wg fa (xH fb) (λ_ β=>.ok none β) vs β=.ok (.list (ds.drop i)) β:=by
 unfold wg xH
 rw[ha];dsimp only[R.bnd]
 rw[hb];dsimp only[R.bnd]
 congr 2
 unfold cutD
 rw[HT.tm,HT.wV]
 by_cases h:i<=ds.length
 ·rw[Nat.min_eq_left h];exact Lv (by rw[Mj];omega)
 ·rw[Nat.min_eq_right (by omega),MM,List.drop_of_length_le (by omega)];simp
def AR {fa fb:VF D}{vs:List Nv}{β:Int}{ds:List D}{i:Nat}(ha:fa vs β=.ok (.list ds) β)(hb:fb vs β=.ok (.int ((i:Nat):Int)) β):wg fa (λ_ β=>.ok none β) (xH fb) vs β=.ok (.list (ds.take i)) β:=by
 unfold wg xH
 rw[ha];dsimp only[R.bnd]
 rw[hb];dsimp only[R.bnd]
 congr 2
 unfold cutD
 rw[HT.tm,HT.wV]
 by_cases h:i<=ds.length
 ·rw[Nat.min_eq_left h];rfl
 ·rw[Nat.min_eq_right (by omega),Lv (show ds.length<=i by omega)];simp
noncomputable def ER:List D->Int->FB:=k8 2 0 (iX bg)
def HC (β:Int):∃o β',ER [] β=.ok o false β'/\o∈gm:=by
 show ∃o β',qE (iX bg [.bx,.no] β)=.ok o false β'/\o∈gm
 unfold iX
 rw[aJ (env':=[.bx,.fz (.list (gm.take 13))]) (β':=β) ?a]
 case a=>
  rw[xK,lp (ds:=gm.take 13) (ac (ck _) (ac (ck _) (ac (ck _) (ac (ck _) (ac (ck _) (ac (ck _) (ac (ck _) (ac (ck _) (ac (tp an) (ac (lp an) (ac (tp (ac (ck _) an)) (ac (tp (ac (ck _) (ac (tp an) an))) (ac (lp (ac (ck _) an)) an))))))))))))) (by show (13:Nat)<=1000;omega)]
  rfl
 rw[aJ (env':=[.bx,.fz (.list gm)]) (β':=β) ?b]
 case b=>
  rw[xK,aF (x:=.list (gm.take 13)) (y:=.list (gm.drop 13)) (d:=.list gm) (β1:=β) (β2:=β) rfl (lp (ds:=gm.drop 13) (ac (ck _) (ac (tp (ac (ck _) (ac (ck _) an))) (ac GC (ac (tp (ac (tp (ac (ck _) (ac (ck _) an))) an)) (ac (ck _) an))))) (by show (5:Nat)<=1000;omega)) ?c]
  ·rfl
  case c=>rw[mX (by show (13 + 5:Nat)<=10000;omega)];rfl
 obtain⟨j,hj,ej⟩:=kJ (m:=18) (by omega) (by omega) β
 have hlen:gm.length=18:=rfl
 obtain⟨o,ho⟩:∃o,gm[j]? =some o:=⟨_,J6 (by omega)⟩
 have e:f2 (gv 1) (gq 0 bg (aa (cst (.int 18)) af)) cT (vl [.bx,.fz (.list gm)]) β=.ok o (β / ((18:Nat):Int)):=aF (x:=.list gm) (y:=.int j) rfl (cv (ds:=[.int 18]) (by rfl) rfl ej) (show jc gm (j:Int)=some o from iV ho)
 rw[wy,e]
 exact⟨o,_,rfl,Kj ho⟩
noncomputable def CY:List D->FR:=bF 2 2 lq
def G9 (b:Bool):CY [.bool b,.bool b]=.ok (.bool true) false:=by cases b <;> rfl
end RM
namespace RM
open PySem PySem.Spec L2 PyProof.Rows
theorem bZ:∀r:List Int,dr (r.map int)=some r
 | []=>rfl
 |x :: r=>by
  have:=bZ r
  simp only[K2,dr,this]
  try rfl
end RM
namespace RM
open PySem L2
def Gt (d:D):Prop:=bG d=false/\∀ds,d=.list ds->ds.length<=100/\∀e,e∈ds->Ge e
def Bl (l:List Pr)(r:List Int)(x:Int):List Int:=(l.filter λp=>decide (p.2=x) && !decide (p.1∈r)).map (·.1)
def kB {l:List Pr}{r:List Int}{x a:Int}:a∈Bl l r x↔(a,x)∈l/\a∉r:=by
 unfold Bl
 rw[Kn]
 constructor
 ·rintro⟨p,hp,rfl⟩
  have:=Lj.mp hp
  simp only[Kq,K0,Me,decide_eq_false_iff_not] at this
  obtain⟨pa,pb⟩:=p
  obtain⟨h1,h2,h3⟩:=this
  simp only at h2 h3
  subst h2
  exact⟨h1,h3⟩
 ·rintro⟨h1,h2⟩
  exact⟨(a,x),Lj.mpr ⟨h1,by simp[h2]⟩,rfl⟩
def yp {n:Nat}{l:List Pr}(O:OM.Ord n l)(r:List Int)(x:Int):(Bl l r x).Nodup:=by
 unfold Bl
 rw[Mb,Ln]
 refine LC (λ{a b} ha hb h e=>h ?_) (Mb.mp ((OM.ij O.ris).filter _))
 have h1:=(Lj.mp ha).2
 have h2:=(Lj.mp hb).2
 simp only[Kq,K0] at h1 h2
 exact Prod.ext e (h1.1.trans h2.1.symm)
theorem least {n:Nat}{l:List Pr}(O:OM.Ord n l)(r:List Int):∀(k:Nat) (x:Int),(0<=x/\x < n)->x∉r->(Bl l r x).length<=k->∃y:Int,(0<=y/\y < n)/\y∉r/\Bl l r y= []
 | 0,x,hx,hr,hk=>⟨x,hx,hr,List.length_eq_zero_iff.mp (by omega)⟩
 |k + 1,x,hx,hr,hk=>by
  by_cases he:Bl l r x= []
  ·exact⟨x,hx,hr,he⟩
  ·obtain⟨a,ha⟩:=List.exists_mem_of_ne_nil _ he
   obtain⟨h1,h2⟩:=kB.mp ha
   refine least O r k a (O.wn _ h1).1 h2 ?_
   have nd:(a :: Bl l r a).Nodup:=KI.mpr ⟨λq=>O.irr a (kB.mp q).1,yp O r a⟩
   have:=L2.ST.bu nd (m:=Bl l r x) λy hy=>by
    rcases Ke.mp hy with rfl |hy
    ·exact ha
    ·obtain⟨q1,q2⟩:=kB.mp hy
     exact kB.mpr ⟨O.tr _ _ _ q1 h1,q2⟩
   rw[KG] at this
   omega
structure HI (n:Nat)(l:List Pr)(r:List Int):Prop where
 nd:r.Nodup
 inn:∀x,x∈r->0<=x/\x < (n:Int)
 fit:∀p,p∈l->p.2∈r->p.1∈r/\r.idxOf p.1 < r.idxOf p.2
def tu (l:List Pr)(r:List Int)(x:Int):Bool:= !decide (x∈r) && decide (Bl l r x= [])
def HI.more {n:Nat}{l:List Pr}{r:List Int}{x:Int}(B:HI n l r)(hx:0<=x/\x < (n:Int))(hf:tu l r x=true):HI n l (r ++ [x]):=by
 unfold tu at hf
 rw[Kq,Me,decide_eq_false_iff_not,K0] at hf
 obtain⟨h1,h2⟩:=hf
 refine⟨?_,λy hy=>?_,λp hp hm=>?_⟩
 ·rw[List.nodup_append]
  refine⟨B.nd,KI.mpr ⟨by simp,nodup_nil⟩,λa ha b hb=>?_⟩
  rw[Kz] at hb
  subst hb
  exact λq=>h1 (q▸ha)
 ·rcases KA.mp hy with hy |hy
  ·exact B.inn y hy
  ·rw[Kz] at hy;subst hy;exact hx
 ·rcases KA.mp hm with hm |hm
  ·obtain⟨q1,q2⟩:=B.fit p hp hm
   refine⟨LF _ q1,?_⟩
   rw[M1,M1,Kf q1,Kf hm]
   exact q2
  ·rw[Kz] at hm
   have hp1:p.1∈r:=by
    by_cases z:p.1∈r
    ·exact z
    ·have:p.1∈Bl l r x:=kB.mpr ⟨by rw[<-hm];exact hp,z⟩
     rw[h2] at this;cases this
   refine⟨LF _ hp1,?_⟩
   rw[M1,M1,Kf hp1,Ki (by rw[hm];exact h1)]
   have:=List.idxOf_lt_length_iff.mpr hp1
   omega
end RM
namespace RM
open PySem L2 PyProof.Rows
def mk (f:Nat->Bool):Nat->Nat
 | 0=>0
 |n + 1=>mk f n ||| if f n=true then 2 ^ n else 0
end RM
namespace RM
open PySem L2
def pL (r:List Int)(i:Nat):Bool:=decide ((i:Int)∈r)
structure IA (n:Nat)(l:List Pr)(late r:List Int):Prop where
 beg:HI n l r
 late:∀q x,(q ++ [x]) <+:r->x∈late->∀y:Int,(0<=y/\y < n)->tu l q y=true->y∈late
def IA.more {n:Nat}{l:List Pr}{late r:List Int}{x:Int}(R:IA n l late r)(hx:0<=x/\x < (n:Int))(hf:tu l r x=true)(hl:x∈late->∀y:Int,(0<=y/\y < n)->tu l r y=true->y∈late):IA n l late (r ++ [x]):=by
 refine⟨R.beg.more hx hf,λq z hp hz y hy hfy=>?_⟩
 rcases List.prefix_concat_iff.mp hp with e |hp
 ·have:=List.append_inj' e rfl
  obtain⟨rfl,e2⟩:=this
  cases e2
  exact hl hz y hy hfy
 ·exact R.late q z hp hz y hy hfy
structure WP (r:SO)(Q:SO->Prop):Prop where
 out:Q r
section
variable {m m' m1 m2:SF}{env env1:En}{β β1 β2 z:Int}{Q:SO->Prop}{f fa fb:VF D}{t:VF Bool}{d e:D}{L La Lb:List Nat}{i j:Nat}{c:Bool}
def wp_at (env1:En)(e:env=env1)(k:WP (m env1 β) Q):WP (m env β) Q:=by rw[e];exact k
def wp_seq (h:m env β=.nx env1 β1)(k:WP (m' env1 β1) Q):WP (aE m m' env β) Q:=by rw[aJ h];exact k
theorem vk (h:WP (aE m lP env β) Q):WP (m env β) Q:=by
 obtain⟨h⟩:=h
 unfold aE at h
 cases e:m env β with
 |_=>rw[e] at h;exact⟨h⟩
def ud (q:Q (.nx env β)):WP (lP env β) Q:=⟨q⟩
def fj (h:f (vl env) β=.ok d β1)(k:WP (m' ((aQ L env).set i (.fz d)) β1) Q):WP (aE (bE i L f) m' env β) Q:=wp_seq (by unfold bE;rw[h];rfl) k
def xy (h:f (vl env) β=.ok d β1)(k:WP (m' ((aQ L env).set i (.ow d)) β1) Q):WP (aE (jv i L f) m' env β) Q:=wp_seq (by unfold jv;rw[h];rfl) k
def CJ (h:f (vl env) β=.ok (.list [.int z]) β1)(k:WP (m' ((oK (aQ L env)).set i .bx) z) Q):WP (aE (xb i L f) m' env β) Q:=wp_seq (by unfold xb;rw[h];rfl) k
def B7 (h:f (vl env) β=.ok d β1)(k:WP (m' (aQ L env) β1) Q):WP (aE (tP L f) m' env β) Q:=wp_seq (by unfold tP;rw[h];rfl) k
def ED {ds:List D}(hi:env[i]? =some (.ow (.list ds)))(h:f (vl env) β=.ok d β1)(hL:(aQ L env)[i]? =some (.ow (.list ds)))(hz:ds.length<=1000)(k:WP (m' ((aQ L env).set i (.ow (.list (ds ++ [d])))) β1) Q):WP (aE (rG i L f) m' env β) Q:=wp_seq (xB hi h hL hz) k
def iK (h:t (vl env) β=.ok false β1)(k:WP (m' (aQ L env) β1) Q):WP (aE (jS L t m1 lP) m' env β) Q:=wp_seq (by rw[l8 h];rfl) k
def cq (h:t (vl env) β=.ok true β1)(k:WP (aE m1 m' (aQ L env) β1) Q):WP (aE (jS L t m1 m2) m' env β) Q:=by
 have:aE (jS L t m1 m2) m' env β=aE m1 m' (aQ L env) β1:=by unfold aE;rw[so h]
 rw[this];exact k
def Jn (h:t (vl env) β=.ok true β1)(k:WP (m1 (aQ L env) β1) Q):WP (jS L t m1 m2 env β) Q:=by rw[so h];exact k
def HA (h:t (vl env) β=.ok false β1)(k:WP (m2 (aQ L env) β1) Q):WP (jS L t m1 m2 env β) Q:=by rw[l8 h];exact k
def lH (h:f (vl env) β=.ok d β1)(q:Q (.rt d false β1)):WP (bC f env β) Q:=⟨by unfold bC;rw[h];exact q⟩
def cD (h:f (vl env) β=.ok d β1)(q:Q (.rt d false β1)):WP (aE (bC f) m' env β) Q:=⟨by unfold aE bC;rw[h];exact q⟩
def B3 (h:f (vl env) β=.ok d β1)(q:Q (.rt d true β1)):WP (jX f env β) Q:=⟨by unfold jX;rw[h];exact q⟩
def qJ {R:FR}(h:WP (m env β) λr=>fin r=R):fin (m env β)=R:=h.out
def qU {t:Tg}{fi:VF (List D)}{ds:List D}(I:Nat->En->Int->Prop)(hi:fi (vl env) β=.ok ds β1)(h0:I 0 (aQ L env) β1)
  (hs:∀i d env β,ds[i]? =some d->I i env β->∃env1,eH t d env=some env1/\WP (m env1 β) λr=>∃env2 β2,r=.nx env2 β2/\I (i + 1) env2 β2)
  (k:∀env β,I ds.length env β->WP (m' env β) Q):WP (aE (c5 t L fi m) m' env β) Q:=by
 obtain⟨env',β',e,h⟩:=ik (t:=t) (m:=m) I (ds:=ds) (k:=0) h0 λi d env β hd h=>by
  rw[Mk] at h
  obtain⟨env1,e1,⟨env2,β2,e2,h2⟩⟩:=hs i d env β hd h
  exact⟨env1,e1,env2,β2,e2,by rw[Mk];exact h2⟩
 rw[Mk] at h
 exact wp_seq ((gc hi).trans e) (k _ _ h)
end
def Bx (c:Int)(hc:0<=c/\c<=100)(ns:List Int)(vs:List Nv)(β:Int)(h:gv 0 vs β=.ok (cA ns) β):∃m:Nat,m<=101/\gM (f2 (cst (.int 1)) (f2 (f1 (gv 0) c9) (cst (.int c)) (uI λi j=>.int (if j < i then j else i))) (uI λi j=>.int (if j > i then j else i))) vs β=.ok (cn 0 m) β:=by
 have e1:f2 (cst (.int 1)) (f2 (f1 (gv 0) c9) (cst (.int c)) (uI λi j=>.int (if j < i then j else i))) (uI λi j=>.int (if j > i then j else i)) vs β=.ok (.int (if (if c < ((ns.map int).length:Int) then c else ((ns.map int).length:Int)) > 1 then (if c < ((ns.map int).length:Int) then c else ((ns.map int).length:Int)) else 1)) β:=
  aF (x:=.int 1) rfl (aF (x:=.int (ns.map int).length) (y:=.int c) (bO h rfl) rfl rfl) rfl
 generalize ((ns.map int).length:Nat)=k at e1
 refine⟨(if (if c < (k:Int) then c else (k:Int)) > 1 then (if c < (k:Int) then c else (k:Int)) else 1).toNat,?_,kN (e1.trans ?_) ?_⟩
 ·split <;> split <;> omega
 ·congr 2
  split <;> split <;> omega
 ·split <;> split <;> omega
def It (d:D):Prop:=bG d=false/\Sq 400 8 d/\Bf d
def Th (d:D):Prop:=Ge d/\Sq 10000 9 d/\Bf d
def Ap (P:D->Prop)(k:Nat)(es:List D):Prop:=es.length<=k/\∀x,x∈es->P x
abbrev Al:Nat->List D->Prop:=Ap It
def Et {o:D}(h:o∈gm):It o:=⟨(lK h).1.1,(lK h).2.1.mono (by omega) (by omega),(lK h).2.2⟩
def Eu {o:D}(h:o∈gm):Th o:=⟨(lK h).1,(lK h).2.1.mono (by omega) (by omega),(lK h).2.2⟩
def Ap.tup {k:Nat}{a:List D}(h:Al k a)(hk:k<=24):Th (.tuple a):=by
 have:=h.1
 refine⟨Ej (by omega) λx hx=>(h.2 x hx).1,(z8 (c:=400) (k:=8) λd hd=>(h.2 d hd).2.1).mono ?_ (by omega),Ao λd hd=>(h.2 d hd).2.2⟩
 have:(400 + 2) * a.length<=402 * 24:=Lw (by omega) (by omega)
 omega
def Ap.lst {k:Nat}{a:List D}(h:Al k a)(hk:k<=24):Th (.list a):=by
 have:=h.1
 refine⟨⟨rfl,λes' e=>by cases e⟩,(Ak (c:=400) (k:=8) λd hd=>(h.2 d hd).2.1).mono ?_ (by omega),Af λd hd=>(h.2 d hd).2.2⟩
 have:(400 + 2) * a.length<=402 * 24:=Lw (by omega) (by omega)
 omega
def Th.rp {d:D}(h:Th d):j6 d=some (.str d.shown):=Kf (Gb h.2.1 (by omega) (by omega) h.2.2)
def Aj {ds:List D}{k:Nat}(h:k < ds.length):∃d,ds[k]? =some d/\d∈ds/\jc ds (k:Int)=some d:=⟨ds[k],J6 h,KS h,iV (J6 h)⟩
def oB {fa fb:VF D}{vs:List Nv}{β β1 β2:Int}{a b:List D}(h1:fa vs β=.ok (.list a) β1)(h2:fb vs β1=.ok (.list b) β2)(hz:a.length + b.length<=1000):f2 fa fb dw vs β=.ok (.list (a ++ b)) β2:=aF h1 h2 (mX (by omega))
def JW {fa:VF D}{vs:List Nv}{β:Int}{i:Nat}(h:fa vs β=.ok (.int (i:Nat)) β):f2 fa (cst (.int 1)) cO vs β=.ok (.int ((i + 1:Nat):Int)) β:=aF h rfl (by show some (int ((i:Int) + 1))=_;rw[show ((i + 1:Nat):Int)=(i:Int) + 1 by omega])
section
variable {m m' m1 m2:SF}{env env1:En}{β β1 β2 z:Int}{Q:SO->Prop}{f fa fb:VF D}{t:VF Bool}{d e:D}{L La Lb:List Nat}{i j:Nat}{c:Bool}
theorem CM (h:WP (m env β) λr=>(∀a b,r≠.nx a b)/\Q r):WP (aE m m' env β) Q:=by
 obtain⟨h1,h2⟩:=h.out
 refine⟨?_⟩
 unfold aE
 cases e:m env β with
 |nx a b=>exact absurd e (h1 a b)
 |_=>rw[e] at h2;exact h2
def B9 {t:Tg}{fi:VF (List D)}{ds:List D}(g:D->Bool)(r:D)(I:En->Int->Prop)(hi:fi (vl env) β=.ok ds β1)(h0:I (aQ L env) β1)
  (hs:∀d,d∈ds->∀env β,I env β->∃env1,eH t d env=some env1/\WP (m env1 β) λs=>(g d=true/\∃β2,s=.rt r false β2)\/(g d=false/\∃env2 β2,s=.nx env2 β2/\I env2 β2))
  (kr:∀d β,d∈ds->g d=true->Q (.rt r false β)) (k:(∀d,d∈ds->g d=false)->∀env β,I env β->WP (m' env β) Q):WP (aE (c5 t L fi m) m' env β) Q:=by
 have key:∀(es:List D),(∀d,d∈es->d∈ds)->∀env β,I env β->(∃d β2,d∈es/\g d=true/\gP t m es env β=.rt r false β2)\/((∀d,d∈es->g d=false)/\∃env2 β2,gP t m es env β=.nx env2 β2/\I env2 β2):=by
  intro es
  induction es with
  |nil=>exact λ_ env β h=>.inr ⟨(λd hd=>by cases hd),env,β,rfl,h⟩
  |cons d es ih=>
   intro hd env β h
   obtain⟨env1,e1,⟨h1⟩⟩:=hs d (hd d (Kd ..)) env β h
   rcases h1 with⟨hg,β2,e2⟩ | ⟨hg,env2,β2,e2,h2⟩
   ·exact .inl ⟨d,β2,Kd ..,hg,by unfold gP;rw[e1];dsimp only;rw[e2]⟩
   ·have e3:gP t m (d :: es) env β=gP t m es env2 β2:=by conv=>lhs;unfold gP;rw[e1];dsimp only;rw[e2]
    rw[e3]
    rcases ih (λd h=>hd d (J9 _ h)) env2 β2 h2 with⟨d',β3,hm,hg',e4⟩ | ⟨hn,env3,β3,e4,h3⟩
    ·exact .inl ⟨d',β3,J9 _ hm,hg',e4⟩
    ·exact .inr ⟨λd' hd'=>(Ke.mp hd').elim (λe=>e▸hg) (hn d'),env3,β3,e4,h3⟩
 rcases key ds (λ_ h=>h) _ _ h0 with⟨d,β2,hm,hg,e⟩ | ⟨hn,env2,β2,e,h2⟩
 ·exact⟨by rw[mP ((gc hi).trans e)];exact kr d β2 hm hg⟩
 ·exact wp_seq ((gc hi).trans e) (k hn _ _ h2)
end
def DT (l:List Pr)(ns:List Int)(t:Int):Bool:= !(ns.any λa=>qm l (a,t))
def Ij:List D->FR:=bF 3 3 (qF Il)
def BH {fa:VF D}{vs:List Nv}{β:Int}{l:List Int}{f:Int->Bool}(h:fa vs β=.ok (.list (l.map λq=>PyData.bool (f q))) β):f1 fa (b5 λbs=>bs.any id) vs β=.ok (.bool (l.any f)) β:=bO h (by simp only[b5];rw[fR];simp[List.any_map])
def Jz {n:Nat}{l:List Pr}{ns:List Int}{t:Int}(hz:ns.length<=1000):Ij [aA n l,.list (ns.map int),.int t]=.ok (.bool (DT l ns t)) false:=by
 show fin (qF Il [.fz (aA n l),.fz (.list (ns.map int)),.fz (.int t)] 0)=_
 unfold qF
 have ec:aS 1 [0,2] (.nm 0) (bV (gv 1)) mB (aB Il (aa (gv 1) (aa (gv 0) (aa (gv 2) af)))) (vl [.fz (aA n l),.fz (.list (ns.map int)),.fz (.int t)]) 0=.ok (.list (ns.map λa=>PyData.bool (qm l (a,t)))) 0:=
  fW (l:=ns) (e:=int) (λa=>PyData.bool (qm l (a,t))) rfl hz λa _=>⟨_,rfl,aY (ds:=[aA n l,.int a,.int t]) rfl (Hg n l a t)⟩
 rw[wy,bO (BH ec) (show sF (.bool _)=some (.bool (!_)) from rfl)];rfl
def BD (n:Nat)(l:List Pr)(ns:List Int):Bool:= !ns.isEmpty && (decide (ns=sI ns) && ns.all (DT l ns))
def kM (n:Nat)(l:List Pr)(d:D):Bool:=match d with
 | .list ds=>ds.all (λe=>dI e n) && (match dr ds with
  |some ns=>BD n l ns
  |none=>false)
 |_=>false
def Gc (d:D):Prop:=bG d=false/\∀ds,d=.list ds->ds.length<=100/\∀e,e∈ds->bG e=false
theorem iY {n:Nat}:∀{ds:List D},ds.all (λe=>dI e n)=true->∃ns:List Int,ds=ns.map int/\∀k,k∈ns->0<=k/\k < (n:Int)
 | [],_=>⟨[],rfl,λk h=>by cases h⟩
 |d :: ds,h=>by
  rw[Mw,Kq] at h
  obtain⟨ns,rfl,hn⟩:=iY h.2
  have h1:=h.1
  cases d with
  |int i=>
   refine⟨i :: ns,rfl,λk hk=>?_⟩
   rcases Ke.mp hk with rfl |hk
   ·exact MZ h1
   ·exact hn k hk
  |_=>cases h1
def A0 {ns:List Int}(h:∀k,k∈ns->0<=k/\k < 8):cJ (.list (ns.map int))=some (.list ((sI ns).map int)):=by
 unfold cJ
 simp only[hE,bZ]
 rw[Kf]
 rw[KP]
 intro k hk
 unfold Jk
 rw[Kh (h k hk).1,Kh (h k hk).2];rfl
noncomputable def Ih:List D->FR:=bF 2 2 (iZ fm Ij)
theorem Jh {n:Nat}{l:List Pr}{d:D}(h8:n<=8)(h:Gc d):Ih [d,aA n l]=.ok (.bool (kM n l d)) false:=by
 show fin (iZ fm Ij [.fz d,.fz (aA n l)] 0)=_
 refine qJ ?_
 unfold iZ
 have e1:=w9 (fa:=gv 0) (vs:=vl [.fz d,.fz (aA n l)]) (β:=0) rfl h.1
 cases q:yb d with
 |false=>
  rw[q] at e1
  refine cq (oF (bS (cK e1))) (cD rfl ?_)
  cases d <;> first |rfl |cases q
 |true=>
  rw[q] at e1
  obtain⟨ds,rfl⟩:=mY q
  obtain⟨hl,hs⟩:=h.2 ds rfl
  have t2:c8 (f2 (f1 (gv 0) c9) (cst (.int 0)) (cN false)) (vl [.fz (.list ds),.fz (aA n l)]) 0=.ok (decide ((ds.length:Int)=0)) 0:=kT (neg:=false) (zM rfl) rfl
  by_cases z:ds= []
  ·subst z
   exact cq (eM (bS (cK e1)) t2) (cD rfl rfl)
  ·rw[Kr (by have:=LZ.mpr z;omega)] at t2
   refine iK (eM (bS (cK e1)) t2) (wp_at [.fz (.list ds),.fz (aA n l)] rfl ?_)
   have ec:aS 1 [1] (.nm 0) (bV (gv 0)) mB (aB fm (aa (gv 0) (aa (f2 (gv 1) (cst (.int 0)) cT) af))) (vl [.fz (.list ds),.fz (aA n l)]) 0=.ok (.list (ds.map λe=>PyData.bool (dI e n))) 0:=
    lB (λe=>PyData.bool (dI e n)) rfl (by omega) λe he=>⟨_,rfl,aY (ds:=[e,.int n]) (ac rfl (ac (DN (n:=n) (l:=l) rfl) an)) (wK (hs e he))⟩
   have ea:=qA ec
   cases b:ds.all (λe=>dI e n) with
   |false=>
    rw[b] at ea
    refine cq (oF (bS (cK ea))) (cD rfl ?_)
    unfold kM
    dsimp only
    rw[b];rfl
   |true=>
    rw[b] at ea
    obtain⟨ns,rfl,hn⟩:=iY b
    have t3:c8 (f2 (gv 0) (f1 (gv 0) cJ) (cN true)) (vl [.fz (.list (ns.map int)),.fz (aA n l)]) 0=.ok (!decide (ns=sI ns)) 0:=cX _ _ _ _ (aF rfl (bO rfl (A0 λk hk=>by have:=hn k hk;omega)) (fU true ns (sI ns)))
    have ne:ns.isEmpty=false:=by
     cases ns with
     |nil=>exact absurd rfl z
     |cons _ _=>rfl
    have eB:kM n l (.list (ns.map int))=BD n l ns:=by
     unfold kM
     dsimp only
     rw[b,bZ];rfl
    rw[eB]
    unfold BD
    rw[ne]
    by_cases s:ns=sI ns
    ·rw[Kh s] at t3
     refine iK (eM (bS (cK ea)) t3) (wp_at [.fz (.list (ns.map int)),.fz (aA n l)] rfl ?_)
     rw[Kb] at hl
     have ef:aS 1 [1,0] (.nm 0) (bV (gv 0)) mB (aB Ij (aa (gv 1) (aa (gv 2) (aa (gv 0) af)))) (vl [.fz (.list (ns.map int)),.fz (aA n l)]) 0=.ok (.list (ns.map λt=>PyData.bool (DT l ns t))) 0:=
      fW (l:=ns) (e:=int) (λt=>PyData.bool (DT l ns t)) rfl (by omega) λt _=>⟨_,rfl,aY (ds:=[aA n l,.list (ns.map int),.int t]) rfl (Jz (by omega))⟩
     refine lH (Cb ef) ?_
     rw[Kh s];rfl
    ·rw[Kr s] at t3
     refine cq (eM (bS (cK ea)) t3) (cD rfl ?_)
     rw[Kr s];rfl
theorem xM:∀rs:List (List Int),PyData.canLayAll0 (rs.map aP)=true
 | []=>rfl
 |r :: rs=>by
  show ((aP r).canLay0 && PyData.canLayAll0 (rs.map aP))=true
  rw[xM rs,show (aP r).canLay0=true by unfold aP;simp only[PyData.canLay0];exact lay_ints r];rfl
theorem wH:∀rs:List (List Int),PyData.depthAll (rs.map aP)<=1
 | []=>by show (0:Nat)<=1;omega
 |r :: rs=>by
  show max (aP r).depth (PyData.depthAll (rs.map aP))<=1
  have h1:(aP r).depth=1:=by unfold aP;simp only[PyData.depth];rw[nC]
  have h2:=wH rs
  omega
def nj (rs:List (List Int)):SeqAt.shaped (.list (rs.map aP))=true:=by
 unfold SeqAt.shaped
 have h1:(PyData.list (rs.map aP)).canLay0=true:=by simp only[PyData.canLay0];exact xM rs
 have h2:(PyData.list (rs.map aP)).depth<=64:=by simp only[PyData.depth];have:=wH rs;omega
 rw[h1,Kh h2];rfl
def xQ (neg:Bool)(l:List (List Int)):cN neg (.list (l.map aP)) (.list (([]:List (List Int)).map aP))=some (.bool (if neg then !decide (l= []) else decide (l= []))):=by
 unfold cN
 rw[nj,nj]
 have e:PyData.eqvAll (l.map aP) (([]:List (List Int)).map aP)=decide (l= []):=by cases l <;> rfl
 simp only[Mu,Lg,PyData.eqv,e]
def zS (ns:List (List Int))(hz:ns.length<=100)(β:Int):∃(ms:List (List Int)) (β':Int),iW [.list (ns.map aP)] β=.ok (.list (ms.map aP)) true β'/\ms.Perm ns:=by
 show ∃(ms:List (List Int)) (β':Int),qE (bL bg [.bx,.fz (.list (ns.map aP)),.no,.no] β)=.ok (.list (ms.map aP)) true β'/\ms.Perm ns
 unfold bL
 rw[aJ (env':=[.bx,.fz (.list (ns.map aP)),.ow (.list (ns.map aP)),.no]) (β':=β) (by rfl)]
 have ez:aH af [Nv.bx,.da (.list (ns.map aP)),.da (.list (ns.map aP)),.no] β=.ok (.list []) β:=dm rfl (by simp)
 rw[aJ (env':=[.bx,.fz (.list (ns.map aP)),.ow (.list (ns.map aP)),.ow (.list [])]) (β':=β) ?h]
 case h=>
  show toS (aH af [Nv.bx,.da (.list (ns.map aP)),.da (.list (ns.map aP)),.no] β) _=_
  rw[ez];rfl
 obtain⟨env',β',ew,ms,rfl,hp⟩:=iS (L:=[] ++ []) (t:=c8 (f2 (gv 2) (aH af) (cN true))) (m:=fy 3 2 ([] ++ []) (gq 0 bg (aa (f1 (gv 2) c9) af)))
  (λk env β=>∃ls ms:List (List Int),env= [.bx,.fz (.list (ns.map aP)),.ow (.list (ls.map aP)),.ow (.list (ms.map aP))]/\(ms ++ ls).Perm ns/\k=ls.length)
  (λenv β=>∃ms:List (List Int),env= [.bx,.fz (.list (ns.map aP)),.ow (.list []),.ow (.list (ms.map aP))]/\ms.Perm ns) (n:=1000) (k:=ns.length) (env:=[.bx,.fz (.list (ns.map aP)),.ow (.list (ns.map aP)),.ow (.list [])]) (β:=β) (by omega) ⟨ns,[],rfl,by simp,rfl⟩ (by
   rintro k env β ⟨ls,ms,rfl,hp,rfl⟩
   have e1:aH af [Nv.bx,.da (.list (ns.map aP)),.da (.list (ls.map aP)),.da (.list (ms.map aP))] β=.ok (.list (([]:List (List Int)).map aP)) β:=dm rfl (by simp)
   have et:c8 (f2 (gv 2) (aH af) (cN true)) [Nv.bx,.da (.list (ns.map aP)),.da (.list (ls.map aP)),.da (.list (ms.map aP))] β=.ok (!decide (ls= [])) β:=
    cX _ _ _ _ (aF (x:=.list (ls.map aP)) rfl e1 (by rw[xQ];rfl))
   refine⟨_,_,et,?_⟩
   have hlen:=hp.length_eq
   rw[Ku] at hlen
   cases ls with
   |nil=>exact .inl ⟨rfl,ms,rfl,by simpa using hp⟩
   |cons y ys=>
    refine .inr ⟨rfl,?_⟩
    have hm:(0:Int) < ((y :: ys).length:Nat)/\(((y :: ys).length:Nat):Int) < 1073741824:=by
     have:(y :: ys).length<=100:=by omega
     constructor
     ·simp
     ·omega
    obtain⟨j,hj⟩:∃j:Nat,β % (((y :: ys).length:Nat):Int)=j:=⟨(β % (((y :: ys).length:Nat):Int)).toNat,by have:=L7 β (b:=(((y :: ys).length:Nat):Int)) (by omega);omega⟩
    have hj2:j < (y :: ys).length:=by have:=L3 β hm.1;omega
    have ef:gq 0 bg (aa (f1 (gv 2) c9) af) [Nv.bx,.da (.list (ns.map aP)),.da (.list ((y :: ys).map aP)),.da (.list (ms.map aP))] β=.ok (.int (j:Int)) (β / (((y :: ys).length:Nat):Int)):=by
     refine cv (ds:=[.int (((y :: ys).length:Nat):Int)]) (b:=false) (by rfl) ?_ (by rw[iL hm.1 hm.2,hj])
     show R.ok [int ((((y :: ys).map aP).length:Nat):Int)] β=_
     rw[Kb]
    have hpop:tq ((y :: ys).map aP) (.int (j:Int))=some (aP (y :: ys)[j],((y :: ys).eraseIdx j).map aP):=by
     unfold tq
     dsimp only
     rw[Kf ⟨by omega,by omega⟩]
     have es:seqIndex? (j:Int) ((y :: ys).map aP).length=some j:=by
      rw[Kb]
      exact PySem.StrLaws.seqIndex_nonneg (by omega) (by omega)
     rw[es]
     dsimp only
     rw[Kk,J6 hj2,lI];rfl
    refine⟨[.bx,.fz (.list (ns.map aP)),.ow (.list (((y :: ys).eraseIdx j).map aP)),.ow (.list ((ms ++ [(y :: ys)[j]]).map aP))],β / (((y :: ys).length:Nat):Int),((y :: ys).eraseIdx j).length,?_,?_,(y :: ys).eraseIdx j,ms ++ [(y :: ys)[j]],rfl,?_,rfl⟩
    ·show fy 3 2 ([] ++ []) (gq 0 bg (aa (f1 (gv 2) c9) af)) [.bx,.fz (.list (ns.map aP)),.ow (.list ((y :: ys).map aP)),.ow (.list (ms.map aP))] β=_
     rw[nF (ds:=ms.map aP) (es:=(y :: ys).map aP) (by rfl) (by rfl) (by decide) ef (by rfl) hpop (by rw[Kb];omega),Ls]
     rfl
    ·rw[List.length_eraseIdx]
     rw[Kf hj2]
     show (y :: ys).length - 1 < (y :: ys).length
     simp
    ·rw[LU]
     exact (List.Perm.append_left ms (dG (J6 hj2))).trans hp)
 refine⟨ms,β',?_,hp⟩
 rw[aJ ew]
 rfl
def Pt (t:Nat)(cs:List (List Int)):Prop:=(cs.length<=t/\(0 < t->cs≠ []))/\∀c,c∈cs->c≠ []/\c.length<=t/\∀x,x∈c->0<=x/\x < (t:Int)
abbrev wN:VF Bool:=c8 (f2 (aS 1 [1,2] (.nm 0) (bV (gv 0)) (kA (aB oU (aa (gv 1) (aa (gv 0) (aa (gv 2) af))))) (gv 0)) (aH af) (cN false))
noncomputable abbrev Ec:VF Bool:=FX (c8 (f2 (gv 4) (aH af) (cN true))) (c8 (f2 (gq 0 bg (aa (cst (.int 4)) af)) (cst (.int 0)) HS))
noncomputable abbrev FW:VF D:=gq 0 bg (aa (f1 (gv 4) c9) af)
def IQ {n:Nat}{l:List Pr}{t β:Int}{c:List Int}(hc:c.length<=100):wN (FU (aA n l) t c) β=.ok (decide ((c.filter λa=>qm l (a,t))= [])) β:=by
 have ec:aS 1 [1,2] (.nm 0) (bV (gv 0)) (kA (aB oU (aa (gv 1) (aa (gv 0) (aa (gv 2) af))))) (gv 0) (FU (aA n l) t c) β=.ok (.list ((c.filter λa=>qm l (a,t)).map int)) β:=
  j9 (l:=c) (e:=int) (λa=>qm l (a,t)) int rfl (by omega) λa _=>⟨_,rfl,cK (aY (ds:=[aA n l,.int a,.int t]) rfl (DM n l a t)),λ_=>rfl⟩
 unfold wN
 rw[cX _ _ _ _ (aF ec (lp (ds:=([]:List Int).map int) an) (fU false _ []))]
 simp only[Kx,KZ]
def Jx {n:Nat}{l:List Pr}{t β:Int}{cs fit:List (List Int)}:∃c β1,Ec (vl (mC (aA n l) cs t fit)) β=.ok c β1/\(c=true->fit≠ []):=by
 have e1:c8 (f2 (gv 4) (aH af) (cN true)) (vl (mC (aA n l) cs t fit)) β=.ok (!decide (fit= [])) β:=by
  rw[cX _ _ _ _ (aF (x:=.list (fit.map aP)) rfl (lp (ds:=([]:List (List Int)).map aP) an) (xQ true fit))]
  simp only[Lg]
 have e2:gq 0 bg (aa (cst (.int 4)) af) (vl (mC (aA n l) cs t fit)) β=.ok (.int (β % 4)) (β / 4):=cv (ds:=[.int 4]) (b:=false) (by rfl) rfl (by rw[iL (by decide) (by decide)])
 by_cases z:fit= []
 ·refine⟨false,β,?_,λh=>by cases h⟩
  unfold Ec FX
  rw[e1,Kh z];rfl
 ·refine⟨decide (β % 4 > 0),β / 4,?_,λ_=>z⟩
  unfold Ec FX
  rw[e1,Kr z]
  show c8 (f2 (gq 0 bg (aa (cst (.int 4)) af)) (cst (.int 0)) HS) (vl (mC (aA n l) cs t fit)) β=_
  exact cX _ _ _ _ (aF e2 rfl rfl)
def Jw {n:Nat}{l:List Pr}{t β:Int}{cs fit:List (List Int)}(h:fit≠ [])(hl:fit.length<=100):∃(j:Nat) (β1:Int),FW (vl (mC (aA n l) cs t fit)) β=.ok (.int (j:Int)) β1/\j < fit.length:=by
 have hp:=LZ.mpr h
 have hm:(0:Int) < (fit.length:Nat)/\((fit.length:Nat):Int) < 1073741824:=by omega
 obtain⟨j,hj⟩:∃j:Nat,β % ((fit.length:Nat):Int)=j:=⟨(β % ((fit.length:Nat):Int)).toNat,by have:=L7 β (b:=((fit.length:Nat):Int)) (by omega);omega⟩
 refine⟨j,β / ((fit.length:Nat):Int),?_,by have:=L3 β hm.1;omega⟩
 refine cv (ds:=[.int ((fit.length:Nat):Int)]) (b:=false) (by rfl) ?_ (by rw[iL hm.1 hm.2,hj])
 show R.ok [int (((fit.map aP).length:Nat):Int)] β=_
 rw[Kb]
theorem zI {n:Nat}{l:List Pr}(h8:n<=8):∀(k t:Nat) (cs:List (List Int)) (β:Int),t + k=n->Pt t cs->∃cs' β',zg wN Ec FW (aA n l) ((List.range' t k).map λi:Nat=>int (i:Int)) cs β=.nx [.bx,.fz (aA n l),.ow (.list (cs'.map aP)),.no,.no] β'/\Pt n cs'
 | 0,t,cs,β,ht,h=>⟨cs,β,rfl,by rw[<-ht];exact h⟩
 |k + 1,t,cs,β,ht,h=>by
  have hok:cs.length<=100/\(∀c,c∈cs->c.length<=100)/\cs.all (uG wN (aA n l) (t:Int) β)=true:=by
   refine⟨by have:=h.1.1;omega,λc hc=>by have:=(h.2 c hc).2.1;omega,KP.mpr λc hc=>?_⟩
   unfold uG
   rw[IQ (by have:=(h.2 c hc).2.1;omega)]
   exact Kh rfl
  obtain⟨c,β1,ec,hc⟩:=Jx (n:=n) (l:=l) (t:=(t:Int)) (β:=β) (cs:=cs) (fit:=j5 wN (aA n l) (t:Int) β cs)
  rw[List.range'_succ,K2]
  have one:∀c,c∈cs->c≠ []/\c.length<=t + 1/\∀x,x∈c->0<=x/\x < ((t + 1:Nat):Int):=λc hc=>⟨(h.2 c hc).1,by have:=(h.2 c hc).2.1;omega,λx hx=>by have:=(h.2 c hc).2.2 x hx;omega⟩
  have e0:∀X,X=zg wN Ec FW (aA n l) (int (t:Int) :: (List.range' (t + 1) k).map λi:Nat=>int (i:Int)) cs β->X=(if c=true then
     toS (FW (vl (mC (aA n l) cs (t:Int) (j5 wN (aA n l) (t:Int) β cs))) β1) λdj β2=>(match dj with
      | .int j=>(match (if 0<=j then (mz wN (aA n l) (t:Int) β cs)[j.toNat]? else none) with
       |some k'=>zg wN Ec FW (aA n l) ((List.range' (t + 1) k).map λi:Nat=>int (i:Int)) (cs.set k' (cs.getD k' [] ++ [(t:Int)])) β2
       |none=>.bad)
      |_=>.bad)
    else zg wN Ec FW (aA n l) ((List.range' (t + 1) k).map λi:Nat=>int (i:Int)) (cs ++ [[(t:Int)]]) β1):=by
   rintro X rfl
   conv=>lhs;unfold zg
   rw[Kf hok,ec];rfl
  rw[e0 _ rfl]
  cases c with
  |false=>
   rw[Ki KC]
   refine zI h8 k (t + 1) (cs ++ [[(t:Int)]]) β1 (by omega) ⟨⟨by rw[Ku];simp;exact h.1.1,λ_=>by simp⟩,λc hc=>?_⟩
   rcases KA.mp hc with hc |hc
   ·exact one c hc
   ·rw[Kz] at hc
    subst hc
    exact⟨by simp,by simp,λx hx=>by rw[Kz] at hx;omega⟩
  |true=>
   rw[Kf rfl]
   have fl:(j5 wN (aA n l) (t:Int) β cs).length=(mz wN (aA n l) (t:Int) β cs).length:=Kb ..
   have il:(mz wN (aA n l) (t:Int) β cs).length<=cs.length:=by
    unfold mz
    refine Lf (L9 ..) ?_
    rw[LV];exact Kg _
   obtain⟨j,β2,ej,hj⟩:=Jw (n:=n) (l:=l) (t:=(t:Int)) (β:=β1) (cs:=cs) (hc rfl) (by have:=h.1.1;omega)
   rw[fl] at hj
   rw[ej]
   dsimp only[toS]
   rw[Kf (Int.natCast_nonneg j),K6,J6 hj]
   dsimp only
   have hk:=KD.mp (Lj.mp (KS hj)).1
   generalize (mz wN (aA n l) (t:Int) β cs)[j]=kk at hk ⊢
   refine zI h8 k (t + 1) _ β2 (by omega) ⟨⟨by rw[K3];have:=h.1.1;omega,λ_ z=>by have:=congrArg List.length z;rw[K3,Mz] at this;omega⟩,λc hc=>?_⟩
   rcases List.mem_or_eq_of_mem_set hc with hc |rfl
   ·exact one c hc
   ·have hm:cs.getD kk []∈cs:=by rw[Ko,J6 hk];exact KS hk
    obtain⟨a1,a2,a3⟩:=h.2 _ hm
    refine⟨by simp,by rw[Ku];simp;exact a2,λx hx=>?_⟩
    rcases KA.mp hx with hx |hx
    ·have:=a3 x hx;omega
    ·rw[Kz] at hx;omega
noncomputable def AF:List D->Int->FB:=k8 5 1 (dW oU bg iW)
def FG {n:Nat}{l:List Pr}(h8:n<=8)(β:Int):∃cs β',AF [aA n l] β=.ok (.list (cs.map aP)) true β'/\Pt n cs:=by
 show ∃cs β',qE (dW oU bg iW [.bx,.fz (aA n l),.no,.no,.no] β)=.ok (.list (cs.map aP)) true β'/\Pt n cs
 obtain⟨cs,β1,e1,h1⟩:=zI (n:=n) (l:=l) h8 n 0 [] β (by omega) ⟨⟨by simp,λz=>by omega⟩,λc hc=>by cases hc⟩
 obtain⟨ms,β2,e2,hp⟩:=zS cs (by have:=h1.1.1;omega) β1
 refine⟨ms,β2,?_,⟨by rw[hp.length_eq];exact h1.1.1,λz e=>h1.1.2 z (by rw[e] at hp;exact hp.nil_eq.symm)⟩,λc hc=>h1.2 c (hp.mem_iff.mp hc)⟩
 unfold dW
 rw[aJ (env':=[.bx,.fz (aA n l),.ow (.list []),.no,.no]) (β':=β) (by unfold jv;rw[show aH af (vl [.bx,.fz (aA n l),.no,.no,.no]) β=.ok (.list []) β from lp an];rfl)]
 rw[aJ (env':=[.bx,.fz (aA n l),.ow (.list (cs.map aP)),.no,.no]) (β':=β1) ?h]
 case h=>
  unfold xG
  dsimp only
  have er:gM (f2 (gv 1) (cst (.int 0)) cT) (vl [.bx,.fz (aA n l),.ow (.list []),.no,.no]) β=.ok (cn 0 n) β:=kN (n:=n) (DN (n:=n) (l:=l) rfl) (by omega)
  rw[er]
  dsimp only[toS]
  rw[<-e1]
  congr 1
  unfold cn
  rw[List.range_eq_range']
  refine LM λi _=>?_
  show int (0 + (i:Int))=int (i:Int)
  rw[Mo]
 have ew:DF 0 iW (aa (gv 2) af) (vl [.bx,.fz (aA n l),.ow (.list (cs.map aP)),.no,.no]) β1=.ok (.list (ms.map aP)) β2:=FI (ds:=[.list (cs.map aP)]) (by rfl) rfl e2
 unfold jX
 rw[ew];rfl
section
variable {m m':SF}{env env1:En}{β β1:Int}{Q:SO->Prop}{L:List Nat}
def Cq {t:Tg}{fi:VF (List D)}{ds:List D}(g:D->Bool)(r:D)(I:Nat->En->Int->Prop)(hi:fi (vl env) β=.ok ds β1)(h0:I 0 (aQ L env) β1)
  (hs:∀i d env β,ds[i]? =some d->(∀j e,j < i->ds[j]? =some e->g e=false)->I i env β->∃env1,eH t d env=some env1/\WP (m env1 β) λs=>(g d=true/\∃β2,s=.rt r false β2)\/(g d=false/\∃env2 β2,s=.nx env2 β2/\I (i + 1) env2 β2))
  (kr:∀d β,d∈ds->g d=true->Q (.rt r false β)) (k:(∀d,d∈ds->g d=false)->∀env β,I ds.length env β->WP (m' env β) Q):WP (aE (c5 t L fi m) m' env β) Q:=by
 have key:∀(k i:Nat),i + k=ds.length->(∀j e,j < i->ds[j]? =some e->g e=false)->∀env β,I i env β->(∃d β2,d∈ds/\g d=true/\gP t m (ds.drop i) env β=.rt r false β2)\/((∀d,d∈ds->g d=false)/\∃env2 β2,gP t m (ds.drop i) env β=.nx env2 β2/\I ds.length env2 β2):=by
  intro k
  induction k with
  |zero=>
   intro i hik hg env β h
   have:i=ds.length:=by omega
   subst this
   refine .inr ⟨λd hd=>?_,env,β,by rw[MM];rfl,h⟩
   obtain⟨j,hj⟩:=List.getElem?_of_mem hd
   exact hg j d (Ks.mp hj).1 hj
  |succ k ih=>
   intro i hik hg env β h
   have hlt:i < ds.length:=by omega
   obtain⟨env1,e1,⟨h1⟩⟩:=hs i ds[i] env β (J6 hlt) hg h
   rw[Mh hlt]
   rcases h1 with⟨hgd,β2,e2⟩ | ⟨hgd,env2,β2,e2,h2⟩
   ·exact .inl ⟨ds[i],β2,KS hlt,hgd,by unfold gP;rw[e1];dsimp only;rw[e2]⟩
   ·have e3:gP t m (ds[i] :: ds.drop (i + 1)) env β=gP t m (ds.drop (i + 1)) env2 β2:=by conv=>lhs;unfold gP;rw[e1];dsimp only;rw[e2]
    rw[e3]
    refine ih (i + 1) (by omega) (λj e hj he=>?_) env2 β2 h2
    by_cases z:j=i
    ·subst z;rw[J6 hlt] at he;cases he;exact hgd
    ·exact hg j e (by omega) he
 rcases key ds.length 0 (by omega) (λj e h=>by omega) _ _ h0 with⟨d,β2,hm,hg,e⟩ | ⟨hn,env2,β2,e,h2⟩
 ·exact⟨by rw[mP ((gc hi).trans e)];exact kr d β2 hm hg⟩
 ·exact wp_seq ((gc hi).trans e) (k hn _ _ h2)
end
def vb {ns:List Int}(h:ns.length < 64):jF (.list (ns.map int))=some (.list ((sortI ns).map int)):=by
 unfold jF
 simp only[bZ]
 rw[Kf h]
def Eb {i:Nat}{L:List Nat}{f:VF D}{env:En}{β β':Int}{ds es:List D}(hi:env[i]? =some (.ow (.list ds)))(hf:f (vl env) β=.ok (.list es) β')(hL:(aQ L env)[i]? =some (.ow (.list ds)))(hz:ds.length + es.length<=1000):zk i L f env β=.nx ((aQ L env).set i (.ow (.list (ds ++ es)))) β':=by
 unfold zk
 rw[hi,Kf (show o7 (some (.ow (.list ds)))=true from rfl),hf]
 dsimp only[toS]
 rw[uZ hL (es:=ds ++ es)]
 rw[Kf (by rw[KH];omega)]
def Ce (e:D):Prop:=Gc e/\∀ds,e=.list ds->SeqAt.shaped (.list ds)=true
def Tq (d:D):Prop:=bG d=false/\∀ds,d=.list ds->ds.length<=8/\∀e,e∈ds->Ce e
def AB:D->List Int
 | .list es=>(dr es).getD []
 |_=>[]
def DA (n:Nat)(l:List Pr):D->Bool
 | .list ds=>ds.all (kM n l) && decide (sortI (ds.flatMap AB)=iB n)
 |_=>false
theorem C6 {n:Nat}{l:List Pr}{d:D}(h8:n<=8)(h:kM n l d=true):∃c:List Int,d=aP c/\AB d=c/\c.length<=n/\(∀k,k∈c->0<=k/\k < (n:Int))/\BD n l c=true:=by
 cases d with
 |list ds=>
  unfold kM at h
  dsimp only at h
  rw[Kq] at h
  obtain⟨ms,rfl,hm⟩:=iY h.1
  have h2:=h.2
  rw[bZ] at h2
  have h2:BD n l ms=true:=h2
  have nd:ms.Nodup:=by
   have h3:=h2
   unfold BD at h3
   rw[Kq,Kq] at h3
   rw[MZ h3.2.1];exact DY ms
  refine⟨ms,rfl,by show (dr _).getD []=_;rw[bZ];rfl,?_,hm,h2⟩
  have:=L2.ST.bu nd (m:=iB n) λx hx=>mT.mpr (hm x hx)
  rwa [jO] at this
 |_=>cases h
theorem nM {n:Nat}{l:List Pr}(h8:n<=8):∀{ds:List D},ds.all (kM n l)=true->∃cs:List (List Int),ds=cs.map aP/\ds.flatMap AB=cs.flatten/\∀c,c∈cs->c.length<=n/\kM n l (aP c)=true
 | [],_=>⟨[],rfl,rfl,λc h=>by cases h⟩
 |d :: ds,h=>by
  rw[Mw,Kq] at h
  obtain⟨cs,e1,e2,hc⟩:=nM h8 h.2
  obtain⟨c,rfl,e3,hl,_,_⟩:=C6 h8 h.1
  refine⟨c :: cs,by rw[e1];rfl,by rw[MY,e3,e2];rfl,λx hx=>?_⟩
  rcases Ke.mp hx with rfl |hx
  ·exact⟨hl,h.1⟩
  ·exact hc x hx
theorem Cd {cs:List (List Int)}{n:Nat}(h:∀c,c∈cs->c.length<=n):cs.flatten.length<=cs.length * n:=by
 induction cs with
 |nil=>simp
 |cons c cs ih=>
  have h1:=h c (Kd ..)
  have h2:=ih λc hc=>h c (J9 _ hc)
  rw[MD,Ku,KG,Nat.succ_mul];omega
def lL {cs:List (List Int)}{n i:Nat}(h:∀c,c∈cs->c.length<=n)(h7:n<=7)(hl:cs.length<=8):cs.flatten.length<=56/\(cs.take i).flatten.length<=56:=by
 have h1:=Cd h
 have h2:cs.length * n<=8 * 7:=Lw hl h7
 refine⟨by omega,?_⟩
 have:cs.flatten=(cs.take i).flatten ++ (cs.drop i).flatten:=by rw[<-List.flatten_append,L8]
 rw[this,Ku] at h1;omega
noncomputable def HM:List D->FR:=bF 4 2 (fH nQ Ih)
theorem IS {n:Nat}{l:List Pr}{d:D}(O:OM.Ord n l)(h7:n<=7)(hd:Tq d):HM [d,aA n l]=.ok (.bool (DA n l d)) false:=by
 show fin (fH nQ Ih [.fz d,.fz (aA n l),.no,.no] 0)=_
 refine qJ ?_
 unfold fH
 refine B7 (aY (ds:=[aA n l]) (ac rfl an) (Bi O)) (wp_at [.fz d,.fz (aA n l),.no,.no] rfl ?_)
 have e1:=w9 (fa:=gv 0) (vs:=vl [.fz d,.fz (aA n l),.no,.no]) (β:=0) rfl hd.1
 cases q:yb d with
 |false=>
  rw[q] at e1
  refine cq (oF (bS (cK e1))) (cD rfl ?_)
  cases d <;> first |rfl |cases q
 |true=>
  rw[q] at e1
  obtain⟨ds,rfl⟩:=mY q
  obtain⟨hl,hs⟩:=hd.2 ds rfl
  have ec:aS 1 [1] (.nm 0) (bV (gv 0)) mB (aB Ih (aa (gv 0) (aa (gv 1) af))) (vl [.fz (.list ds),.fz (aA n l),.no,.no]) 0=.ok (.list (ds.map λe=>PyData.bool (kM n l e))) 0:=
   lB (λe=>PyData.bool (kM n l e)) rfl (by omega) λe he=>⟨_,rfl,aY (ds:=[e,aA n l]) rfl (Jh (by omega) (hs e he).1)⟩
  have ea:=qA ec
  cases b:ds.all (kM n l) with
  |false=>
   rw[b] at ea
   refine cq (eM (bS (cK e1)) (bS (cK ea))) (cD rfl ?_)
   show FR.ok (.bool false) false=_
   unfold DA
   dsimp only
   rw[b];rfl
  |true=>
   rw[b] at ea
   obtain⟨cs,rfl,ef,hc⟩:=nM (by omega) b
   rw[Kb] at hl
   refine iK (eM (bS (cK e1)) (bS (cK ea))) (wp_at [.fz (.list (cs.map aP)),.fz (aA n l),.no,.no] rfl ?_)
   refine xy (d:=.list []) (β1:=0) (lp an) (wp_at [.fz (.list (cs.map aP)),.fz (aA n l),.ow (.list []),.no] rfl ?_)
   refine qU (ds:=cs.map aP) (β1:=0) (λi env b=>b=0/\∃s3,env= [.fz (.list (cs.map aP)),.fz (aA n l),.ow (.list ((cs.take i).flatten.map int)),s3]) rfl ⟨rfl,_,rfl⟩ ?_ ?_
   ·intro i d env b hd ⟨hb,s3,he⟩
    subst hb he
    rw[Kk] at hd
    obtain⟨c,hc',rfl⟩:=Option.map_eq_some_iff.mp hd
    refine⟨[.fz (.list (cs.map aP)),.fz (aA n l),.ow (.list ((cs.take i).flatten.map int)),.fz (aP c)],rfl,⟨_,_,Eb (i:=2) (ds:=(cs.take i).flatten.map int) (es:=c.map int) rfl rfl rfl ?_,rfl,.fz (aP c),?_⟩⟩
    ·have h1:=(lL (i:=i) (λc h=>(hc c h).1) h7 hl).2
     have h2:=(hc c (Kj hc')).1
     rw[Kb,Kb];omega
    ·show [Sl.fz (.list (cs.map aP)),.fz (aA n l),.ow (.list ((cs.take i).flatten.map int ++ c.map int)),.fz (aP c)]=_
     rw[Lo,hc',<-Ls]
     simp
   ·intro env b' ⟨hb,s3,he⟩
    subst hb he
    rw[Kb,List.take_length]
    have h1:=(lL (i:=0) (λc h=>(hc c h).1) h7 hl).1
    refine lH (aF (bO (x:=.list (cs.flatten.map int)) rfl (vb (by omega))) (bO (DN (n:=n) (l:=l) rfl) (gr (by omega))) (fU false _ _)) ?_
    show FR.ok (.bool _) false=_
    unfold DA
    dsimp only
    rw[b,ef];rfl
noncomputable def HN:List D->FR:=bF 5 2 (iD GR oU)
abbrev tZ (n:Nat)(l:List Pr)(ds:List D)(th:List Int)(s3 s4:Sl):En:=[.fz (.list ds),.fz (aA n l),.fz (.list (th.map int)),s3,s4]
theorem ux:∀{ds:List D},ds.all pz=true->∃ns:List Int,ds=ns.map int
 | [],_=>⟨[],rfl⟩
 |d :: ds,h=>by
  rw[Mw,Kq] at h
  obtain⟨ns,rfl⟩:=ux h.2
  have h1:=h.1
  cases d with
  |int i=>exact⟨i :: ns,rfl⟩
  |_=>cases h1
def Bz {n:Nat}:∀{ds:List D},ds.all (λe=>dI e n)=true->ds.all pz=true:=λ{ds} h=>by
 obtain⟨ns,rfl,_⟩:=iY h
 rw[KP]
 intro x hx
 obtain⟨k,_,rfl⟩:=Kn.mp hx
 rfl
def vG {n:Nat}{ns:List Int}(h:∀k,k∈ns->0<=k/\k < (n:Int)):(ns.map int).all (λe=>dI e n)=true:=by
 rw[KP]
 intro x hx
 obtain⟨k,hk,rfl⟩:=Kn.mp hx
 exact Kh (h k hk)
def wm {g:List Int->Int}{ns:List Int}(h:ns≠ []):gW g (.list (ns.map int))=some (.int (g ns)):=by
 unfold gW
 simp only[hE]
 rw[bZ]
 dsimp only
 rw[Kf (LZ.mpr h)]
def eq_nil {ds:List D}(h:SeqAt.shaped (.list ds)=true):cN false (.list ds) (.list [])=some (.bool (decide (ds= []))):=by
 unfold cN
 rw[h,show SeqAt.shaped (.list [])=true by decide +kernel]
 have e:PyData.eqvAll ds []=decide (ds= []):=by cases ds <;> rfl
 simp only[Mu,Lg,PyData.eqv,e];rfl
theorem BU {n:Nat}{l:List Pr}{ds:List D}{th:List Int}{s4:Sl}{d:D}(h7:n<=7)(hd:Ce d)(ht:th.length<=800){Q:SO->Prop}
  (k:∀c:List Int,d=aP c->kM n l d=true->∀s4,Q (.nx (tZ n l ds (th ++ c) (.fz d) s4) 0)) (kr:kM n l d=false->∀β,Q (.rt (.bool false) false β)) :
  WP (aE (jS ([] ++ (([] ++ []) ++ ([] ++ []))) (hG (oJ (kA (f1 (gv 3) (fG "list")))) (hG (c8 (f2 (gv 3) (aH af) (cN false))) (oJ (kA (f1 (aS 1 [] (.nm 0) (bV (gv 3)) mB (aB GR (aa (gv 0) af))) (b5 λbs=>bs.all id))))))
 (bC (cst (.bool false)))
 lP)
 (aE (jS (([] ++ []) ++ (([] ++ ([] ++ [])) ++ ([] ++ []))) (hG (c8 (f2 (f1 (gv 3) (gW tf)) (cst (.int 0)) zc)) (hG (c8 (f2 (f1 (gv 3) (gW tE)) (f2 (gv 1) (cst (.int 0)) cT) HH)) (c8 (f2 (gv 3) (f1 (gv 3) cJ) (cN true)))))
 (bC (cst (.bool false)))
 lP)
 (aE (c5 (.nm 4) [3] (bV (gv 3))
 (jS (([] ++ [1,4]) ++ []) (c8 (f2 (aS 1 [1,4] (.nm 0) (bV (gv 3)) (kA (aB oU (aa (gv 1) (aa (gv 2) (aa (gv 0) af))))) (gv 0)) (aH af) (cN true)))
 (bC (cst (.bool false)))
 lP))
 (bE 2 ([] ++ []) (f2 (gv 2) (gv 3) dw)))) (tZ n l ds th (.fz d) s4) 0) Q:=by
 have e1:=w9 (fa:=gv 3) (vs:=vl (tZ n l ds th (.fz d) s4)) (β:=0) rfl hd.1.1
 cases q:yb d with
 |false=>
  rw[q] at e1
  refine cq (oF (bS (cK e1))) (cD rfl (kr ?_ _))
  cases d <;> first |rfl |cases q
 |true=>
  rw[q] at e1
  obtain⟨es,rfl⟩:=mY q
  obtain⟨hl,hs⟩:=hd.1.2 es rfl
  have sh:=hd.2 es rfl
  have t1:c8 (f2 (gv 3) (aH af) (cN false)) (vl (tZ n l ds th (.fz (.list es)) s4)) 0=.ok (decide (es= [])) 0:=cX _ _ _ _ (aF (x:=.list es) rfl (lp an) (eq_nil sh))
  by_cases z:es= []
  ·subst z
   exact cq (eM (bS (cK e1)) (oF t1)) (cD rfl (kr rfl _))
  ·rw[Kr z] at t1
   have ec:aS 1 [] (.nm 0) (bV (gv 3)) mB (aB GR (aa (gv 0) af)) (vl (tZ n l ds th (.fz (.list es)) s4)) 0=.ok (.list (es.map λe=>PyData.bool (pz e))) 0:=
    lB (λe=>PyData.bool (pz e)) rfl (by omega) λe he=>⟨_,rfl,aY (ds:=[e]) rfl (IV (hs e he))⟩
   have ea:=qA ec
   cases b:es.all pz with
   |false=>
    have b':es.all (λe=>pz e)=false:=b
    rw[b'] at ea
    refine cq (eM (bS (cK e1)) (eM t1 (bS (cK ea)))) (cD rfl (kr ?_ _))
    unfold kM
    dsimp only
    cases bb:es.all (λe=>dI e n) with
    |false=>rfl
    |true=>rw[Bz bb] at b;cases b
   |true=>
    have b':es.all (λe=>pz e)=true:=b
    rw[b'] at ea
    obtain⟨ns,rfl⟩:=ux b
    have ne:ns≠ []:=λe=>z (by rw[e];rfl)
    rw[Kb] at hl
    refine iK (eM (bS (cK e1)) (eM t1 (bS (cK ea)))) (wp_at (tZ n l ds th (.fz (aP ns)) s4) rfl ?_)
    have t2:c8 (f2 (f1 (gv 3) (gW tf)) (cst (.int 0)) zc) (vl (tZ n l ds th (.fz (aP ns)) s4)) 0=.ok (decide (tf ns < 0)) 0:=cX _ _ _ _ (aF (bO (x:=.list (ns.map int)) rfl (wm ne)) rfl rfl)
    have t3:c8 (f2 (f1 (gv 3) (gW tE)) (f2 (gv 1) (cst (.int 0)) cT) HH) (vl (tZ n l ds th (.fz (aP ns)) s4)) 0=.ok (decide ((n:Int)<=tE ns)) 0:=cX _ _ _ _ (aF (bO (x:=.list (ns.map int)) rfl (wm ne)) (DN (n:=n) (l:=l) rfl) rfl)
    have out:∀x,x∈ns->¬(0<=x/\x < (n:Int))->kM n l (aP ns)=false:=λx hx hn=>by
     cases bb:(ns.map int).all (λe=>dI e n) with
     |true=>
      have:=KP.mp bb (.int x) (Kn.mpr ⟨x,hx,rfl⟩)
      exact absurd (MZ this) hn
     |false=>unfold aP kM;dsimp only;rw[bb];rfl
    by_cases c1:tf ns < 0
    ·rw[Kh c1] at t2
     exact cq (oF t2) (cD rfl (kr (out _ (Bk ne) (by omega)) _))
    rw[Kr c1] at t2
    by_cases c2:(n:Int)<=tE ns
    ·rw[Kh c2] at t3
     exact cq (eM t2 (oF t3)) (cD rfl (kr (out _ (AJ ne) (by omega)) _))
    rw[Kr c2] at t3
    have hin:∀k,k∈ns->0<=k/\k < (n:Int):=λk hk=>by
     have h1:=C7 hk
     have h2:=C8 hk
     omega
    have eB:kM n l (aP ns)=BD n l ns:=by
     unfold aP kM
     dsimp only
     rw[vG hin,bZ];rfl
    have ie:ns.isEmpty=false:=by
     cases ns with
     |nil=>exact absurd rfl ne
     |cons _ _=>rfl
    have t4:c8 (f2 (gv 3) (f1 (gv 3) cJ) (cN true)) (vl (tZ n l ds th (.fz (aP ns)) s4)) 0=.ok (!decide (ns=sI ns)) 0:=cX _ _ _ _ (aF rfl (bO (x:=.list (ns.map int)) rfl (A0 λk hk=>by have:=hin k hk;omega)) (fU true ns (sI ns)))
    by_cases c3:ns=sI ns
    case neg=>
     rw[Kr c3] at t4
     refine cq (eM t2 (eM t3 t4)) (cD rfl (kr ?_ _))
     show kM n l (aP ns)=false
     rw[eB]
     unfold BD
     rw[Kr c3,Bool.false_and,MV]
    rw[Kh c3] at t4
    refine iK (eM t2 (eM t3 t4)) (wp_at (tZ n l ds th (.fz (aP ns)) s4) rfl ?_)
    let g:D->Bool:=λd=>match d with
     | .int x=> !decide ((ns.filter λa=>qm l (x,a))= [])
     |_=>false
    refine B9 (ds:=ns.map int) (β1:=0) g (.bool false) (λenv b=>b=0/\∃s4,env=tZ n l ds th (.fz (aP ns)) s4) rfl ⟨rfl,_,rfl⟩ ?_ ?_ ?_
    ·intro d hd env b ⟨hb,s4,he⟩
     subst hb he
     obtain⟨x,hx,rfl⟩:=Kn.mp hd
     refine⟨tZ n l ds th (.fz (aP ns)) (.fz (.int x)),rfl,?_⟩
     have ef:aS 1 [1,4] (.nm 0) (bV (gv 3)) (kA (aB oU (aa (gv 1) (aa (gv 2) (aa (gv 0) af))))) (gv 0) (vl (tZ n l ds th (.fz (aP ns)) (.fz (.int x)))) 0=.ok (.list ((ns.filter λa=>qm l (x,a)).map int)) 0:=
      j9 (l:=ns) (e:=int) (λa=>qm l (x,a)) int rfl (by omega) λa _=>⟨_,rfl,cK (aY (ds:=[aA n l,.int x,.int a]) rfl (DM n l x a)),λ_=>rfl⟩
     have tt:c8 (f2 (aS 1 [1,4] (.nm 0) (bV (gv 3)) (kA (aB oU (aa (gv 1) (aa (gv 2) (aa (gv 0) af))))) (gv 0)) (aH af) (cN true)) (vl (tZ n l ds th (.fz (aP ns)) (.fz (.int x)))) 0=.ok (!decide ((ns.filter λa=>qm l (x,a))= [])) 0:=by
      rw[cX _ _ _ _ (aF ef (lp (ds:=([]:List Int).map int) an) (fU true _ []))];rfl
     by_cases c:(ns.filter λa=>qm l (x,a))= []
     ·rw[Kh c] at tt
      refine HA tt (ud (.inr ⟨?_,_,_,rfl,rfl,_,rfl⟩))
      show (!decide ((ns.filter λa=>qm l (x,a))= []))=false
      rw[Kh c];rfl
     ·rw[Kr c] at tt
      refine Jn tt (lH rfl (.inl ⟨?_,_,rfl⟩))
      show (!decide ((ns.filter λa=>qm l (x,a))= []))=true
      rw[Kr c];rfl
    ·intro d β hd hg
     obtain⟨x,hx,rfl⟩:=Kn.mp hd
     have hg:(!decide ((ns.filter λa=>qm l (x,a))= []))=true:=hg
     have c:¬(ns.filter λa=>qm l (x,a))= []:=by simpa using hg
     obtain⟨a,ha⟩:=List.exists_mem_of_ne_nil _ c
     obtain⟨ha1,ha2⟩:=Lj.mp ha
     refine kr ?_ β
     show kM n l (aP ns)=false
     rw[eB]
     unfold BD
     have:ns.all (DT l ns)=false:=by
      rw[List.all_eq_false]
      refine⟨a,ha1,?_⟩
      unfold DT
      rw[Bool.not_eq_true,Bool.not_eq_false',List.any_eq_true]
      exact⟨x,hx,ha2⟩
     rw[this,MV,MV]
    ·intro hg env b ⟨hb,s4,he⟩
     subst hb he
     have eC:kM n l (aP ns)=true:=by
      rw[eB]
      unfold BD
      rw[ie,Kh c3]
      show ns.all (DT l ns)=true
      rw[KP]
      intro t ht
      unfold DT
      rw[Me,List.any_eq_false]
      intro a ha
      have h1:(!decide ((ns.filter λb=>qm l (a,b))= []))=false:=hg (.int a) (Kn.mpr ⟨a,ha,rfl⟩)
      have h2:(ns.filter λb=>qm l (a,b))= []:=by simpa using h1
      have:=List.filter_eq_nil_iff.mp h2 t ht
      simpa using this
     exact vk (fj (d:=.list ((th ++ ns).map int)) (β1:=0) (by
      rw[Ls]
      exact oB rfl rfl (by rw[Kb,Kb];omega)) (ud (k ns rfl eC s4)))
def E5 (c:List Int):AB (aP c)=c:=by
 show (dr (c.map int)).getD []=c
 rw[bZ];rfl
theorem IW {n:Nat}{l:List Pr}{d:D}(h7:n<=7)(hd:Tq d):HN [d,aA n l]=.ok (.bool (DA n l d)) false:=by
 show fin (iD GR oU [.fz d,.fz (aA n l),.no,.no,.no] 0)=_
 refine qJ ?_
 unfold iD
 have e1:=w9 (fa:=gv 0) (vs:=vl [.fz d,.fz (aA n l),.no,.no,.no]) (β:=0) rfl hd.1
 cases q:yb d with
 |false=>
  rw[q] at e1
  refine cq (bS (cK e1)) (cD rfl ?_)
  cases d <;> first |rfl |cases q
 |true=>
  rw[q] at e1
  obtain⟨ds,rfl⟩:=mY q
  obtain⟨hl,hs⟩:=hd.2 ds rfl
  refine iK (bS (cK e1)) (wp_at [.fz (.list ds),.fz (aA n l),.no,.no,.no] rfl ?_)
  refine fj (d:=.list (([]:List Int).map int)) (β1:=0) (lp an) (wp_at (tZ n l ds [] .no .no) rfl ?_)
  have bnd:∀es:List D,es.length<=8->es.all (kM n l)=true->(es.flatMap AB).length<=56:=λes he ha=>by
   obtain⟨cs,rfl,ef,hc⟩:=nM (by omega) ha
   rw[ef]
   rw[Kb] at he
   exact (lL (i:=0) (λc h=>(hc c h).1) h7 he).1
  refine Cq (ds:=ds) (β1:=0) (λd=> !kM n l d) (.bool false) (λi env b=>b=0/\∃s3 s4,env=tZ n l ds ((ds.take i).flatMap AB) s3 s4) rfl ⟨rfl,_,_,rfl⟩ ?_ ?_ ?_
  ·intro i d env b hdi hg ⟨hb,s3,s4,he⟩
   subst hb he
   refine⟨tZ n l ds ((ds.take i).flatMap AB) (.fz d) s4,rfl,?_⟩
   have ha:(ds.take i).all (kM n l)=true:=by
    rw[KP]
    intro e he
    obtain⟨j,hj⟩:=List.getElem?_of_mem he
    have h1:=(Ks.mp hj).1
    rw[K4] at h1
    rw[MP (by omega)] at hj
    have:=hg j e (by omega) hj
    simpa using this
   have hb:=bnd (ds.take i) (by rw[K4];omega) ha
   refine BU h7 (hs d (Kj hdi)) (by omega) (λc e hc s4=>?_) λhc β=>?_
   ·have ef:(ds.take (i + 1)).flatMap AB=(ds.take i).flatMap AB ++ c:=by
     rw[Lo,hdi,List.flatMap_append]
     show _ ++ [d].flatMap AB=_
     rw[e,MY,E5];simp
    exact .inr ⟨by rw[hc];rfl,_,_,rfl,rfl,.fz d,s4,by rw[ef]⟩
   ·exact .inl ⟨by rw[hc];rfl,_,rfl⟩
  ·intro d β hm hg
   have hg:(!kM n l d)=true:=hg
   have:ds.all (kM n l)=false:=by
    rw[List.all_eq_false]
    exact⟨d,hm,by simpa using hg⟩
   show FR.ok (.bool false) false=_
   unfold DA
   dsimp only
   rw[this];rfl
  ·intro hg env b ⟨hb,s3,s4,he⟩
   subst hb he
   have ha:ds.all (kM n l)=true:=by
    rw[KP]
    intro e he
    have:(!kM n l e)=false:=hg e he
    simpa using this
   rw[List.take_length]
   have hb:=bnd ds hl ha
   refine lH (aF (bO (x:=.list ((ds.flatMap AB).map int)) rfl (vb (by omega))) (bO (DN (n:=n) (l:=l) rfl) (gr (by omega))) (fU false _ _)) ?_
   show FR.ok (.bool _) false=_
   unfold DA
   dsimp only
   rw[ha];rfl
def Dt {es:List D}{i:Int}{e:D}(h:e∈cutD es none (some i)):e∈es:=List.mem_of_mem_drop (LQ h)
def wD (es:List D)(i:Int):(cutD es none (some i)).length<=es.length:=by unfold cutD;rw[K4,Mj];omega
def By {g:List Int}(h:g≠ []):∃x,x∈g/\jc (g.map int) (-1)=some (.int x):=by
 obtain⟨i,y,rfl⟩:∃i y,g=i ++ [y]:=⟨g.dropLast,g.getLast h,(List.dropLast_concat_getLast h).symm⟩
 refine⟨y,by simp,?_⟩
 rw[jH]
 have:jc (i ++ [y]) (-1)=some y:=by
  unfold jc we
  simp only[Ku,KG,Mz]
  rw[Ki (by omega),Kf (by omega),show (-1 + ((i.length + (0 + 1):Nat):Int)).toNat=i.length by omega]
  simp
 rw[this];rfl
def Ie (e:D):Prop:=It e/\Ce e
def Dy (k:Nat)(es:List D):Prop:=es.length<=k/\∀x,x∈es->BB x
theorem v5:∀{es:List D},(∀x,x∈es->BB x)->PyData.canLayAll0 es=true/\PyData.depthAll es=0
 | [],_=>⟨rfl,rfl⟩
 |e :: es,h=>by
  obtain⟨h1,h2⟩:=v5 λx hx=>h x (J9 _ hx)
  have he:e.canLay0=true/\e.depth=0:=by
   rcases h e (Kd ..) with rfl | ⟨b,rfl⟩ | ⟨i,rfl,_⟩ <;> exact⟨rfl,rfl⟩
  refine⟨?_,?_⟩
  ·show (e.canLay0 && PyData.canLayAll0 es)=true
   rw[he.1,h1];rfl
  ·show max e.depth (PyData.depthAll es)=0
   rw[he.2,h2];rfl
def vR {es:List D}(h:∀x,x∈es->BB x):SeqAt.shaped (.list es)=true:=by
 obtain⟨h1,h2⟩:=v5 h
 unfold SeqAt.shaped
 have a1:(PyData.list es).canLay0=true:=by simp only[PyData.canLay0];exact h1
 have a2:(PyData.list es).depth<=64:=by simp only[PyData.depth];omega
 rw[a1,Kh a2];rfl
def fY {es:List D}(h:Dy 16 es):Ie (.list es):=by
 have:(20 + 2) * es.length<=22 * 16:=Lw (by omega) h.1
 refine⟨⟨rfl,(Ak (c:=20) (k:=0) λd hd=>(h.2 d hd).sq).mono (by omega) (by omega),Af λd hd=>(h.2 d hd).bf⟩,⟨rfl,λds e=>?_⟩,λds e=>?_⟩
 ·cases e
  exact⟨by have:=h.1;omega,λx hx=>(h.2 x hx).scr⟩
 ·cases e
  exact vR h.2
def E4 {es:List D}(h:Dy 16 es):Ie (.tuple es):=by
 have:(20 + 2) * es.length<=22 * 16:=Lw (by omega) h.1
 exact⟨⟨rfl,(z8 (c:=20) (k:=0) λd hd=>(h.2 d hd).sq).mono (by omega) (by omega),Ao λd hd=>(h.2 d hd).bf⟩,⟨rfl,λds e=>by cases e⟩,λds e=>by cases e⟩
def JD:D->Bool
 | .list ds=>decide (ds.length<=8) && SeqAt.shaped (.list ds) && ds.all λx=> !bG x && (match x with | .list _=>false |_=>true)
 |_=>true
def qC:∀x∈gm,bG x=false/\JD x=true:=by decide +kernel
theorem D3 {x:D}(h1:bG x=false)(h2:JD x=true):Ce x/\Tq x:=by
 cases x with
 |list ds=>
  have h2:(decide (ds.length<=8) && SeqAt.shaped (.list ds) && ds.all λx=> !bG x && (match x with | .list _=>false |_=>true))=true:=h2
  rw[Kq,Kq,K0,KP] at h2
  obtain⟨⟨a1,a2⟩,a3⟩:=h2
  have sc:∀x,x∈ds->bG x=false:=λx hx=>by
   have:=a3 x hx
   rw[Kq] at this
   simpa using this.1
  refine⟨⟨⟨h1,λes e=>?_⟩,λes e=>?_⟩,h1,λes e=>?_⟩
  ·cases e;exact⟨by omega,sc⟩
  ·cases e;exact a2
  ·cases e
   refine⟨a1,λx hx=>⟨⟨sc x hx,λys ey=>?_⟩,λys ey=>?_⟩⟩
   ·have:=a3 x hx
    rw[ey,Kq] at this
    cases this.2
   ·have:=a3 x hx
    rw[ey,Kq] at this
    cases this.2
 |_=>exact⟨⟨⟨h1,λes e=>by cases e⟩,λes e=>by cases e⟩,h1,λes e=>by cases e⟩
def FK {o:D}(h:o∈gm):Ie o:=⟨Et h,(D3 (qC o h).1 (qC o h).2).1⟩
def Tn (d:D):Prop:=Tq d/\Th d
def Ex {o:D}(h:o∈gm):Tn o:=⟨(D3 (qC o h).1 (qC o h).2).2,Eu h⟩
def oA {es:List D}(hl:es.length<=8)(h:∀e,e∈es->Ie e):Tn (.list es):=
 ⟨⟨rfl,λds e=>by cases e;exact⟨hl,λx hx=>(h x hx).2⟩⟩,Ap.lst (k:=8) ⟨hl,λx hx=>(h x hx).1⟩ (by omega)⟩
def Eh {es:List D}(hl:es.length<=8)(h:∀e,e∈es->Ie e):Tn (.tuple es):=
 ⟨⟨rfl,λds e=>by cases e⟩,Ap.tup (k:=8) ⟨hl,λx hx=>(h x hx).1⟩ (by omega)⟩
def kS {k:Nat}{c:List Int}(hl:c.length<=k)(h:∀x,x∈c-> -1<=x/\x<=9):Dy k (c.map int):=⟨by rw[Kb];exact hl,λx hx=>by
 obtain⟨y,hy,rfl⟩:=Kn.mp hx
 exact mK (h y hy)⟩
def wZ {n:Nat}{cs:List (List Int)}(h7:n<=7)(h:Pt n cs):∀e,e∈cs.map aP->Ie e:=λe he=>by
 obtain⟨c,hc,rfl⟩:=Kn.mp he
 obtain⟨_,h2,h3⟩:=h.2 c hc
 exact fY (kS (by omega) λx hx=>by have:=h3 x hx;omega)
def mM {m:Nat}(h0:0 < m)(h:m<=1000)(β:Int):∃(j:Nat) (β1:Int),bg [.int (m:Int)] β=.ok (.int (j:Int)) false β1/\j < m:=by
 obtain⟨j,hj⟩:∃j:Nat,β % (m:Int)=j:=⟨(β % (m:Int)).toNat,by have:=L7 β (b:=(m:Int)) (by omega);omega⟩
 exact⟨j,β / (m:Int),by rw[iL (by omega) (by omega),hj],by have:=L3 β (show (0:Int) < (m:Int) by omega);omega⟩
def HQ {fa:VF D}{fr:VF (List D)}{vs:List Nv}{β β1 β2:Int}{d:D}{ds:List D}(h:fa vs β=.ok d β1)(h':fr vs β1=.ok ds β2):aa fa fr vs β=.ok (d :: ds) β2:=by rw[cg,h];dsimp only[R.bnd];rw[h']
def Iw {fr:VF (List D)}{vs:List Nv}{β β1:Int}{ds:List D}(h:fr vs β=.ok ds β1)(hz:ds.length<=1000:=by simp):aH fr vs β=.ok (.list ds) β1:=dm h hz
def J2 {fa fb:VF D}{vs:List Nv}{β:Int}{ds:List D}{i:Int}(ha:fa vs β=.ok (.list ds) β)(hb:fb vs β=.ok (.int i) β):wg fa (λ_ β=>.ok none β) (xH fb) vs β=.ok (.list (cutD ds none (some i))) β:=by
 unfold wg xH
 rw[ha];dsimp only[R.bnd]
 rw[hb]
def DO {e:D}(h:Ie e):∃es,PyData.list [e]=.list es/\es.length<=2/\∀x,x∈es->Ie x:=⟨[e],rfl,by simp,λx hx=>by rw[Kz] at hx;rw[hx];exact h⟩
def Dq {j k:Nat}{a b:List D}(h:Dy j a)(h':Dy k b):Dy (j + k) (a ++ b):=⟨by have:=h.1;have:=h'.1;rw[Ku];omega,λx hx=>(KA.mp hx).elim (h.2 x) (h'.2 x)⟩
def wF {j k:Nat}{a b:List D}(h:Dy j a)(hk:b.length<=k)(hs:∀x,x∈b->x∈a):Dy k b:=⟨hk,λx hx=>h.2 x (hs x hx)⟩
noncomputable def xP:List D->Int->FB:=k8 9 3 (gH bg)
abbrev bne (n:Nat)(cs:List (List Int))(o:D)(s4 s5 s6 s7 s8:Sl):En:=[.bx,.fz (.list (cs.map aP)),.fz (.int n),.fz o,s4,s5,s6,s7,s8]
def Ey {n:Nat}{cs:List (List Int)}{o:D}(h1:0 < n)(h7:n<=7)(hp:Pt n cs)(ho:o∈gm)(β:Int):∃d fr β',xP [.list (cs.map aP),.int n,o] β=.ok d fr β'/\Tn d:=by
 show ∃d fr β',qE (gH bg (bne n cs o .no .no .no .no .no) β)=.ok d fr β'/\Tn d
 refine WP.out (Q:=λr=>∃d fr β',qE r=.ok d fr β'/\Tn d) ?_
 unfold gH
 have cl:=hp.1.1
 have c0:=LZ.mpr (hp.1.2 h1)
 have ln:∀(s4 s5 s6 s7 s8:Sl) (b:Int),f1 (gv 1) c9 (vl (bne n cs o s4 s5 s6 s7 s8)) b=.ok (.int (cs.length:Nat)) b:=λ_ _ _ _ _ b=>by rw[zM (ds:=cs.map aP) rfl,Kb]
 obtain⟨a,β1,ea,ha⟩:=mM (m:=cs.length) c0 (by omega) β
 refine fj (d:=.int a) (β1:=β1) (cv (ds:=[.int (cs.length:Nat)]) (by rfl) (ac (ln _ _ _ _ _ _) an) ea) (wp_at (bne n cs o (.fz (.int a)) .no .no .no .no) rfl ?_)
 have ixC:∀(i:Nat),i < cs.length->jc (cs.map aP) (i:Int)=some (aP (cs.getD i [])):=λi hi=>by
  rw[iV (show (cs.map aP)[i]? =some (aP cs[i]) by rw[Kk,J6 hi];rfl)]
  rw[Ko,J6 hi];rfl
 have memC:∀(i:Nat),i < cs.length->cs.getD i []∈cs:=λi hi=>by rw[Ko,J6 hi];exact KS hi
 refine fj (d:=aP (cs.getD a [])) (β1:=β1) (aF (x:=.list (cs.map aP)) (y:=.int a) rfl rfl (ixC a ha)) (wp_at (bne n cs o (.fz (.int a)) (.fz (aP (cs.getD a []))) .no .no .no) rfl ?_)
 obtain⟨k1,k2,k3⟩:=hp.2 _ (memC a ha)
 generalize hc:cs.getD a []=c at k1 k2 k3 ⊢
 obtain⟨t,β2,et,ht⟩:=mM (m:=cs.length) c0 (by omega) β1
 refine fj (d:=.int t) (β1:=β2) (cv (ds:=[.int (cs.length:Nat)]) (by rfl) (ac (ln _ _ _ _ _ _) an) et) (wp_at (bne n cs o (.fz (.int a)) (.fz (aP c)) (.fz (.int t)) .no .no) rfl ?_)
 obtain⟨u,β3,eu,hu⟩:=mM (m:=n) h1 (by omega) β2
 generalize hv:vl (bne n cs o (.fz (.int a)) (.fz (aP c)) (.fz (.int t)) .no .no)=vs
 have g5:∀b,gv 5 vs b=.ok (.list (c.map int)) b:=λb=>by rw[<-hv];rfl
 have g2:∀b,gv 2 vs b=.ok (.int (n:Nat)) b:=λb=>by rw[<-hv];rfl
 have bx:qy vs 0=true:=by rw[<-hv];rfl
 have f0:jc (c.map int) 0=some (.int (c.headD 0)):=by
  cases c with
  |nil=>exact absurd rfl k1
  |cons x c=>exact iV (xs:=(x :: c).map int) (j:=0) rfl
 have x0:wg (gv 5) (xH (cst (.int 1))) (λ_ β=>.ok none β) vs β2=.ok (.list ((c.map int).drop 1)) β2:=wc (i:=1) (g5 _) rfl
 have x1:f2 (gv 5) (aH (aa (gq 0 bg (aa (gv 2) af)) af)) dw vs β2=.ok (.list (c.map int ++ [.int u])) β3:=oB (g5 _) (Iw (HQ (cv (ds:=[.int (n:Nat)]) bx (ac (g2 _) an) eu) an)) (by rw[Kb];simp;omega)
 have x3:f1 (gv 5) v9 vs β3=.ok (.list (c.map int).reverse) β3:=bO (g5 _) rfl
 have x4:f1 (gv 5) lV vs β3=.ok (.tuple (c.map int)) β3:=bO (g5 _) rfl
 have x6:f2 (gv 5) (cst (.int 0)) cT vs β3=.ok (.int (c.headD 0)) β3:=aF (g5 _) rfl f0
 have en:aH (aa (aH (aa (wg (gv 5) (xH (cst (.int 1))) (λ_ β=>.ok none β)) af)) (aa (aH (aa (f2 (gv 5) (aH (aa (gq 0 bg (aa (gv 2) af)) af)) dw) af)) (aa (aH (aa (aH af) af)) (aa (aH (aa (f1 (gv 5) v9) af)) (aa (aH (aa (f1 (gv 5) lV) af)) (aa (aH af) (aa (aH (aa (gv 5) (aa (aH (aa (f2 (gv 5) (cst (.int 0)) cT) af)) af))) af))))))) vs β2=.ok (.list [.list [.list ((c.map int).drop 1)],.list [.list (c.map int ++ [.int u])],.list [.list []],.list [.list (c.map int).reverse],.list [.tuple (c.map int)],.list [],.list [.list (c.map int),.list [.int (c.headD 0)]]]) β3:=
  Iw (HQ (lp (ac x0 an)) (HQ (Iw (HQ x1 an)) (ac (lp (ac (lp an) an)) (ac (lp (ac x3 an)) (ac (lp (ac x4 an)) (ac (lp an) (ac (lp (ac (g5 _) (ac (lp (ac x6 an)) an))) an)))))))
 generalize hn1:([.list [.list ((c.map int).drop 1)],.list [.list (c.map int ++ [.int u])],.list [.list []],.list [.list (c.map int).reverse],.list [.tuple (c.map int)],.list [],.list [.list (c.map int),.list [.int (c.headD 0)]]]:List D)=n1 at en
 refine fj (d:=.list n1) (β1:=β3) (by rw[hv];exact en) (wp_at (bne n cs o (.fz (.int a)) (.fz (aP c)) (.fz (.int t)) (.fz (.list n1)) .no) rfl ?_)
 clear en x0 x1 x3 x4 x6 g5 g2 bx hv vs
 obtain⟨xl,hxl,exl⟩:=By k1
 generalize hv:vl (bne n cs o (.fz (.int a)) (.fz (aP c)) (.fz (.int t)) (.fz (.list n1)) .no)=vs
 have g5:∀b,gv 5 vs b=.ok (.list (c.map int)) b:=λb=>by rw[<-hv];rfl
 have g3:∀b,gv 3 vs b=.ok o b:=λb=>by rw[<-hv];rfl
 have g7:∀b,gv 7 vs b=.ok (.list n1) b:=λb=>by rw[<-hv];rfl
 have gt:f2 (gv 1) (gv 6) cT vs β3=.ok (.list ((cs.getD t []).map int)) β3:=aF (x:=.list (cs.map aP)) (y:=.int t) (by rw[<-hv];rfl) (by rw[<-hv];rfl) (ixC t ht)
 obtain⟨j1,j2,j3⟩:=hp.2 _ (memC t ht)
 generalize cs.getD t []=c' at gt j1 j2 j3
 have neg:f1 (cst (.int 1)) vV vs β3=.ok (.int (-1)) β3:=bO rfl rfl
 have y7:f2 (wg (gv 5) (λ_ β=>.ok none β) (xH (f1 (cst (.int 1)) vV))) (aH (aa (f2 (f2 (gv 5) (f1 (cst (.int 1)) vV) cT) (cst (.int 1)) (cN false)) af)) dw vs β3=.ok (.list (cutD (c.map int) none (some (-1)) ++ [.bool (decide (xl=1))])) β3:=
  oB (J2 (g5 _) neg) (lp (ac (aF (aF (g5 _) neg exl) rfl (wU false xl 1)) an)) (by have:=wD (c.map int) (-1);rw[Kb] at this;simp;omega)
 have y9:f1 (f2 (gv 5) (f2 (gv 1) (gv 6) cT) dw) jF vs β3=.ok (.list ((sortI (c ++ c')).map int)) β3:=bO (oB (g5 _) gt (by rw[Kb,Kb];omega)) (by rw[<-Ls];exact vb (by rw[Ku];omega))
 have l1:n1.length=7:=by rw[<-hn1];rfl
 have en:=oB (g7 β3) (lp (ac (lp (ac y7 an)) (ac (lp (ac (g3 _) an)) (ac (lp (ac y9 an)) an)))) (by rw[l1];simp)
 generalize hn2:n1 ++ [.list [.list (cutD (c.map int) none (some (-1)) ++ [.bool (decide (xl=1))])],.list [o],.list [.list ((sortI (c ++ c')).map int)]]=n2 at en
 refine fj (d:=.list n2) (β1:=β3) (by rw[hv];exact en) (wp_at (bne n cs o (.fz (.int a)) (.fz (aP c)) (.fz (.int t)) (.fz (.list n2)) .no) rfl ?_)
 have l2:n2.length=10:=by rw[<-hn2,Ku,l1];rfl
 have nw:∀x,x∈n2->∃es,x=.list es/\es.length<=2/\∀e,e∈es->Ie e:=by
  have sc:Dy 7 (c.map int):=kS (by omega) λx hx=>by have:=k3 x hx;omega
  have hh:c.headD 0∈c:=by
   cases c with
   |nil=>exact absurd rfl k1
   |cons x c=>exact Kd ..
  intro x hx
  rw[<-hn2,<-hn1] at hx
  simp only[List.cons_append,List.nil_append,Ke,L1,or_false] at hx
  rcases hx with rfl |rfl |rfl |rfl |rfl |rfl |rfl |rfl |rfl |rfl
  ·exact DO (fY (wF sc (by rw[Mj,Kb];omega) λx hx=>List.mem_of_mem_drop hx))
  ·exact DO (fY ⟨by rw[Ku,Kb];simp;omega,(Dq (j:=7) (k:=1) sc ⟨by simp,λx hx=>by rw[Kz] at hx;rw[hx];exact mK (by omega)⟩).2⟩)
  ·exact DO (fY ⟨by simp,λx hx=>by cases hx⟩)
  ·exact DO (fY (wF sc (by rw[List.length_reverse,Kb];omega) λx hx=>List.mem_reverse.mp hx))
  ·exact DO (E4 ⟨by have:=sc.1;omega,sc.2⟩)
  ·exact⟨[],rfl,by simp,λe he=>by cases he⟩
  ·refine⟨_,rfl,by simp,λe he=>?_⟩
   simp only[Ke,L1,or_false] at he
   rcases he with rfl |rfl
   ·exact fY ⟨by have:=sc.1;omega,sc.2⟩
   ·exact fY ⟨by simp,λx hx=>by rw[Kz] at hx;rw[hx];exact mK (by have:=k3 _ hh;omega)⟩
  ·refine DO (fY ⟨by have:=wD (c.map int) (-1);rw[Kb] at this;rw[Ku];simp;omega,λx hx=>?_⟩)
   rcases KA.mp hx with hx |hx
   ·exact sc.2 x (Dt hx)
   ·rw[Kz] at hx;rw[hx];exact .inr (.inl ⟨_,rfl⟩)
  ·exact DO (FK ho)
  ·refine DO (fY (kS (by rw[(sortI_perm _).length_eq,Ku];omega) λx hx=>?_))
   rcases KA.mp ((sortI_perm _).mem_iff.mp hx) with h |h
   ·have:=k3 x h;omega
   ·have:=j3 x h;omega
 clear en y7 y9 gt neg g5 g3 g7 hv vs
 obtain⟨kd,β4,ek,hk⟩:=mM (m:=11) (by omega) (by omega) β3
 refine fj (d:=.int kd) (β1:=β4) (cv (ds:=[.int 11]) (by rfl) rfl ek) (wp_at (bne n cs o (.fz (.int a)) (.fz (aP c)) (.fz (.int t)) (.fz (.list n2)) (.fz (.int kd))) rfl ?_)
 generalize hv:vl (bne n cs o (.fz (.int a)) (.fz (aP c)) (.fz (.int t)) (.fz (.list n2)) (.fz (.int kd)))=vs
 have g1:∀b,gv 1 vs b=.ok (.list (cs.map aP)) b:=λb=>by rw[<-hv];rfl
 have g4:∀b,gv 4 vs b=.ok (.int (a:Nat)) b:=λb=>by rw[<-hv];rfl
 have tt:c8 (f2 (gv 8) (cst (.int 10)) zc) vs β4=.ok (decide ((kd:Int) < 10)) β4:=cX _ _ _ _ (aF (x:=.int kd) (y:=.int 10) (by rw[<-hv];rfl) rfl rfl)
 by_cases hk10:(kd:Int) < 10
 ·rw[Kh hk10] at tt
  have hkl:kd < n2.length:=by omega
  obtain⟨es,hes,hl,hie⟩:=nw n2[kd] (KS hkl)
  have e1:f2 (gv 7) (gv 8) cT vs β4=.ok (.list es) β4:=aF (x:=.list n2) (y:=.int kd) (by rw[<-hv];rfl) (by rw[<-hv];rfl) (show jc n2 (kd:Int)=some (.list es) by rw[<-hes];exact iV (J6 hkl))
  have e2:=oB (oB (AR (i:=a) (g1 β4) (g4 _)) e1 (by rw[K4,Kb];omega)) (wc (i:=a + 1) (g1 β4) (JW (g4 _))) (by rw[Ku,K4,Mj,Kb];omega)
  refine cq (by rw[hv];exact tt) (wp_at (bne n cs o (.fz (.int a)) (.fz (aP c)) (.fz (.int t)) (.fz (.list n2)) (.fz (.int kd))) rfl (CM ?_))
  refine B3 (by rw[hv];exact e2) ⟨(λa b z=>by cases z),_,_,_,rfl,oA ?_ λe he=>?_⟩
  ·rw[Ku,Ku,K4,Mj,Kb];omega
  ·rcases KA.mp he with he |he
   ·rcases KA.mp he with he |he
    ·exact wZ h7 hp e (LQ he)
    ·exact hie e he
   ·exact wZ h7 hp e (List.mem_of_mem_drop he)
 ·rw[Kr hk10] at tt
  refine iK (by rw[hv];exact tt) (wp_at (bne n cs o (.fz (.int a)) (.fz (aP c)) (.fz (.int t)) (.fz (.list n2)) (.fz (.int kd))) rfl ?_)
  exact lH (d:=.tuple (cs.map aP)) (by rw[hv];exact bO (g1 _) rfl) ⟨_,_,_,rfl,Eh (by rw[Kb];omega) (wZ h7 hp)⟩
noncomputable def Fh:List D->FR:=bF 10 1 (xa Fg CY HM HN qY AF ER xP)
abbrev yD (ns:List Int)(i n:Nat)(l:List Pr)(cs:List (List Int))(o:D)(s6 s7 s8 s9:Sl):En:=[.fz (cA ns),.fz (.int i),.bx,.fz (aA n l),.fz (.list (cs.map aP)),.fz o,s6,s7,s8,s9]
def Gn (ns:List Int):Fh [cA ns]=.ok (.bool true) false:=by
 show fin (xa Fg CY HM HN qY AF ER xP [.fz (cA ns),.no,.no,.no,.no,.no,.no,.no,.no,.no] 0)=_
 refine qJ ?_
 obtain⟨m0,hm0,em⟩:=Bx 4 (by omega) ns (vl [.fz (cA ns),.no,.no,.no,.no,.no,.no,.no,.no,.no]) 0 rfl
 unfold xa
 refine qU (λ_ env _=>∃s1 s2 s3 s4 s5 s6 s7 s8 s9,env= [.fz (cA ns),s1,s2,s3,s4,s5,s6,s7,s8,s9]) em ⟨_,_,_,_,_,_,_,_,_,rfl⟩ ?_ λenv β ⟨s1,s2,s3,s4,s5,s6,s7,s8,s9,e⟩=>lH (d:=.bool true) rfl rfl
 rintro i d env β hi ⟨s1,s2,s3,s4,s5,s6,s7,s8,s9,rfl⟩
 obtain⟨_,rfl⟩:=kP hi
 rw[Mo]
 refine⟨[.fz (cA ns),.fz (.int i),s2,s3,s4,s5,s6,s7,s8,s9],rfl,?_⟩
 obtain⟨z,ez⟩:=Gi ns i
 obtain⟨t3,t4,t5,t6,t7,t8,t9,hcl⟩:∃t3 t4 t5 t6 t7 t8 t9:Sl,(oK (aQ ([0] ++ ([1] ++ [])) [.fz (cA ns),.fz (.int i),s2,s3,s4,s5,s6,s7,s8,s9])).set 2 .bx= [.fz (cA ns),.fz (.int i),.bx,t3,t4,t5,t6,t7,t8,t9]:=⟨_,_,_,_,_,_,_,rfl⟩
 refine CJ (A9 (ds:=[cA ns,.int i]) rfl ez) (wp_at _ hcl ?_)
 obtain⟨n,l,β1,eo,O,h7⟩:=zA (most:=7) (by omega) (by omega) z
 have h1:0 < n:=O.lo
 refine fj (d:=aA n l) (β1:=β1) (cv (ds:=[.int ((7:Nat):Int)]) rfl rfl eo) (wp_at [.fz (cA ns),.fz (.int i),.bx,.fz (aA n l),t4,t5,t6,t7,t8,t9] rfl ?_)
 obtain⟨cs,β2,ep,hp⟩:=FG (n:=n) (l:=l) (by omega) β1
 refine fj (d:=.list (cs.map aP)) (β1:=β2) (cv (ds:=[aA n l]) rfl rfl ep) (wp_at [.fz (cA ns),.fz (.int i),.bx,.fz (aA n l),.fz (.list (cs.map aP)),t5,t6,t7,t8,t9] rfl ?_)
 obtain⟨o,β3,e3,ho⟩:=HC β2
 refine fj (d:=o) (β1:=β3) (cv (ds:=[]) rfl rfl e3) (wp_at (yD ns i n l cs o t6 t7 t8 t9) rfl ?_)
 have cl:=hp.1.1
 have er:gM (f2 (gv 3) (cst (.int 0)) cT) (vl (yD ns i n l cs o t6 t7 t8 t9)) β3=.ok ((iB n).map int) β3:=by
  rw[kN (n:=n) (DN (n:=n) (l:=l) rfl) (by omega),qi]
 have e4:aS 1 [] (.nm 0) (gM (f2 (gv 3) (cst (.int 0)) cT)) mB (aH (aa (gv 0) af)) (vl (yD ns i n l cs o t6 t7 t8 t9)) β3=.ok (.list ((iB n).map λt=>PyData.list [.int t])) β3:=
  fW (l:=iB n) (e:=int) (λt=>PyData.list [.int t]) er (by rw[jO];omega) λt _=>⟨_,rfl,lp (ac rfl an)⟩
 refine xy (d:=.list [.list (cs.map aP),o,.list [],.list ((iB n).map λt=>PyData.list [.int t]),.list [.list ((iB n).map int)]]) (β1:=β3)
  (lp (ac rfl (ac rfl (ac (lp an) (ac e4 (ac (lp (ac (bO (DN (n:=n) (l:=l) rfl) (gr (by omega))) an)) an)))))) (wp_at (yD ns i n l cs o (.ow (.list [.list (cs.map aP),o,.list [],.list ((iB n).map λt=>PyData.list [.int t]),.list [.list ((iB n).map int)]])) t7 t8 t9) rfl ?_)
 have sm:∀x,x∈iB n-> -1<=x/\x<=9:=λx hx=>by have:=mT.mp hx;omega
 have hts:∀x,x∈ [.list (cs.map aP),o,.list [],.list ((iB n).map λt=>PyData.list [.int t]),.list [.list ((iB n).map int)]]->Tn x:=by
  intro x hx
  simp only[Ke,L1,or_false] at hx
  rcases hx with rfl |rfl |rfl |rfl |rfl
  ·exact oA (by rw[Kb];omega) (wZ h7 hp)
  ·exact Ex ho
  ·exact oA (by simp) λe he=>by cases he
  ·refine oA (by rw[Kb,jO];omega) λe he=>?_
   obtain⟨t,ht,rfl⟩:=Kn.mp he
   exact fY ⟨by simp,λx hx=>by rw[Kz] at hx;rw[hx];exact mK (sm t ht)⟩
  ·refine oA (by simp) λe he=>?_
   rw[Kz] at he
   rw[he]
   exact fY (kS (by rw[jO];omega) sm)
 generalize hd0:([.list (cs.map aP),o,.list [],.list ((iB n).map λt=>PyData.list [.int t]),.list [.list ((iB n).map int)]]:List D)=ts0 at hts
 have l0:ts0.length=5:=by rw[<-hd0];rfl
 refine qU (ds:=cn 0 4) (β1:=β3) (λj env _=>∃ts s7,env=yD ns i n l cs o (.ow (.list ts)) s7 t8 t9/\ts.length=5 + j/\∀x,x∈ts->Tn x) rfl ⟨ts0,_,rfl,l0,hts⟩ ?_ ?_
 ·rintro j d env b hj ⟨ts,s7,rfl,hl,ht⟩
  obtain⟨hj4,rfl⟩:=kP hj
  rw[Mo]
  refine⟨yD ns i n l cs o (.ow (.list ts)) (.fz (.int j)) t8 t9,rfl,?_⟩
  obtain⟨d,fr,b',e,hd⟩:=Ey h1 h7 hp ho b
  have eb:gq 2 xP (aa (gv 4) (aa (f2 (gv 3) (cst (.int 0)) cT) (aa (gv 5) af))) (vl (yD ns i n l cs o (.ow (.list ts)) (.fz (.int j)) t8 t9)) b=.ok d b':=cv (ds:=[.list (cs.map aP),.int n,o]) rfl (ac rfl (ac (DN (n:=n) (l:=l) rfl) (ac rfl an))) e
  refine vk (ED (ds:=ts) rfl eb rfl (by omega) (ud ⟨_,_,rfl,ts ++ [d],_,rfl,by rw[Ku,hl];simp;omega,λx hx=>?_⟩))
  rcases KA.mp hx with hx |hx
  ·exact ht x hx
  ·rw[Kz] at hx;rw[hx];exact hd
 rintro env b ⟨ts,s7,rfl,hl,ht⟩
 refine vk (qU (ds:=ts) (β1:=b) (λ_ env _=>∃s8 s9,env=yD ns i n l cs o (.fz (.list ts)) s7 s8 s9) rfl ⟨_,_,rfl⟩ ?_ ?_)
 ·rintro j d env b hj ⟨s8,s9,rfl⟩
  have hd:=ht d (Kj hj)
  refine⟨yD ns i n l cs o (.fz (.list ts)) s7 (.fz d) s9,rfl,?_⟩
  have er:∀s9,f1 (gv 8) j6 (vl (yD ns i n l cs o (.fz (.list ts)) s7 (.fz d) s9)) b=.ok (.str d.shown) b:=λ_=>bO (x:=d) rfl hd.2.rp
  refine fj (er _) (wp_at (yD ns i n l cs o (.fz (.list ts)) s7 (.fz d) (.fz (.str d.shown))) rfl ?_)
  have t1:kA (aB CY (aa (aB HM (aa (gv 8) (aa (gv 3) af))) (aa (aB HN (aa (gv 8) (aa (gv 3) af))) af))) (vl (yD ns i n l cs o (.fz (.list ts)) s7 (.fz d) (.fz (.str d.shown)))) b=.ok true b:=cK (aY (ds:=[.bool (DA n l d),.bool (DA n l d)]) (ac (aY (ds:=[d,aA n l]) rfl (IS O h7 hd.1)) (ac (aY (ds:=[d,aA n l]) rfl (IW h7 hd.1)) an)) (G9 _))
  have t3:c8 (f2 (f1 (gv 8) j6) (gv 9) (FH true)) (vl (yD ns i n l cs o (.fz (.list ts)) s7 (.fz d) (.fz (.str d.shown)))) b=.ok false b:=cX _ _ _ _ (aF (er _) rfl (by show some (PyData.bool (!decide (d.shown=d.shown)))=_;rw[Kh rfl];rfl))
  exact HA (eM (bS t1) t3) (ud ⟨_,_,rfl,_,_,rfl⟩)
 ·rintro env b ⟨s8,s9,rfl⟩
  exact ud ⟨_,_,rfl,_,_,_,_,_,_,_,_,_,rfl⟩
end RM
namespace RO
open PySem L2
abbrev iU:Stmt:=RQ.du
abbrev kU:Stmt:=RQ.top 12
abbrev Fn (K:Frag)(mg:Str->Option Value)(x:Str)(st:Stmt)(ps:List Str)(f:Addr)(fd:FuncData):Prop:=jY K mg x st ps f fd
abbrev Bt (mg:Str->Option Value):Prop:=kh mg
end RO
section
namespace L2
open PySem PySem.Spec PyProof.Rows
section
variable {K:Frag}{H H':Hp}{a:Addr}
theorem aK.snoc {x y:Int}(q:gk K H a [.int x,.int y]):∀{vs:List V} {ps:List (Int×Int)},aK K H vs ps->aK K H (vs ++ [.ref a]) (ps ++ [(x,y)])
 |_,_,.nil=>.cons ⟨a,rfl,q⟩ .nil
 |_,_,.cons r t=>.cons r (aK.snoc q t)
def aK.len {vs:List V}{ps:List (Int×Int)}(h:aK K H vs ps):vs.length=ps.length:=Paired.length h
def aK.same {vs:List V}{ps:List (Int×Int)}(h:aK K H vs ps)(s:ah H H'):aK K H' vs ps:=h.grow s.grow
def aK.at {vs:List V}{ps:List (Int×Int)}{i:Nat}{v:V}(h:aK K H vs ps)(e:vs[i]? =some v):∃p:Int×Int,ps[i]? =some p/\∃b,v=.ref b/\gk K H b [.int p.1,.int p.2]:=Paired.getP h e
def ah.put {o:HO}(s:ah H H')(h:H a=none)(hf:∀x y,H' a≠some (.aQ x y)):ah H (L2.upd H' a o):=λb u e=>gV (s b u e) (ax e h) hf
def DP (h:H a=none):∀x y,H a≠some (.aQ x y):=λx y z=>by rw[h] at z;cases z
def Gp {xs:List V}(h:H a=some (.lst xs)):∀x y,H a≠some (.aQ x y):=λx y z=>by rw[h] at z;cases z
end
end L2
namespace RO
open PySem L2
def zw (N:List Str)(sc:Scope)(NB:List Str)(own:Nat)(ixs:List Nat)(scope:Scope):Bool:=
 decide (scope.kind=.function) && (scope.names.all λy=>decide (y.2≠.cell)) && (scope.names.all λy=>decide (scope.names.lookup y.1=some y.2)) &&
 (scope.names.all λy=>decide (y.2=.free->(sc.names.lookup y.1=some .cell\/sc.names.lookup y.1=some .free))) && decide NB.Nodup && decide (NB.length=own + ixs.length) &&
 ((List.range ixs.length).all λk=>decide (NB[own + k]? =N[ixs.getD k 0]?) && (match NB[own + k]? with |some x=>decide ((x,NameKind.free)∈scope.names) |none=>true))
def lD {X:Cx}{NB:List Str}{own:Nat}{ixs:List Nat}{scope:Scope}(h:zw X.N X.env.scope NB own ixs scope=true):cE X NB own ixs scope:=by
 unfold zw at h
 simp only[Kq,KP,K0,KD] at h
 obtain⟨⟨⟨⟨⟨⟨h1,h2⟩,h3⟩,h4⟩,h5⟩,h6⟩,h7⟩:=h
 refine⟨h1,h2,h3,h4,h5,h6,λk hk=>⟨(h7 k hk).1,λx hx=>?_⟩⟩
 have:=(h7 k hk).2
 rw[hx] at this
 simpa using this
section
variable {X:Cx}{tg l:Expr}{tl:TE}{K:Frag}{H H1:Hp}{a:Addr}{xs:List V}{σ:St}
def JA (K:Frag)(tl:TE):TI:=λσ H R=>tl σ H λx H1=>∃a xs,x=.ref a/\((fQ K H1 a xs/\R (yS K a) H1)\/(gk K H1 a xs/\R (Dz K a) H1))
end
def Hm (K:Frag){X:Cx}(h:X.K=K:=by rfl):Aw X (Eo K):=by subst h;exact dZ
def EX (K:Frag)(i j:Nat){X:Cx}{x y:Str}{px py pos:Pos}{k:Nat}(hN:X.N.Nodup)(hi:X.N[i]? =some x)(hj:X.N[j]? =some y)(hx:X.env.scope.names.lookup x=some .local)(hy:X.env.scope.names.lookup y=some .local)(hc:X.calm=true)(hK:X.K=K) :
  PG X (.Tuple [.Name x px,.Name y py] k pos) (C0 K 2 (nq (gL i) (nq (gL j) Dh))):=by
 subst hK
 exact nD hc (cQ (bR hN hi (Or.inl hx) (Or.inr hx)) (cQ (bR hN hj (Or.inl hy) (Or.inr hy)) kX))
section
open PySem.Spec PyProof.Rows
variable {X:Cx}{tg l:Expr}{tl:TE}
def Ek (hl:PE X l tl):PI X tg l (JA X.K tl):=by
 intro pins s σ H R I h
 refine b7 (hl pins s σ H _ I h) λv s1 ⟨x,H1,I1,r1,q1⟩=>?_
 obtain⟨a,xs,e,q⟩:=q1
 subst e
 cases r1
 rcases q with⟨hq,q⟩ | ⟨hq,q⟩
 ·obtain⟨its,rv,p,hz⟩:=I1.list hq
  refine MC p.isList ?_
  refine⟨s1.heap.objs.size,[s1.heap.objs.size],_,_,H1,rfl,I1.kept (t':=s1.toks) λb o e=>Ka _ e,lE a _,⟨_,Ky _ rfl,rfl,rfl⟩,λb hb=>?_,q⟩
  have e:b=s1.heap.objs.size:=by simpa using hb
  subst e
  exact I1.fpOk (Kg _) (I1.hok.fresh (Kg _))
 ·obtain⟨its,rv,p,hz⟩:=I1.tuple hq
  refine MS (show s1.heap.IsTuple a its.toArray from p) ?_
  refine⟨s1.heap.objs.size,[s1.heap.objs.size],_,_,H1,rfl,I1.kept (t':=s1.toks) λb o e=>Ka _ e,og a _,⟨_,Ky _ rfl,rfl,rfl⟩,λb hb=>?_,q⟩
  have e:b=s1.heap.objs.size:=by simpa using hb
  subst e
  exact I1.fpOk (Kg _) (I1.hok.fresh (Kg _))
end
section
variable {K:Frag}{H H1 H':Hp}{a:Addr}{xs:List V}{σ:St}
abbrev G8 (J:It)(g:TG)(tb:TS)(D:Ends)(σ:St)(H:Hp):Prop:=∃W:Nat->Nat->St->Hp->Prop,(∃m,W 0 m σ H)/\∀i m σ H,W i m σ H->
   (J.stop i H/\D.nx σ H)\/(J.go i H/\∃N:St->Hp->Prop,(∀σ' H',N σ' H'->∃m',m' < m/\W (i + 1) m' σ' H')/\∀x H',J.yld i H x H'->g x σ H' λσ2 H2=>tb {D with nx:=N,ct:=N,bk:=D.nx} σ2 H2)
def CN (s:ah H1 H')(hq:fQ K H1 a xs\/gk K H1 a xs):fQ K H' a xs\/gk K H' a xs:=hq.elim (λq=>.inl (s.seq q)) λq=>.inr (q.grow s.grow)
def Cg {g:TG}{tb:TS}{D:Ends}(hq:fQ K H1 a xs\/gk K H1 a xs)(Pv:Nat->St->Hp->Prop)(h0:Pv 0 σ H)(hl:∀i σ H',Pv i σ H'->ah H1 H')
  (hs:∀i x σ H,xs[i]? =some x->Pv i σ H->g x σ H λσ2 H2=>tb {D with nx:=Pv (i + 1),ct:=Pv (i + 1),bk:=D.nx} σ2 H2) (hd:∀σ H,Pv xs.length σ H->D.nx σ H) :
  (fQ K H a xs/\G8 (yS K a) g tb D σ H)\/(gk K H a xs/\G8 (Dz K a) g tb D σ H):=
 hq.elim (λq=>.inl ⟨(hl _ _ _ h0).seq q,sy Pv h0 (λi σ H' _ p=>(hl i σ H' p).seq q) hs hd⟩) λq=>.inr ⟨q.grow (hl _ _ _ h0).grow,CW Pv h0 (λi σ H' _ p=>q.grow (hl i σ H' p).grow) hs hd⟩
def xF (J:It)(own:Nat)(ixs:List Nat)(g:TG)(tt:TT)(te:TE)(Q:VK)(D:Addr)(σ:St)(H:Hp):Prop:=∃W:Nat->Nat->St->Hp->Prop,(∃m,W 0 m (pL own ixs σ) (upd H D (.lst [])))/\∀i m σ' H',W i m σ' H'->
   (J.stop i H'/\(∃acc,H' D=some (.lst acc))/\Q (.ref D) H')\/
   (J.go i H'/\∃N:St->Hp->Prop,(∀σ2 H2,N σ2 H2->∃m',m' < m/\W (i + 1) m' σ2 H2)/\∀x H2,J.yld i H' x H2->dq g tt te D x σ' H2 N)
structure sE (own:Nat)(ixs:List Nat)(wi:TI)(g:TG)(tt:TT)(te:TE)(σ:St)(H:Hp)(Q:VK):Prop where
 out:wi σ H λJ H1=>∀D,H1 D=none->xF J own ixs g tt te Q D σ H1
def vN {own:Nat}{ixs:List Nat}{wi:TI}{g:TG}{tt:TT}{te:TE}{Q:VK}(h:wi σ H λJ H1=>∀D,H1 D=none->xF J own ixs g tt te Q D σ H1):sE own ixs wi g tt te σ H Q:=⟨h⟩
def rj {X:Cx}{NB:List Str}{own:Nat}{ixs:List Nat}{scope:Scope}{tg iter elt:Expr}{ifs:List Expr}{wi:TI}{g:TG}{tt:TT}{te:TE}{pos:Pos}(hc:X.calm=true)(S:cE X NB own ixs scope)(hi:PI X tg iter wi)
  (hg:∀C ex s3 H3 pn,PG (gx X NB scope C ex s3 H3 pn) tg g) (ht:∀C ex s3 H3 pn,Be (gx X NB scope C ex s3 H3 pn) ifs tt) (he:∀C ex s3 H3 pn,PE (gx X NB scope C ex s3 H3 pn) elt te)
  (hs:∀x,foldedSetIterable iter X.env x=pure x:=by intro _;rfl):PE X (.ListComp elt [⟨tg,iter,ifs,0⟩] scope pos) (sE own ixs wi g tt te):=
 λpins s σ H Q I h=>tD hc S hi hg ht he hs pins s σ H Q I h.out
section
variable {own:Nat}{ixs:List Nat}{g:TG}{tt:TT}{te:TE}{Q:VK}{D:Addr}
def CG (Pv:Nat->St->Hp->Prop)(h0:Pv 0 (pL own ixs σ) (upd H D (.lst [])))(hl:∀i σ H,i<=xs.length->Pv i σ H->fQ K H a xs)
  (hs:∀i x σ H,xs[i]? =some x->Pv i σ H->dq g tt te D x σ H (Pv (i + 1))) (hd:∀σ H,Pv xs.length σ H->(∃acc,H D=some (.lst acc))/\Q (.ref D) H):xF (yS K a) own ixs g tt te Q D σ H:=y6 Pv h0 hl hs hd
def sQ {lo:Int}{n:Nat}(Pv:Nat->St->Hp->Prop)(h0:Pv 0 (pL own ixs σ) (upd H D (.lst [])))
  (hs:∀i σ H,i < n->Pv i σ H->dq g tt te D (.int (lo + i)) σ H (Pv (i + 1))) (hd:∀σ H,Pv n σ H->(∃acc,H D=some (.lst acc))/\Q (.ref D) H):xF (yv lo n) own ixs g tt te Q D σ H:=uY Pv h0 hs hd
end
def tI {i:Nat}{te:TE}{D:Addr}{x:V}{N:St->Hp->Prop}(h:te (σ.set i (some x)) H λv H5=>∃acc,H5 D=some (.lst acc)/\acc.length < sizeLine/\N (σ.set i (some x)) (upd H5 D (.lst (acc ++ [v])))):dq (gL i) Ew te D x σ H N:=by
 unfold dq gL Ew
 exact o6 h
def As {i j:Nat}{x y:V}{Q:St->Hp->Prop}(h:gk K H a [x,y])(q:Q ((σ.set i (some x)).set j (some y)) H):C0 K 2 (nq (gL i) (nq (gL j) Dh)) (.ref a) σ H Q:=⟨a,_,rfl,h,rfl,x,_,rfl,y,_,rfl,rfl,q⟩
def Ir {c A B:Prop}[Decidable c](h:c)(a:A):if c then A else B:=by rw[Kf h];exact a
def Iz {c A B:Prop}[Decidable c](h:¬c)(b:B):if c then A else B:=by rw[Ki h];exact b
def take_snoc {α:Type}{l:List α}{i:Nat}{x:α}(h:l[i]? =some x):l.take (i + 1)=l.take i ++ [x]:=by
 rw[Lo,h];rfl
def take_all {α:Type}(l:List α):l.take l.length=l:=Lv (Kg _)
end
def jt (n:Nat):(OM.fZ n).length=n * n:=by unfold OM.fZ;simp
def Dm {n i:Nat}(h:i < n * n):(OM.fZ n)[i]? =some (((i / n:Nat):Int),((i % n:Nat):Int)):=by
 unfold OM.fZ
 rw[Kk,List.getElem?_range h];rfl
def JH {n:Nat}(h:n<=8):n * n<=64:=Lw h h
section
variable {P:Program}{w:World}{K:Frag}{mg:Str->Option Value}{base:Heap}
def v3 (K:Frag):Sp:=λvs H Q _=>∃n:Nat,vs= [.int n]/\1<=n/\n<=8/\∀H' l ws,ah H H'->H l=none->H' l=some (.lst ws)->aK K H' ws (OM.fZ n)->Q (.ref l) H'
def Dj:aI ["many"] ["many"] (au iU):=⟨rfl,rfl,rfl,by decide +kernel,rfl,by decide +kernel,by decide +kernel⟩
def HF:(["number","many"]:List Str).Nodup:=by decide +kernel
def AA {f:Addr}{fd:FuncData}(F:Fn K mg "every_pair" iU ["many"] f fd)(B:Bt mg):eV P w K mg base EB 1 f fd ["many"] (v3 K):=by
 refine F.F.ok Dj (λvs H Q E h=>?_) (λcdv A outer s H vs Q E hr h=>?_)
 ·obtain⟨n,rfl,_⟩:=h;rfl
 ·obtain⟨n,rfl,h1,h8,k⟩:=h
  refine⟨_,dk (lR (rj (NB:=["number","many"]) (own:=1) (ixs:=[0]) rfl (lD (by kernel_rfl)) (jI rfl B.range (aG (sZ ji (pv 0) (pv 0)) a7))
   (λC ex s3 H3 pn=>bR (i:=0) HF rfl (Or.inl rfl) (hf:=Or.inr rfl)) (λC ex s3 H3 pn=>qZ)
   (λC ex s3 H3 pn=>vA (aG (sZ kC (pv 0) (pv 1)) (aG (sZ kn (pv 0) (pv 1)) a7))))),?_⟩
  have hn:=JH h8
  have e0:((n:Int) * (n:Int))=((n * n:Nat):Int):=by rw[Int.natCast_mul]
  refine vN ⟨_,rfl,_,rfl,_,_,rfl,rfl,.inl ⟨by omega,by omega⟩,_,rfl,by rw[e0];omega,by rw[e0];omega,λD hD=>?_⟩
  rw[e0,K6]
  refine sQ (λi σ' H'=>(∃v,σ'= [v,some (.int n)])/\ah H H'/\∃vs,H' D=some (.lst vs)/\aK K H' vs ((OM.fZ n).take i)) ⟨⟨none,rfl⟩,(ah.refl H).put hD (DP hD),[],ak,.nil⟩ ?_ ?_
  ·rintro i σ' H' hi ⟨⟨v,rfl⟩,s1,vs,hv,hp⟩
   have hn0:(0:Int) < (n:Int):=by omega
   refine tI ⟨_,rfl,_,rfl,_,_,rfl,rfl,⟨hn0,by omega⟩,_,rfl,_,rfl,_,_,rfl,rfl,hn0,by show 2<=sizeLine;rw[KH];omega,λp hp0=>?_⟩
   have hpD:D≠p:=ax hv hp0
   have hl:=hp.len
   refine⟨vs,by rw[aq hpD];exact hv,?_,⟨_,rfl⟩,?_,vs ++ [.ref p],ak,?_⟩
   ·rw[hl,K4,KH];rw[jt];omega
   ·exact (s1.put (s1.free hp0) (DP hp0)).put hD (Gp (xs:=vs) (by rw[aq hpD];exact hv))
   ·rw[take_snoc (Dm hi)]
    have g1:gp H' (upd H' p (.tup [.int ((0 + (i:Int)) / n),.int ((0 + (i:Int)) % n)])):=gp.new hp0
    have g2:∀o,gp (upd H' p (.tup [.int ((0 + (i:Int)) / n),.int ((0 + (i:Int)) % n)])) (upd (upd H' p (.tup [.int ((0 + (i:Int)) / n),.int ((0 + (i:Int)) % n)])) D o):=λo=>gp.list (by rw[aq hpD];exact hv)
    refine aK.snoc ?_ (hp.grow (g1.trans (g2 _)))
    refine (gk.grow ?_ (g2 _))
    refine .inl (.inl ?_)
    rw[ak,Mo];rfl
  ·rintro σ' H' ⟨_,s1,vs,hv,hp⟩
   refine⟨⟨_,hv⟩,k H' D vs s1 hD hv ?_⟩
   rw[<-jt n,take_all] at hp
   exact hp
end
end RO
end
namespace RO
open PySem L2
structure TabAt (n:Nat)(M:OM.Tb)(L:Addr)(r:Nat->Addr)(H:Hp):Prop where
 top:H L=some (.lst ((List.range n).map λi=>V.ref (r i)))
 row:∀i,i < n->H (r i)=some (.lst ((List.range n).map λj=>V.bl (M i j)))
 inj:∀i j,i < n->j < n->r i=r j->i=j
 ne:∀i,i < n->r i≠L
def wb {n x:Nat}(h:x < n):we n (x:Int)=some x:=by
 unfold we;rw[Kf (by omega),Kf (by omega)];simp
def Aj {α:Type}{xs:List α}{x:Nat}(h:x < xs.length):jc xs (x:Int)=xs[x]?:=by
 unfold jc;rw[wb h];rfl
def eN {f:Nat->V}{n x:Nat}(h:x < n):jc ((List.range n).map f) (x:Int)=some (f x):=by
 rw[Aj (by simpa using h),Kk,List.getElem?_range h];rfl
def pO {f:Nat->V}{n x:Nat}(h:x < n):we ((List.range n).map f).length (x:Int)=some x:=by
 rw[Kb,LV];exact wb h
def x9 {f:Nat->V}{n y:Nat}{v:V}:((List.range n).map f).set y v=(List.range n).map λj=>if j=y then v else f j:=by
 apply Mc
 intro i
 by_cases hi:i < n
 ·by_cases e:y=i
  ·subst e;simp[List.getElem?_set,hi]
  ·have e':¬i=y:=λz=>e z.symm
   simp[List.getElem?_set,hi,e,e']
 ·rw[Ma (by simp;omega),Ma (by simp;omega)]
section
variable {n:Nat}{M:OM.Tb}{L:Addr}{r:Nat->Addr}{H H':Hp}
def TabAt.set (T:TabAt n M L r H){x y:Nat}(hx:x < n):TabAt n (M.set x y) L r (upd H (r x) (.lst (((List.range n).map λj=>V.bl (M x j)).set y (.bl true)))):=by
 refine⟨by rw[aq (T.ne x hx).symm];exact T.top,λi hi=>?_,T.inj,T.ne⟩
 by_cases e:i=x
 ·subst e
  rw[ak,x9]
  refine congrArg _ (congrArg _ (LM λj _=>?_))
  unfold OM.Tb.set
  by_cases c:j=y
  ·simp[c]
  ·simp[c]
 ·rw[aq (λz=>e (T.inj i x hi hx z)),T.row i hi]
  refine congrArg _ (congrArg _ (LM λj _=>?_))
  unfold OM.Tb.set;simp[e]
def TabAt.same (T:TabAt n M L r H)(s:ah H H'):TabAt n M L r H':=⟨s _ _ T.top,λi hi=>s _ _ (T.row i hi),T.inj,T.ne⟩
end
def qr {n:Nat}{ps:List (Int×Int)}(w:OM.Wn n ps){p:Int×Int}(h:p∈ps):∃u v:Nat,p=((u:Int),(v:Int))/\u < n/\v < n:=by
 obtain⟨x,y⟩:=p
 have q:=w _ h
 simp only at q
 exact⟨x.toNat,y.toNat,by rw[Mq q.1.1,Mq q.2.1],by omega,by omega⟩
def gN {M0 M:OM.Tb}{m:Nat}{D D':Nat->Nat->Prop}(P:OM.Phase M0 M m D)(h:∀a b,D a b↔D' a b):OM.Phase M0 M m D':=λa b=>by rw[P a b,h a b]
def jR {l:List (Int×Int)}{u v a b:Nat}:(((a:Int),(b:Int))∈l\/(a=u/\b=v))↔((a:Int),(b:Int))∈l ++ [((u:Int),(v:Int))]:=by
 rw[KA,Kz,Prod.mk.injEq]
 constructor
 ·rintro (h | ⟨h1,h2⟩)
  ·exact .inl h
  ·exact .inr ⟨by omega,by omega⟩
 ·rintro (h | ⟨h1,h2⟩)
  ·exact .inl h
  ·exact .inr ⟨by omega,by omega⟩
def BQ {M:OM.Tb}{u v a b:Nat}:M.set u v a b=true↔M a b=true\/(a=u/\b=v):=by
 unfold OM.Tb.set
 by_cases c:a=u/\b=v
 ·simp[c]
 ·rw[Ki c];exact⟨.inl,λh=>h.resolve_right c⟩
def HB (n:Nat)(x:V):(List.replicate n [x]).flatten=(List.range n).map λ_=>x:=by
 rw[List.flatten_replicate_singleton,List.map_const',LV]
section
variable {P:Program}{w:World}{K:Frag}{mg:Str->Option Value}{base:Heap}
def z7 (K:Frag):Sp:=λvs H Q _=>∃(n:Nat) (a:Addr) (xs:List V) (ps:List (Int×Int)),vs= [.int n,.ref a]/\1<=n/\n<=8/\(fQ K H a xs\/gk K H a xs)/\aK K H xs ps/\OM.Wn n ps/\
 ∀H' t ws,ah H H'->H t=none->H' t=some (.tup ws)->aK K H' ws (OM.bP n (OM.Tr (OM.Mem ps)))->Q (.ref t) H'
def eR:aI ["many","pairs","corners","leads","a","b","middle"] ["many","pairs"] (au kU):=⟨rfl,rfl,rfl,by decide +kernel,rfl,by decide +kernel,by decide +kernel⟩
def GW:(["start","many"]:List Str).Nodup:=by decide +kernel
def Fj:(["a","b","leads"]:List Str).Nodup:=by decide +kernel
set_option maxHeartbeats 1000000 in
theorem yG {f g:Addr}{fd gd:FuncData}(F:Fn K mg "closed" kU ["many","pairs"] f fd)(G:Fn K mg "every_pair" iU ["many"] g gd)(GE:eV P w K mg base EB 1 g gd ["many"] (v3 K))(B:Bt mg):eV P w K mg base EB 2 f fd ["many","pairs"] (z7 K):=by
 refine F.F.ok eR (λvs H Q E h=>?_) (λcdv A outer s H vs Q E hr h=>?_)
 ·obtain⟨n,a,xs,ps,rfl,_⟩:=h;rfl
 ·obtain⟨n,a,xs,ps,rfl,h1,h8,hq,hp,wn,k⟩:=h
  refine⟨_,eT (nt (i:=2) eR.nd rfl (Or.inl rfl) (kF GE hr rfl G.mg G.F.kp G.b .nil Gz (aG (pv 0) a7)))
   (eT (nt (i:=3) eR.nd rfl (Or.inr rfl) (rj (NB:=["start","many"]) (own:=1) (ixs:=[0]) rfl (lD (by kernel_rfl)) (jI rfl B.range (aG (pv 0) a7))
    (λC ex s3 H3 pn=>bR (i:=0) GW rfl (Or.inl rfl) (hf:=Or.inr rfl)) (λC ex s3 H3 pn=>qZ) (λC ex s3 H3 pn=>sZ Fe (vE (aG wG a7)) (pv 1))))
   (eT (ny PassesOwn.never rfl (Ek (pv 1)) (nD rfl (cQ (bR (i:=4) eR.nd rfl (Or.inl rfl)) (cQ (bR (i:=5) eR.nd rfl (Or.inl rfl)) kX)))
    (dk (qw wG (vL (jw dZ (pv 3) (pv 4) (λ_ _=>rfl)) (pv 5) set_list))))
   (eT (ny PassesOwn.never rfl (jI rfl B.range (aG (pv 0) a7)) (bR (i:=6) eR.nd rfl (Or.inl rfl))
    (dk (ny PassesOwn.never rfl (wz (pv 2)) (nD rfl (cQ (bR (i:=4) eR.nd rfl (Or.inl rfl)) (cQ (bR (i:=5) eR.nd rfl (Or.inl rfl)) kX)))
     (dk (Au (PW.pt (Bm (vS (jw dZ (jw dZ (pv 3) (pv 4) (λ_ _=>rfl)) (pv 6) (λ_ _=>rfl))) (wj (vS (jw dZ (jw dZ (pv 3) (pv 6) (λ_ _=>rfl)) (pv 5) (λ_ _=>rfl))))))
      (dk (qw wG (vL (jw dZ (pv 3) (pv 4) (λ_ _=>rfl)) (pv 5) set_list))) xN)))))
   (dk (lR (fN dY rfl B.tuple (by decide +kernel) (aG (rj (NB:=["a","b","leads"]) (own:=2) (ixs:=[3]) rfl (lD (by kernel_rfl)) (wz (pv 2))
    (λC ex s3 H3 pn=>EX K 0 1 Fj rfl rfl rfl rfl rfl rfl)
    (λC ex s3 H3 pn=>vX (vS (jw (Hm K) (jw (Hm K) (pv 2) (pv 0) (λ_ _=>rfl)) (pv 1) (λ_ _=>rfl)))) (λC ex s3 H3 pn=>vA (aG (pv 0) (aG (pv 1) a7)))) a7))))))),?_⟩
  have hn:=JH h8
  have hn0:(0:Int)<=(n:Int):=by omega
  refine⟨_,rfl,n,rfl,h1,h8,λH1 c ws s1 hc0 hc hw=>?_⟩
  have hwl:ws.length=n * n:=by rw[hw.len,jt]
  have gw:OM.Wn n (OM.fZ n):=λp hp=>OM.fX.mp hp
  refine vN ?_
  refine⟨_,rfl,n,rfl,by omega,by omega,λD hD=>?_⟩
  rw[K6]
  refine sQ (λi σ' H'=>(∃v,σ'= [v,some (.int n)])/\ah H1 H'/\∃r:Nat->Addr,H' D=some (.lst ((List.range i).map λk=>V.ref (r k)))/\
   (∀k,k < i->H' (r k)=some (.lst ((List.range n).map λ_=>V.bl false))/\H1 (r k)=none/\r k≠D)/\∀j k,j < i->k < i->r j=r k->j=k)
   ?_ ?_ ?_
  ·exact⟨⟨none,rfl⟩,(ah.refl H1).put hD (DP hD),λ_=>0,ak,λk hk=>absurd hk (Nat.not_lt_zero _),λj k hj=>absurd hj (Nat.not_lt_zero _)⟩
  ·rintro i σ' H' hi ⟨⟨v,rfl⟩,s2,r,hr0,hr1,hr2⟩
   refine tI ⟨by show 1<=sizeLine;rw[KH];omega,λp hp0=>⟨_,rfl,p,n,[.bl false],rfl,rfl,ak,by omega,by omega,by show 1 * (n:Int).toNat<=sizeLine;rw[KH];omega,λq hq0=>?_⟩⟩
   have hqp:q≠p:=by intro e;subst e;rw[ak] at hq0;cases hq0
   have hq1:H' q=none:=by rw[aq hqp] at hq0;exact hq0
   have hDp:D≠p:=ax hr0 hp0
   have hDq:D≠q:=ax hr0 hq1
   rw[K6,HB]
   refine⟨_,by rw[aq hDq,aq hDp];exact hr0,by rw[Kb,LV,KH];omega,⟨_,rfl⟩,((s2.put (s2.free hp0) (DP hp0)).put (s2.free hq1) (DP hq0)).put hD (Gp (by rw[aq hDq,aq hDp];exact hr0)),λk=>if k=i then q else r k,?_,λk hk=>?_,λj k hj hk e=>?_⟩
   ·have e:(List.range i).map (λk=>V.ref (r k))=(List.range i).map (λk=>V.ref (if k=i then q else r k)):=LM λk hk=>by
     have:=KD.mp hk
     rw[Ki (by omega)]
    rw[ak,List.range_succ,Ls,e]
    simp
   ·dsimp only
    by_cases e:k=i
    ·rw[Kf e]
     exact⟨by rw[aq hDq.symm,ak],s2.free hq1,hDq.symm⟩
    ·rw[Ki e]
     obtain⟨a1,a2,a3⟩:=hr1 k (by omega)
     exact⟨by rw[aq a3,aq (ax a1 hq1),aq (ax a1 hp0)];exact a1,a2,a3⟩
   ·dsimp only at e
    by_cases ej:j=i
    ·by_cases ek:k=i
     ·omega
     ·rw[Kf ej,Ki ek] at e
      exact absurd e.symm (ax (hr1 k (by omega)).1 hq1)
    ·by_cases ek:k=i
     ·rw[Ki ej,Kf ek] at e
      exact absurd e (ax (hr1 j (by omega)).1 hq1)
     ·rw[Ki ej,Ki ek] at e
      exact hr2 j k (by omega) (by omega) e
  rintro σ2 H2 ⟨_,s2,r,hr0,hr1,hr2⟩
  refine⟨⟨_,hr0⟩,?_⟩
  have sep:∀i,i < n->H1 (r i)=none:=λi hi=>(hr1 i hi).2.1
  have T0:TabAt n (λ_ _=>false) D r H2:=⟨hr0,λi hi=>(hr1 i hi).1,hr2,λi hi=>(hr1 i hi).2.2⟩
  refine⟨_,rfl,a,xs,rfl,Cg (H1:=H1) (CN s1 hq) (λi σ' H'=>(∃x y,σ'= [some (.int n),some (.ref a),some (.ref c),some (.ref D),x,y,none])/\ah H1 H'/\∃M,TabAt n M D r H'/\∀u v:Nat,M u v=true↔((u:Int),(v:Int))∈ps.take i)
   ⟨⟨none,none,rfl⟩,s2,_,T0,λu v=>by simp⟩ (λi σ' H' q=>q.2.1) ?_ ?_⟩
  ·rintro i x σ' H' hx ⟨⟨_,_,rfl⟩,s3,M,T,hM⟩
   obtain⟨p,hpi,b,rfl,hb⟩:=(hp.same (s1.trans s3)).at hx
   obtain⟨u,v,rfl,hu,hv⟩:=qr wn (Kj hpi)
   refine As hb ?_
   refine⟨_,rfl,_,rfl,D,_,u,_,rfl,rfl,.inl (.inl T.top),eN hu,_,rfl,r u,_,v,v,rfl,rfl,T.row u hu,pO hv,⟨_,_,rfl⟩,s3.put (sep u hu) (Gp (T.row u hu)),_,T.set hu,λx y=>?_⟩
   rw[take_snoc hpi,<-jR,BQ,hM]
  rintro σ3 H3 ⟨⟨x3,y3,rfl⟩,s3,M3,T3,hM3⟩
  rw[hp.len,take_all] at hM3
  refine⟨_,rfl,n,rfl,by omega,by omega,?_⟩
  rw[K6]
  refine yP (λm σ' H'=>(∃x y z,σ'= [some (.int n),some (.ref a),some (.ref c),some (.ref D),x,y,z])/\ah H1 H'/\∃M,TabAt n M D r H'/\OM.Tab n ps M/\OM.B5 M m)
   ⟨⟨_,_,_,rfl⟩,s3,M3,T3,⟨λa b h=>by have:=wn _ ((hM3 a b).mp h);simp only at this;omega,λa b h=>(hM3 a b).mpr h,λa b h=>.one ((hM3 a b).mp h)⟩,λk a b hk=>absurd hk (Nat.not_lt_zero _)⟩ ?_ ?_
  ·rintro m σ' H' hm ⟨⟨_,_,_,rfl⟩,s4,M,T,TT,Th⟩
   rw[Mo]
   refine⟨_,rfl,c,rfl,⟨ws,.inl (.inl (s4 _ _ hc))⟩,sy (xs:=ws) (λi σ' H'=>(∃x y,σ'= [some (.int n),some (.ref a),some (.ref c),some (.ref D),x,y,some (.int m)])/\ah H1 H'/\∃M',TabAt n M' D r H'/\OM.Phase M M' m λu v=>((u:Int),(v:Int))∈(OM.fZ n).take i)
    ⟨⟨_,_,rfl⟩,s4,M,T,gN (OM.Phase.start M m) λa b=>by simp⟩ (λi σ' H' _ q=>.inl (.inl (q.2.1 _ _ hc))) ?_ ?_⟩
   ·rintro i x σ' H' hx ⟨⟨_,_,rfl⟩,s5,M',T',Ph⟩
    obtain⟨p,hpi,b,rfl,hb⟩:=(hw.same s5).at hx
    obtain⟨u,v,rfl,hu,hv⟩:=qr gw (Kj hpi)
    refine As hb ?_
    have st:=Ph.step u v
    refine⟨_,rfl,_,rfl,D,_,u,_,rfl,rfl,.inl (.inl T'.top),eN hu,_,rfl,r u,_,m,_,rfl,rfl,.inl (.inl (T'.row u hu)),eN hm,_,rfl,?_⟩
    by_cases c1:M' u m=true
    ·refine Ir c1 ?_
     refine⟨_,rfl,_,rfl,D,_,m,_,rfl,rfl,.inl (.inl T'.top),eN hm,_,rfl,r m,_,v,_,rfl,rfl,.inl (.inl (T'.row m hm)),eN hv,_,rfl,?_⟩
     by_cases c2:M' m v=true
     ·refine Ir c2 ?_
      rw[Kf ⟨c1,c2⟩] at st
      refine⟨_,rfl,_,rfl,D,_,u,_,rfl,rfl,.inl (.inl T'.top),eN hu,_,rfl,r u,_,v,v,rfl,rfl,T'.row u hu,pO hv,⟨_,_,rfl⟩,s5.put (sep u hu) (Gp (T'.row u hu)),_,T'.set hu,gN st λa b=>?_⟩
      rw[take_snoc hpi];exact jR
     ·refine Iz c2 ?_
      rw[Ki λz=>c2 z.2] at st
      refine⟨⟨_,_,rfl⟩,s5,_,T',gN st λa b=>?_⟩
      rw[take_snoc hpi];exact jR
    ·refine Iz c1 ?_
     rw[Ki λz=>c1 z.1] at st
     refine pA ⟨⟨_,_,rfl⟩,s5,_,T',gN st λa b=>?_⟩
     rw[take_snoc hpi];exact jR
   ·rintro σ' H' ⟨⟨_,_,rfl⟩,s5,M',T',Ph⟩
    rw[hw.len,take_all] at Ph
    have dn:=Ph.done (n:=n) (λa b ha hb=>OM.fX.mpr ⟨⟨by simp,by simp;omega⟩,by simp,by simp;omega⟩) TT.inn Th
    exact⟨⟨_,_,_,rfl⟩,s5,M',T',TT.phase Ph,dn.1⟩
  rintro σ4 H4 ⟨⟨x4,y4,z4,rfl⟩,s4,M,T,TT,Th⟩
  refine vN ⟨_,rfl,c,rfl,⟨ws,.inl (.inl (s4 _ _ hc))⟩,λD' hD'=>CG (xs:=ws) (λi σ' H'=>(∃x y,σ'= [x,y,some (.ref D)])/\ah H4 H'/\∃vs,H' D'=some (.lst vs)/\aK K H' vs (((OM.fZ n).take i).filter λp=>M p.1.toNat p.2.toNat))
   ⟨⟨_,_,rfl⟩,(ah.refl H4).put hD' (DP hD'),[],ak,.nil⟩ (λi σ' H' _ q=>.inl (.inl (q.2.1 _ _ (s4 _ _ hc)))) ?_ ?_⟩
  ·rintro i x σ' H' hx ⟨⟨_,_,rfl⟩,s5,vs,hv,hpv⟩
   obtain⟨p,hpi,b,rfl,hb⟩:=(hw.same (s4.trans s5)).at hx
   obtain⟨u,v,rfl,hu,hv'⟩:=qr gw (Kj hpi)
   refine As hb ?_
   have T':=T.same s5
   refine⟨_,rfl,_,rfl,D,_,u,_,rfl,rfl,.inl (.inl T'.top),eN hu,_,rfl,r u,_,v,_,rfl,rfl,.inl (.inl (T'.row u hu)),eN hv',_,rfl,?_⟩
   by_cases c1:M u v=true
   ·refine Ir c1 ?_
    refine⟨_,rfl,_,rfl,by show 2<=sizeLine;rw[KH];omega,λp hp0=>?_⟩
    have hpD:D'≠p:=ax hv hp0
    refine⟨vs,by rw[aq hpD];exact hv,?_,⟨_,_,rfl⟩,(s5.put (s5.free hp0) (DP hp0)).put hD' (Gp (by rw[aq hpD];exact hv)),_,ak,?_⟩
    ·rw[hpv.len]
     refine Nat.lt_of_le_of_lt (L9 ..) ?_
     rw[K4,jt,KH];omega
    ·rw[take_snoc hpi,List.filter_append,Mr (by simpa using c1),List.filter_nil]
     have g1:gp H' (upd H' p (.tup [.int u,.int v])):=gp.new hp0
     have g2:∀o,gp (upd H' p (.tup [.int u,.int v])) (upd (upd H' p (.tup [.int u,.int v])) D' o):=λo=>gp.list (by rw[aq hpD];exact hv)
     refine aK.snoc ?_ (hpv.grow (g1.trans (g2 _)))
     exact gk.grow (.inl (.inl ak)) (g2 _)
   ·refine Iz c1 ?_
    refine⟨⟨_,_,rfl⟩,s5,vs,hv,?_⟩
    rw[take_snoc hpi,List.filter_append,Ms (by simpa using c1),List.filter_nil,L5]
    exact hpv
  ·rintro σ' H' ⟨_,s5,vs,hv,hpv⟩
   rw[hw.len,take_all] at hpv
   refine⟨⟨_,hv⟩,D',vs,rfl,.inl ⟨.inl (.inl hv),λt ht=>?_⟩⟩
   have sA:ah H H':=(s1.trans s4).trans s5
   refine k _ t vs (sA.put (sA.free ht) (DP ht)) (sA.free ht) ak ?_
   have e:((OM.fZ n).filter λp=>M p.1.toNat p.2.toNat)=OM.bP n (OM.Tr (OM.Mem ps)):=by
    unfold OM.bP
    refine List.filter_congr λp hp=>?_
    obtain⟨u,v,rfl,hu,hv⟩:=qr gw hp
    have:=TT.all wn Th u v
    simp only[K6]
    rw[LA,this]
    simp
   rw[e] at hpv
   exact hpv.grow (gp.new ht)
end
end RO
namespace RO
open PySem L2 RM
section
variable {P:Program}{w:World}{K:Frag}{mg:Str->Option Value}{base:Heap}{ca:Str->Addr}
def JZ {k:Nat}{f:Addr}{fd:FuncData}{ps:List Str}{sp:Sp}(F:eV P w K mg base EB k f fd ps sp):eV P w K mg base (mn P w) k f fd ps sp:=
 ⟨F.len,λA outer s H args us vs Q E hr he hb hv hs=>Mi (F.run A outer s H args us vs Q E hr he hb hv hs) λr s' h=>by
  cases r with
  |ok x=>cases x <;> exact h
  |error e=>exact h.elim⟩
def vQ {G H:Hp}(s:ah G H){ws:List V}{ps:List Pr}(h:aK K H ws ps):aK K (ku G H) ws ps:=Paired.mapP h λv p ⟨a,e,q⟩=>⟨a,e,n6 s q⟩
def nc {ds:List D}(h:cI ds≠.bad):∃(n:Nat) (d:D) (ps:List Pr),ds= [.int n,d]/\hE d=some (ps.map aL)/\1<=n/\n<=8/\OM.Wn n ps/\cI ds=.ok (.tuple ((OM.bP n (OM.Tr (OM.Mem ps))).map aL)) false:=by
 unfold cI at h
 split at h
 ·rename_i n d
  cases q:hE d with
  |none=>rw[q] at h;exact absurd rfl h
  |some es=>
   rw[q] at h
   dsimp only at h
   cases q2:fo es with
   |none=>rw[q2] at h;exact absurd rfl h
   |some ps=>
    rw[q2] at h
    dsimp only at h
    by_cases c:1<=n/\n<=8/\OM.Wn n.toNat ps
    ·have e:((n.toNat:Nat):Int)=n:=by omega
     refine⟨n.toNat,d,ps,by rw[e],by rw[q,jQ q2],by omega,by omega,c.2.2,?_⟩
     unfold cI
     dsimp only
     rw[q]
     dsimp only
     rw[q2]
     dsimp only
     rw[Kf c]
    ·rw[Ki c] at h;exact absurd rfl h
 ·exact absurd rfl h
def uH {f g:Addr}{fd gd:FuncData}(F:jY K mg "closed" kU ["many","pairs"] f fd)(E:jY K mg "every_pair" iU ["many"] g gd)(B:kh mg):fL P w K mg base ca "closed" ["many","pairs"] 3 cI:=by
 refine⟨⟨f,fd,F.mg,F.F.kp,F.b,((JZ (yG F E (AA E B) B)).mono (by decide)).imp ?_⟩,λds h=>?_⟩
 ·rintro vs H Q X ⟨G,ds,s,hl,r,h⟩
  have hb:cI ds≠.bad:=λz=>by rw[z] at h;exact h
  obtain⟨n,d,ps,rfl,hd,h1,h8,wn,e⟩:=nc hb
  rw[e] at h
  cases r with
  |cons r1 r=>
   cases r with
   |cons r2 r=>
    cases r
    cases r1
    obtain⟨a,xs,rfl,hq,hr⟩:=(ko.seq (B:=none) (G:=G) (H:=G) (.inl r2) hd (ah.refl _))
    refine⟨n,a,xs,ps,rfl,h1,h8,hq.elim (λq=>.inl (s.seq q)) (λq=>.inr (q.grow s.grow)),(hr.pairs).grow s.grow,wn,λH' t ws hh ht ht' hp=>?_⟩
    have s2:=s.trans hh
    refine h (.ref t) (ku G H') H' hh p7 (tw s2) (λb m hb=>by rw[wM hh m];exact hb) ?_
    exact .tup (n6 s2 (.inl (.inl ht'))) (aK.rps (vQ s2 hp))
 ·obtain⟨n,d,ps,rfl,_⟩:=nc h
  rfl
end
end RO
namespace HD
open PySem PySem.W
noncomputable abbrev z6:=@PySem.W.Fast.tw10156331382660048174
noncomputable abbrev Ed:=@PySem.W.Fast.tw11892475500146522536
noncomputable abbrev IG:=@PySem.W.Fast.tw6613529449190102663
noncomputable abbrev E1:=@PySem.W.Fast.tw14364793385576792824
noncomputable abbrev DV:=@PySem.W.Fast.tw17154629097778926822
noncomputable abbrev Ai:=@PySem.W.Fast.tw12822647523644345616
noncomputable def zH (p:Program):Thread:=
 ⟨do
  let code <-DV p.main
  let frame <-Ai code mainNs mainNs
  let _ <-run (.body (behindTheImports p) {scope:=p.main.scope,locals:=mainNs,globals:=mainNs,cells:=[],code,frame:=some frame})
  ret .none,
  .builtin "claim.caller" {},default,[]⟩
def Br (p:Program):topStub p=zH p:=by
 unfold topStub zH DV Ai
 rw[<-PySem.W.Fast.te17154629097778926822,<-PySem.W.Fast.te12822647523644345616]
noncomputable def mO (p:Program)(w:World)(n₀:Nat)(ann:Option Value):Nat->SharedT->Thread->Option SharedT
 | 0,_,_=>none
 |n + 1,s,t=>match through t with
  |true=>some s
  |false=>match IG n₀ ann t with
   |false=>none
   |true=>match z6 (Ed E1) p w s t with
    |some (s',t')=>mO p w n₀ ann n s' t'
    |none=>none
theorem ql {p:Program}{w:World}{n₀:Nat}{ann:Option Value}:∀{n:Nat} {s s':SharedT} {t:Thread},mO p w n₀ ann n s t=some s'->topRun treeTable p w n₀ ann n s.abs t=some s'.abs
 | 0,_,_,_,h=>by cases h
 |n + 1,s,s',t,h=>by
  unfold mO at h
  unfold topRun
  cases ht:through t with
  |true=>rw[ht] at h;cases h;rfl
  |false=>
   rw[ht] at h
   have hq:IG n₀ ann t=stepOk n₀ ann t:=by unfold IG;rw[<-PySem.W.Fast.te6613529449190102663]
   dsimp only at h
   rw[hq] at h
   cases hk:stepOk n₀ ann t with
   |false=>rw[hk] at h;cases h
   |true=>
    rw[hk] at h
    have hq:z6 (Ed E1) p w s t=stepT (denote treeTable) p w s t:=by unfold z6 Ed E1;rw[<-PySem.W.Fast.te10156331382660048174,<-PySem.W.Fast.te11892475500146522536,<-PySem.W.Fast.te14364793385576792824]
    dsimp only at h
    rw[hq] at h
    cases hs:stepT (denote treeTable) p w s t with
    |none=>rw[hs] at h;cases h
    |some r=>obtain⟨s₂,t₂⟩:=r;rw[hs] at h;rw[stepT_spec hs];exact ql h
def treeOf (l:List Obj):BT:=(l.foldl (λ(x:BT×Nat) o=>(x.1.ins x.2 o,x.2 + 1)) (.nil,0)).1
noncomputable def zC (P:Params):BT:=treeOf (boot_heap P).objs.toList
abbrev sg:Nat:=11
abbrev AL:Life:={}
def boot_abs (P:Params):absHeap (zC P) sg AL=boot_heap P:=by kernel_rfl
def yF (w:World):((boot_heap w.params).isNs mainGlobals && (Array.mk ([]:List GenState)).size == 0,(boot_heap w.params).objs.size,(boot_heap w.params).nsMap mainGlobals "__annotations__")=(true,sg,some (.ref 6)):=by kernel_rfl
noncomputable def Ae (w:World)(os:OsState):SharedT:=⟨zC w.params,sg,AL,Array.mk [],boot_drawn,boot_toks,os⟩
noncomputable def DW (p:Program)(w:World)(s:Shared):Bool:=staticsOk (importedModules p.main.body) (boot_heap w.params) s.heap && namesBound p s.heap && gensDone s && laidKept (boot_heap w.params) s.heap
def BN {p q:Program}{loose:List Str}{Xt:Shared->Bool}{α:Type}{Yf:Shared->α}{Ya:World->α}{N:Nat}{g0:Bool}
  (e:opening p=plainProg p.main.scope.names) (hN:Nat.ble 600 N=true) (f:∀s,fenceModules? p s=some s)
  (run:∀(w:World) (os:OsState),(mO p w sg (some (.ref 6)) N (Ae w os) (zH p)).map (λs=>(DW p w s.abs,openSeen q loose (importedModules p.main.body) Xt g0 s.abs,Yf s.abs))=some (true,openGood q loose,Ya w)):LeftO p q loose Xt Yf Ya N g0:=λw=>by
 obtain⟨⟨h,gs,d,k,os⟩,e,e'⟩:=Option.map_eq_some_iff.mp (boot_open e hN f w)
 obtain⟨rfl,rfl,rfl,rfl⟩:h=boot_heap w.params/\gs=Array.mk []/\d=boot_drawn/\k=boot_toks:=by simpa using e'
 obtain⟨z1,z2,z3⟩:_/\_/\_:=by simpa only [Prod.mk.injEq] using yF w
 obtain⟨s',r,ls⟩:=Option.map_eq_some_iff.mp (run w os)
 obtain⟨l1,l2,l3⟩:_/\_/\_:=by simpa only [Prod.mk.injEq] using ls
 have r:=ql r
 have ha:(Ae w os).abs=⟨boot_heap w.params,Array.mk [],boot_drawn,boot_toks,os⟩:=by
  show Shared.mk (absHeap (zC w.params) sg AL) _ _ _ _=_
  rw[boot_abs]
  rfl
 rw[ha,<-Br] at r
 have t:topFrom treeTable p w N ⟨boot_heap w.params,Array.mk [],boot_drawn,boot_toks,os⟩=some s'.abs:=by
  unfold topFrom
  dsimp only
  rw[z1,z2,z3,r]
  show (match DW p w s'.abs with |true=>_ |false=>_)=_
  rw[l1]
 unfold openEnds
 rw[e]
 show (topFrom treeTable p w N _).map _=_
 rw[t]
 exact congrArg some (Prod.ext l2 l3)
end HD
section
namespace RO
open PySem L2 RM
def wt (K:Frag):Sp:=λvs H Q _=>∃(a:Addr) (ns:List Int),vs= [.ref a]/\fQ K H a (ns.map V.int)/\∀H',ah H H'->Q (.bl true) H'
def Fv {K:Frag}{ca:Str->Addr}(vs:List V)(H:Hp)(Q:VK)(E:XK)(h:wt K vs H Q E):BE K ca 1 Fh vs H Q E:=by
 obtain⟨a,ns,rfl,hS,q⟩:=h
 refine⟨H,[cA ns],ah.refl _,rfl,.cons (.scr hS) .nil,?_⟩
 rw[Gn]
 intro v G' H' s1 s2 s3 s4 fv
 have fv:Rp K G' v (.bool true):=fv
 cases fv
 exact q H' s1
def uU:bc "is_whole" RQ.iu ["thing"]:=λ_ _ _ _ _ _=>BC λ_=>rfl
def vH:bc "is_below" RQ.i4 ["thing","bound"]:=λ_ _ _ _ _ _=>ln2 λ_ _=>rfl
def yX:bc "is_many" RQ.jL ["thing"]:=λ_ _ _ _ _ _=>BC λ_=>rfl
def yy:bc "is_pair" RQ.jK ["thing","many"]:=λ_ _ _ _ _ _=>ln2 λ_ _=>rfl
def rq:bc "every_pair" RQ.du ["many"]:=λ_ _ _ _ _ _=>BC λ_=>rfl
def zO:bc "closed" kU ["many","pairs"]:=λ_ _ _ _ _ _=>ln2 λ_ _=>rfl
def vi:bc "has_ring" RQ.iq ["pairs"]:=λ_ _ _ _ _ _=>BC λ_=>rfl
def vO:bc "is_order" RQ.i3 ["thing"]:=λ_ _ _ _ _ _=>BC λ_=>rfl
def qG:bc "need_order" RQ.fA ["thing"]:=λ_ _ _ _ _ _=>BC λ_=>rfl
def sv:bc "are_apart" RQ.gC ["order","a","b"]:=λ_ _ _ _ _ _=>Jv λ_ _ _=>rfl
def FC:bc "fits" RQ.rn ["order","chain","thing"]:=λ_ _ _ _ _ _=>Jv λ_ _ _=>rfl
def uD:bc "is_chain" RQ.iH ["thing","order"]:=λ_ _ _ _ _ _=>ln2 λ_ _=>rfl
def qt:bc "are_chains" RQ.fF ["thing","order"]:=λ_ _ _ _ _ _=>ln2 λ_ _=>rfl
def sW:bc "_law_cell" RQ.gz ["script","k"]:=λ_ _ _ _ _ _=>ln2 λ_ _=>rfl
def uQ:bc "_law_mix" RQ.dD ["cell","k"]:=λ_ _ _ _ _ _=>ln2 λ_ _=>rfl
def vc:bc "_law_box" RQ.iE ["script","k"]:=λ_ _ _ _ _ _=>ln2 λ_ _=>rfl
def sY:bc "_law_take" RQ.gu ["box","many"]:=λ_ _ _ _ _ _=>ln2 λ_ _=>rfl
def qO:bc "_law_whole" RQ.fD ["thing"]:=λ_ _ _ _ _ _=>BC λ_=>rfl
def rA:bc "_law_truth" RQ.fK ["found","due"]:=λ_ _ _ _ _ _=>ln2 λ_ _=>rfl
def uL:bc "_law_odd" RQ.i9 ["box"]:=λ_ _ _ _ _ _=>BC λ_=>rfl
def mw:bc "_law_mixed_up" RQ.cS ["box","some"]:=λ_ _ _ _ _ _=>ln2 λ_ _=>rfl
def oW:bc "_law_closed" RQ.dS ["pairs"]:=λ_ _ _ _ _ _=>BC λ_=>rfl
def rQ:bc "_law_order" RQ.fE ["box","most"]:=λ_ _ _ _ _ _=>ln2 λ_ _=>rfl
def qK:bc "_law_apart" RQ.fB ["order","a","b"]:=λ_ _ _ _ _ _=>Jv λ_ _ _=>rfl
def vM:bc "_law_are" RQ.iA ["thing","order"]:=λ_ _ _ _ _ _=>ln2 λ_ _=>rfl
def pk:bc "_law_parted" RQ.dU ["box","order"]:=λ_ _ _ _ _ _=>ln2 λ_ _=>rfl
def sD:bc "_law_bent" RQ.gG ["box","some","many","odd"]:=λ_ _ _ _ _ _=>JY λ_ _ _ _=>rfl
def all_mk {l:PySem.W.OpenLaw}{w:World}{K:Frag}{h:Heap}{mg:Str->Option Value}{fa f28 x0:Addr}(X:K.In h)(G:h.Ns mainGlobals mg)(hfa:mg "law"=some (.ref fa))
  {od28 an28:Option Addr} {sl28:Array (Option Value)} {oc28 kV28 dc28 pm28 cd28 ct28:Value} {tMOST_THINGS:Tok}
  (F1:Fo K mg "is_whole" RQ.iu ["thing"])
  (F2:Fo K mg "is_below" RQ.i4 ["thing","bound"])
  (F3:Fo K mg "is_many" RQ.jL ["thing"])
  (F4:Fo K mg "is_pair" RQ.jK ["thing","many"])
  (F5:Fo K mg "every_pair" RQ.du ["many"])
  (F6:Fo K mg "closed" kU ["many","pairs"])
  (F7:Fo K mg "has_ring" RQ.iq ["pairs"])
  (F8:Fo K mg "is_order" RQ.i3 ["thing"])
  (F9:Fo K mg "need_order" RQ.fA ["thing"])
  (F10:Fo K mg "are_apart" RQ.gC ["order","a","b"])
  (F11:Fo K mg "fits" RQ.rn ["order","chain","thing"])
  (F12:Fo K mg "is_chain" RQ.iH ["thing","order"])
  (F13:Fo K mg "are_chains" RQ.fF ["thing","order"])
  (F14:Fo K mg "_law_cell" RQ.gz ["script","k"])
  (F15:Fo K mg "_law_mix" RQ.dD ["cell","k"])
  (F16:Fo K mg "_law_box" RQ.iE ["script","k"])
  (F17:Fo K mg "_law_take" RQ.gu ["box","many"])
  (F18:Fo K mg "_law_whole" RQ.fD ["thing"])
  (F19:Fo K mg "_law_truth" RQ.fK ["found","due"])
  (F20:Fo K mg "_law_odd" RQ.i9 ["box"])
  (F21:Fo K mg "_law_mixed_up" RQ.cS ["box","some"])
  (F22:Fo K mg "_law_closed" RQ.dS ["pairs"])
  (F23:Fo K mg "_law_order" RQ.fE ["box","most"])
  (F24:Fo K mg "_law_apart" RQ.fB ["order","a","b"])
  (F25:Fo K mg "_law_are" RQ.iA ["thing","order"])
  (F26:Fo K mg "_law_parted" RQ.dU ["box","order"])
  (F27:Fo K mg "_law_bent" RQ.gG ["box","some","many","odd"])
  (a28:PySem.W.nsIn K mainGlobals "law"=some (some (.ref f28))) (l28:K.lookup f28=some ⟨oc28,od28,.func (PySem.W.fnOf "law" "law" (gy RQ.j4) (cu RQ.j4) (au RQ.j4) .none kV28 dc28 pm28 an28 cd28 ct28),sl28⟩) (c28:PySem.W.codeIn K cd28 "law"=true) (k28:PySem.W.keepIn K (.ref f28)=true)
  (zB:IE K=true)
  (yMOST_THINGS:PySem.W.nsIn K mainGlobals "MOST_THINGS"=some (some (.int 8 tMOST_THINGS)))
  (m0:PySem.W.nsIn K mainGlobals "NoOrder"=some (some (.ref x0)))
  (e0:PySem.W.excIn K x0 [.type "ValueError",.type "Exception",.type "BaseException",.type "object"] "ValueError.__new__"=true)
  :∃fd:FuncData,(∀(s:Shared) (v:Value),BindsTo s fd ⟨[v],[]⟩ [("script",v)])/\∀base:Heap,K.In base->base.Ns mainGlobals mg->eV l.prog w K mg base (mn l.prog w) 7 fa fd ["script"] (wt K):=by
 have e:=hfa.symm.trans (PySem.W.mg_of X G a28)
 cases e
 have B:kh mg:=GF X G zB
 have gO:=PySem.W.mg_of X G yMOST_THINGS
 obtain⟨f1,d1,bH⟩:=F1.ex
 obtain⟨f2,d2,bw⟩:=F2.ex
 obtain⟨f3,d3,fP⟩:=F3.ex
 obtain⟨f4,d4,fO⟩:=F4.ex
 obtain⟨f5,d5,lb⟩:=F5.ex
 obtain⟨f6,d6,ig⟩:=F6.ex
 obtain⟨f7,d7,dH⟩:=F7.ex
 obtain⟨f8,d8,dF⟩:=F8.ex
 obtain⟨f9,d9,cF⟩:=F9.ex
 obtain⟨f10,d10,c6⟩:=F10.ex
 obtain⟨f11,d11,lM⟩:=F11.ex
 obtain⟨f12,d12,dB⟩:=F12.ex
 obtain⟨f13,d13,cG⟩:=F13.ex
 obtain⟨f14,d14,c4⟩:=F14.ex
 obtain⟨f15,d15,dR⟩:=F15.ex
 obtain⟨f16,d16,dA⟩:=F16.ex
 obtain⟨f17,d17,av⟩:=F17.ex
 obtain⟨f18,d18,cC⟩:=F18.ex
 obtain⟨f19,d19,cz⟩:=F19.ex
 obtain⟨f20,d20,dQ⟩:=F20.ex
 obtain⟨f21,d21,aN⟩:=F21.ex
 obtain⟨f22,d22,cm⟩:=F22.ex
 obtain⟨f23,d23,cH⟩:=F23.ex
 obtain⟨f24,d24,aZ⟩:=F24.ex
 obtain⟨f25,d25,dJ⟩:=F25.ex
 obtain⟨f26,d26,cj⟩:=F26.ex
 obtain⟨f27,d27,c7⟩:=F27.ex
 have U28:=vm (st:=RQ.j4) l28 c28 k28
 have Gu:jY K mg "law" RQ.j4 ["script"] fa _:=⟨PySem.W.mg_of X G a28,U28,U28.binds (ps:=["script"]) λ_ _ _ _ _ _=>BC λ_=>rfl⟩
 obtain⟨ca,hca⟩:∃ca:Str->Addr,ca "NoOrder"=x0:=⟨λ_=>x0,by first |rfl |decide |simp⟩
 have hU:Exc K mg ca "NoOrder":=⟨by rw[hca];exact PySem.W.mg_of X G m0,by rw[hca];exact e0⟩
 refine⟨PySem.W.fnOf "law" "law" (gy RQ.j4) (cu RQ.j4) (au RQ.j4) .none kV28 dc28 pm28 an28 cd28 ct28,λs v=>.of_eq rfl,λbase _ _=>?_⟩
 have dN:=(RQ.qQ (P:=l.prog) (w:=w) (base:=base) (ca:=ca) bH B).imp v7
 have cZ:=(RQ.rN (P:=l.prog) (w:=w) (base:=base) (ca:=ca) bw B dN).imp Ct
 have lG:=(RQ.tX (P:=l.prog) (w:=w) (base:=base) (ca:=ca) fP B dN gO).imp Ei
 have lA:=(RQ.sS (P:=l.prog) (w:=w) (base:=base) (ca:=ca) fO B cZ).imp EG
 have Cc:=RQ.ot (P:=l.prog) (w:=w) (base:=base) (ca:=ca) lb B
 have nI:=uH (P:=l.prog) (w:=w) (base:=base) (ca:=ca) ig lb B
 have j7:=(RQ.qW (P:=l.prog) (w:=w) (base:=base) (ca:=ca) dH B).imp Ez
 have kx:=(RQ.rb (P:=l.prog) (w:=w) (base:=base) (ca:=ca) dF B lG lA nI j7).imp vU
 have iM:=(RQ.nK (P:=l.prog) (w:=w) (base:=base) (ca:=ca) cF B kx hU).imp C9
 have jr:=RQ.o5 (P:=l.prog) (w:=w) (base:=base) (ca:=ca) c6 B
 have vJ:=RQ.AH (P:=l.prog) (w:=w) (base:=base) (ca:=ca) lM B jr
 have j8:=RQ.qu (P:=l.prog) (w:=w) (base:=base) (ca:=ca) dB B cZ vJ
 have iO:=RQ.nS (P:=l.prog) (w:=w) (base:=base) (ca:=ca) cG B iM j8
 have jz:=RQ.pj (P:=l.prog) (w:=w) (base:=base) (ca:=ca) c4 B
 have kl:=RQ.rW (P:=l.prog) (w:=w) (base:=base) (ca:=ca) dR B
 have kf:=RQ.qH (P:=l.prog) (w:=w) (base:=base) (ca:=ca) dA B jz kl
 have aC:=RQ.oS (P:=l.prog) (w:=w) (base:=base) av B
 have iQ:=RQ.m8 (P:=l.prog) (w:=w) (base:=base) (ca:=ca) cC B
 have ja:=RQ.oi (P:=l.prog) (w:=w) (base:=base) (ca:=ca) cz B
 have kj:=RQ.rY (P:=l.prog) (w:=w) (base:=base) dQ B aC
 have bK:=RQ.kR (P:=l.prog) (w:=w) (base:=base) aN B aC
 have gY:=RQ.mr (P:=l.prog) (w:=w) (base:=base) (ca:=ca) cm B
 have iy:=RQ.nr (P:=l.prog) (w:=w) (base:=base) (ca:=ca) cH B gY aC bK
 have cy:=RQ.oC (P:=l.prog) (w:=w) (base:=base) (ca:=ca) aZ B
 have ki:=RQ.ra (P:=l.prog) (w:=w) (base:=base) (ca:=ca) dJ B iQ cy
 have gX:=RQ.mF (P:=l.prog) (w:=w) (base:=base) (ca:=ca) cj B cy aC bK
 have jo:=RQ.pe (P:=l.prog) (w:=w) (base:=base) c7 B aC
 have GY:=RQ.Co (P:=l.prog) (w:=w) (base:=base) (ca:=ca) Gu B kf ja iO ki iy gX kj jo
 exact eV.imp (sp:=BE K ca 1 Fh) GY Fv
def walk {l:PySem.W.OpenLaw}{q:Program}{loose:List Str}{XP:(Str->Option Value)->Heap->Prop}{YP:World->Heap->Prop}{d:DefRec}{K:Params->Frag}(hn:l.most=some 63)(hdf:d.params.defaults= [])(hi:PyProof.Rows.importsNone q=true)
  (hY:∀(w:World) (h:Heap),YP w h->(K w.params).In h)
  (F:∀(w:World) (mg:Str->Option Value) (fa:Addr) (h:Heap),(K w.params).In h->h.Ns mainGlobals mg->mg d.name=some (.ref fa)->
   ∃fd:FuncData,(∀(s:Shared) (u:Value),BindsTo s fd ⟨[u],[]⟩ [("script",u)])/\∀base:Heap,(K w.params).In base->base.Ns mainGlobals mg->eV l.prog w (K w.params) mg base (mn l.prog w) 7 fa fd ["script"] (wt (K w.params))) :
  PySem.W.WalkO q loose XP YP l.row.toRowW d [] (λf vs=>PySem.call f vs):=
 L2.Dv (n:=63) (k:=7) (x:="script") (CX:=λw=>mn l.prog w) (sp:=λw=>wt (K w.params)) hn (by decide) hdf hi ⟨rfl,by decide,by decide,rfl⟩ hY F (λ_ _ a ns hl _ hS=>⟨a,ns,rfl,hS,λ_ _=>rfl⟩) λ_ _ _ _ _ z=>by
  obtain⟨_,_,_,_,_,_,_,_,_,z⟩:=z
  exact z
end RO
namespace HD
noncomputable def vw:PySem.Program:=PySem.W.view PySem.Challenge.pw_rowsorder_k18_chains_looked_at [1,2,3,4,5,6,8,9,11,12,13,14,15,17,18,19,21,22,23,24,25,26,27,28,29,30,31,32,33,34,35]
def GL:PySem.Challenge.rw_rowsorder_k18_chains_looked_at.wellSaid=true:=by kernel_rfl
end HD
local macro_rules | `(tactic|o_head $H)=>`(tactic| (
 refine PySem.W.holds_open (q:=HD.vw) (loose:=[]) (Xt:=λs=>PySem.W.xlAt HD.vw [] s && PySem.W.recOk (PySem.W.RowW.records _) s) (XP:=PySem.W.XL HD.vw []) (Yf:=PySem.W.Hook.obs $H) (Ya:=PySem.W.Hook.val $H) (YP:=PySem.W.Hook.says $H) (N:=2664) ?hl (PySem.W.Hook.of $H) (PySem.W.Hook.keeps $H) (λs e=>PySem.W.xl_of s (Bool.and_eq_true_iff.mp e).1) PySem.W.XL.keeps (by rfl) (by rfl) (by rfl) (λs e=>PySem.W.recFacts_of (Bool.and_eq_true_iff.mp e).2) (by rfl) (by first |assumption |decide +kernel) (by decide +kernel) ⟨rfl,rfl,rfl,rfl,rfl,by decide +kernel⟩ ?hw ?hc
 case hl=>exact HD.BN (by kernel_rfl) (by kernel_rfl) (λs=>by kernel_rfl) (λw os=>by kernel_rfl)))
open PySem PySem.W PyProof.Rows L2
set_option maxRecDepth 100000 in
set_option maxHeartbeats 0 in
theorem PySem.Challenge.cw_rowsorder_k18_chains_looked_at_holds : PySem.Challenge.rw_rowsorder_k18_chains_looked_at.Holds := by
 w_on;(refine holds_law HD.GL λGL=>?_);k_head;(case hw=>w_witness2)
 k_fill
 refine RO.walk (l:=PySem.Challenge.rw_rowsorder_k18_chains_looked_at) rfl rfl ?hi (λw h Y=>PySem.W.kIn_of Y) ?F
 case hi=>kernel_rfl
 case F=>
  intro w mg fa h KX G hmg
  refine' RO.all_mk KX G hmg ?F1 ?F2 ?F3 ?F4 ?F5 ?F6 ?F7 ?F8 ?F9 ?F10 ?F11 ?F12 ?F13 ?F14 ?F15 ?F16 ?F17 ?F18 ?F19 ?F20 ?F21 ?F22 ?F23 ?F24 ?F25 ?F26 ?F27 ?a28 ?l28 ?c28 ?k28 ?zB ?yMOST_THINGS ?m0 ?e0
  case F1=>refine' b4 KX G RO.uU ?a ?l ?c ?k;(case a=>k_is);(case l=>k_is);(case c=>k_is);(case k=>k_is)
  case F2=>refine' b4 KX G RO.vH ?a ?l ?c ?k;(case a=>k_is);(case l=>k_is);(case c=>k_is);(case k=>k_is)
  case F3=>refine' b4 KX G RO.yX ?a ?l ?c ?k;(case a=>k_is);(case l=>k_is);(case c=>k_is);(case k=>k_is)
  case F4=>refine' b4 KX G RO.yy ?a ?l ?c ?k;(case a=>k_is);(case l=>k_is);(case c=>k_is);(case k=>k_is)
  case F5=>refine' b4 KX G RO.rq ?a ?l ?c ?k;(case a=>k_is);(case l=>k_is);(case c=>k_is);(case k=>k_is)
  case F6=>refine' b4 KX G RO.zO ?a ?l ?c ?k;(case a=>k_is);(case l=>k_is);(case c=>k_is);(case k=>k_is)
  case F7=>refine' b4 KX G RO.vi ?a ?l ?c ?k;(case a=>k_is);(case l=>k_is);(case c=>k_is);(case k=>k_is)
  case F8=>refine' b4 KX G RO.vO ?a ?l ?c ?k;(case a=>k_is);(case l=>k_is);(case c=>k_is);(case k=>k_is)
  case F9=>refine' b4 KX G RO.qG ?a ?l ?c ?k;(case a=>k_is);(case l=>k_is);(case c=>k_is);(case k=>k_is)
  case F10=>refine' b4 KX G RO.sv ?a ?l ?c ?k;(case a=>k_is);(case l=>k_is);(case c=>k_is);(case k=>k_is)
  case F11=>refine' b4 KX G RO.FC ?a ?l ?c ?k;(case a=>k_is);(case l=>k_is);(case c=>k_is);(case k=>k_is)
  case F12=>refine' b4 KX G RO.uD ?a ?l ?c ?k;(case a=>k_is);(case l=>k_is);(case c=>k_is);(case k=>k_is)
  case F13=>refine' b4 KX G RO.qt ?a ?l ?c ?k;(case a=>k_is);(case l=>k_is);(case c=>k_is);(case k=>k_is)
  case F14=>refine' b4 KX G RO.sW ?a ?l ?c ?k;(case a=>k_is);(case l=>k_is);(case c=>k_is);(case k=>k_is)
  case F15=>refine' b4 KX G RO.uQ ?a ?l ?c ?k;(case a=>k_is);(case l=>k_is);(case c=>k_is);(case k=>k_is)
  case F16=>refine' b4 KX G RO.vc ?a ?l ?c ?k;(case a=>k_is);(case l=>k_is);(case c=>k_is);(case k=>k_is)
  case F17=>refine' b4 KX G RO.sY ?a ?l ?c ?k;(case a=>k_is);(case l=>k_is);(case c=>k_is);(case k=>k_is)
  case F18=>refine' b4 KX G RO.qO ?a ?l ?c ?k;(case a=>k_is);(case l=>k_is);(case c=>k_is);(case k=>k_is)
  case F19=>refine' b4 KX G RO.rA ?a ?l ?c ?k;(case a=>k_is);(case l=>k_is);(case c=>k_is);(case k=>k_is)
  case F20=>refine' b4 KX G RO.uL ?a ?l ?c ?k;(case a=>k_is);(case l=>k_is);(case c=>k_is);(case k=>k_is)
  case F21=>refine' b4 KX G RO.mw ?a ?l ?c ?k;(case a=>k_is);(case l=>k_is);(case c=>k_is);(case k=>k_is)
  case F22=>refine' b4 KX G RO.oW ?a ?l ?c ?k;(case a=>k_is);(case l=>k_is);(case c=>k_is);(case k=>k_is)
  case F23=>refine' b4 KX G RO.rQ ?a ?l ?c ?k;(case a=>k_is);(case l=>k_is);(case c=>k_is);(case k=>k_is)
  case F24=>refine' b4 KX G RO.qK ?a ?l ?c ?k;(case a=>k_is);(case l=>k_is);(case c=>k_is);(case k=>k_is)
  case F25=>refine' b4 KX G RO.vM ?a ?l ?c ?k;(case a=>k_is);(case l=>k_is);(case c=>k_is);(case k=>k_is)
  case F26=>refine' b4 KX G RO.pk ?a ?l ?c ?k;(case a=>k_is);(case l=>k_is);(case c=>k_is);(case k=>k_is)
  case F27=>refine' b4 KX G RO.sD ?a ?l ?c ?k;(case a=>k_is);(case l=>k_is);(case c=>k_is);(case k=>k_is)
  case a28=>k_is
  case l28=>k_is
  case c28=>k_is
  case k28=>k_is
  case zB=>kernel_rfl
  case yMOST_THINGS=>k_is
  case m0=>k_is
  case e0=>kernel_rfl
end
