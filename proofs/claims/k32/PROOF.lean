import PyProof.Rows.All
import Wide.All
import OpenK.AllK
import Wide.FinOn
import Lean
import PyProof.EqAt
import PyProof.EqKinds
import PyProof.TupleCall
import PySem.SetOps
import PyProof.SetKind
import PyProof.TupleKey
import PyProof.DictKinds
import PyProof.Rows.SetFrom
import PyProof.WalksMore
import KE.KSortTup
import PyProof.CollectWalk
import PyProof.ExcArgsOwn
import PyProof.Rows.CountFlat
import PyProof.Rows.SeqMore2
import PyProof.Rows.FStr
import PyProof.Rows.StrWeight2
import PyProof.Rows.StrNews
import PyProof.StrLawsTight
import PyProof.ExcBaseAll.ValueError
import PyProof.ZipIter
import PyProof.CallFns
import PyProof.Draws
import PyProof.EnumMake
import PyProof.SetRoads
import PyProof.Rows.SortWalk
import PyProof.SeqI3
import PyProof.Rows.SortShell
import PyProof.Rows.Range3
import KE.KStateDown
import PyProof.Rows.SumAny
import PyProof.ListRange
import PySem.Challenge.RW_rowsorder_k32_points_and_two_rows
set_option Elab.async false
set_option linter.all false
set_option maxRecDepth 100000
set_option maxHeartbeats 1000000
def KA:=@PySem.wpAny_bind
def KC:=@PySem.Heap.get?_push_of_some
def KD:=@List.length_map
def KG:=@List.mem_cons
def KH:=@if_pos
def KI:=@Nat.le_refl
def KJ:=@PySem.Heap.lt_size
def KL:=@List.mem_cons_of_mem
def KN:=@List.getElem?_eq_some_iff
def KO:=@List.mem_cons_self
def KP:=@Bool.and_eq_true
def KQ:=@List.getElem?_set_self
def KR:=@List.getElem?_eq_getElem
def KS:=@List.getElem?_set_ne
def KU:=@List.size_toArray
def KW:=@List.getElem?_map
def KY:=@decide_eq_true
def KZ:=@if_neg
def K0:=@PySem.Heap.get?_push_size
def K1:=@decide_eq_false
def K2:=@Bool.false_ne_true
def K3:=@PySem.wpAny_pure
def K4:=@List.length_cons
def K5:=@List.not_mem_nil
def K6:=@Nat.lt_of_lt_of_le
def K7:=@decide_eq_true_eq
def K8:=@List.mem_filter
def K9:=@List.mem_of_getElem?
def Ld:=@PySem.sizeLine_eq
def Lf:=@Nat.ne_of_lt
def Lg:=@PySem.Heap.get?_update_other
def Lj:=@PySem.W.mg_of
def Lk:=@List.mem_append
def Lm:=@List.map_map
def Ln:=@List.map_cons
def Lo:=@List.mem_map
def Lp:=@Int.toNat_natCast
def Lq:=@Bool.eq_iff_iff
def Lr:=@PySem.W.kia_one
def Ls:=@List.length_append
def Lu:=@List.idxOf_lt_length_iff
def Lv:=@List.mem_singleton
def Lw:=@List.mem_append_right
def Lx:=@List.all_eq_true
def Lz:=@List.getElem?_append_left
def LA:=@Nat.le_trans
def LB:=@List.replicate_succ
def LC:=@Nat.zero_le
def LD:=@of_decide_eq_true
def LF:=@or_false
def LG:=@List.getElem?_append_right
def LH:=@Nat.mul_le_mul
def LI:=@List.nodup_cons
def LJ:=@List.length_set
def LK:=@Nat.zero_add
def LL:=@Nat.lt_irrefl
def LM:=@List.mem_range
def LN:=@PySem.Heap.get?_update_self
def LO:=@List.getElem?_eq_none
def LP:=@Bool.false_eq_true
def LQ:=@List.map_congr_left
def LR:=@List.length_take
def LS:=@List.set_eq_of_length_le
def LU:=@List.getElem?_replicate
def LV:=@PySem.wpAny_truthy_bool
def LW:=@PyProof.Rows.callWith_type1
def LX:=@List.getElem?_range
def LY:=@PySem.wpAny_field
def LZ:=@Int.zero_add
def L3:=@PySem.wpAny_mono
def L4:=@List.length_replicate
def L5:=@PySem.boot_len
def L6:=@List.mem_append_left
def L7:=@Nat.ne_of_gt
def L8:=@List.eq_of_mem_replicate
def L9:=@List.flatten_cons
def Ma:=@List.length_range
def Mb:=@PySem.F.plainAttrs_list
def Mc:=@PySem.mem_of_lookup
def Me:=@List.mem_filterMap
def Mf:=@PySem.wpAny_Call_Name_kw
def Mg:=@List.getElem_idxOf
def Mh:=@PySem.wpAny_passesOwn
def Mi:=@if_true
def Mj:=@List.length_filter_le
def Mk:=@List.all_cons
def Ml:=@Array.getElem?_eq_some_iff
def Mm:=@List.nodup_iff_pairwise_ne
def Mn:=@List.pairwise_map
def Mo:=@Bool.not_eq_true'
def Mp:=@Nat.lt_succ_of_lt
def Mq:=@List.filter_congr
def Mr:=@PySem.Heap.size_push
def Ms:=@Option.isSome_iff_exists
def Mu:=@if_false
def Mv:=@List.lookup_cons
def Mw:=@PySem.F.called_set
def My:=@PySem.wpAny_holding
def Mz:=@List.any_cons
def MA:=@PySem.strLen_append
def MB:=@PySem.wpAny_pyIter_tuple
def MC:=@List.map_append
def MD:=@PySem.SeqAt.canLay_of_shaped
def ME:=@PySem.wpAny_pyIter_list
def MF:=@PySem.codeAny_mono
def MG:=@List.all_map
def MH:=@PySem.call_meets
def MI:=@List.getD_eq_getElem?_getD
def MJ:=@PySem.F.plain_extend_loop
def ML:=@PySem.wpAny_execs_nil
def MM:=@List.append_nil
def MN:=@Nat.not_lt_zero
def MO:=@Bool.or_eq_true
def MP:=@List.Pairwise.imp_of_mem
def MQ:=@PySem.Obj.data_mapFields
def MR:=@PySem.AutoSeq1.wpAny_loadPart'
def MS:=@PySem.wpAny_setField
def MT:=@PySem.wpAny_newObj_type
def MU:=@List.append_assoc
def MV:=@PySem.wpAny_pyIter_enum
def MW:=@List.idxOf_append
open List (of_mem_zip map_nil length_drop foldl_cons set_set)
open PySem.W (Frag)
open PySem.PyData (int)
section
set_option Elab.async false
namespace L2
open PySem PySem.Spec PyProof.Rows
abbrev Key:=Sum Int Str
def oH:Key->Value->Bool
 | .inl k,v=>Value.isInt k v
 | .inr x,v=>Value.isStrOf x v
def JO (w:World):Key->Int
 | .inl k=>hashInt k
 | .inr x=>hashStr w x
theorem bD:∀{k:Key} {v:Value},oH k v=true->(∃i t,k=Sum.inl i/\v=Value.int i t)\/(∃x t,k=Sum.inr x/\v=Value.str x t)
 | .inl i,v,h=>by
  obtain⟨t,e⟩:=Value.isInt_shape (k:=i) (v:=v) h
  exact .inl ⟨i,t,rfl,e⟩
 | .inr x,v,h=>by
  obtain⟨t,e⟩:=Value.isStrOf_shape (x:=x) (v:=v) h
  exact .inr ⟨x,t,rfl,e⟩
def yL (i:Int)(t:Tok):oH (.inl i) (.int i t)=true:=by simp[oH,Value.isInt]
def yn (x:Str)(t:Tok):oH (.inr x) (.str x t)=true:=by simp[oH,Value.isStrOf]
def Ez (a b:Int):decide ((Sum.inl a:Key)=Sum.inl b)=(a == b):=by
 by_cases e:a=b
 ·subst e;simp
 ·have h:¬(Sum.inl a:Key)=Sum.inl b:=λq=>e (Sum.inl.inj q)
  rw[K1 h]
  exact (beq_eq_false_iff_ne.mpr e).symm
def Em (a b:Str):decide ((Sum.inr a:Key)=Sum.inr b)=decide (a=b):=by
 by_cases e:a=b
 ·subst e;simp
 ·have h:¬(Sum.inr a:Key)=Sum.inr b:=λq=>e (Sum.inr.inj q)
  rw[K1 h,K1 e]
def Gp (a:Int)(b:Str):decide ((Sum.inl a:Key)=Sum.inr b)=false:=K1 (λq=>nomatch q)
def E6 (a:Str)(b:Int):decide ((Sum.inr a:Key)=Sum.inl b)=false:=K1 (λq=>nomatch q)
def cQ (prog:Program)(w:World):PySem.KeyKind prog w Key where
 is:=oH
 hash:=JO w
 inj:=λv a b ha hb=>by
  rcases bD ha with⟨i,t,rfl,rfl⟩ | ⟨x,t,rfl,rfl⟩
  ·rcases bD hb with⟨j,u,rfl,e⟩ | ⟨y,u,rfl,e⟩
   ·injection e with e1 _;rw[e1]
   ·exact nomatch e
  ·rcases bD hb with⟨j,u,rfl,e⟩ | ⟨y,u,rfl,e⟩
   ·exact nomatch e
   ·injection e with e1 _;rw[e1]
 byValue:=λk v h=>by
  rcases bD h with⟨i,t,rfl,rfl⟩ | ⟨x,t,rfl,rfl⟩ <;> rfl
 pyHash:=λhv h=>by
  rcases bD hv with⟨i,t,rfl,rfl⟩ | ⟨x,t,rfl,rfl⟩
  ·exact wpAny_pyHash_int h
  ·exact wpAny_pyHash_str h
 eqBool:=λhu hv h=>by
  rcases bD hu with⟨i,t,rfl,rfl⟩ | ⟨x,t,rfl,rfl⟩
  ·rcases bD hv with⟨j,u,rfl,rfl⟩ | ⟨y,u,rfl,rfl⟩
   ·rw[Ez] at h;exact wpAny_eqBool_int h
   ·rw[Gp] at h;exact SeqAt.EqAt.int_str i t y u _ _ _ _ h
  ·rcases bD hv with⟨j,u,rfl,rfl⟩ | ⟨y,u,rfl,rfl⟩
   ·rw[E6] at h;exact SeqAt.EqAt.str_int x t j u _ _ _ _ h
   ·rw[Em] at h;exact wpAny_eqBool_str h
 «strs»:=λk x t v h=>by
  rcases bD h with⟨i,u,rfl,e⟩ | ⟨y,u,rfl,e⟩
  ·exact nomatch e
  ·injection e with e1 _
   subst e1
   cases v <;> rfl
def td (prog:Program)(w:World)(i:Int)(t:Tok):(cQ prog w).is (.inl i) (.int i t)=true:=yL i t
def sd (prog:Program)(w:World)(x:Str)(t:Tok):(cQ prog w).is (.inr x) (.str x t)=true:=yn x t
inductive V where
 |non |bl (b:Bool) |int (i:Int) |str (x:Str) |byt (b:Array UInt8) |flt (b:UInt64) |ref (a:Addr) |ty (n:String)
 deriving DecidableEq
def RelV:V->Value->Prop
 | .non,u=>u=Value.none
 | .bl b,u=>u=Value.bool b
 | .int i,u=>∃t,u=Value.int i t
 | .str x,u=>∃t,u=Value.str x t
 | .byt b,u=>∃t,u=Value.bytes b t
 | .flt b,u=>∃t,u=Value.float b t
 | .ref a,u=>u=Value.ref a
 | .ty n,u=>u=Value.type n
abbrev Vals:List V->List Value->Prop:=Paired RelV
def Vals.length {xs:List V}{us:List Value}(r:Vals xs us):xs.length=us.length:=Paired.length r
theorem Vals.get:∀{xs:List V} {us:List Value} {i:Nat} {x:V},Vals xs us->xs[i]? =some x->∃u,us[i]? =some u/\RelV x u
 |_,_,_,_,.nil,e=>by simp at e
 |_,_,0,_,.cons r _,e=>by simp at e;subst e;exact⟨_,rfl,r⟩
 |_,_,i + 1,x,.cons _ t,e=>by
  obtain⟨u,h1,h2⟩:=Vals.get (i:=i) (x:=x) t (by simpa using e)
  exact⟨u,by simpa using h1,h2⟩
theorem Vals.set {x:V}{u:Value}(r:RelV x u):∀{xs:List V} {us:List Value} (i:Nat),Vals xs us->Vals (xs.set i x) (us.set i u)
 |_,_,_,.nil=>.nil
 |_,_,0,.cons _ t=>.cons r t
 |_,_,i + 1,.cons q t=>.cons q (Vals.set r i t)
theorem Vals.append:∀{xs ys:List V} {us ws:List Value},Vals xs us->Vals ys ws->Vals (xs ++ ys) (us ++ ws)
 |_,_,_,_,.nil,s=>s
 |_,_,_,_,.cons r t,s=>.cons r (Vals.append t s)
theorem Vals.take:∀{xs:List V} {us:List Value} (n:Nat),Vals xs us->Vals (xs.take n) (us.take n)
 |_,_,0,_=>.nil
 |_,_,_ + 1,.nil=>.nil
 |_,_,n + 1,.cons r t=>.cons r (Vals.take n t)
theorem Vals.drop:∀{xs:List V} {us:List Value} (n:Nat),Vals xs us->Vals (xs.drop n) (us.drop n)
 |_,_,0,r=>r
 |_,_,_ + 1,.nil=>.nil
 |_,_,n + 1,.cons _ t=>Vals.drop n t
def A9:Option V->Option Value->Prop
 |some v,some u=>RelV v u
 |none,none=>True
 |_,_=>False
def KV {κ:Type}:List (κ×V)->List (κ×Value)->Prop:=Paired λ(p:κ×V) (q:κ×Value)=>p.1=q.1/\RelV p.2 q.2
def kV:Key->V
 | .inl i=>.int i
 | .inr x=>.str x
inductive HO where
 |lst (xs:List V)
 |tup (xs:List V)
 |dK (kvs:List (Key×V)) |dT (kvs:List (List Key×V))
 |set (S:Int->Bool) (n:Nat)
 |ins (C dx:Addr) (fs:List (Str×V))
 |own (x:Addr)
 |xd (fs:List (Str×V))
 |met (f x:Addr)
 |bu (lo hi:Int)
 |aN (o:Obj) (u:HO)
 |iO (ps:Array Value)
 |ext (φ:Heap->Prop)
abbrev Hp:=Addr->Option HO
def upd (H:Hp)(a:Addr)(o:HO):Hp:=λb=>if b=a then some o else H b
def aj {H:Hp}{a:Addr}{o:HO}:upd H a o a=some o:=by unfold upd;rw[KH rfl]
def ao {H:Hp}{a b:Addr}{o:HO}(h:b≠a):upd H a o b=H b:=by unfold upd;rw[KZ h]
def C5 {H:Hp}{a:Addr}{o u:HO}:upd (upd H a o) a u=upd H a u:=by
 funext b;unfold upd;split <;> rfl
def DJ {H:Hp}{a b:Addr}{o u:HO}(h:H a=some o)(h':H b=some u)(d:o≠u):a≠b:=by
 intro e;subst e;rw[h] at h';exact d (Option.some.inj h')
def ay {H:Hp}{a b:Addr}{o:HO}(h:H a=some o)(h':H b=none):a≠b:=by
 intro e;subst e;rw[h] at h';cases h'
section
variable (P:Program)(w:World)
def qq (h:Heap)(a:Addr)(items:Array Value):Prop:=∃o,h.get? a=some o/\o.cls=.type "tuple"/\∃n,o.data=.seq items n/\o.dict=none
def qq.isTup {h:Heap}{a:Addr}{items:Array Value}(x:qq h a items):IsTup h a items:=let ⟨o,e,c,n,d,_⟩:=x;⟨o,e,c,n,d⟩
def qq.new (h:Heap)(items:Array Value):qq (h.push {cls:=.type "tuple",data:=.seq items}) h.objs.size items:=⟨_,K0 _ rfl,rfl,_,rfl,rfl⟩
def bM (H:Hp)(h:Heap)(a:Addr):HO->Prop
 | .lst xs=>xs.length<=sizeLine/\∃(its:List Value) (n:Nat),Vals xs its/\h.get? a=some {cls:=.type "list",data:=.seq its.toArray n}
 | .tup xs=>xs.length<=sizeLine/\∃its:List Value,Vals xs its/\qq h a its.toArray
 | .dK kvs=>kvs.length<=sizeLine/\(a == sysModules)=false/\∃vs,KV kvs vs/\h.DictOf (cQ P w) a vs
 | .dT kvs=>kvs.length<=sizeLine/\(a == sysModules)=false/\∃xs:List (List Key×Addr×Value),
   Paired (λ(p:List Key×V) (q:List Key×Addr×Value)=>p.1=q.1/\(H q.2.1=some (.tup (p.1.map kV))\/∃o,H q.2.1=some (.aN o (.tup (p.1.map kV))))/\RelV p.2 q.2.2) kvs xs/\
   ∃o es ep,h.get? a=some o/\o.ExactDict/\o.data=.dict es ep/\es.toList=xs.map (entryOfKey (tupleKind (cQ P w)))/\(xs.map (·.1)).Nodup
 | .set S n=>h.SetOf (intKind P w) a S n
 | .ins C dx fs=>H dx=some (.own a)/\fs.length<=1000/\dx≠a/\h.get? a=some (PySem.W.instObj C dx)/\
   ∃mA,h.Ns1 dx mA/\(∀f,A9 (fs.lookup f) (mA f))/\PySem.Within mA (fs.map (·.1))
 | .own _=>∃o,h.get? a=some o
 | .xd fs=>∃mA,h.Ns1 a mA/\∀f,A9 (fs.lookup f) (mA f)
 | .bu lo hi=>∃t u v,h.get? a=some {cls:=.type "range",data:=.fields #[.int lo t,.int hi u,.int 1 v]}
 | .aN o u=>h.get? a=some o/\bM H h a u
 | .iO ps=>h.get? a=some {cls:=.none,data:=.fields ps}
 | .met f x=>h.get? a=some (PySem.W.methodObj (.ref f) (.ref x))
 | .ext φ=>φ h/\(∃o,h.get? a=some o)/\∀h1 h2:Heap,φ h1->(∀o,h1.get? a=some o->h2.get? a=some o)->φ h2
def jk (H:Hp)(h:Heap):Prop:=∀a o,H a=some o->bM P w H h a o
end
section
variable {P:Program}{w:World}{H H':Hp}{h h':Heap}{a:Addr}{o:HO}
theorem bM.lt (x:bM P w H h a o):a < h.objs.size:=by
 cases o with
 |lst xs=>obtain⟨_,_,_,_,e⟩:=x;exact KJ e
 |tup xs=>obtain⟨_,_,_,p⟩:=x;exact p.isTup.lt
 |dK kvs=>obtain⟨_,_,_,_,o,_,_,e,_⟩:=x;exact KJ e
 |dT kvs=>obtain⟨_,_,_,_,o,_,_,e,_⟩:=x;exact KJ e
 |set S n=>obtain⟨o,_,_,_,e,_⟩:=x;exact KJ e
 |ins C dx fs=>obtain⟨_,_,_,e,_⟩:=x;exact KJ e
 |own y=>obtain⟨_,e⟩:=x;exact KJ e
 |xd fs=>obtain⟨_,⟨_,_,_,e,_⟩,_⟩:=x;exact KJ e
 |bu lo hi=>obtain⟨_,_,_,e⟩:=x;exact KJ e
 |aN ob u=>obtain⟨e,_⟩:=x;exact KJ e
 |iO ps=>exact KJ (show h.get? a=some _ from x)
 |met f y=>exact KJ (show h.get? a=some _ from x)
 |ext φ=>obtain⟨_,⟨_,e⟩,_⟩:=x;exact KJ e
theorem Paired.mapP {α β:Type}{F G:α->β->Prop}:∀{l₁:List α} {l₂:List β},Paired F l₁ l₂->(∀a b,F a b->G a b)->Paired G l₁ l₂
 |_,_,.nil,_=>.nil
 |_,_,.cons r t,f=>.cons (f _ _ r) (Paired.mapP t f)
theorem bM.stay (x:bM P w H h a o)(k:∀b u,(b=a\/H b=some (.own a))->h.get? b=some u->h'.get? b=some u)
  (ho:∀b,H b=some (.own a)->H' b=some (.own a)) (ht:∀b xs,(H b=some (.tup xs)\/∃o,H b=some (.aN o (.tup xs)))->(H' b=some (.tup xs)\/∃o,H' b=some (.aN o (.tup xs)))):bM P w H' h' a o:=by
 induction o with
 |lst xs=>obtain⟨z,its,n,r,e⟩:=x;exact⟨z,its,n,r,k _ _ (.inl rfl) e⟩
 |tup xs=>obtain⟨z,its,r,ob,e,c⟩:=x;exact⟨z,its,r,ob,k _ _ (.inl rfl) e,c⟩
 |dK kvs=>obtain⟨z,y,vs,r,ob,es,ep,e,c⟩:=x;exact⟨z,y,vs,r,ob,es,ep,k _ _ (.inl rfl) e,c⟩
 |dT kvs=>
  obtain⟨z,y,xs,r,ob,es,ep,e,c⟩:=x
  exact⟨z,y,xs,Paired.mapP r λp q z=>⟨z.1,ht _ _ z.2.1,z.2.2⟩,ob,es,ep,k _ _ (.inl rfl) e,c⟩
 |set S n=>obtain⟨ob,es,ep,t,e,c⟩:=x;exact⟨ob,es,ep,t,k _ _ (.inl rfl) e,c⟩
 |ins C dx fs=>
  obtain⟨d,z,ne,e,mA,⟨od,es,ep,e2,c⟩,r⟩:=x
  exact⟨ho _ d,z,ne,k _ _ (.inl rfl) e,mA,⟨od,es,ep,k _ _ (.inr d) e2,c⟩,r⟩
 |own y=>obtain⟨ob,e⟩:=x;exact⟨ob,k _ _ (.inl rfl) e⟩
 |xd fs=>obtain⟨mA,⟨od,es,ep,e,c⟩,r⟩:=x;exact⟨mA,⟨od,es,ep,k _ _ (.inl rfl) e,c⟩,r⟩
 |bu lo hi=>obtain⟨t,u,v,e⟩:=x;exact⟨t,u,v,k _ _ (.inl rfl) e⟩
 |aN ob u ih=>obtain⟨e,q⟩:=x;exact⟨k _ _ (.inl rfl) e,ih q⟩
 |iO ps=>
  have e:h.get? a=some {cls:=.none,data:=.fields ps}:=x
  show h'.get? a=some {cls:=.none,data:=.fields ps}
  exact k a _ (.inl rfl) e
 |met f y=>
  have e:h.get? a=some (PySem.W.methodObj (.ref f) (.ref y)):=x
  show h'.get? a=some (PySem.W.methodObj (.ref f) (.ref y))
  exact k a _ (.inl rfl) e
 |ext φ=>obtain⟨p,⟨o,e⟩,st⟩:=x;exact⟨st _ _ p λo q=>k _ _ (.inl rfl) q,⟨o,k _ _ (.inl rfl) e⟩,st⟩
def jk.lt (x:jk P w H h)(e:H a=some o):a < h.objs.size:=(x a o e).lt
theorem jk.fresh (x:jk P w H h)(e:h.objs.size<=a):H a=none:=by
 cases q:H a with
 |none=>rfl
 |some u=>exact absurd (K6 (x.lt q) e) (LL _)
def jk.kept (x:jk P w H h)(k:∀b u,h.get? b=some u->h'.get? b=some u):jk P w H h':=λa o e=>
 (x a o e).stay (λb u _ q=>k b u q) (λ_ q=>q) λ_ _ q=>q
def jk.laid (x:jk P w H h)(k:∀b u,h.get? b=some u->h'.get? b=some u)(hp:h.objs.size<=a)(new:bM P w (upd H a o) h' a o):jk P w (upd H a o) h':=λb u e=>by
 have hn:=x.fresh hp
 by_cases hb:b=a
 ·subst hb;rw[aj] at e;cases e;exact new
 ·rw[ao hb] at e
  exact (x b u e).stay (λc v _ q=>k c v q) (λc q=>by rw[ao (ay q hn)];exact q) λc xs q=>q.imp (λq=>by rw[ao (ay q hn)];exact q) λ⟨o,q⟩=>⟨o,by rw[ao (ay q hn)];exact q⟩
end
def Rd (H:Hp)(a:Addr)(u:HO):Prop:=H a=some u\/∃o,H a=some (.aN o u)
def Rd.ok {P:Program}{w:World}{H:Hp}{h:Heap}{a:Addr}{u:HO}(r:Rd H a u)(x:jk P w H h):bM P w H h a u:=by
 rcases r with r | ⟨o,r⟩
 ·exact x a u r
 ·obtain⟨_,q⟩:=x a _ r
  exact q
def Ht:Option HO->Prop
 |some (.lst _)=>True
 |some (.dK _)=>True
 |some (.dT _)=>True
 |some (.set _ _)=>True
 |some (.ins _ _ _)=>True
 |some (.ext _)=>True
 |_=>False
section
variable {P:Program}{w:World}{H:Hp}{h h':Heap}{x e:Addr}{o':HO}
def jk.write (ok:jk P w H h)(mu:Ht (H x))(he:e=x\/H e=some (.own x))(k:∀b u,b≠e->h.get? b=some u->h'.get? b=some u)(heo:∃u,h'.get? e=some u)
  (new:bM P w (upd H x o') h' x o'):jk P w (upd H x o') h':=λb u q=>by
 have nown:∀c y,H c=some (.own y)->c≠x:=λc y r z=>by subst z;rw[r] at mu;exact mu
 have ntup:∀c xs,H c=some (.tup xs)->c≠x:=λc xs r z=>by subst z;rw[r] at mu;exact mu
 by_cases hb:b=x
 ·subst hb;rw[aj] at q;cases q;exact new
 ·rw[ao hb] at q
  by_cases hbe:b=e
  ·have q':H b=some (.own x):=by
    rcases he with z |z
    ·exact absurd (hbe.trans z) hb
    ·rw[hbe];exact z
   rw[q] at q';cases q'
   obtain⟨v,hv⟩:=heo
   exact⟨v,by rw[hbe];exact hv⟩
  ·refine (ok b u q).stay (λc v hc r=>k c v ?_ r) (λc r=>by rw[ao (nown c b r)];exact r) λc xs r=>r.imp (λr=>by rw[ao (ntup c xs r)];exact r) λ⟨o,r⟩=>⟨o,by rw[ao (λz=>by subst z;rw[r] at mu;exact mu)];exact r⟩
   rcases hc with rfl |hc
   ·exact hbe
   ·rintro rfl
    rcases he with z |z
    ·exact nown c b hc z
    ·rw[hc] at z;cases z;exact hb rfl
end
structure Un (fs ex:List Addr)(H H':Hp)(h h':Heap):Prop where
 keep:∀b o,h.get? b=some o->H b=none->b∉fs->b∉ex->h'.get? b=some o
 slot:∀b o,h.get? b=some o->H b=none->b∈fs->b∉ex->∃sl,h'.get? b=some {o with slots:=sl}
 free:∀b o,h.get? b=some o->H b=none->b∉ex->H' b=none
 there:∀b o,h.get? b=some o->b∉ex->∃o',h'.get? b=some o'
 tups:∀b xs,H b=some (.tup xs)->H' b=some (.tup xs)
 frzs:∀b o u,H b=some (.aN o u)->H' b=some (.aN o u)
 tbls:∀b ps,H b=some (.iO ps)->∃more,H' b=some (.iO (ps ++ more))
section
variable {fs fs' ex ex':List Addr}{H H1 H2:Hp}{h h1 h2 h':Heap}{a x e:Addr}{o:HO}
def Un.any (u:Un fs ex H H1 h h1){b:Addr}{ob:Obj}(q:h.get? b=some ob)(n:H b=none)(hx:b∉ex):∃sl,h1.get? b=some {ob with slots:=sl}:=by
 by_cases hb:b∈fs
 ·exact u.slot b ob q n hb hx
 ·exact⟨ob.slots,u.keep b ob q n hb hx⟩
def Un.kept (k:∀b u,h.get? b=some u->h'.get? b=some u):Un fs ex H H h h':=
 ⟨λb ob q _ _ _=>k b ob q,λb ob q _ _ _=>⟨ob.slots,k b ob q⟩,λ_ _ _ n _=>n,λb ob q _=>⟨ob,k b ob q⟩,λ_ _ q=>q,λ_ _ _ q=>q,λ_ ps q=>⟨#[],by rw[q];simp⟩⟩
def Un.refl:Un fs ex H H h h:=Un.kept λ_ _ q=>q
def Un.laid (k:∀b u,h.get? b=some u->h'.get? b=some u)(hp:h.objs.size<=a)(hn:H a=none):Un fs ex H (upd H a o) h h' where
 keep:=λb u q _ _ _=>k b u q
 slot:=λb u q _ _ _=>⟨u.slots,k b u q⟩
 free:=λb u q n _=>by rw[ao (Lf (K6 (KJ q) hp))];exact n
 there:=λb u q _=>⟨u,k b u q⟩
 tups:=λb xs q=>by rw[ao (ay q hn)];exact q
 frzs:=λb u xs q=>by rw[ao (ay q hn)];exact q
 tbls:=λb ps q=>⟨#[],by rw[ao (ay q hn),q];simp⟩
def Un.write (mu:Ht (H x))(he:e=x\/H e=some (.own x))(k:∀b u,b≠e->h.get? b=some u->h'.get? b=some u)(heo:∃u,h'.get? e=some u):Un fs ex H (upd H x o) h h':=by
 have hx:∀b,H b=none->b≠x:=λb n z=>by subst z;rw[n] at mu;exact mu
 have hb:∀b,H b=none->b≠e:=λb n z=>by
  subst z
  rcases he with r |r
  ·exact hx b n r
  ·rw[n] at r;cases r
 have hm:∀b u,H b=some u->¬Ht (some u)->b≠x:=λb u q nm z=>by subst z;rw[q] at mu;exact nm mu
 refine⟨λb u q n _ _=>k b u (hb b n) q,λb u q n _ _=>⟨u.slots,k b u (hb b n) q⟩,λb u q n _=>by rw[ao (hx b n)];exact n,λb u q _=>?_,
  λb xs q=>by rw[ao (hm b _ q λz=>z)];exact q,λb u xs q=>by rw[ao (hm b _ q λz=>z)];exact q,λb ps q=>⟨#[],by rw[ao (hm b _ q λz=>z),q];simp⟩⟩
 by_cases hbe:b=e
 ·subst hbe;exact heo
 ·exact⟨u,k b u hbe q⟩
end
def Iz (h:Heap)(H:Hp):List Addr:=(List.range h.objs.size).filter λa=>(H a).isSome
def rz (h:Heap)(H:Hp):Heap:=PySem.W.hideAll h (Iz h H)
def x6 (h:Heap)(H:Hp):(rz h H).objs.size=h.objs.size:=PySem.W.hideAll_size _ _
def A0 {h:Heap}{H:Hp}{b:Addr}{o:Obj}(e:h.get? b=some o)(n:H b=none):(rz h H).get? b=some o:=
 PySem.W.hideAll_get _ e λhm=>by
  have q:(H b).isSome=true:=(K8.mp hm).2
  rw[n] at q;simp at q
theorem Ck {h:Heap}{H:Hp}{b:Addr}{o:Obj}(e:(rz h H).get? b=some o):h.get? b=some o/\H b=none:=by
 have e':h.get? b=some o:=PySem.W.of_hideAll (Iz h H) e
 refine⟨e',?_⟩
 cases q:H b with
 |none=>rfl
 |some x=>
  have hm:b∈Iz h H:=K8.mpr ⟨LM.mpr (KJ e'),by simp[q]⟩
  have z:(rz h H).get? b=none:=PySem.W.hideAll_none (Iz h H) hm
  rw[z] at e;cases e
def B5 (g h:Heap)(L:Addr):List (Addr×Obj):=(List.range h.objs.size).filterMap λa=>if a=L\/(g.get? a).isSome=true then none else (h.get? a).map λo=>(a,o)
def rest (g h:Heap)(L d:Addr):List (Addr×Obj):=(B5 g h L).filter λp=>decide (p.1≠d)
structure Mod (K:Frag)(mg:Str->Option Value)(base:Heap):Prop where
 kin:K.In base
 glob:base.Ns mainGlobals mg
 blt:∃mb,base.Ns builtinsNs mb/\∀x:Str,x≠"__name__"->mb x=bootBuiltins x
 nolimit:base.NoLimit
 sys:∃mm,base.Ns sysModules mm
structure Cx where
 prog:Program
 w:World
 K:Frag
 mg:Str->Option Value
 base:Heap
 A:Around
 N:List Str
 s₀:Shared
 H₀:Hp
 env:Env
 outer:List Env
 stack:List Env
 ex:List Addr
 fn:Str->Bool
 calm:Bool
 pn:List (Addr×Obj)
 xe:Value->Shared->Prop
def dz (l:List Env):List Addr:=l.filterMap (·.frame)
abbrev Cx.fs (X:Cx):List Addr:=dz X.outer
def vP (sc:Scope)(x:Str):Prop:=sc.names.lookup x=some .local\/sc.names.lookup x=some .cell\/sc.names.lookup x=some .free
def Loc (sc:Scope)(x:Str):Prop:=sc.names.lookup x=some .local\/sc.names.lookup x=some .cell
def Look (env:Env)(h:Heap)(m:Str->Option Value)(x:Str)(u:Value):Prop:=
 (env.kindOf x=some .local/\m x=some u)\/((env.kindOf x=some .cell\/env.kindOf x=some .free)/\∃c,env.cells.lookup x=some c/\h.IsCell c (some u))
structure Cx.Ok (X:Cx):Prop where
 mod:Mod X.K X.mg X.base
 kind:X.env.scope.kind=.function
 glob:X.env.globals=mainGlobals
 blt:X.env.builtins=builtinsNs
 above:X.s₀.heap.objs.size<=X.env.locals
 inj:∀x y c,X.env.cells.lookup x=some c->X.env.cells.lookup y=some c->x=y
 has:∀x,(X.env.kindOf x=some .cell\/X.env.kindOf x=some .free)->∃c,X.env.cells.lookup x=some c
 cab:∀x c,X.fn x=true->X.env.cells.lookup x=some c->X.s₀.heap.objs.size<=c
 hd:X.calm=true->X.A.handled=none
 frames:X.A.frames=some X.stack
 stk:X.stack=X.outer\/(X.stack=X.env :: X.outer/\X.env.frame=some X.env.locals)
 exf:∀b∈X.ex,b≠X.env.locals/\∀x c,X.env.cells.lookup x=some c->c≠b
 bs:∀b o,X.base.get? b=some o->X.s₀.heap.get? b=some o/\X.H₀ b=none
 bsz:X.base.objs.size<=X.s₀.heap.objs.size
 noex:∀b o,X.base.get? b=some o->b∉X.ex
 exfs:∀b∈X.ex,b∉X.fs
 funs:X.s₀.heap.FunFrames X.base X.outer
 frf:∀b∈X.fs,X.H₀ b=none
structure Inv (X:Cx)(pins:List (Addr×Obj))(σ:List (Option V))(H:Hp)(s:Shared):Prop where
 ok:X.Ok
 os:s.os=X.s₀.os
 bare:AllBare s.gens
 base:Un X.fs X.ex X.H₀ H X.s₀.heap s.heap
 loc:∃m,s.heap.Ns X.env.locals m/\∀(i:Nat) (x:Str) (v:V),X.N[i]? =some x->σ[i]? =some (some v)->vP X.env.scope x->∃u,RelV v u/\Look X.env s.heap m x u
 cell:∀x c,X.env.cells.lookup x=some c->∃v,s.heap.IsCell c v
 free:H X.env.locals=none
 freeC:∀x c,X.env.cells.lookup x=some c->H c=none
 pin:∀p∈X.pn ++ pins,s.heap.get? p.1=some p.2/\H p.1=none/\p.1≠X.env.locals/\p.1∉X.fs/\∀v,p.2.data≠.cell v
 hok:jk X.prog X.w H s.heap
 len:σ.length=X.N.length
section
variable {X:Cx}{pins:List (Addr×Obj)}{σ:List (Option V)}{H H':Hp}{s:Shared}{h':Heap}
def Cx.Ok.nofr (ok:X.Ok){b:Addr}{o:Obj}(e:X.base.get? b=some o):b∉X.fs:=λhb=>by
 have:=(ok.funs.mem hb).1
 rw[e] at this;cases this
def Inv.bs (I:Inv X pins σ H s):∀b o,X.base.get? b=some o->s.heap.get? b=some o/\H b=none:=λb o e=>
 ⟨I.base.keep b o (I.ok.bs b o e).1 (I.ok.bs b o e).2 (I.ok.nofr e) (I.ok.noex b o e),I.base.free b o (I.ok.bs b o e).1 (I.ok.bs b o e).2 (I.ok.noex b o e)⟩
def Inv.bk (I:Inv X pins σ H s):∀b o,X.base.get? b=some o->s.heap.get? b=some o:=λb o e=>(I.bs b o e).1
def Inv.mod (I:Inv X pins σ H s):Mod X.K X.mg X.base:=I.ok.mod
def Inv.kIn (I:Inv X pins σ H s):X.K.In s.heap:=I.ok.mod.kin.keeps I.bk
def Inv.lt (I:Inv X pins σ H s):X.env.locals < s.heap.objs.size:=let ⟨_,hn,_⟩:=I.loc;hn.lt
def Inv.sz (I:Inv X pins σ H s):X.s₀.heap.objs.size<=s.heap.objs.size:=LA I.ok.above (Nat.le_of_lt I.lt)
def Inv.nofs (I:Inv X pins σ H s){a:Addr}(h:s.heap.objs.size<=a):a∉X.fs:=λhb=>by
 obtain⟨_,o,ho,_⟩:=I.ok.funs.mem hb
 exact absurd (K6 (KJ ho) (LA I.sz h)) (LL _)
def Inv.cne (I:Inv X pins σ H s):∀x c,X.env.cells.lookup x=some c->c≠X.env.locals:=λx c e z=>by
 obtain⟨v,o,ho,hd⟩:=I.cell x c e
 obtain⟨m,⟨o',es,ep,ho',hd',_⟩,_⟩:=I.loc
 rw[z,ho'] at ho;cases ho;rw[hd'] at hd;cases hd
def Inv.funs (I:Inv X pins σ H s):s.heap.FunFrames X.base X.outer:=by
 have all:∀(l:List Env),(∀b∈dz l,b∈X.fs)->X.s₀.heap.FunFrames X.base l->s.heap.FunFrames X.base l:=by
  intro l
  induction l with
  |nil=>intro _ _;trivial
  |cons env r ih=>
   intro hs hl
   obtain⟨hk,⟨L,o,hf,hn,ho,hd⟩,hr⟩:=hl
   have hL:L∈X.fs:=hs L (by unfold dz;rw[List.filterMap_cons,hf];exact KO)
   obtain⟨sl,e⟩:=I.base.slot L o ho (I.ok.frf L hL) hL λz=>I.ok.exfs L z hL
   exact⟨hk,⟨L,_,hf,hn,e,hd⟩,ih (λb hb=>hs b (by unfold dz;rw[List.filterMap_cons,hf];exact KL _ hb)) hr⟩
 exact all X.outer (λ_ hb=>hb) I.ok.funs
def Inv.stack (I:Inv X pins σ H s):s.heap.FunFrames X.base X.stack:=by
 rcases I.ok.stk with e | ⟨e,hf⟩
 ·rw[e];exact I.funs
 ·rw[e]
  obtain⟨m,hn,_⟩:=I.loc
  refine .cons (by rw[I.ok.kind];decide) hf hn ?_ I.funs
  exact Heap.get?_none_of_le (LA I.ok.bsz I.ok.above)
def Inv.stkSub (I:Inv X pins σ H s):∀b∈dz X.stack,b∈X.env.locals :: X.fs:=λb hb=>by
 rcases I.ok.stk with e | ⟨e,hf⟩
 ·rw[e] at hb;exact KL _ hb
 ·rw[e] at hb
  unfold dz at hb
  rw[List.filterMap_cons,hf] at hb
  exact hb
def Inv.stkFree (I:Inv X pins σ H s):∀b∈dz X.stack,H b=none:=λb hb=>by
 rcases KG.mp (I.stkSub b hb) with e |hb
 ·rw[e];exact I.free
 ·obtain⟨_,o,ho,_⟩:=I.ok.funs.mem hb
  exact I.base.free b o ho (I.ok.frf b hb) λz=>I.ok.exfs b z hb
def Inv.step {g':Array GenState}{t':Nat}{d':Drawn}{ch:List Addr}(I:Inv X pins σ H s)
  (hch:∀b∈ch,(b∈X.ex\/X.s₀.heap.objs.size<=b)/\b≠X.env.locals/\(∀x c,X.env.cells.lookup x=some c->c≠b)/\∀p∈X.pn ++ pins,p.1≠b)
  (keep:∀b o,b≠X.env.locals->b∉X.fs->b∉ch->s.heap.get? b=some o->H b=none->h'.get? b=some o)
  (slot:∀b o,b≠X.env.locals->b∈X.fs->b∉ch->s.heap.get? b=some o->H b=none->∃sl,h'.get? b=some {o with slots:=sl}) (free:∀b o,b∉ch->s.heap.get? b=some o->H b=none->H' b=none)
  (there:∀b o,b∉ch->s.heap.get? b=some o->∃o',h'.get? b=some o')
  (tups:∀b xs,H b=some (.tup xs)->H' b=some (.tup xs)) (frzs:∀b o u,H b=some (.aN o u)->H' b=some (.aN o u)) (tbls:∀b ps,H b=some (.iO ps)->∃more,H' b=some (.iO (ps ++ more)))
  (ns:∀m,s.heap.Ns X.env.locals m->h'.Ns X.env.locals m) (hok:jk X.prog X.w H' h') (hg:AllBare g') :
  Inv X pins σ H' {s with heap:=h',gens:=g',drawn:=d',toks:=t'}:=by
 have neL:∀b o,X.s₀.heap.get? b=some o->b≠X.env.locals:=λb o e=>Lf (K6 (KJ e) I.ok.above)
 have neC:∀b o,X.s₀.heap.get? b=some o->b∉X.ex->b∉ch:=λb o e hx hb=>by
  rcases (hch b hb).1 with z |z
  ·exact hx z
  ·exact absurd (K6 (KJ e) z) (LL _)
 have cellK:∀x c,X.env.cells.lookup x=some c->∀v,s.heap.IsCell c v->h'.IsCell c v:=λx c e v ⟨o,ho,hd⟩=>by
  have nch:c∉ch:=λz=>(hch c z).2.2.1 x c e rfl
  by_cases hc:c∈X.fs
  ·obtain⟨sl,q⟩:=slot c o (I.cne x c e) hc nch ho (I.freeC x c e)
   exact⟨_,q,hd⟩
  ·exact⟨o,keep c o (I.cne x c e) hc nch ho (I.freeC x c e),hd⟩
 refine⟨I.ok,I.os,hg,⟨λb o e n hb hx=>?_,λb o e n hb hx=>?_,λb o e n hx=>?_,λb o e hx=>?_,λb xs e=>tups b xs (I.base.tups b xs e),λb o xs e=>frzs b o xs (I.base.frzs b o xs e),λb ps e=>?_⟩,?_,λx c e=>?_,?_,λx c e=>?_,λp hp=>?_,hok,I.len⟩
 ·exact keep b o (neL b o e) hb (neC b o e hx) (I.base.keep b o e n hb hx) (I.base.free b o e n hx)
 ·obtain⟨sl,e1⟩:=I.base.slot b o e n hb hx
  obtain⟨sl',e2⟩:=slot b _ (neL b o e) hb (neC b o e hx) e1 (I.base.free b o e n hx)
  exact⟨sl',e2⟩
 ·obtain⟨o',e1⟩:=I.base.there b o e hx
  exact free b o' (neC b o e hx) e1 (I.base.free b o e n hx)
 ·obtain⟨o',e1⟩:=I.base.there b o e hx
  exact there b o' (neC b o e hx) e1
 ·obtain⟨m1,e1⟩:=I.base.tbls b ps e
  obtain⟨m2,e2⟩:=tbls b _ e1
  exact⟨m1 ++ m2,by rw[e2,Array.append_assoc]⟩
 ·obtain⟨m,hn,hl⟩:=I.loc
  refine⟨m,ns m hn,λi x v e1 e2 e3=>?_⟩
  obtain⟨u,r,l⟩:=hl i x v e1 e2 e3
  refine⟨u,r,?_⟩
  rcases l with l | ⟨k,c,e,z⟩
  ·exact .inl l
  ·exact .inr ⟨k,c,e,cellK x c e _ z⟩
 ·obtain⟨v,z⟩:=I.cell x c e
  exact⟨v,cellK x c e v z⟩
 ·obtain⟨m,⟨o,_,_,ho,_⟩,_⟩:=I.loc
  exact free _ o (λz=>(hch _ z).2.1 rfl) ho I.free
 ·obtain⟨v,o,ho,hd⟩:=I.cell x c e
  exact free c o (λz=>(hch c z).2.2.1 x c e rfl) ho (I.freeC x c e)
 ·obtain⟨e,n,ne,nf,d⟩:=I.pin p hp
  have nch:p.1∉ch:=λz=>(hch p.1 z).2.2.2 p hp rfl
  exact⟨keep p.1 p.2 ne nf nch e n,free p.1 p.2 nch e n,ne,nf,d⟩
def Inv.un {t':Nat}(I:Inv X pins σ H s)(u:Un X.fs [] H H' s.heap h')(hok:jk X.prog X.w H' h'):Inv X pins σ H' {s with heap:=h',toks:=t'}:=by
 obtain⟨m,⟨o,es,ep,ho,r⟩,_⟩:=id I.loc
 obtain⟨sl,hL⟩:=u.any ho I.free (by simp)
 exact I.step (g':=s.gens) (d':=s.drawn) (ch:=[]) (λ_ z=>nomatch z) (λb o _ hb _ e n=>u.keep b o e n hb (by simp)) (λb o _ hb _ e n=>u.slot b o e n hb (by simp)) (λb o _ e n=>u.free b o e n (by simp)) (λb o _ e=>u.there b o e (by simp)) u.tups u.frzs u.tbls (λm' hm=>by
  obtain⟨o',es',ep',ho',r'⟩:=hm
  rw[ho] at ho';cases ho'
  exact⟨_,es',ep',hL,r'⟩) hok I.bare
def Inv.call {g':Array GenState}{t':Nat}{d':Drawn}{ch:List Addr}(I:Inv X pins σ H s)(u:Un (dz X.stack) ch H H' s.heap h')(hok:jk X.prog X.w H' h')(hg:AllBare g')
  (hch:∀b∈ch,(b∈X.ex\/X.s₀.heap.objs.size<=b)/\b≠X.env.locals/\(∀x c,X.env.cells.lookup x=some c->c≠b)/\∀p∈X.pn ++ pins,p.1≠b) :
  Inv X pins σ H' {s with heap:=h',gens:=g',drawn:=d',toks:=t'}:=by
 obtain⟨m,⟨o,es,ep,ho,r⟩,_⟩:=id I.loc
 obtain⟨sl,hL⟩:=u.any ho I.free λz=>(hch _ z).2.1 rfl
 exact I.step (ch:=ch) hch (λb o hL hb hc e n=>u.keep b o e n (λz=>(KG.mp (I.stkSub b z)).elim hL hb) hc) (λb o _ _ hc e n=>u.any e n hc) (λb o hc e n=>u.free b o e n hc) (λb o hc e=>u.there b o e hc) u.tups u.frzs u.tbls (λm' hm=>by
  obtain⟨o',es',ep',ho',r'⟩:=hm
  rw[ho] at ho';cases ho'
  exact⟨_,es',ep',hL,r'⟩) hok hg
def Inv.turned {t':Nat}{it:Addr}(I:Inv X pins σ H s)(k:∀b o,b≠it->s.heap.get? b=some o->h'.get? b=some o)(hn:H it=none)(hL:it≠X.env.locals)
  (h1:it∈X.ex\/X.s₀.heap.objs.size<=it) (h2:∀x c,X.env.cells.lookup x=some c->c≠it) (h3:∀p∈X.pn ++ pins,p.1≠it):Inv X pins σ H {s with heap:=h',toks:=t'}:=by
 have nit:∀b u,H b=some u->b≠it:=λb u e z=>by rw[z,hn] at e;cases e
 refine I.step (g':=s.gens) (d':=s.drawn) (ch:=[it]) (λb hb=>?_) (λb o _ _ hc e _=>k b o (λz=>hc (by simp[z])) e) (λb o _ _ hc e _=>⟨o.slots,k b o (λz=>hc (by simp[z])) e⟩) (λ_ _ _ _ n=>n)
  (λb o hc e=>⟨o,k b o (λz=>hc (by simp[z])) e⟩) (λ_ _ e=>e) (λ_ _ _ e=>e) (λb ps e=>⟨#[],by rw[e];simp⟩) (λm hm=>?_) (λb u e=>?_) I.bare
 ·have e:b=it:=by simpa using hb
  subst e
  exact⟨h1,hL,h2,h3⟩
 ·obtain⟨o,es,ep,ho,r⟩:=hm
  exact⟨o,es,ep,k _ o (Ne.symm hL) ho,r⟩
 ·refine (I.hok b u e).stay (λc v hc q=>k c v ?_ q) (λ_ q=>q) λ_ _ q=>q
  rcases hc with z |z
  ·rw[z];exact nit b u e
  ·exact nit c _ z
def Inv.tok (I:Inv X pins σ H s)(t:Nat):Inv X pins σ H {s with toks:=t}:=I.un (h':=s.heap) (t':=t) Un.refl I.hok
def Inv.kept {t':Nat}(I:Inv X pins σ H s)(k:∀b u,s.heap.get? b=some u->h'.get? b=some u):Inv X pins σ H {s with heap:=h',toks:=t'}:=I.un (Un.kept k) (I.hok.kept k)
def Inv.laid {a:Addr}{o:HO}{t':Nat}(I:Inv X pins σ H s)(k:∀b u,s.heap.get? b=some u->h'.get? b=some u)(hp:s.heap.objs.size<=a)(new:bM X.prog X.w (upd H a o) h' a o) :
  Inv X pins σ (upd H a o) {s with heap:=h',toks:=t'}:=I.un (Un.laid k hp (I.hok.fresh hp)) (I.hok.laid k hp new)
def Inv.write {x e:Addr}{o:HO}{t':Nat}(I:Inv X pins σ H s)(mu:Ht (H x))(he:e=x\/H e=some (.own x))(k:∀b u,b≠e->s.heap.get? b=some u->h'.get? b=some u)(heo:∃u,h'.get? e=some u)
  (new:bM X.prog X.w (upd H x o) h' x o):Inv X pins σ (upd H x o) {s with heap:=h',toks:=t'}:=I.un (Un.write mu he k heo) (I.hok.write mu he k heo new)
def Inv.pins_of {pins':List (Addr×Obj)}(I:Inv X pins σ H s)(h:∀p∈pins',s.heap.get? p.1=some p.2/\H p.1=none/\p.1≠X.env.locals/\p.1∉X.fs/\∀v,p.2.data≠.cell v):Inv X pins' σ H s:=
 ⟨I.ok,I.os,I.bare,I.base,I.loc,I.cell,I.free,I.freeC,λp hp=>(Lk.mp hp).elim (λz=>I.pin p (L6 _ z)) (h p),I.hok,I.len⟩
def nP {N:List Str}(hN:N.Nodup){i j:Nat}{x:Str}(a:N[i]? =some x)(b:N[j]? =some x):i=j:=by
 obtain⟨h1,e1⟩:=KN.mp a
 obtain⟨h2,e2⟩:=KN.mp b
 exact (List.getElem_inj hN).mp (e1.trans e2.symm)
def pC {M:Model}{A:Around}{E:Value->Shared->Prop}{i:Nat}{x:Str}{v:V}{u:Value}{Q:Unit->Shared->Prop}(I:Inv X pins σ H s)(hN:X.N.Nodup)(hi:X.N[i]? =some x)(hx:Loc X.env.scope x)(r:RelV v u)
  (h:∀s',Inv X pins (σ.set i (some v)) H s'->(∃a,Heap.SameBut a s.heap s'.heap/\(a=X.env.locals\/X.env.cells.lookup x=some a))->Q () s') (hf:X.fn x=true\/X.env.scope.names.lookup x=some .local:=by first |exact .inl rfl |exact .inr rfl |assumption):wpAny M A (storeName X.env x u) Q E s:=by
 obtain⟨m,hn,hl⟩:=id I.loc
 have hcls:(X.env.scope.kind == .class || (X.env.scope.kind == .module && X.env.locals != X.env.globals))=false:=by rw[I.ok.kind];rfl
 have hiσ:i < σ.length:=by rw[I.len];exact (KN.mp hi).1
 have cne:=I.cne
 have tracked:∀{a:Addr} {h':Heap},(∃o,s.heap.get? a=some o/\H a=none)->Heap.SameBut a s.heap h'->jk X.prog X.w H h':=λ{a h'} ha hs b ob e=>by
  obtain⟨_,_,hfree⟩:=ha
  refine (I.hok b ob e).stay (λc w' hc q=>(hs.2 c ?_).trans q) (λ_ q=>q) λ_ _ q=>q
  rintro rfl
  rcases hc with rfl |hc
  ·rw[hfree] at e;cases e
  ·rw[hfree] at hc;cases hc
 rcases hx with hk |hk
 ·refine wpAny_storeName_local hk hn (λh' hn' hs=>?_) hcls
  obtain⟨oL,_,_,hoL,_⟩:=id hn
  refine h _ ⟨I.ok,I.os,I.bare,⟨λb o e n hb hx=>?_,λb o e n hb hx=>?_,I.base.free,λb o e hx=>?_,I.base.tups,I.base.frzs,I.base.tbls⟩,⟨_,hn',λj y v' e1 e2 e3=>?_⟩,λy c e=>?_,I.free,I.freeC,λp hp=>?_,tracked ⟨oL,hoL,I.free⟩ hs,by simpa using I.len⟩ ⟨_,hs,.inl rfl⟩
  ·exact (hs.2 b (Lf (K6 (KJ e) I.ok.above))).trans (I.base.keep b o e n hb hx)
  ·obtain⟨sl,e1⟩:=I.base.slot b o e n hb hx
   exact⟨sl,(hs.2 b (Lf (K6 (KJ e) I.ok.above))).trans e1⟩
  ·obtain⟨o',e1⟩:=I.base.there b o e hx
   exact⟨o',(hs.2 b (Lf (K6 (KJ e) I.ok.above))).trans e1⟩
  ·by_cases hj:j=i
   ·subst hj
    rw[hi] at e1;cases e1
    rw[KQ hiσ] at e2
    cases e2
    exact⟨u,r,.inl ⟨hk,by simp⟩⟩
   ·rw[KS (Ne.symm hj)] at e2
    obtain⟨u',r',q⟩:=hl j y v' e1 e2 e3
    refine⟨u',r',?_⟩
    rcases q with⟨k,e⟩ | ⟨k,c,e,z⟩
    ·refine .inl ⟨k,?_⟩
     have:y≠x:=λe=>hj (nP hN e1 (e▸hi))
     simp[this,e]
    ·exact .inr ⟨k,c,e,z.sameBut hs (cne y c e)⟩
  ·obtain⟨w',z⟩:=I.cell y c e
   exact⟨w',z.sameBut hs (cne y c e)⟩
  ·obtain⟨e,n,ne,nf,d⟩:=I.pin p hp
   exact⟨(hs.2 p.1 ne).trans e,n,ne,nf,d⟩
 ·have hfn:X.fn x=true:=by
   rcases hf with z |z
   ·exact z
   ·rw[z] at hk;cases hk
  obtain⟨c,hc⟩:=I.ok.has x (.inl hk)
  obtain⟨w',z⟩:=I.cell x c hc
  refine wpAny_storeName_cell I.ok.kind hk hc z (λh' hc' hs=>?_)
  obtain⟨oc,hoc,hocd⟩:=id z
  refine h {s with heap:=h'} ⟨I.ok,I.os,I.bare,⟨λb o e n hb hx=>?_,λb o e n hb hx=>?_,I.base.free,λb o e hx=>?_,I.base.tups,I.base.frzs,I.base.tbls⟩,⟨m,hn.sameBut hs (Ne.symm (cne x c hc)),λj y v' e1 e2 e3=>?_⟩,λy c' e=>?_,I.free,I.freeC,λp hp=>?_,tracked ⟨oc,hoc,I.freeC x c hc⟩ hs,by simpa using I.len⟩ ⟨c,hs,.inr hc⟩
  ·exact (hs.2 b (Lf (K6 (KJ e) (I.ok.cab x c hfn hc)))).trans (I.base.keep b o e n hb hx)
  ·obtain⟨sl,e1⟩:=I.base.slot b o e n hb hx
   exact⟨sl,(hs.2 b (Lf (K6 (KJ e) (I.ok.cab x c hfn hc)))).trans e1⟩
  ·obtain⟨o',e1⟩:=I.base.there b o e hx
   exact⟨o',(hs.2 b (Lf (K6 (KJ e) (I.ok.cab x c hfn hc)))).trans e1⟩
  ·by_cases hj:j=i
   ·subst hj
    rw[hi] at e1;cases e1
    rw[KQ hiσ] at e2
    cases e2
    exact⟨u,r,.inr ⟨.inl hk,c,hc,hc'⟩⟩
   ·rw[KS (Ne.symm hj)] at e2
    obtain⟨u',r',q⟩:=hl j y v' e1 e2 e3
    refine⟨u',r',?_⟩
    rcases q with q | ⟨k,c',e,z'⟩
    ·exact .inl q
    ·refine .inr ⟨k,c',e,z'.sameBut hs ?_⟩
     rintro rfl
     exact hj (nP hN e1 (I.ok.inj _ _ _ e hc▸hi))
  ·by_cases hcc:c'=c
   ·subst hcc;exact⟨_,hc'⟩
   ·obtain⟨w2,z2⟩:=I.cell y c' e
    exact⟨w2,z2.sameBut hs hcc⟩
  ·obtain⟨e,n,ne,nf,d⟩:=I.pin p hp
   refine⟨(hs.2 p.1 ?_).trans e,n,ne,nf,d⟩
   intro q
   rw[q,hoc] at e
   have q':oc=p.2:=Option.some.inj e
   exact d w' (by rw[<-q'];exact hocd)
def iu {M:Model}{A:Around}{E:Value->Shared->Prop}{i:Nat}{x:Str}{v:V}{u:Value}{Q:Unit->Shared->Prop}(I:Inv X pins σ H s)(hN:X.N.Nodup)(hi:X.N[i]? =some x)(hx:Loc X.env.scope x)(r:RelV v u)
  (h:∀s',Inv X pins (σ.set i (some v)) H s'->Q () s') (hf:X.fn x=true\/X.env.scope.names.lookup x=some .local:=by first |exact .inl rfl |exact .inr rfl |assumption):wpAny M A (storeName X.env x u) Q E s:=
 pC I hN hi hx r (λs' I' _=>h s' I') hf
def Inv.call' {s':Shared}{ch:List Addr}(I:Inv X pins σ H s)(ho:s'.os=s.os)(u:Un (dz X.stack) ch H H' s.heap s'.heap)(hok:jk X.prog X.w H' s'.heap)(hg:AllBare s'.gens)
  (hch:∀b∈ch,(b∈X.ex\/X.s₀.heap.objs.size<=b)/\b≠X.env.locals/\(∀x c,X.env.cells.lookup x=some c->c≠b)/\∀p∈X.pn ++ pins,p.1≠b):Inv X pins σ H' s':=by
 obtain⟨h',g',d',t',o'⟩:=s'
 have e:o'=s.os:=ho
 subst e
 exact I.call (g':=g') (t':=t') (d':=d') u hok hg hch
end
abbrev XK:=Value->Option Addr->Hp->Prop
abbrev St:=List (Option V)
abbrev VK:=V->Hp->Prop
abbrev TE:=St->Hp->VK->Prop
abbrev TT:=St->Hp->(Bool->Hp->Prop)->Prop
abbrev TA:=St->Hp->(List V->Hp->Prop)->Prop
structure Ends where
 nx:St->Hp->Prop
 rt:VK
 bk:St->Hp->Prop:=λ_ _=>False
 ct:St->Hp->Prop:=λ_ _=>False
abbrev TS:=Ends->St->Hp->Prop
def EP (X:Cx)(pins:List (Addr×Obj))(σ:St)(Q:VK)(u:Value)(s':Shared):Prop:=∃v H',Inv X pins σ H' s'/\RelV v u/\Q v H'
def TP (X:Cx)(pins:List (Addr×Obj))(σ:St)(Q:Bool->Hp->Prop)(b:Bool)(s':Shared):Prop:=∃H',Inv X pins σ H' s'/\Q b H'
def AP (X:Cx)(pins:List (Addr×Obj))(σ:St)(Q:List V->Hp->Prop)(us:List Value)(s':Shared):Prop:=∃vs H',Inv X pins σ H' s'/\Vals vs us/\Q vs H'
def SP (X:Cx)(pins:List (Addr×Obj))(D:Ends)(f:Flow)(s':Shared):Prop:=
 match f with
 | .next=>∃σ' H',Inv X pins σ' H' s'/\D.nx σ' H'
 | .brk=>∃σ' H',Inv X pins σ' H' s'/\D.bk σ' H'
 | .cont=>∃σ' H',Inv X pins σ' H' s'/\D.ct σ' H'
 | .ret u=>∃v σ' H',Inv X pins σ' H' s'/\RelV v u/\D.rt v H'
def PE (X:Cx)(e:Expr)(t:TE):Prop:=
 ∀(pins:List (Addr×Obj)) (s:Shared) (σ:St) (H:Hp) (Q:VK),Inv X pins σ H s->t σ H Q->wpAny (model X.prog X.w) X.A (eval e X.env) (EP X pins σ Q) X.xe s
def PT (X:Cx)(e:Expr)(t:TT):Prop:=
 ∀(pins:List (Addr×Obj)) (s:Shared) (σ:St) (H:Hp) (Q:Bool->Hp->Prop),Inv X pins σ H s->t σ H Q->wpAny (model X.prog X.w) X.A (isTrue e X.env (eval e X.env)) (TP X pins σ Q) X.xe s
def PW (X:Cx)(e:Expr)(t:TT):Prop:=
 ∀(whole:Sem Value) (pins:List (Addr×Obj)) (s:Shared) (σ:St) (H:Hp) (Q:Bool->Hp->Prop),Inv X pins σ H s->t σ H Q->wpAny (model X.prog X.w) X.A (isTrue e X.env whole) (TP X pins σ Q) X.xe s
def PW.pt {X:Cx}{e:Expr}{t:TT}(h:PW X e t):PT X e t:=h _
def PA (X:Cx)(es:List Expr)(t:TA):Prop:=
 ∀(pos:Pos) (pins:List (Addr×Obj)) (s:Shared) (σ:St) (H:Hp) (Q:List V->Hp->Prop),Inv X pins σ H s->t σ H Q->wpAny (model X.prog X.w) X.A (spliced (backTo pos (starEach es X.env))) (AP X pins σ Q) X.xe s
def PS (X:Cx)(st:Stmt)(t:TS):Prop:=
 ∀(pins:List (Addr×Obj)) (s:Shared) (σ:St) (H:Hp) (D:Ends),Inv X pins σ H s->t D σ H->wpAny (model X.prog X.w) X.A (exec st X.env) (SP X pins D) X.xe s
def mH (X:Cx)(st:List Stmt)(t:TS):Prop:=
 ∀(pins:List (Addr×Obj)) (s:Shared) (σ:St) (H:Hp) (D:Ends),Inv X pins σ H s->t D σ H->wpAny (model X.prog X.w) X.A (execs st X.env) (SP X pins D) X.xe s
def b7 {α:Type}{t:Sem α}{Q Q':α->Shared->Prop}{M:Model}{A:Around}{E:Value->Shared->Prop}{s:Shared}(h:wpAny M A t Q E s)(hQ:∀a s,Q a s->Q' a s):wpAny M A t Q' E s:=L3 h hQ λ_ _ x=>x
section
variable {X:Cx}
def bin {a b:Expr}{ta tb:TE}(ha:PE X a ta)(hb:PE X b tb){pins:List (Addr×Obj)}{s:Shared}{σ:St}{H:Hp}{R:V->V->Hp->Prop}(I:Inv X pins σ H s)(h:ta σ H λx H1=>tb σ H1 λy H2=>R x y H2)
  {α:Type} {Q:α->Shared->Prop} {f:Value->Value->Sem α}
  (hf:∀v u s2 x y H2,Inv X pins σ H2 s2->RelV x v->RelV y u->R x y H2->wpAny (model X.prog X.w) X.A (f v u) Q X.xe s2) :
  wpAny (model X.prog X.w) X.A (eval a X.env) (λv s₁=>wpAny (model X.prog X.w) X.A (eval b X.env) (λu s₂=>wpAny (model X.prog X.w) X.A (f v u) Q X.xe s₂) X.xe s₁) X.xe s:=by
 refine b7 (ha pins s σ H _ I h) λv s1 ⟨x,H1,I1,r1,q1⟩=>?_
 refine b7 (hb pins s1 σ H1 _ I1 q1) λu s2 ⟨y,H2,I2,r2,q2⟩=>?_
 exact hf v u s2 x y H2 I2 r1 r2 q2
def CJ (i:Nat):TE:=λσ H Q=>∃v,σ[i]? =some (some v)/\Q v H
def tC (v:V):TE:=λ_ H Q=>Q v H
def gZ {i:Nat}{x:Str}{pos:Pos}(hN:X.N[i]? =some x)(hv:vP X.env.scope x)(hd:(x == ("__debug__":Str))=false:=by decide)(hcd:(x == ("__classdict__":Str))=false:=by decide):PE X (.Name x pos) (CJ i):=by
 intro pins s σ H Q I h
 obtain⟨v,e,h⟩:=h
 obtain⟨m,hn,hl⟩:=I.loc
 obtain⟨u,r,l⟩:=hl i x v hN e hv
 have fin:EP X pins σ Q u s:=⟨v,H,I,r,h⟩
 rcases l with⟨hk,hm⟩ | ⟨hk,c,hc,hcell⟩
 ·exact wpAny_Name (wpAny_loadName_local I.ok.kind hk hn hm fin) hd
 ·rcases hk with hk |hk
  ·exact wpAny_Name (wpAny_loadName_cell I.ok.kind hk hc hcell fin) hd
  ·exact wpAny_Name (wpAny_loadName_free I.ok.kind hk hc hcell fin hcd) hd
def nH {i j pos}:PE X (.Constant (.int i) j pos) (tC (.int i)):=λ_ _ _ H _ I h=>wpAny_Constant_int ⟨.int i,H,I.tok _,⟨_,rfl⟩,h⟩
def pF {b j pos}:PE X (.Constant (.bool b) j pos) (tC (.bl b)):=λ_ _ _ H _ I h=>Constant_bool ⟨.bl b,H,I,rfl,h⟩
def E5 {j pos}:PE X (.Constant .none j pos) (tC .non):=λ_ _ _ H _ I h=>Constant_none ⟨.non,H,I,rfl,h⟩
def og {x j pos}:PE X (.Constant (.str x) j pos) (tC (.str x)):=λ_ _ _ H _ I h=>Calls.Constant_str ⟨.str x,H,I.tok _,⟨_,rfl⟩,h⟩
def Gl (X:Cx)(x:Str):Prop:=X.env.kindOf x=some .globalImplicit
def ll {E:Value->Shared->Prop}{pins:List (Addr×Obj)}{s:Shared}{σ:St}{H:Hp}{x:Str}{u:Value}{pos:Pos}{Q:Value->Shared->Prop}(I:Inv X pins σ H s)(hg:Gl X x)(hm:X.mg x=some u)(h:Q u s)
  (hd:(x == ("__debug__":Str))=false:=by decide):wpAny (model X.prog X.w) X.A (eval (.Name x pos) X.env) Q E s:=
 Calls.Name_function_global I.ok.kind hg (Calls.loadGlobal_global (by rw[I.ok.glob];exact I.mod.glob.keeps I.bk) hm h) hd
def kz {E:Value->Shared->Prop}{pins:List (Addr×Obj)}{s:Shared}{σ:St}{H:Hp}{x:Str}{u:Value}{pos:Pos}{Q:Value->Shared->Prop}(I:Inv X pins σ H s)(hg:Gl X x)(hm:X.mg x=none)(hv:bootBuiltins x=some u)(h:Q u s)
  (hn:x≠"__name__":=by decide) (hd:(x == ("__debug__":Str))=false:=by decide):wpAny (model X.prog X.w) X.A (eval (.Name x pos) X.env) Q E s:=by
 obtain⟨mb,h1,h2⟩:=I.mod.blt
 exact Calls.Name_function_global I.ok.kind hg (Calls.loadGlobal_builtin (by rw[I.ok.glob];exact I.mod.glob.keeps I.bk) hm (by rw[I.ok.blt];exact h1.keeps I.bk) ((h2 x hn).trans hv) h) hd
def cz {x:Str}{v:V}{u:Value}{pos:Pos}(hg:Gl X x)(hm:X.mg x=some u)(r:RelV v u)(hd:(x == ("__debug__":Str))=false:=by decide):PE X (.Name x pos) (tC v):=
 λ_ _ _ H _ I h=>ll I hg hm ⟨v,H,I,r,h⟩ hd
def xt {x:Str}{v:V}{u:Value}{pos:Pos}(hg:Gl X x)(hm:X.mg x=none)(hv:bootBuiltins x=some u)(r:RelV v u)(hn:x≠"__name__":=by decide)(hd:(x == ("__debug__":Str))=false:=by decide):PE X (.Name x pos) (tC v):=
 λ_ _ _ H _ I h=>kz I hg hm hv ⟨v,H,I,r,h⟩ hn hd
variable {a b:Expr}{ta tb:TE}{pos:Pos}
def PC (X:Cx)(op:CmpOp)(a b:Expr)(t:TE):Prop:=
 ∀(pins:List (Addr×Obj)) (s:Shared) (σ:St) (H:Hp) (Q:VK),Inv X pins σ H s->t σ H Q->
  wpAny (model X.prog X.w) X.A (eval a X.env) (λv s₁=>wpAny (model X.prog X.w) X.A (eval b X.env) (λu s₂=>wpAny (model X.prog X.w) X.A (compareOp op v u) (EP X pins σ Q) X.xe s₂) X.xe s₁) X.xe s
def AK (b:Expr){op:CmpOp}(h:op≠.In)(h2:op≠.NotIn):behindInMarks op b=false:=by
 have e1:(op == CmpOp.In)=false:=by cases op <;> first |rfl |exact absurd rfl h
 have e2:(op == CmpOp.NotIn)=false:=by cases op <;> first |rfl |exact absurd rfl h2
 cases b <;> simp[behindInMarks,e1,e2]
def tB (t:TE):TT:=λσ H Q=>t σ H λx H1=>∃c,x=.bl c/\Q c H1
def JK {op:CmpOp}{t:TE}(h:PC X op a b t)(h1:behindInMarks op b=false:=by first |exact AK _ (by decide) (by decide) |rfl):PT X (.Compare a [op] [b] pos) (tB t):=by
 intro pins s σ H Q I hw
 refine wpAny_isTrue_Compare1 (b7 (h pins s σ H _ I hw) λv s1 h1=>b7 h1 λu s2 h2=>b7 h2 λc s3 ⟨x,H1,I1,r1,q1⟩=>?_) h1
 obtain⟨d,rfl,q⟩:=q1
 cases r1
 exact LV ⟨H1,I1,q⟩
def oz {e:Expr}{t:TE}(h:PE X e t)(he:∀whole,isTrue e X.env whole=(do let v <-whole;standAt e.pos;holding [v] (truthy v)):=by intro _;rfl):PT X e (tB t):=by
 intro pins s σ H Q I hw
 refine isTrue_plain (b7 (h pins s σ H _ I hw) λv s1 ⟨x,H1,I1,r1,q1⟩=>?_) (he _)
 obtain⟨d,rfl,q⟩:=q1
 cases r1
 exact LV ⟨H1,I1,q⟩
variable {tA tB':TT}{rest:List Expr}
def Jo (t u:TT):TT:=λσ H Q=>t σ H λc H1=>if c=true then u σ H1 Q else Q false H1
def Ku (t u:TT):TT:=λσ H Q=>t σ H λc H1=>if c=true then Q true H1 else u σ H1 Q
def JA (t:TT):TT:=λσ H Q=>t σ H λc H1=>Q (!c) H1
theorem wD (ha:PT X a tA):PW X (.BoolOp .And [a] pos) tA:=by
 intro wh pins s σ H Q I h
 refine isTrue_and (b7 (ha pins s σ H Q I h) λc s1 e=>?_)
 cases c with
 |true=>exact isTrue_and_nil e
 |false=>exact e
theorem Ad (ha:PT X a tA):PW X (.BoolOp .Or [a] pos) tA:=by
 intro wh pins s σ H Q I h
 refine isTrue_or (b7 (ha pins s σ H Q I h) λc s1 e=>?_)
 cases c with
 |false=>exact isTrue_or_nil e
 |true=>exact e
theorem BA (ha:PT X a tA)(hb:PW X (.BoolOp .And (b :: rest) pos) tB'):PW X (.BoolOp .And (a :: b :: rest) pos) (Jo tA tB'):=by
 intro wh pins s σ H Q I h
 refine isTrue_and (b7 (ha pins s σ H _ I h) λc s1 ⟨H1,I1,q1⟩=>?_)
 cases c with
 |true=>exact hb wh pins s1 σ H1 Q I1 q1
 |false=>exact⟨H1,I1,q1⟩
theorem DY (ha:PT X a tA)(hb:PW X (.BoolOp .Or (b :: rest) pos) tB'):PW X (.BoolOp .Or (a :: b :: rest) pos) (Ku tA tB'):=by
 intro wh pins s σ H Q I h
 refine isTrue_or (b7 (ha pins s σ H _ I h) λc s1 ⟨H1,I1,q1⟩=>?_)
 cases c with
 |true=>exact⟨H1,I1,q1⟩
 |false=>exact hb wh pins s1 σ H1 Q I1 q1
def vB (ha:PT X a tA):PT X (.UnaryOp .Not a pos) (JA tA):=by
 intro pins s σ H Q I h
 exact isTrue_not (ha pins s σ H (λc H1=>Q (!c) H1) I h)
def Hu (ta tb:TE):TE:=λσ H Q=>ta σ H λx H1=>∃c,x=.bl c/\if c=true then tb σ H1 Q else Q (.bl false) H1
def GI (ta:TE):TE:=λσ H Q=>ta σ H λx H1=>∃c,x=.bl c/\Q (.bl (!c)) H1
def Fs {op}{t:TE}(h:PE X a t):PE X (.BoolOp op [a] pos) t:=λpins s σ H Q I hw=>BoolOp_one (h pins s σ H Q I hw)
theorem EK (ha:PE X a ta)(hb:PE X (.BoolOp .And (b :: rest) pos) tb):PE X (.BoolOp .And (a :: b :: rest) pos) (Hu ta tb):=by
 intro pins s σ H Q I h
 refine BoolOp_and (b7 (ha pins s σ H _ I h) λv s1 ⟨x,H1,I1,r1,q1⟩=>?_)
 obtain⟨c,rfl,q1⟩:=q1
 cases r1
 refine LV ?_
 cases c with
 |true=>exact hb pins s1 σ H1 Q I1 q1
 |false=>exact⟨.bl false,H1,I1,rfl,q1⟩
def Eu (ha:PE X a ta):PE X (.UnaryOp .Not a pos) (GI ta):=by
 intro pins s σ H Q I h
 refine UnaryOp_ (b7 (ha pins s σ H _ I h) λv s1 ⟨x,H1,I1,r1,q1⟩=>?_)
 obtain⟨c,rfl,q1⟩:=q1
 cases r1
 exact not_of (LV ⟨.bl (!c),H1,I1,rfl,q1⟩)
end
def fx (K:Frag)(H:Hp)(a:Addr)(xs:List V):Prop:=
 Rd H a (.lst xs)\/
  ∃(o:Obj) (its:Array Value) (n:Nat),K.lookup a=some o/\o.cls=.type "list"/\o.dict=none/\o.data=.seq its n/\its.size<=sizeLine/\Vals xs its.toList
def fw (K:Frag)(H:Hp)(a:Addr)(xs:List V):Prop:=
 Rd H a (.tup xs)\/
  ∃(o:Obj) (its:Array Value) (n:Nat),K.lookup a=some o/\o.cls=.type "tuple"/\o.data=.seq its n/\its.size<=sizeLine/\Vals xs its.toList/\o.dict=none
def IW:Value->Option V
 | .none=>some .non
 | .bool b=>some (.bl b)
 | .int i _=>some (.int i)
 | .str x _=>some (.str x)
 | .bytes b _=>some (.byt b)
 | .float b _=>some (.flt b)
 | .ref a=>some (.ref a)
 | .type n=>some (.ty n)
 |_=>none
theorem RelV.abs {x:V}{u:Value}(r:RelV x u):IW u=some x:=by
 cases x with
 |non=>cases r;rfl
 |bl _=>cases r;rfl
 |int _=>obtain⟨t,rfl⟩:=r;rfl
 |str _=>obtain⟨t,rfl⟩:=r;rfl
 |byt _=>obtain⟨t,rfl⟩:=r;rfl
 |flt _=>obtain⟨t,rfl⟩:=r;rfl
 |ref _=>cases r;rfl
 |ty _=>cases r;rfl
def RelV.inj {x y:V}{u:Value}(r:RelV x u)(q:RelV y u):x=y:=Option.some.inj (r.abs.symm.trans q.abs)
theorem Vals.inj:∀{xs ys:List V} {us:List Value},Vals xs us->Vals ys us->xs=ys
 |_,_,_,.nil,.nil=>rfl
 |_,_,_,.cons r t,.cons r' t'=>by rw[r.inj r',Vals.inj t t']
section
variable {X:Cx}{pins:List (Addr×Obj)}{σ:St}{H:Hp}{s:Shared}{a:Addr}{xs ys:List V}
def Inv.list (I:Inv X pins σ H s)(h:fx X.K H a xs):∃its:List Value,Vals xs its/\PlainL s.heap a its.toArray/\xs.length<=sizeLine:=by
 rcases h with h | ⟨o,its,n,hk,hc,hd,hs,hz,r⟩
 ·obtain⟨z,its,n,r,e⟩:=h.ok I.hok
  exact⟨its,r,⟨_,n,e,rfl,rfl,rfl⟩,z⟩
 ·refine⟨its.toList,r,⟨o,n,I.kIn a o hk,hc,hd,by simpa using hs⟩,?_⟩
  have e:=r.length
  simp only[Array.length_toList] at e
  omega
def Inv.tuple (I:Inv X pins σ H s)(h:fw X.K H a xs):∃its:List Value,Vals xs its/\IsTup s.heap a its.toArray/\xs.length<=sizeLine:=by
 rcases h with h | ⟨o,its,n,hk,hc,hs,hz,r,_⟩
 ·obtain⟨z,its,r,p⟩:=h.ok I.hok
  exact⟨its,r,p.isTup,z⟩
 ·refine⟨its.toList,r,⟨o,I.kIn a o hk,hc,n,by simpa using hs⟩,?_⟩
  have e:=r.length
  simp only[Array.length_toList] at e
  omega
def Inv.list_inj (I:Inv X pins σ H s)(h:fx X.K H a xs)(h':fx X.K H a ys):xs=ys:=by
 obtain⟨its,r,⟨o,n,e,_,_,d⟩,_⟩:=I.list h
 obtain⟨its',r',⟨o',n',e',_,_,d'⟩,_⟩:=I.list h'
 rw[e] at e';cases e'
 rw[d] at d'
 injection d' with d1 _
 have:its=its':=by simpa using congrArg Array.toList d1
 subst this
 exact r.inj r'
def Inv.tuple_inj (I:Inv X pins σ H s)(h:fw X.K H a xs)(h':fw X.K H a ys):xs=ys:=by
 obtain⟨its,r,⟨o,e,_,n,d⟩,_⟩:=I.tuple h
 obtain⟨its',r',⟨o',e',_,n',d'⟩,_⟩:=I.tuple h'
 rw[e] at e';cases e'
 rw[d] at d'
 injection d' with d1 _
 have:its=its':=by simpa using congrArg Array.toList d1
 subst this
 exact r.inj r'
end
abbrev Cx.wish (X:Cx)(E:Value->Shared->Prop):Cx:={X with xe:=E}
abbrev Cx.nox (X:Cx):Cx:=X.wish λ_ _=>False
def Cx.Ok.wish {X:Cx}(ok:X.Ok)(E:Value->Shared->Prop):(X.wish E).Ok:=
 ⟨ok.mod,ok.kind,ok.glob,ok.blt,ok.above,ok.inj,ok.has,ok.cab,ok.hd,ok.frames,ok.stk,ok.exf,ok.bs,ok.bsz,ok.noex,ok.exfs,ok.funs,ok.frf⟩
def Cx.Ok.unwish {X:Cx}{E:Value->Shared->Prop}(ok:(X.wish E).Ok):X.Ok:=
 ⟨ok.mod,ok.kind,ok.glob,ok.blt,ok.above,ok.inj,ok.has,ok.cab,ok.hd,ok.frames,ok.stk,ok.exf,ok.bs,ok.bsz,ok.noex,ok.exfs,ok.funs,ok.frf⟩
section
variable {X:Cx}{pins:List (Addr×Obj)}{σ:St}{H:Hp}{s:Shared}{E:Value->Shared->Prop}
def Inv.wish (I:Inv X pins σ H s)(E:Value->Shared->Prop):Inv (X.wish E) pins σ H s:=⟨I.ok.wish E,I.os,I.bare,I.base,I.loc,I.cell,I.free,I.freeC,I.pin,I.hok,I.len⟩
def Inv.unwish (I:Inv (X.wish E) pins σ H s):Inv X pins σ H s:=⟨I.ok.unwish,I.os,I.bare,I.base,I.loc,I.cell,I.free,I.freeC,I.pin,I.hok,I.len⟩
theorem SP.unwish {D:Ends}{f:Flow}{s':Shared}(h:SP (X.wish E) pins D f s'):SP X pins D f s':=by
 cases f with
 |next=>obtain⟨σ',H',I,q⟩:=h;exact⟨σ',H',I.unwish,q⟩
 |brk=>obtain⟨σ',H',I,q⟩:=h;exact⟨σ',H',I.unwish,q⟩
 |cont=>obtain⟨σ',H',I,q⟩:=h;exact⟨σ',H',I.unwish,q⟩
 |ret u=>obtain⟨v,σ',H',I,r,q⟩:=h;exact⟨v,σ',H',I.unwish,r,q⟩
def mH.nox {st:List Stmt}{t:TS}(h:mH X.nox st t):mH X st t:=λpins s σ H D I hw=>
 L3 (h pins s σ H D (I.wish _) hw) (λ_ _ q=>q.unwish) λ_ _ z=>False.elim z
end
section
variable {X:Cx}{st:Stmt}{rest:List Stmt}{t u:TS}{e:Expr}{te:TE}{pos:Pos}
def HN:TS:=λD σ H=>D.nx σ H
def Ja (t u:TS):TS:=λD σ H=>t {D with nx:=u D} σ H
def mK:mH X [] HN:=λ_ _ σ H _ I h=>ML ⟨σ,H,I,h⟩
theorem b9 (h1:PS X st t)(h2:mH X rest u):mH X (st :: rest) (Ja t u):=by
 intro pins s σ H D I h
 refine wpAny_execs_cons (b7 (h1 pins s σ H {D with nx:=u D} I h) λf s1 q=>?_)
 cases f with
 |next=>
  obtain⟨σ',H',I',q⟩:=q
  exact h2 pins s1 σ' H' D I' q
 |ret v=>exact q
 |brk=>exact q
 |cont=>exact q
theorem cT (h1:PS X st t):mH X [st] t:=by
 intro pins s σ H D I h
 refine wpAny_execs_cons (b7 (h1 pins s σ H D I h) λf s1 q=>?_)
 cases f with
 |next=>exact ML q
 |ret v=>exact q
 |brk=>exact q
 |cont=>exact q
def Inv.quiet {pins:List (Addr×Obj)}{σ:St}{H:Hp}{s:Shared}(I:Inv X pins σ H s):interactive X.env=false:=by simp[interactive,I.ok.kind]
def GF (te:TE):TS:=λD σ H=>te σ H λ_ H1=>D.nx σ H1
def rB (he:PE X e te)(hs:swapsWith e none pos.line X.env=pure false:=by rfl):PS X (.Expr e pos) (GF te):=by
 intro pins s σ H D I h
 exact wpAny_Expr_any (b7 (he pins s σ H _ I h) λv s1 ⟨x,H1,I1,r1,q1⟩=>⟨σ,H1,I1,q1⟩) I.quiet hs
def IT (te:TE):TS:=λD σ H=>te σ H D.rt
def hW (he:PE X e te):PS X (.Return (some e) pos) (IT te):=by
 intro pins s σ H D I h
 exact wpAny_Return_some (b7 (he pins s σ H _ I h) λv s1 ⟨x,H1,I1,r1,q1⟩=>⟨x,σ,H1,I1,r1,q1⟩)
def JB (c:TT)(t u:TS):TS:=λD σ H=>c σ H λb H1=>if b=true then t D σ H1 else u D σ H1
theorem wB {c:Expr}{a b:List Stmt}{tc:TT}(hc:PT X c tc)(ha:mH X a t)(hb:mH X b u):PS X (.If c a b pos) (JB tc t u):=by
 intro pins s σ H D I h
 refine wpAny_If (b7 (hc pins s σ H _ I h) λd s1 ⟨H1,I1,q1⟩=>?_)
 cases d with
 |true=>exact ha pins s1 σ H1 D I1 q1
 |false=>exact hb pins s1 σ H1 D I1 q1
end
abbrev TG:=V->St->Hp->(St->Hp->Prop)->Prop
abbrev Ef:=List V->St->Hp->(St->Hp->Prop)->Prop
def PG (X:Cx)(target:Expr)(t:TG):Prop:=
 ∀(pins:List (Addr×Obj)) (s:Shared) (σ:St) (H:Hp) (v:V) (u:Value) (Q:St->Hp->Prop),Inv X pins σ H s->RelV v u->t v σ H Q->
  wpAny (model X.prog X.w) X.A (assign target X.env u) (λ_ s'=>∃σ' H',Inv X pins σ' H' s'/\Q σ' H') X.xe s
def Ia (X:Cx)(ts:List Expr)(t:Ef):Prop:=
 ∀(pins:List (Addr×Obj)) (s:Shared) (σ:St) (H:Hp) (vs:List V) (us:List Value) (Q:St->Hp->Prop),Inv X pins σ H s->Vals vs us->t vs σ H Q->
  wpAny (model X.prog X.w) X.A (assignInOrder ((assignEach ts X.env).map (·.2)) us) (λ_ s'=>∃σ' H',Inv X pins σ' H' s'/\Q σ' H') X.xe s
abbrev FF:=V->V->V->Hp->(Hp->Prop)->Prop
def El (X:Cx)(t:FF):Prop:=
 ∀(pins:List (Addr×Obj)) (s:Shared) (σ:St) (H:Hp) (o i v:V) (ov iv u:Value) (Q:Hp->Prop),Inv X pins σ H s->RelV o ov->RelV i iv->RelV v u->t o i v H Q->
  wpAny (model X.prog X.w) X.A (setItem ov iv u) (λ_ s'=>∃H',Inv X pins σ H' s'/\Q H') X.xe s
section
variable {X:Cx}{pos:Pos}
def kb (i:Nat):TG:=λv σ H Q=>Q (σ.set i (some v)) H
def cy {i:Nat}{x:Str}(hN:X.N.Nodup)(hi:X.N[i]? =some x)(hx:Loc X.env.scope x)(hf:X.fn x=true\/X.env.scope.names.lookup x=some .local:=by first |exact .inl rfl |exact .inr rfl |assumption):PG X (.Name x pos) (kb i):=by
 intro pins s σ H v u Q I r h
 exact wpAny_assign_Name (iu I hN hi hx r (λs' I'=>⟨_,H,I',h⟩) hf)
def CO:Ef:=λvs σ H Q=>vs= []/\Q σ H
def nN (t:TG)(u:Ef):Ef:=λvs σ H Q=>∃v r,vs=v :: r/\t v σ H λσ' H'=>u r σ' H' Q
def lA:Ia X [] CO:=by
 intro pins s σ H vs us Q I r h
 obtain⟨e,h⟩:=h
 subst e
 cases r
 exact assignInOrder_nil ⟨σ,H,I,h⟩
theorem cP {e:Expr}{es:List Expr}{t:TG}{u:Ef}(h1:PG X e t)(h2:Ia X es u)
  (hs:(assignEach (e :: es) X.env).map (·.2)=assign e X.env :: (assignEach es X.env).map (·.2):=by rfl):Ia X (e :: es) (nN t u):=by
 intro pins s σ H vs us Q I r h
 obtain⟨v,vr,e1,h⟩:=h
 subst e1
 cases r with
 |cons r rr=>
  rw[hs]
  refine assignInOrder_cons (b7 (h1 pins s σ H _ _ _ I r h) λ_ s1 ⟨σ1,H1,I1,q1⟩=>?_)
  exact h2 pins s1 σ1 H1 _ _ Q I1 rr q1
def Ci (K:Frag)(n:Nat)(t:Ef):TG:=λv σ H Q=>∃a xs,v=.ref a/\fw K H a xs/\xs.length=n/\t xs σ H Q
def nW {es:List Expr}{k:Nat}{t:Ef}{n:Nat}(hc:X.calm=true)(h:Ia X es t)
  (hn:(assignEach es X.env).length=n:=by rfl) (hst:(assignEach es X.env).findIdx? (·.1)=none:=by rfl):PG X (.Tuple es k pos) (Ci X.K n t):=by
 intro pins s σ H v u Q I r hw
 obtain⟨a,xs,e1,hq,hl,hw⟩:=hw
 subst e1
 cases r
 obtain⟨its,rv,ht,hz⟩:=I.tuple hq
 refine assign_Tuple_tuple (I.ok.hd hc) ht (by simp[hn,<-hl,rv.length]) hst λh' hx=>?_
 have I1:Inv X pins σ H {s with heap:=h'}:=I.kept (t':=s.toks) λb o e=>hx b o (Lf (KJ e)) e
 exact h pins _ σ H xs _ Q I1 (by simpa using rv) hw
def JV (to ti:TE)(t:FF):TG:=λv σ H Q=>to σ H λo H1=>ti σ H1 λi H2=>t o i v H2 λH3=>Q σ H3
def qm {o i:Expr}{to ti:TE}{t:FF}(ho:PE X o to)(hi:PE X i ti)(hs:El X t)
  (ha:∀v,assign (.Subscript o i pos) X.env v=(do
   let ov <-holding [v] (eval o X.env)
   let iv <-holding [v,ov] (eval i X.env)
   standAt pos
   holding [v,ov,iv] (setItem ov iv v)
   release [v,ov,iv] []):=by intro _;rfl):PG X (.Subscript o i pos) (JV to ti t):=by
 intro pins s σ H v u Q I r h
 rw[ha]
 refine KA (My (b7 (ho pins s σ H _ I h) λov s1 ⟨x,H1,I1,r1,q1⟩=>?_))
 refine KA (My (b7 (hi pins s1 σ H1 _ I1 q1) λiv s2 ⟨y,H2,I2,r2,q2⟩=>?_))
 refine KA (wpAny_standAt (KA (My (b7 (hs pins s2 σ H2 x y v ov iv u _ I2 r1 r2 r q2) λ_ s3 ⟨H3,I3,q3⟩=>?_))))
 exact wpAny_release ⟨σ,H3,I3,q3⟩
def Gz (te:TE)(g:TG):TS:=λD σ H=>te σ H λx H1=>g x σ H1 D.nx
def nE {tg e:Expr}{te:TE}{g:TG}(he:PE X e te)(hg:PG X tg g)(hs:swapsWithSole [tg] e pos.line X.env=pure false:=by rfl)(hw:swappedStores [tg] e X.env=pure none:=by rfl)
  (h1:(assignEach [tg] X.env).map (·.2)= [assign tg X.env]:=by rfl):PS X (.Assign [tg] e pos) (Gz te g):=by
 intro pins s σ H D I h
 refine wpAny_Assign_stores (b7 (he pins s σ H _ I h) λv s1 ⟨x,H1,I1,r1,q1⟩=>?_) hs hw
 rw[h1]
 exact b7 (hg pins s1 σ H1 x v _ I1 r1 q1) λ_ s2 q=>q
def iG {i:Nat}{x:Str}{e:Expr}{te:TE}{pos':Pos}(hN:X.N.Nodup)(hi:X.N[i]? =some x)(hx:Loc X.env.scope x)(he:PE X e te)(hs:swapsWith e (some (.Name x pos')) pos.line X.env=pure false:=by rfl)(hf:X.fn x=true\/X.env.scope.names.lookup x=some .local:=by first |exact .inl rfl |exact .inr rfl |assumption) :
  PS X (.Assign [.Name x pos'] e pos) (Gz te (kb i)):=by
 intro pins s σ H D I h
 refine wpAny_Assign_Name (b7 (he pins s σ H _ I h) λv s1 ⟨y,H1,I1,r1,q1⟩=>?_) hs
 exact iu I1 hN hi hx r1 (λs2 I2=>⟨_,H1,I2,q1⟩) hf
def IK (i j:Nat)(ta:TA):TS:=λD σ H=>ta σ H λvs H1=>∃v w,vs= [v,w]/\D.nx ((σ.set i (some v)).set j (some w)) H1
def Fc {i j:Nat}{x y:Str}{a b:Expr}{ta:TA}{px py pt:Pos}{kt k2 pt2}(hc:X.calm=true)(hN:X.N.Nodup)(hi:X.N[i]? =some x)(hj:X.N[j]? =some y)(hij:i≠j)
  (hx:X.env.scope.names.lookup x=some .local) (hy:X.env.scope.names.lookup y=some .local) (ha:PA X [a,b] ta)
  (hw:swappedStores [.Tuple [.Name x px,.Name y py] kt pt] (.Tuple [a,b] k2 pt2) X.env=pure (some [x,y]))
  (hs:swapsWithSole [.Tuple [.Name x px,.Name y py] kt pt] (.Tuple [a,b] k2 pt2) pos.line X.env=pure false:=by rfl) :
  PS X (.Assign [.Tuple [.Name x px,.Name y py] kt pt] (.Tuple [a,b] k2 pt2) pos) (IK i j ta):=by
 intro pins s σ H D I h
 rw[exec_Assign_arm]
 refine KA (wpAny_standAt ?_)
 rw[hs]
 refine KA (K3 ?_)
 rw[KZ (by decide)]
 refine KA (Tuple_ (b7 (ha _ pins s σ H _ I h) λus s1 ⟨vs,H1,I1,r1,q1⟩=>?_))
 obtain⟨v,w,e1,q1⟩:=q1
 subst e1
 obtain⟨u1,u2,rfl,rv,rw'⟩:∃u1 u2,us= [u1,u2]/\RelV v u1/\RelV w u2:=by
  cases r1 with
  |cons p q=>
   cases q with
   |cons p' q'=>
    cases q'
    exact⟨_,_,rfl,p,p'⟩
 refine MT ?_ (by show 2<=sizeLine;decide)
 have I2:Inv X pins σ H1 {s1 with heap:=s1.heap.push {cls:=.type "tuple",data:=.seq [u1,u2].toArray}}:=I1.kept (t':=s1.toks) λb o e=>KC _ e
 rw[hw]
 refine KA (K3 ?_)
 show wpAny (model X.prog X.w) X.A (do rule "assign.swapped-stores";let items <-unpackItems (.ref s1.heap.objs.size) 2 none;assignInOrder [λv=>bindName X.env y v,λv=>bindName X.env x v] items.reverse;pure Flow.next) _ _ _
 refine KA (wpAny_rule (KA (unpackItems_tuple (items:=#[u1,u2]) (I.ok.hd hc) (IsTup.new s1.heap _) λh' hx'=>?_)))
 have I3:=I2.kept (h':=h') (t':=s1.toks) λb o e=>hx' b o (Lf (KJ e)) e
 show wpAny _ _ (assignInOrder [λv=>bindName X.env y v,λv=>bindName X.env x v] [u2,u1] >>= λ_=>pure Flow.next) _ _ _
 refine KA (assignInOrder_cons (wpAny_bindName (iu I3 hN hj (.inl hy) rw' (λs2 I4=>?_) (.inr hy))))
 refine assignInOrder_cons (wpAny_bindName (iu I4 hN hi (.inl hx) rv (λs3 I5=>assignInOrder_nil (K3 ?_)) (.inr hx)))
 rw[List.set_comm _ _ (Ne.symm hij)] at I5
 exact⟨_,H1,I5,q1⟩
end
section
variable {X:Cx}{pos:Pos}
def Ee (c:TT)(tb:TS):TS:=λD σ H=>∃W:Nat->St->Hp->Prop,(∃m,W m σ H)/\∀m σ H,W m σ H->
 c σ H λb H1=>if b=true then ∃N:St->Hp->Prop,(∀σ' H',N σ' H'->∃m',m' < m/\W m' σ' H')/\tb {D with nx:=N,ct:=N,bk:=D.nx} σ H1 else D.nx σ H1
theorem Ao {c:Expr}{body:List Stmt}{tc:TT}{tb:TS}(hp:PassesOwn (model X.prog X.w) X.A X.env X.xe)(hc:PT X c tc)(hb:mH X body tb):PS X (.While c body [] pos) (Ee tc tb):=by
 intro pins s σ H D I h
 obtain⟨W,⟨m0,w0⟩,turn⟩:=h
 refine wpAny_While (codeAny_whileLoop (λn s'=>∃σ' H',Inv X pins σ' H' s'/\W n σ' H') ?_ m0 ⟨σ,H,I,w0⟩)
 rintro n s1 ⟨σ1,H1,I1,w1⟩
 refine Mh hp (b7 (hc pins s1 σ1 H1 _ I1 (turn n σ1 H1 w1)) λb s2 ⟨H2,I2,q2⟩=>?_)
 cases b with
 |true=>
  obtain⟨N,hN,q2⟩:=q2
  rw[KH rfl]
  refine Mh hp (b7 (hb pins s2 σ1 H2 _ I2 q2) λf s3 q3=>?_)
  cases f with
  |next=>
   obtain⟨σ3,H3,I3,n3⟩:=q3
   obtain⟨m',hm,w3⟩:=hN σ3 H3 n3
   exact⟨m',hm,σ3,H3,I3,w3⟩
  |cont=>
   obtain⟨σ3,H3,I3,n3⟩:=q3
   obtain⟨m',hm,w3⟩:=hN σ3 H3 n3
   exact⟨m',hm,σ3,H3,I3,w3⟩
  |brk=>exact q3
  |ret v=>exact q3
 |false=>
  rw[KZ K2]
  exact ML ⟨σ1,H2,I2,q2⟩
end
structure It where
 go:Nat->Hp->Prop
 yld:Nat->Hp->V->Hp->Prop
 stop:Nat->Hp->Prop
def kN (X:Cx)(pins:List (Addr×Obj))(H:Hp)(b:Addr):Prop:=
 H b=none/\b≠X.env.locals/\b∉X.fs/\(b∈X.ex\/X.s₀.heap.objs.size<=b)/\(∀x c,X.env.cells.lookup x=some c->c≠b)/\∀p∈X.pn ++ pins,p.1≠b
def Inv.fpOk {X:Cx}{pins:List (Addr×Obj)}{σ:St}{H H':Hp}{s:Shared}{b:Addr}(I:Inv X pins σ H s)(hb:s.heap.objs.size<=b)(hn:H' b=none):kN X pins H' b:=by
 refine⟨hn,L7 (K6 I.lt hb),I.nofs hb,.inr (LA I.sz hb),λx c e z=>?_,λp hp z=>?_⟩
 ·obtain⟨v,q⟩:=I.cell x c e
  exact absurd (K6 q.lt (by rw[z];exact hb)) (LL _)
 ·exact absurd (K6 (KJ (I.pin p hp).1) (by rw[z];exact hb)) (LL _)
structure Turn (P:Program)(w:World)(K:Frag)(tg:Expr)(J:It)(fp:List Addr)(it:Addr)(tn:Nat->Heap->Prop):Prop where
 mem:it∈fp
 obj:∀i h,tn i h->∀b∈fp,∃o,h.get? b=some o/\∀v,o.data≠.cell v
 keep:∀i h h',tn i h->(∀b∈fp,∀o,h.get? b=some o->h'.get? b=some o)->tn i h'
 item:∀(X:Cx),X.prog=P->X.w=w->X.K=K->X.calm=true->∀(i:Nat) (pins:List (Addr×Obj)) (s:Shared) (σ:St) (H:Hp) (E:Value->Shared->Prop),Inv X pins σ H s->(∀b∈fp,kN X pins H b)->tn i s.heap->J.go i H->
  wpAny (model P w) X.A (pyNext (.ref it)) (λr s1=>∃u,r=some u/\
   wpAny (model P w) X.A (letOwnedTupleGo tg (.ref it) u) (λ_ s2=>∃x H',Inv X pins σ H' s2/\RelV x u/\J.yld i H x H'/\tn (i + 1) s2.heap/\∀b∈fp,H' b=none) E s1) E s
 done:∀(X:Cx),X.prog=P->X.w=w->X.K=K->X.calm=true->∀(i:Nat) (pins:List (Addr×Obj)) (s:Shared) (σ:St) (H:Hp) (E:Value->Shared->Prop),Inv X pins σ H s->(∀b∈fp,kN X pins H b)->tn i s.heap->J.stop i H->
  wpAny (model P w) X.A (pyNext (.ref it)) (λr s1=>r=none/\Inv X pins σ H s1) E s
 self:∀(A:Around) (i:Nat) (s:Shared) (Q:Value->Shared->Prop) (E:Value->Shared->Prop),tn i s.heap->Q (.ref it) s->wpAny (model P w) A (pyIter (.ref it)) Q E s
abbrev TI:=St->Hp->(It->Hp->Prop)->Prop
def Kb (X:Cx)(pins:List (Addr×Obj))(σ:St)(tg:Expr)(R:It->Hp->Prop)(itv:Value)(s2:Shared):Prop:=
 ∃(it:Addr) (fp:List Addr) (tn:Nat->Heap->Prop) (J:It) (H':Hp),itv=.ref it/\Inv X pins σ H' s2/\Turn X.prog X.w X.K tg J fp it tn/\tn 0 s2.heap/\(∀b∈fp,kN X pins H' b)/\R J H'
def PI (X:Cx)(tg iter:Expr)(wi:TI):Prop:=
 ∀(pins:List (Addr×Obj)) (s:Shared) (σ:St) (H:Hp) (R:It->Hp->Prop),Inv X pins σ H s->wi σ H R->
  wpAny (model X.prog X.w) X.A (eval iter X.env) (λv s1=>wpAny (model X.prog X.w) X.A (pyIter v) (Kb X pins σ tg R) X.xe s1) X.xe s
def Ab {M:Model}{A:Around}{E:Value->Shared->Prop}{s:Shared}{tg:Expr}{it:Addr}{u:Value}{o:Obj}{n:String}{vs:Array Value}{Q:Unit->Shared->Prop}(ho:s.heap.get? it=some o)(hc:o.cls=.type n)(hd:o.data=.fields vs)
  (hn: ["enumerate","zip","dict_itemiterator","dict_reverseitemiterator","odict_iterator","itertools.zip_longest","itertools.pairwise"].contains n=false) (hQ:Q () s):wpAny M A (letOwnedTupleGo tg (.ref it) u) Q E s:=by
 unfold letOwnedTupleGo
 cases tg <;> first
  |exact K3 hQ
  | (cases u <;> first
    |exact K3 hQ
    | (refine KA (wpAny_load ho ?_)
       rw[hc,hd]
       show wpAny M A (if (["enumerate","zip","dict_itemiterator","dict_reverseitemiterator","odict_iterator","itertools.zip_longest","itertools.pairwise"].contains n && vs[0]? == some (rawInt _))=true then _ else _) Q E s
       rw[KZ (by intro h;rw[hn,Bool.false_and] at h;cases h)]
       exact K3 hQ))
def yM (K:Frag)(a:Addr):It:=
 ⟨λi H=>∃xs x,fx K H a xs/\xs[i]? =some x,λi H x H'=>H'=H/\∀xs,fx K H a xs->xs[i]? =some x,λi H=>∃xs,fx K H a xs/\xs.length<=i⟩
def D4 (K:Frag)(a:Addr):It:=
 ⟨λi H=>∃xs x,fw K H a xs/\xs[i]? =some x,λi H x H'=>H'=H/\∀xs,fw K H a xs->xs[i]? =some x,λi H=>∃xs,fw K H a xs/\xs.length<=i⟩
def Bh (lo:Int)(n:Nat):It:=⟨λi _=>i < n,λi H x H'=>H'=H/\x=.int (lo + i),λi _=>n<=i⟩
def me {P:Program}{w:World}{K:Frag}{tg:Expr}(a it:Addr):Turn P w K tg (yM K a) [it] it (λi h=>h.IsListIter it a i) where
 mem:=by simp
 obj:=λi h st b hb=>by
  have e:b=it:=by simpa using hb
  subst e
  obtain⟨o,e,c,d⟩:=st
  exact⟨o,e,λv z=>by rw[d] at z;cases z⟩
 keep:=λi h h' st k=>st.at λo e=>k it (by simp) o e
 item:=by
  intro X hP hw hK hc i pins s σ H E I hf st hg
  subst hP hw hK
  obtain⟨xs,x,hq,hx⟩:=hg
  obtain⟨its,rv,p,hz⟩:=I.list hq
  obtain⟨u,hu,ru⟩:=rv.get hx
  obtain⟨f0,f1,f2,f3,f4,f5⟩:=hf it (by simp)
  refine wpAny_pyNext_list_item st p.isList (x:=u) (by simpa using hu) λh' st' sb=>?_
  have I1:Inv X pins σ H {s with heap:=h'}:=I.turned (t':=s.toks) (λb o hb e=>(sb.2 b hb).trans e) f0 f1 f3 f4 f5
  obtain⟨o,e,c,d⟩:=id st'
  exact⟨u,rfl,Ab (s:={s with heap:=h'}) e c d (by decide) ⟨x,H,I1,ru,⟨rfl,λys hy=>by rw[I.list_inj hy hq];exact hx⟩,st',λb hb=>(hf b hb).1⟩⟩
 done:=by
  intro X hP hw hK hc i pins s σ H E I hf st hg
  subst hP hw hK
  obtain⟨xs,hq,hx⟩:=hg
  obtain⟨its,rv,p,hz⟩:=I.list hq
  obtain⟨f0,f1,f2,f3,f4,f5⟩:=hf it (by simp)
  have hl:=rv.length
  exact wpAny_pyNext_list_end (I.ok.hd hc) st p.isList (by simp;omega) λh' eb=>⟨rfl,I.turned (t':=s.toks) (λb o hb e=>eb b o hb e) f0 f1 f3 f4 f5⟩
 self:=λ_ _ _ _ _ st h=>wpAny_pyIter_listiter st h
def nR {P:Program}{w:World}{K:Frag}{tg:Expr}(a it:Addr):Turn P w K tg (D4 K a) [it] it (λi h=>h.IsTupleIter it a i) where
 mem:=by simp
 obj:=λi h st b hb=>by
  have e:b=it:=by simpa using hb
  subst e
  obtain⟨o,e,c,d⟩:=st
  exact⟨o,e,λv z=>by rw[d] at z;cases z⟩
 keep:=λi h h' st k=>st.at λo e=>k it (by simp) o e
 item:=by
  intro X hP hw hK hc i pins s σ H E I hf st hg
  subst hP hw hK
  obtain⟨xs,x,hq,hx⟩:=hg
  obtain⟨its,rv,p,hz⟩:=I.tuple hq
  obtain⟨u,hu,ru⟩:=rv.get hx
  obtain⟨f0,f1,f2,f3,f4,f5⟩:=hf it (by simp)
  refine wpAny_pyNext_tuple_item st (show s.heap.IsTuple a its.toArray from p) (x:=u) (by simpa using hu) λh' st' sb=>?_
  have I1:Inv X pins σ H {s with heap:=h'}:=I.turned (t':=s.toks) (λb o hb e=>(sb.2 b hb).trans e) f0 f1 f3 f4 f5
  obtain⟨o,e,c,d⟩:=id st'
  exact⟨u,rfl,Ab (s:={s with heap:=h'}) e c d (by decide) ⟨x,H,I1,ru,⟨rfl,λys hy=>by rw[I.tuple_inj hy hq];exact hx⟩,st',λb hb=>(hf b hb).1⟩⟩
 done:=by
  intro X hP hw hK hc i pins s σ H E I hf st hg
  subst hP hw hK
  obtain⟨xs,hq,hx⟩:=hg
  obtain⟨its,rv,p,hz⟩:=I.tuple hq
  obtain⟨f0,f1,f2,f3,f4,f5⟩:=hf it (by simp)
  have hl:=rv.length
  exact wpAny_pyNext_tuple_end (I.ok.hd hc) st (show s.heap.IsTuple a its.toArray from p) (by simp;omega) λh' eb=>⟨rfl,I.turned (t':=s.toks) (λb o hb e=>eb b o hb e) f0 f1 f3 f4 f5⟩
 self:=λ_ _ _ _ _ st h=>wpAny_pyIter_tupleiter st h
def uY {P:Program}{w:World}{K:Frag}{tg:Expr}(it:Addr)(lo:Int)(n:Nat):Turn P w K tg (Bh lo n) [it] it (λi h=>IsRangeIter h it (lo + (i:Nat) * 1) ((n:Int) - (i:Nat)) 1) where
 mem:=by simp
 obj:=λi h st b hb=>by
  have e:b=it:=by simpa using hb
  subst e
  exact⟨_,st,λv z=>by
   have z':Data.fields _=Data.cell v:=z
   cases z'⟩
 keep:=λi h h' st k=>k it (by simp) _ st
 item:=by
  intro X hP hw hK hc i pins s σ H E I hf st hg
  subst hP hw hK
  obtain⟨f0,f1,f2,f3,f4,f5⟩:=hf it (by simp)
  have W:=Walks.range (prog:=X.prog) (w:=X.w) (I.ok.hd hc) it lo 1 n
  refine W.item i s _ _ hg st λv h' tk hv st' kk=>?_
  obtain⟨t,rfl⟩:=hv
  have I1:Inv X pins σ H {s with heap:=h',toks:=tk}:=I.turned (λb o hb e=>kk b o (by simpa using hb) e) f0 f1 f3 f4 f5
  refine⟨_,rfl,Ab (s:={s with heap:=h',toks:=tk}) (n:="range_iterator") st' rfl rfl (by decide) ⟨.int (lo + i),H,I1,⟨t,?_⟩,⟨rfl,rfl⟩,st',λb hb=>(hf b hb).1⟩⟩
  rw[Int.mul_one]
 done:=by
  intro X hP hw hK hc i pins s σ H E I hf st hg
  subst hP hw hK
  obtain⟨f0,f1,f2,f3,f4,f5⟩:=hf it (by simp)
  exact wpAny_pyNext_range_end (I.ok.hd hc) st (by have:n<=i:=hg;omega) λh' eb=>⟨rfl,I.turned (t':=s.toks) (λb o hb e=>eb b o hb e) f0 f1 f3 f4 f5⟩
 self:=λ_ _ _ _ _ st h=>wpAny_pyIter_rangeiter st h
section
variable {X:Cx}{tg:Expr}
def GP (K:Frag)(tl:TE):TI:=λσ H R=>tl σ H λx H1=>∃a,x=.ref a/\(∃xs,fx K H1 a xs)/\R (yM K a) H1
def wJ {l:Expr}{tl:TE}(hl:PE X l tl):PI X tg l (GP X.K tl):=by
 intro pins s σ H R I h
 refine b7 (hl pins s σ H _ I h) λv s1 ⟨x,H1,I1,r1,q1⟩=>?_
 obtain⟨a,e,⟨xs,hq⟩,q⟩:=q1
 subst e
 cases r1
 obtain⟨its,rv,p,hz⟩:=I1.list hq
 refine ME p.isList ?_
 refine⟨s1.heap.objs.size,[s1.heap.objs.size],_,_,H1,rfl,I1.kept (t':=s1.toks) λb o e=>KC _ e,me a _,⟨_,K0 _ rfl,rfl,rfl⟩,λb hb=>?_,q⟩
 have e:b=s1.heap.objs.size:=by simpa using hb
 subst e
 exact I1.fpOk (KI _) (I1.hok.fresh (KI _))
def Ag {pins:List (Addr×Obj)}{σ:St}{H:Hp}{s:Shared}{R:It->Hp->Prop}{E:Value->Shared->Prop}{lo hi:Int}{t u v:Tok}{tk:Nat}(I:Inv X pins σ H s)(h1: -(2 ^ 62)<=lo)(h2:lo < 2 ^ 62)(h3: -(2 ^ 62)<=hi)(h4:hi < 2 ^ 62)
  (q:R (Bh lo (hi - lo).toNat) H):wpAny (model X.prog X.w) X.A (pyIter (.ref s.heap.objs.size)) (Kb X pins σ tg R) E {s with heap:=s.heap.push {cls:=.type "range",data:=.fields #[.int lo t,.int hi u,.int 1 v]},toks:=tk}:=by
 refine wpAny_pyIter_range (IsRange.new ..) (small_one h1 h2 h3 h4) ?_
 have I1:Inv X pins σ H {s with heap:=s.heap.push {cls:=.type "range",data:=.fields #[.int lo t,.int hi u,.int 1 v]},toks:=tk}:=I.kept λb o e=>KC _ e
 refine⟨(s.heap.push {cls:=.type "range",data:=.fields #[.int lo t,.int hi u,.int 1 v]}).objs.size,[(s.heap.push {cls:=.type "range",data:=.fields #[.int lo t,.int hi u,.int 1 v]}).objs.size],_,_,H,rfl,
  I1.kept (t':=tk) λb o e=>KC _ e,uY _ lo (hi - lo).toNat,?_,λb hb=>?_,q⟩
 ·have e1:lo + ((0:Nat):Int) * 1=lo:=by simp
  have e2:(((hi - lo).toNat:Nat):Int) - ((0:Nat):Int)=Builtin.Range.rangeSize lo hi 1:=by rw[rangeSize_one];split <;> omega
  show IsRangeIter _ _ (lo + ((0:Nat):Int) * 1) ((((hi - lo).toNat:Nat):Int) - ((0:Nat):Int)) 1
  rw[e1,e2]
  exact K0 _ rfl
 ·have e:b=(s.heap.push {cls:=.type "range",data:=.fields #[.int lo t,.int hi u,.int 1 v]}).objs.size:=by simpa using hb
  subst e
  exact I1.fpOk (KI _) (I1.hok.fresh (KI _))
def Hv (ta:TA):TI:=λσ H R=>ta σ H λvs H1=>∃j:Int,vs= [.int j]/\ -(2 ^ 62)<=j/\j < 2 ^ 62/\R (Bh 0 j.toNat) H1
theorem jQ {a:Expr}{ta:TA}{p pos:Pos}(hg:Gl X "range")(hm:X.mg "range"=none)(ha:PA X [a] ta)(hs:starEach [a] X.env= [(false,eval a X.env)]:=by rfl):PI X tg (.Call (.Name "range" p) [a] [] pos) (Hv ta):=by
 intro pins s σ H R I h
 refine Call_ (kz I hg hm boot_range (LW (b7 (ha pos pins s σ H _ I h) λus s1 ⟨vs,H1,I1,r1,q1⟩=>?_) hs rfl))
 obtain⟨j,e,q1,q2,q⟩:=q1
 subst e
 cases r1 with
 |cons r rr=>
  cases rr
  obtain⟨t,rfl⟩:=r
  exact call_range_1 (Ag I1 (by omega) (by omega) q1 q2 (by simpa using q))
def JE (wi:TI)(g:TG)(tb:TS):TS:=λD σ H=>wi σ H λJ H1=>∃W:Nat->Nat->St->Hp->Prop,(∃m,W 0 m σ H1)/\∀i m σ H,W i m σ H->
 (J.stop i H/\D.nx σ H)\/(J.go i H/\∃N:St->Hp->Prop,(∀σ' H',N σ' H'->∃m',m' < m/\W (i + 1) m' σ' H')/\∀x H',J.yld i H x H'->g x σ H' λσ2 H2=>tb {D with nx:=N,ct:=N,bk:=D.nx} σ2 H2)
def nz (fp:List Addr)(h:Heap):List (Addr×Obj):=fp.filterMap λb=>(h.get? b).map λo=>(b,o)
def iL {fp:List Addr}{h:Heap}{b:Addr}{o:Obj}(hb:b∈fp)(e:h.get? b=some o):(b,o)∈nz fp h:=Me.mpr ⟨b,hb,by rw[e];rfl⟩
theorem yQ {fp:List Addr}{h:Heap}{p:Addr×Obj}(hp:p∈nz fp h):p.1∈fp/\h.get? p.1=some p.2:=by
 obtain⟨b,hb,e⟩:=Me.mp hp
 cases q:h.get? b with
 |none=>rw[q] at e;cases e
 |some o=>
  rw[q] at e
  have e':(b,o)=p:=Option.some.inj e
  subst e'
  exact⟨hb,q⟩
def Inv.pinned {pins:List (Addr×Obj)}{σ:St}{H:Hp}{s:Shared}{fp:List Addr}(I:Inv X pins σ H s)(hf:∀b∈fp,kN X pins H b)(ho:∀b∈fp,∃o,s.heap.get? b=some o/\∀v,o.data≠.cell v):Inv X (pins ++ nz fp s.heap) σ H s:=
 I.pins_of λp hp=>(Lk.mp hp).elim (λz=>I.pin p (Lw _ z)) λz=>by
  obtain⟨hb,e⟩:=yQ z
  obtain⟨f0,f1,f2,_⟩:=hf p.1 hb
  obtain⟨o,e',d⟩:=ho p.1 hb
  rw[e] at e';cases e'
  exact⟨e,f0,f1,f2,d⟩
def Inv.unpinned {pins pl:List (Addr×Obj)}{σ:St}{H:Hp}{s:Shared}(I:Inv X (pins ++ pl) σ H s):Inv X pins σ H s:=I.pins_of λp hp=>I.pin p (Lw _ (L6 _ hp))
def qr {iter:Expr}{body:List Stmt}{wi:TI}{g:TG}{tb:TS}{pos:Pos}(hp:PassesOwn (model X.prog X.w) X.A X.env X.xe)(hc:X.calm=true)(hi:PI X tg iter wi)(hg:PG X tg g)(hb:mH X body tb)
  (hs:∀x,foldedSetIterable iter X.env x=pure x:=by intro _;rfl):PS X (.For tg iter body [] pos) (JE wi g tb):=by
 intro pins s σ H D I h
 refine wpAny_For (b7 (hi pins s σ H _ I h) λv s1 h1=>b7 h1 λitv s2 h2=>?_) hs
 obtain⟨it,fp,tn,J,H2,e,I2,T,st2,f2,W,⟨m0,w0⟩,turn⟩:=h2
 subst e
 have stat:∀{H':Hp},(∀b∈fp,H' b=none)->∀b∈fp,kN X pins H' b:=λhn b hb=>⟨hn b hb,(f2 b hb).2⟩
 refine codeAny_forLoop_any (λn s'=>∃i σ' H',Inv X pins σ' H' s'/\tn i s'.heap/\(∀b∈fp,H' b=none)/\W i n σ' H') ?_ m0 ⟨0,σ,H2,I2,st2,λb hb=>(f2 b hb).1,w0⟩
 rintro n s3 ⟨i,σ3,H3,I3,st3,fr3,w3⟩
 rcases turn i n σ3 H3 w3 with⟨stop,qn⟩ | ⟨go,N,hN,step⟩
 ·refine Mh hp (b7 (T.done X rfl rfl rfl hc i pins s3 σ3 H3 X.xe I3 (stat fr3) st3 stop) λr s4 ⟨hr,I4⟩=>?_)
  subst hr
  exact ML ⟨σ3,H3,I4,qn⟩
 ·refine Mh hp (b7 (T.item X rfl rfl rfl hc i pins s3 σ3 H3 X.xe I3 (stat fr3) st3 go) λr s4 ⟨u,hr,h4⟩=>?_)
  subst hr
  refine Mh hp (b7 h4 λ_ s5 ⟨x,H5,I5,r5,y5,st5,fr5⟩=>?_)
  have I5':=I5.pinned (stat fr5) (T.obj _ _ st5)
  refine Mh hp (b7 (hg _ s5 σ3 H5 x u _ I5' r5 (step x H5 y5)) λ_ s6 ⟨σ6,H6,I6,q6⟩=>?_)
  refine Mh hp (b7 (hb _ s6 σ6 H6 _ I6 q6) λf s7 q7=>?_)
  have again:∀{σ7:St} {H7:Hp},Inv X (pins ++ nz fp s5.heap) σ7 H7 s7->N σ7 H7->∃m,m < n/\∃i σ' H',Inv X pins σ' H' s7/\tn i s7.heap/\(∀b∈fp,H' b=none)/\W i m σ' H':=λ{σ7 H7} I7 n7=>by
   obtain⟨m',hm,w7⟩:=hN σ7 H7 n7
   refine⟨m',hm,i + 1,σ7,H7,I7.unpinned,T.keep _ _ _ st5 λb hb o e=>(I7.pin (b,o) (Lw _ (Lw _ (iL hb e)))).1,λb hb=>?_,w7⟩
   obtain⟨o,e,d⟩:=T.obj _ _ st5 b hb
   exact (I7.pin (b,o) (Lw _ (Lw _ (iL hb e)))).2.1
  cases f with
  |next=>obtain⟨σ7,H7,I7,n7⟩:=q7;exact again I7 n7
  |cont=>obtain⟨σ7,H7,I7,n7⟩:=q7;exact again I7 n7
  |brk=>obtain⟨σ7,H7,I7,q7⟩:=q7;exact⟨σ7,H7,I7.unpinned,q7⟩
  |ret v=>obtain⟨x7,σ7,H7,I7,r7,q7⟩:=q7;exact⟨x7,σ7,H7,I7.unpinned,r7,q7⟩
end
def ue {K:Frag}{a:Addr}{xs:List V}{g:TG}{tb:TS}{D:Ends}{σ:St}{H:Hp}(Pv:Nat->St->Hp->Prop)(h0:Pv 0 σ H)(hl:∀i σ H,i<=xs.length->Pv i σ H->fx K H a xs)
  (hs:∀i x σ H,xs[i]? =some x->Pv i σ H->g x σ H λσ2 H2=>tb {D with nx:=Pv (i + 1),ct:=Pv (i + 1),bk:=D.nx} σ2 H2) (hd:∀σ H,Pv xs.length σ H->D.nx σ H) :
  ∃W:Nat->Nat->St->Hp->Prop,(∃m,W 0 m σ H)/\∀i m σ H,W i m σ H->
   ((yM K a).stop i H/\D.nx σ H)\/((yM K a).go i H/\∃N:St->Hp->Prop,(∀σ' H',N σ' H'->∃m',m' < m/\W (i + 1) m' σ' H')/\∀x H',(yM K a).yld i H x H'->g x σ H' λσ2 H2=>tb {D with nx:=N,ct:=N,bk:=D.nx} σ2 H2):=by
 refine⟨λi m σ H=>m=xs.length - i/\i<=xs.length/\Pv i σ H,⟨xs.length,by simp,LC _,h0⟩,?_⟩
 rintro i m σ H ⟨rfl,hi,p⟩
 have q:=hl i σ H hi p
 by_cases hlt:i < xs.length
 ·refine .inr ⟨⟨xs,xs[i],q,by simp[hlt]⟩,Pv (i + 1),λσ' H' p'=>⟨xs.length - (i + 1),by omega,rfl,hlt,p'⟩,λx H' y=>?_⟩
  obtain⟨e,y⟩:=y
  subst e
  exact hs i x σ _ (y xs q) p
 ·have e:i=xs.length:=by omega
  subst e
  exact .inl ⟨⟨xs,q,KI _⟩,hd σ H p⟩
def Cm {K:Frag}{a:Addr}{xs:List V}{g:TG}{tb:TS}{D:Ends}{σ:St}{H:Hp}(Pv:Nat->St->Hp->Prop)(h0:Pv 0 σ H)(hl:∀i σ H,i<=xs.length->Pv i σ H->fw K H a xs)
  (hs:∀i x σ H,xs[i]? =some x->Pv i σ H->g x σ H λσ2 H2=>tb {D with nx:=Pv (i + 1),ct:=Pv (i + 1),bk:=D.nx} σ2 H2) (hd:∀σ H,Pv xs.length σ H->D.nx σ H) :
  ∃W:Nat->Nat->St->Hp->Prop,(∃m,W 0 m σ H)/\∀i m σ H,W i m σ H->
   ((D4 K a).stop i H/\D.nx σ H)\/((D4 K a).go i H/\∃N:St->Hp->Prop,(∀σ' H',N σ' H'->∃m',m' < m/\W (i + 1) m' σ' H')/\∀x H',(D4 K a).yld i H x H'->g x σ H' λσ2 H2=>tb {D with nx:=N,ct:=N,bk:=D.nx} σ2 H2):=by
 refine⟨λi m σ H=>m=xs.length - i/\i<=xs.length/\Pv i σ H,⟨xs.length,by simp,LC _,h0⟩,?_⟩
 rintro i m σ H ⟨rfl,hi,p⟩
 have q:=hl i σ H hi p
 by_cases hlt:i < xs.length
 ·refine .inr ⟨⟨xs,xs[i],q,by simp[hlt]⟩,Pv (i + 1),λσ' H' p'=>⟨xs.length - (i + 1),by omega,rfl,hlt,p'⟩,λx H' y=>?_⟩
  obtain⟨e,y⟩:=y
  subst e
  exact hs i x σ _ (y xs q) p
 ·have e:i=xs.length:=by omega
  subst e
  exact .inl ⟨⟨xs,q,KI _⟩,hd σ H p⟩
def xP {lo:Int}{n:Nat}{g:TG}{tb:TS}{D:Ends}{σ:St}{H:Hp}(Pv:Nat->St->Hp->Prop)(h0:Pv 0 σ H)
  (hs:∀i σ H,i < n->Pv i σ H->g (.int (lo + i)) σ H λσ2 H2=>tb {D with nx:=Pv (i + 1),ct:=Pv (i + 1),bk:=D.nx} σ2 H2) (hd:∀σ H,Pv n σ H->D.nx σ H) :
  ∃W:Nat->Nat->St->Hp->Prop,(∃m,W 0 m σ H)/\∀i m σ H,W i m σ H->
   ((Bh lo n).stop i H/\D.nx σ H)\/((Bh lo n).go i H/\∃N:St->Hp->Prop,(∀σ' H',N σ' H'->∃m',m' < m/\W (i + 1) m' σ' H')/\∀x H',(Bh lo n).yld i H x H'->g x σ H' λσ2 H2=>tb {D with nx:=N,ct:=N,bk:=D.nx} σ2 H2):=by
 refine⟨λi m σ H=>m=n - i/\i<=n/\Pv i σ H,⟨n,by simp,LC _,h0⟩,?_⟩
 rintro i m σ H ⟨rfl,hi,p⟩
 by_cases hlt:i < n
 ·refine .inr ⟨hlt,Pv (i + 1),λσ' H' p'=>⟨n - (i + 1),by omega,rfl,hlt,p'⟩,λx H' y=>?_⟩
  obtain⟨e,y⟩:=y
  subst e y
  exact hs i σ _ hlt p
 ·have e:i=n:=by omega
  subst e
  exact .inl ⟨KI _,hd σ H p⟩
abbrev R2:=V->V->Hp->VK->Prop
def lK (X:Cx)(f:Value->Value->Sem Value)(r:R2):Prop:=
 ∀(pins:List (Addr×Obj)) (s:Shared) (σ:St) (H:Hp) (x y:V) (v u:Value) (Q:VK),Inv X pins σ H s->RelV x v->RelV y u->r x y H Q->
  wpAny (model X.prog X.w) X.A (f v u) (EP X pins σ Q) X.xe s
def Iq (X:Cx)(f:Value->Sem Value)(r:V->Hp->VK->Prop):Prop:=
 ∀(pins:List (Addr×Obj)) (s:Shared) (σ:St) (H:Hp) (x:V) (v:Value) (Q:VK),Inv X pins σ H s->RelV x v->r x H Q->
  wpAny (model X.prog X.w) X.A (f v) (EP X pins σ Q) X.xe s
def cM (X:Cx)(f:Value)(r:List V->Hp->VK->Prop):Prop:=
 ∀(pins:List (Addr×Obj)) (s:Shared) (σ:St) (H:Hp) (xs:List V) (us:List Value) (Q:VK),Inv X pins σ H s->Vals xs us->r xs H Q->
  wpAny (model X.prog X.w) X.A (call f us) (EP X pins σ Q) X.xe s
def JX (X:Cx)(r:V->Hp->(Bool->Hp->Prop)->Prop):Prop:=
 ∀(pins:List (Addr×Obj)) (s:Shared) (σ:St) (H:Hp) (x:V) (v:Value) (Q:Bool->Hp->Prop),Inv X pins σ H s->RelV x v->r x H Q->
  wpAny (model X.prog X.w) X.A (truthy v) (TP X pins σ Q) X.xe s
def Iy (r:R2)(ta tb:TE):TE:=λσ H Q=>ta σ H λx H1=>tb σ H1 λy H2=>r x y H2 Q
def Kw (r:V->Hp->VK->Prop)(ta:TE):TE:=λσ H Q=>ta σ H λx H1=>r x H1 Q
def rI (C:Int->Int->Prop)(g:Int->Int->V):R2:=λx y H Q=>∃i j,x=.int i/\y=.int j/\C i j/\Q (g i j) H
def Au (g:Int->Int->V):R2:=λx y H Q=>∃i j,x=.int i/\y=.int j/\Q (g i j) H
def rU (g:Int->V):V->Hp->VK->Prop:=λx H Q=>∃i,x=.int i/\Q (g i) H
section
variable {X:Cx}{a b c:Expr}{ta tb tc:TE}{pos:Pos}
def EU (ha:PE X a ta)(hb:PE X b tb){pins:List (Addr×Obj)}{s:Shared}{σ:St}{H:Hp}{R:V->V->Hp->Prop}(I:Inv X pins σ H s)
  (h:ta σ H λx H1=>tb σ H1 λy H2=>R x y H2) {Q:Value->Shared->Prop} {f:Value->Value->Sem Value}
  (hf:∀v u s2 x y H2,Inv X pins σ H2 s2->RelV x v->RelV y u->R x y H2->wpAny (model X.prog X.w) X.A (f v u) Q X.xe s2) :
  wpAny (model X.prog X.w) X.A (eval a X.env) (λv s₁=>wpAny (model X.prog X.w) X.A (eval b X.env) (λu s₂=>wpAny (model X.prog X.w) X.A (f v u) Q X.xe s₂) X.xe s₁) X.xe s:=by
 refine b7 (ha pins s σ H _ I h) λv s1 ⟨x,H1,I1,r1,q1⟩=>?_
 refine b7 (hb pins s1 σ H1 _ I1 q1) λu s2 ⟨y,H2,I2,r2,q2⟩=>?_
 exact hf v u s2 x y H2 I2 r1 r2 q2
def mr {op:Operator}{r:R2}(ho:lK X (binaryOp op) r)(ha:PE X a ta)(hb:PE X b tb):PE X (.BinOp a op b pos) (Iy r ta tb):=by
 intro pins s σ H Q I h
 exact wpAny_BinOp (EU ha hb I h λv u s2 x y H2 I2 rx ry q=>ho pins s2 σ H2 x y v u Q I2 rx ry q)
def HA {op:UnaryOp}{r:V->Hp->VK->Prop}(ho:Iq X (unaryOp op) r)(ha:PE X a ta):PE X (.UnaryOp op a pos) (Kw r ta):=by
 intro pins s σ H Q I h
 exact UnaryOp_ (b7 (ha pins s σ H _ I h) λv s1 ⟨x,H1,I1,r1,q1⟩=>ho pins s1 σ H1 x v Q I1 r1 q1)
def Ik {f:Value->Value->Sem Value}{C:Int->Int->Prop}{g:Int->Int->Int}
  (rule:∀(i j:Int) (t u:Tok) (s:Shared) (Q:Value->Shared->Prop) (E:Value->Shared->Prop),C i j->Q (.int (g i j) s.toks) {s with toks:=s.toks + 1}->wpAny (model X.prog X.w) X.A (f (.int i t) (.int j u)) Q E s) :
  lK X f (rI C λi j=>.int (g i j)):=by
 intro pins s σ H x y v u Q I rx ry h
 obtain⟨i,j,rfl,rfl,hc,q⟩:=h
 obtain⟨t,rfl⟩:=rx
 obtain⟨t',rfl⟩:=ry
 exact rule i j t t' s _ _ hc ⟨.int (g i j),H,I.tok _,⟨_,rfl⟩,q⟩
def JJ {f:Value->Value->Sem Value}{g:Int->Int->Int}
  (rule:∀(i j:Int) (t u:Tok) (s:Shared) (Q:Value->Shared->Prop) (E:Value->Shared->Prop),Q (.int (g i j) s.toks) {s with toks:=s.toks + 1}->wpAny (model X.prog X.w) X.A (f (.int i t) (.int j u)) Q E s) :
  lK X f (Au λi j=>.int (g i j)):=by
 intro pins s σ H x y v u Q I rx ry h
 obtain⟨i,j,rfl,rfl,q⟩:=h
 obtain⟨t,rfl⟩:=rx
 obtain⟨t',rfl⟩:=ry
 exact rule i j t t' s _ _ ⟨.int (g i j),H,I.tok _,⟨_,rfl⟩,q⟩
def Ek {f:Value->Value->Sem Value}{g:Int->Int->Bool}
  (rule:∀(i j:Int) (t u:Tok) (s:Shared) (Q:Value->Shared->Prop) (E:Value->Shared->Prop),Q (.bool (g i j)) s->wpAny (model X.prog X.w) X.A (f (.int i t) (.int j u)) Q E s) :
  lK X f (Au λi j=>.bl (g i j)):=by
 intro pins s σ H x y v u Q I rx ry h
 obtain⟨i,j,rfl,rfl,q⟩:=h
 obtain⟨t,rfl⟩:=rx
 obtain⟨t',rfl⟩:=ry
 exact rule i j t t' s _ _ ⟨.bl (g i j),H,I,rfl,q⟩
def CT (i j:Int):Prop:=0 < j/\j < 1073741824
def Fv (i j:Int):Prop:=0<=j/\j<=1000000/\i.natAbs < 2 ^ 64
def zN (i j:Int):Prop:=(-(2 ^ 64) < i/\i < 2 ^ 64)\/(-(2 ^ 64) < j/\j < 2 ^ 64)
def zN.ok {i j:Int}(h:zN i j):IntMulOk i j:=by
 rcases h with⟨h1,h2⟩ | ⟨h1,h2⟩
 ·exact .of_left (intBits_le_64 h1 h2)
 ·exact .of_right (intBits_le_64 h1 h2)
def l8:lK X (binaryOp .Add) (Au λi j=>.int (i + j)):=JJ λ_ _ _ _ _ _ _ q=>add_int q
def jK:lK X (binaryOp .Mult) (rI zN λi j=>.int (i * j)):=Ik λ_ _ _ _ _ _ _ hc q=>mul_int q hc.ok
def lD:lK X (binaryOp .FloorDiv) (rI CT λi j=>.int (i / j)):=Ik λi j _ _ _ _ _ hc q=>by
 have h1:(0:Int) < j:=hc.1
 have h2:j < 1073741824:=hc.2
 exact floordiv_int (by omega) (by rw[Int.fdiv_eq_ediv_of_nonneg i (by omega)];exact q) (.inl (PyProof.noPylong_small (by omega)))
def kE:lK X (binaryOp .Mod) (rI (λ_ j=>0 < j) λi j=>.int (i % j)):=Ik λi j _ _ _ _ _ hc q=>by
 have h1:(0:Int) < j:=hc
 exact mod_int' (by omega) (by rw[Int.fmod_eq_emod_of_nonneg i (by omega)];exact q)
def Gb:lK X (binaryOp .Pow) (rI Fv λi j=>.int (i ^ j.toNat)):=Ik λ_ _ _ _ _ _ _ hc q=>pow_int_small hc.1 hc.2.1 hc.2.2 q
def Kq {f:Value->Sem Value}{g:Int->Int}
  (rule:∀(i:Int) (t:Tok) (s:Shared) (Q:Value->Shared->Prop) (E:Value->Shared->Prop),Q (.int (g i) s.toks) {s with toks:=s.toks + 1}->wpAny (model X.prog X.w) X.A (f (.int i t)) Q E s) :
  Iq X f (rU λi=>.int (g i)):=by
 intro pins s σ H x v Q I rx h
 obtain⟨i,rfl,q⟩:=h
 obtain⟨t,rfl⟩:=rx
 exact rule i t s _ _ ⟨.int (g i),H,I.tok _,⟨_,rfl⟩,q⟩
def Fh:Iq X (unaryOp .USub) (rU λi=>.int (-i)):=Kq λ_ _ _ _ _ q=>neg_int q
end
def Jb:V->V->Bool
 | .non,.non=>true | .non,.int _=>true | .int _,.non=>true | .non,.bl _=>true | .bl _,.non=>true | .non,.str _=>true | .str _,.non=>true
 | .int _,.int _=>true | .bl _,.bl _=>true | .str _,.str _=>true | .byt _,.byt _=>true
 | .int _,.str _=>true | .str _,.int _=>true | .bl _,.str _=>true | .str _,.bl _=>true
 |_,_=>false
def Kd:R2:=λx y H Q=>Jb x y=true/\Q (.bl (!decide (x=y))) H
def CA {i j:Int}:decide (V.int i=V.int j)=(i == j):=by
 rw[Lq]
 simp
def EZ {i j:Bool}:decide (V.bl i=V.bl j)=(i == j):=by
 rw[Lq]
 simp
def Cv {i j:Str}:decide (V.str i=V.str j)=(i == j):=by
 rw[Lq]
 simp
def CL {i j:Array UInt8}:decide (V.byt i=V.byt j)=(i.toList == j.toList):=by
 rw[Lq]
 cases i
 cases j
 simp
section
variable {X:Cx}{a b c:Expr}{ta tb tc:TE}{pos:Pos}
def cU {pins:List (Addr×Obj)}{σ:St}{H:Hp}{s:Shared}{Q:VK}{k k':Bool}(I:Inv X pins σ H s)(q:Q (.bl k) H)(e:k=k'):EP X pins σ Q (.bool k') s:=by
 subst e
 exact⟨.bl k,H,I,rfl,q⟩
theorem Bi:lK X (compareOp .NotEq) Kd:=by
 intro pins s σ H x y v u Q I rx ry h
 obtain⟨hs,q⟩:=h
 cases x with
 |non=>
  cases rx
  cases y with
  |non=>cases ry;exact PySem.EqNone.ne_none_none (cU I q (by simp))
  |bl j=>cases ry;exact PySem.EqNone.ne_none_bool (cU I q (by simp))
  |int j=>obtain⟨t',rfl⟩:=ry;exact PySem.EqNone.ne_none_int (cU I q (by simp))
  |str j=>obtain⟨t',rfl⟩:=ry;exact PySem.EqNone.ne_none_str (cU I q (by simp))
  |_=>exact absurd (show false=true from hs) K2
 |bl i=>
  cases rx
  cases y with
  |non=>cases ry;exact PySem.EqNone.ne_bool_none (cU I q (by simp))
  |bl j=>cases ry;exact ne_bool (cU I q (congrArg not EZ))
  |str j=>obtain⟨t',rfl⟩:=ry;exact PySem.EqMixed.ne_bool_str (cU I q (by simp))
  |_=>exact absurd (show false=true from hs) K2
 |int i=>
  obtain⟨t,rfl⟩:=rx
  cases y with
  |non=>cases ry;exact PySem.EqNone.ne_int_none (cU I q (by simp))
  |int j=>obtain⟨t',rfl⟩:=ry;exact ne_int (cU I q (congrArg not CA))
  |str j=>obtain⟨t',rfl⟩:=ry;exact PySem.EqMixed.ne_int_str (cU I q (by simp))
  |_=>exact absurd (show false=true from hs) K2
 |str i=>
  obtain⟨t,rfl⟩:=rx
  cases y with
  |non=>cases ry;exact PySem.EqNone.ne_str_none (cU I q (by simp))
  |bl j=>cases ry;exact PySem.EqMixed.ne_str_bool (cU I q (by simp))
  |int j=>obtain⟨t',rfl⟩:=ry;exact PySem.EqMixed.ne_str_int (cU I q (by simp))
  |str j=>obtain⟨t',rfl⟩:=ry;exact ne_str (cU I q (congrArg not Cv))
  |_=>exact absurd (show false=true from hs) K2
 |byt i=>
  obtain⟨t,rfl⟩:=rx
  cases y with
  |byt j=>obtain⟨t',rfl⟩:=ry;exact PySem.W.ne_bytes (cU I q (congrArg not CL))
  |_=>exact absurd (show false=true from hs) K2
 |_=>cases y <;> exact absurd (show false=true from hs) K2
def pE:lK X (compareOp .Lt) (Au λi j=>.bl (decide (i < j))):=Ek λ_ _ _ _ _ _ _ q=>lt_int q
def Bu:lK X (compareOp .LtE) (Au λi j=>.bl (decide (i<=j))):=Ek λ_ _ _ _ _ _ _ q=>le_int q
def Ha:lK X (compareOp .Gt) (Au λi j=>.bl (decide (j < i))):=Ek λ_ _ _ _ _ _ _ q=>gt_int q
def a8 (b:Expr){op:CmpOp}(h:op≠.In:=by decide)(h2:op≠.NotIn:=by decide):behindInMarks op b=false:=by
 have e1:(op == CmpOp.In)=false:=by cases op <;> first |rfl |exact absurd rfl h
 have e2:(op == CmpOp.NotIn)=false:=by cases op <;> first |rfl |exact absurd rfl h2
 cases b <;> simp[behindInMarks,e1,e2]
def BW {op:CmpOp}{r:R2}(ho:lK X (compareOp op) r)(ha:PE X a ta)(hb:PE X b tb)(hm:behindInMarks op b=false):PE X (.Compare a [op] [b] pos) (Iy r ta tb):=by
 intro pins s σ H Q I h
 exact wpAny_Compare1 (EU ha hb I h λv u s2 x y H2 I2 rx ry q=>ho pins s2 σ H2 x y v u Q I2 rx ry q) hm
def GO (t:TE):TT:=λσ H Q=>t σ H λx H'=>∃k,x=.bl k/\Q k H'
def wY {op:CmpOp}{r:R2}(ho:lK X (compareOp op) r)(ha:PE X a ta)(hb:PE X b tb)(hm:behindInMarks op b=false):PT X (.Compare a [op] [b] pos) (GO (Iy r ta tb)):=by
 intro pins s σ H Q I h
 refine wpAny_isTrue_Compare1 (b7 (ha pins s σ H _ I h) λv s1 ⟨x,H1,I1,r1,q1⟩=>b7 (hb pins s1 σ H1 _ I1 q1) λu s2 ⟨y,H2,I2,r2,q2⟩=>
  b7 (ho pins s2 σ H2 x y v u _ I2 r1 r2 q2) λc s3 ⟨z,H3,I3,r3,k,e,q3⟩=>?_) hm
 subst e
 cases r3
 exact LV ⟨H3,I3,q3⟩
def EY (r r':R2)(ta tb tc:TE):TE:=λσ H Q=>ta σ H λx H1=>tb σ H1 λy H2=>r x y H2 λz H3=>∃k,z=.bl k/\
 (if k=true then tc σ H3 λw' H4=>r' y w' H4 Q else Q (.bl false) H3)
theorem BI {op op':CmpOp}{r r':R2}(ho:lK X (compareOp op) r)(ho':lK X (compareOp op') r')(ha:PE X a ta)(hb:PE X b tb)(hc:PE X c tc)
  (hm:lastMarks [op,op'] [b,c]=false:=by with_unfolding_all rfl):PE X (.Compare a [op,op'] [b,c] pos) (EY r r' ta tb tc):=by
 intro pins s σ H Q I h
 refine Compare_chain (b7 (ha pins s σ H _ I h) λv s1 ⟨x,H1,I1,r1,q1⟩=>chain_link (b7 (hb pins s1 σ H1 _ I1 q1) λu s2 ⟨y,H2,I2,r2,q2⟩=>
  b7 (ho pins s2 σ H2 x y v u _ I2 r1 r2 q2) λd s3 ⟨z,H3,I3,r3,k,e,q3⟩=>?_)) hm
 subst e
 cases r3
 refine LV ?_
 cases k with
 |false=>exact ite_ff ⟨.bl false,H3,I3,rfl,q3⟩
 |true=>exact ite_tt (chain_last (b7 (hc pins s3 σ H3 _ I3 q3) λw' s4 ⟨z',H4,I4,r4,q4⟩=>ho' pins s4 σ H4 y z' u w' Q I4 r2 r4 q4))
def G9 (K:Frag)(x:V)(H:Hp)(k:Bool):Prop:=
 match x with
 | .non=>k=false
 | .bl b=>k=b
 | .int i=>k=(i != 0)
 | .str y=>y.length<=sizeLine/\k=((y.length:Int) != 0)
 | .byt y=>y.size<=sizeLine/\k=((y.size:Int) != 0)
 | .ref p=>(∃xs,fx K H p xs/\k= !xs.isEmpty)\/(∃xs,fw K H p xs/\k= !xs.isEmpty)\/∃kvs,H p=some (.dK kvs)/\k= !kvs.isEmpty
 |_=>False
def u3 {κ:Type}{kvs:List (κ×V)}{vs:List (κ×Value)}(r:KV kvs vs):(!vs.isEmpty)= !kvs.isEmpty:=by
 cases r <;> rfl
def nV {xs:List V}{its:List Value}(r:Vals xs its):(!its.toArray.isEmpty)= !xs.isEmpty:=by
 cases r <;> simp
def lQ:(sizeLine:Nat) < 2 ^ 63:=by rw[Ld];decide
theorem Gn:JX X (λx H Q=>∃k,G9 X.K x H k/\Q k H):=by
 intro pins s σ H x v Q I rx h
 obtain⟨k,e,q⟩:=h
 have hl:=lQ
 have hs:sizeLine=16777216:=Ld
 cases x with
 |non=>
  cases rx
  have e':k=false:=e
  subst e'
  exact truthy_none ⟨H,I,q⟩
 |bl b=>
  cases rx
  have e':k=b:=e
  subst e'
  exact LV ⟨H,I,q⟩
 |int i=>
  obtain⟨t,rfl⟩:=rx
  have e':k=(i != 0):=e
  subst e'
  exact PySem.P.truthy_int ⟨H,I,q⟩
 |str y=>
  obtain⟨t,rfl⟩:=rx
  obtain⟨hy,e'⟩:y.length<=sizeLine/\k=((y.length:Int) != 0):=e
  subst e'
  exact PySem.P.truthy_str (by omega) ⟨H,I.tok _,q⟩
 |byt y=>
  obtain⟨t,rfl⟩:=rx
  obtain⟨hy,e'⟩:y.size<=sizeLine/\k=((y.size:Int) != 0):=e
  subst e'
  exact PySem.W.truthy_bytes (by omega) ⟨H,I.tok _,q⟩
 |ref p=>
  cases rx
  have e':(∃xs,fx X.K H p xs/\k= !xs.isEmpty)\/(∃xs,fw X.K H p xs/\k= !xs.isEmpty)\/∃kvs,H p=some (.dK kvs)/\k= !kvs.isEmpty:=e
  rcases e' with⟨xs,hx,e'⟩ | ⟨xs,hx,e'⟩ | ⟨kvs,hx,e'⟩
  ·subst e'
   obtain⟨its,r,pl,hz⟩:=I.list hx
   have hlen:=r.length
   exact wpAny_truthy_list pl.isList (by simp only[KU];omega) ⟨H,I.tok _,by rw[nV r];exact q⟩
  ·subst e'
   obtain⟨its,r,pl,hz⟩:=I.tuple hx
   have hlen:=r.length
   exact truthy_tuple pl (by simp only[KU];omega) ⟨H,I.tok _,by rw[nV r];exact q⟩
  ·subst e'
   obtain⟨hz,hS,vs,r,m⟩:kvs.length<=sizeLine/\(p == sysModules)=false/\∃vs,KV kvs vs/\s.heap.DictOf (cQ X.prog X.w) p vs:=I.hok p _ hx
   have hlen:kvs.length=vs.length:=Paired.length r
   exact wpAny_truthy_dict hS m (by omega) ⟨H,I.tok _,by rw[u3 r];exact q⟩
 |_=>exact (show False from e).elim
def Bj (ha:PE X a ta)(he:∀whole,isTrue a X.env whole=(do let v <-whole;standAt a.pos;holding [v] (truthy v))) :
  PT X a (λσ H Q=>ta σ H λx H'=>∃k,G9 X.K x H' k/\Q k H'):=by
 intro pins s σ H Q I h
 exact isTrue_plain (b7 (ha pins s σ H _ I h) λv s1 ⟨x,H1,I1,r1,q1⟩=>Gn pins s1 σ H1 x v Q I1 r1 q1) (he _)
theorem vals1 {x:V}{us:List Value}(r:Vals [x] us):∃u,us= [u]/\RelV x u:=by
 cases r with
 |cons r1 r2=>cases r2;exact⟨_,rfl,r1⟩
theorem vals2 {x y:V}{us:List Value}(r:Vals [x,y] us):∃u w',us= [u,w']/\RelV x u/\RelV y w':=by
 cases r with
 |cons r1 r2=>
  cases r2 with
  |cons r3 r4=>cases r4;exact⟨_,_,rfl,r1,r3⟩
def AF:cM X (.builtin "abs") (λxs H Q=>∃i,xs= [.int i]/\Q (.int (if i < 0 then -i else i)) H):=by
 intro pins s σ H xs us Q I r h
 obtain⟨i,rfl,q⟩:=h
 obtain⟨u,rfl,t,rfl⟩:=vals1 r
 exact call_abs_int λu tk=>⟨.int (if i < 0 then -i else i),H,I.tok _,⟨_,rfl⟩,q⟩
def x9 (hc:X.calm=true):cM X (.builtin "max") (λxs H Q=>∃i j,xs= [.int i,.int j]/\Q (.int (if j > i then j else i)) H):=by
 intro pins s σ H xs us Q I r h
 obtain⟨i,j,rfl,q⟩:=h
 obtain⟨u,w',rfl,⟨t,rfl⟩,⟨t',rfl⟩⟩:=vals2 r
 refine max_two_ints (I.ok.hd hc) λh' tk k=>⟨_,H,I.kept k,?_,q⟩
 by_cases hj:j > i
 ·rw[KH hj,KH hj];exact⟨_,rfl⟩
 ·rw[KZ hj,KZ hj];exact⟨_,rfl⟩
def yd (hc:X.calm=true):cM X (.builtin "min") (λxs H Q=>∃i j,xs= [.int i,.int j]/\Q (.int (if j < i then j else i)) H):=by
 intro pins s σ H xs us Q I r h
 obtain⟨i,j,rfl,q⟩:=h
 obtain⟨u,w',rfl,⟨t,rfl⟩,⟨t',rfl⟩⟩:=vals2 r
 refine min_two_ints (I.ok.hd hc) λh' tk k=>⟨_,H,I.kept k,?_,q⟩
 by_cases hj:j < i
 ·rw[KH hj,KH hj];exact⟨_,rfl⟩
 ·rw[KZ hj,KZ hj];exact⟨_,rfl⟩
def Hi (K:Frag)(x:V)(H:Hp)(n:Nat):Prop:=
 match x with
 | .str y=>y.length<=sizeLine/\n=y.length
 | .byt y=>y.size<=sizeLine/\n=y.size
 | .ref p=>(∃xs,fx K H p xs/\n=xs.length)\/∃xs,fw K H p xs/\n=xs.length
 |_=>False
theorem dB:cM X (.builtin "len") (λxs H Q=>∃x n,xs= [x]/\Hi X.K x H n/\Q (.int n) H):=by
 intro pins s σ H xs us Q I r h
 obtain⟨x,n,rfl,e,q⟩:=h
 obtain⟨u,rfl,rx⟩:=vals1 r
 have hl:=lQ
 have hs:sizeLine=16777216:=Ld
 cases x with
 |str y=>
  obtain⟨t,rfl⟩:=rx
  obtain⟨hy,e'⟩:y.length<=sizeLine/\n=y.length:=e
  subst e'
  exact len_str (by omega) ⟨.int _,H,I.tok _,⟨_,rfl⟩,q⟩
 |byt y=>
  obtain⟨t,rfl⟩:=rx
  obtain⟨hy,e'⟩:y.size<=sizeLine/\n=y.size:=e
  subst e'
  exact PySem.W.len_bytes (by omega) ⟨.int _,H,I.tok _,⟨_,rfl⟩,q⟩
 |ref p=>
  cases rx
  have e':(∃xs,fx X.K H p xs/\n=xs.length)\/∃xs,fw X.K H p xs/\n=xs.length:=e
  rcases e' with⟨xs,hx,e'⟩ | ⟨xs,hx,e'⟩
  ·subst e'
   obtain⟨its,r',pl,hz⟩:=I.list hx
   have hlen:=r'.length
   exact Calls.call_len_list pl.isList (by simp only[KU];omega) ⟨.int xs.length,H,I.tok _,⟨_,by simp only[KU];rw[hlen]⟩,q⟩
  ·subst e'
   obtain⟨its,r',pl,hz⟩:=I.tuple hx
   have hlen:=r'.length
   exact len_tuple pl (by simp only[KU];omega) ⟨.int xs.length,H,I.tok _,⟨_,by simp only[KU];rw[hlen]⟩,q⟩
 |_=>exact (show False from e).elim
def sE:cM X (.builtin "divmod") (λxs H Q=>∃i j,xs= [.int i,.int j]/\CT i j/\∀p,H p=none->Q (.ref p) (upd H p (.tup [.int (i / j),.int (i % j)]))):=by
 intro pins s σ H xs us Q I r h
 obtain⟨i,j,rfl,⟨h1,h2⟩,q⟩:=h
 obtain⟨u,w',rfl,⟨t,rfl⟩,⟨t',rfl⟩⟩:=vals2 r
 refine divmod_int (by omega) ?_ (.inl (PyProof.noPylong_small (by omega)))
 rw[Int.fdiv_eq_ediv_of_nonneg i (by omega),Int.fmod_eq_emod_of_nonneg i (by omega)]
 have hn:H s.heap.objs.size=none:=I.hok.fresh (KI _)
 refine⟨.ref s.heap.objs.size,_,?_,rfl,q _ hn⟩
 refine I.laid (λb o e=>KC _ e) (KI _) ⟨by simp only[K4,List.length_nil];rw[Ld];decide,[.int (i / j) s.toks,.int (i % j) (s.toks + 1)],.cons ⟨_,rfl⟩ (.cons ⟨_,rfl⟩ .nil),?_⟩
 exact⟨_,K0 s.heap rfl,rfl,0,rfl,rfl⟩
end
structure Fl (h:Heap)(x dx C:Addr)(mA:Str->Option Value):Prop where
 obj:h.get? x=some (PySem.W.instObj C dx)
 ns:h.Ns1 dx mA
 ne:dx≠x
def yV {h:Heap}{dx:Addr}{mA:Str->Option Value}(n:h.Ns1 dx mA):∃od,h.get? dx=some od/\∀name,PySem.W.lookIn name od=some (mA name):=by
 obtain⟨o,es,ep,ho,hd,hk,_,hm⟩:=n
 refine⟨o,ho,λname=>?_⟩
 have e:=hm name
 unfold nsFind findBy at e
 rw[<-Array.find?_toList] at e
 unfold PySem.W.lookIn
 rw[hd]
 dsimp only
 split
 ·rename_i y q
  rw[q] at e
  exact congrArg some e
 ·rename_i q
  rw[q] at e
  have a:es.toList.any (·.refKey)=false:=by
   rw[List.any_eq_false]
   intro y hy
   obtain⟨z,t,hkey⟩:=hk y (Array.mem_toList_iff.mp hy)
   simp[DictEntry.refKey,hkey]
  have a':¬es.toList.any (·.refKey)=true:=by rw[a];exact K2
  rw[KZ a']
  exact congrArg some e
def Fl.look {h:Heap}{x dx C:Addr}{mA:Str->Option Value}(I:Fl h x dx C mA):∃od,PySem.W.InstAt h x (PySem.W.instObj C dx) C (some od)/\∀name,PySem.W.lookIn name od=some (mA name):=
 let ⟨od,ho,hl⟩:=yV I.ns
 ⟨od,⟨I.obj,rfl,rfl,ho⟩,hl⟩
section
variable {P:Program}{w:World}{H H':Hp}{h h':Heap}{a C dx:Addr}{fs fs':List (Str×V)}
def Dr (hok:jk P w H h)(e:H a=some (.ins C dx fs)):∃mA,Fl h a dx C mA/\(∀f,A9 (fs.lookup f) (mA f))/\PySem.Within mA (fs.map (·.1))/\fs.length<=1000/\H dx=some (.own a):=by
 obtain⟨d,z,ne,ob,mA,n,r,q⟩:=(show bM P w H h a (.ins C dx fs) from hok a _ e)
 exact⟨mA,⟨ob,n,ne⟩,r,q,z,d⟩
end
structure JD (K:Frag)(C:Addr):Prop where
 pg:PySem.W.plainGet K C Str.empty=true
 hd:PySem.W.hasDictIn K C=true
 po:PySem.W.plainOver K C=true
 sa:PySem.W.findIn K (.ref C) "__setattr__"=some (some (.builtin "object.__setattr__"))
def JD.get {K:Frag}{C:Addr}(c:JD K C)(f:Str):PySem.W.plainGet K C f=true:=c.pg
section
variable {X:Cx}{pins:List (Addr×Obj)}{σ:St}{H:Hp}{s:Shared}{A:Around}{E:Value->Shared->Prop}{Q:Value->Shared->Prop}{c:Value}{b:Bool}
inductive mE (K:Frag)(H:Hp):V->Value->Prop where
 |non:mE K H .non (.type "NoneType")
 |bl (x:Bool):mE K H (.bl x) (.type "bool")
 |int (i:Int):mE K H (.int i) (.type "int")
 |str (x:Str):mE K H (.str x) (.type "str")
 |flt (x:UInt64):mE K H (.flt x) (.type "float")
 |lst {a:Addr} {xs:List V} (e:H a=some (.lst xs)):mE K H (.ref a) (.type "list")
 |aN {a:Addr} {o:Obj} {xs:List V} (e:H a=some (.aN o (.lst xs))):mE K H (.ref a) (.type "list")
 |tup {a:Addr} {xs:List V} (e:H a=some (.tup xs)):mE K H (.ref a) (.type "tuple")
 |dK {a:Addr} {kvs:List (Key×V)} (e:H a=some (.dK kvs)):mE K H (.ref a) (.type "dict")
 |dT {a:Addr} {kvs:List (List Key×V)} (e:H a=some (.dT kvs)):mE K H (.ref a) (.type "dict")
 |ins {a C dx:Addr} {fs:List (Str×V)} (e:H a=some (.ins C dx fs)) (cl:JD K C) (ha:PySem.W.findIn K (.ref C) "__class__"=some (some (.builtin "object.__class__")))
   (hn:PySem.W.specialIn K (.builtin "object.__class__") "__get__"=some (some (.builtin "getset_descriptor.__get__"))) (htk:PySem.W.takesIn K (.builtin "object.__class__")=some true)
   (hm:PySem.W.mroIn K C (.type "object")=some true):mE K H (.ref a) (.ref C)
theorem iB {x:V}{u t:Value}(I:Inv X pins σ H s)(rx:RelV x u)(ty:mE X.K H x t)(e:PySem.W.kitOne X.K t c=some b)(h:∀tk,Q (.bool b) {s with toks:=tk}) :
  wpAny (model X.prog X.w) A (call (.builtin "isinstance") [u,c]) Q E s:=by
 cases ty with
 |non=>cases (show u=Value.none from rx);exact Lr PySem.W.kitx_none I.kIn True.intro e (λz=>nomatch z) h
 |bl y=>cases (show u=Value.bool y from rx);exact Lr PySem.W.kitx_bool I.kIn True.intro e (λz=>nomatch z) h
 |int i=>obtain⟨t,q⟩:=(show ∃t,u=Value.int i t from rx);cases q;exact Lr PySem.W.kitx_int I.kIn True.intro e (λz=>nomatch z) h
 |str y=>obtain⟨t,q⟩:=(show ∃t,u=Value.str y t from rx);cases q;exact Lr PySem.W.kitx_str I.kIn True.intro e (λz=>nomatch z) h
 |flt y=>obtain⟨t,q⟩:=(show ∃t,u=Value.float y t from rx);cases q;exact Lr PySem.W.kitx_float I.kIn True.intro e (λz=>nomatch z) h
 | @lst a xs ea=>
  cases (show u=Value.ref a from rx)
  obtain⟨_,_,n,_,h1⟩:=(show bM X.prog X.w H s.heap a (.lst xs) from I.hok a _ ea)
  exact Lr PySem.W.kitx_list I.kIn ⟨_,h1,rfl⟩ e (λz=>nomatch z) h
 | @aN a ob xs ea=>
  cases (show u=Value.ref a from rx)
  obtain⟨_,_,_,n,_,h1⟩:=(show bM X.prog X.w H s.heap a (.aN ob (.lst xs)) from I.hok a _ ea)
  exact Lr PySem.W.kitx_list I.kIn ⟨_,h1,rfl⟩ e (λz=>nomatch z) h
 | @tup a xs ea=>
  cases (show u=Value.ref a from rx)
  obtain⟨_,_,_,p⟩:=(show bM X.prog X.w H s.heap a (.tup xs) from I.hok a _ ea)
  obtain⟨o,h1,h2,_⟩:=p
  exact Lr PySem.W.kitx_tuple I.kIn ⟨o,h1,h2⟩ e (λz=>nomatch z) h
 | @dK a kvs ea=>
  cases (show u=Value.ref a from rx)
  obtain⟨_,_,vs,_,p⟩:=(show bM X.prog X.w H s.heap a (.dK kvs) from I.hok a _ ea)
  obtain⟨o,es,ep,h1,h2,_⟩:=p
  exact Lr PySem.W.kitx_dict I.kIn ⟨o,h1,h2.1⟩ e (λz=>nomatch z) h
 | @dT a kvs ea=>
  cases (show u=Value.ref a from rx)
  obtain⟨_,_,xs,_,o,es,ep,h1,h2,_⟩:=(show bM X.prog X.w H s.heap a (.dT kvs) from I.hok a _ ea)
  exact Lr PySem.W.kitx_dict I.kIn ⟨o,h1,h2.1⟩ e (λz=>nomatch z) h
 | @ins a C dx fs ea cl ha hn htk hm=>
  cases (show u=Value.ref a from rx)
  obtain⟨mA,O,_⟩:=Dr I.hok ea
  obtain⟨od,J,_⟩:=O.look
  exact Lr (PySem.W.kitx_own (cl.get _) cl.hd ha hn htk hm) I.kIn J e (λz=>nomatch z) h
end
structure di (k:Nat)(A:Around):Prop where
 hd:A.handled=none
 dp:A.depth + 3 * k + 5 < recursionLimit
 un:A.units + 16 * k + 200 < cLine
 gd:A.guards=some []
def di.mono {j k:Nat}{A:Around}(r:di k A)(h:j<=k):di j A:=⟨r.hd,by have:=r.dp;omega,by have:=r.un;omega,r.gd⟩
def di.deeper {k:Nat}{A:Around}(r:di (k + 1) A)(env:Env):di k (A.deeper env):=
 ⟨r.hd,by have:=r.dp;show A.depth + 1 + 3 * k + 5 < _;omega,by have:=r.un;show A.units + 3 + 16 * k + 200 < _;omega,r.gd⟩
def di.depth {k:Nat}{A:Around}(r:di k A):A.depth < recursionLimit:=by have:=r.dp;omega
def di.units {k:Nat}{A:Around}(r:di k A):A.units + 64 < cLine:=by have:=r.un;omega
def Jg:TA:=λ_ H Q=>Q [] H
def GQ (ta:TE)(tr:TA):TA:=λσ H Q=>ta σ H λx H1=>tr σ H1 λxs H2=>Q (x :: xs) H2
section
variable {X:Cx}{e:Expr}{es:List Expr}{te:TE}{t:TA}{pos:Pos}
def aH:PA X [] Jg:=λ_ _ _ _ H Q I h=>Calls.spliced_nil ⟨[],H,I,.nil,h⟩
def ah (ha:PE X e te)(hr:PA X es t)(hs:starEach (e :: es) X.env=(false,eval e X.env) :: starEach es X.env:=by rfl):PA X (e :: es) (GQ te t):=by
 intro pos pins s σ H Q I h
 rw[hs]
 show wpAny _ _ (spliced ((false,eval e X.env) :: backTo pos (starEach es X.env))) _ _ s
 refine Calls.spliced_cons (b7 (ha pins s σ H _ I h) λu s1 ⟨x,H1,I1,r1,q1⟩=>?_)
 exact b7 (hr pos pins s1 σ H1 _ I1 q1) λus s2 ⟨xs,H2,I2,r2,q2⟩=>⟨x :: xs,H2,I2,.cons r1 r2,q2⟩
def Jl (t:TA):TE:=λσ H Q=>t σ H λxs H1=>xs.length<=sizeLine/\∀p,H1 p=none->Q (.ref p) (upd H1 p (.tup xs))
def Jn (t:TA):TE:=λσ H Q=>t σ H λxs H1=>xs.length<=sizeLine/\∀p,H1 p=none->Q (.ref p) (upd H1 p (.lst xs))
def vO {x1}(h:PA X es t):PE X (.Tuple es x1 pos) (Jl t):=by
 intro pins s σ H Q I hq
 refine wpAny_Tuple_spliced (b7 (h pos pins s σ H _ I hq) λus s1 ⟨xs,H1,I1,r,z,q⟩=>⟨by rw[<-r.length];exact z,?_⟩)
 have hf:H1 s1.heap.objs.size=none:=I1.hok.fresh (KI _)
 refine⟨.ref s1.heap.objs.size,upd H1 s1.heap.objs.size (.tup xs),I1.laid (t':=s1.toks) (λb u e=>KC _ e) (KI _) ?_,rfl,q _ hf⟩
 exact⟨z,us,r,qq.new _ _⟩
def lZ (h:PA X es t):PE X (.List es pos) (Jn t):=by
 intro pins s σ H Q I hq
 refine wpAny_List_spliced (b7 (h pos pins s σ H _ I hq) λus s1 ⟨xs,H1,I1,r,z,q⟩=>⟨by rw[<-r.length];exact z,?_⟩)
 have hf:H1 s1.heap.objs.size=none:=I1.hok.fresh (KI _)
 refine⟨.ref s1.heap.objs.size,upd H1 s1.heap.objs.size (.lst xs),I1.laid (t':=s1.toks) (λb u e=>KC _ e) (KI _) ?_,rfl,q _ hf⟩
 exact⟨z,us,0,r,K0 _ rfl⟩
end
abbrev Sp:=List V->Hp->VK->XK->Prop
abbrev sY:=List Env->Hp->Shared->XK->Value->Shared->Prop
structure u6 (P:Program)(w:World)(K:Frag)(mg:Str->Option Value)(base:Heap)(A:Around)(outer:List Env)(s:Shared)(H:Hp):Prop where
 frames:A.frames=some outer
 mod:Mod K mg base
 bs:∀b o,base.get? b=some o->s.heap.get? b=some o/\H b=none
 bsz:base.objs.size<=s.heap.objs.size
 funs:s.heap.FunFrames base outer
 frf:∀b∈dz outer,H b=none
 hok:jk P w H s.heap
 bare:AllBare s.gens
def CE (outer:List Env)(P:Program)(w:World)(H:Hp)(s:Shared)(Q:VK)(u:Value)(s':Shared):Prop:=
 ∃v H',s'.os=s.os/\AllBare s'.gens/\Un (dz outer) [] H H' s.heap s'.heap/\jk P w H' s'.heap/\RelV v u/\Q v H'
def CR (CX:sY)(outer:List Env)(P:Program)(w:World)(H:Hp)(s:Shared)(Q:VK)(E:XK)(r:Result)(s':Shared):Prop:=
 match r with
 | .ok (.ret u)=>CE outer P w H s Q u s'
 | .ok _=>False
 | .error e=>CX outer H s E e s'
structure ff (P:Program)(w:World)(K:Frag)(mg:Str->Option Value)(base:Heap)(CX:sY)(k:Nat)(f:Addr)(fd:FuncData)(ps:List Str)(sp:Sp):Prop where
 len:∀vs H Q E,sp vs H Q E->vs.length=ps.length
 run:∀(A:Around) (outer:List Env) (s:Shared) (H:Hp) (args:Args) (us:List Value) (vs:List V) (Q:VK) (E:XK),di k A->u6 P w K mg base A outer s H->BindsTo s fd args (ps.zip us)->Vals vs us->sp vs H Q E->
  codeAny (model P w) A (.call (.ref f) args) (CR CX outer P w H s Q E) s
def ff.mono {P:Program}{w:World}{K:Frag}{mg:Str->Option Value}{base:Heap}{CX:sY}{j k:Nat}{f:Addr}{fd:FuncData}{ps:List Str}{sp:Sp}(F:ff P w K mg base CX j f fd ps sp)(h:j<=k) :
  ff P w K mg base CX k f fd ps sp:=⟨F.len,λA outer s H args us vs Q E hr=>F.run A outer s H args us vs Q E (hr.mono h)⟩
def ff.imp {P:Program}{w:World}{K:Frag}{mg:Str->Option Value}{base:Heap}{CX:sY}{k:Nat}{f:Addr}{fd:FuncData}{ps:List Str}{sp sp':Sp}(F:ff P w K mg base CX k f fd ps sp)
  (h:∀vs H Q E,sp' vs H Q E->sp vs H Q E):ff P w K mg base CX k f fd ps sp':=
 ⟨λvs H Q E q=>F.len vs H Q E (h _ _ _ _ q),λA outer s H args us vs Q E hr he hb hv hs=>F.run A outer s H args us vs Q E hr he hb hv (h _ _ _ _ hs)⟩
section
variable {X:Cx}{pins:List (Addr×Obj)}{σ:St}{H:Hp}{s s':Shared}
def Inv.env0 (I:Inv X pins σ H s):u6 X.prog X.w X.K X.mg X.base X.A X.stack s H:=
 ⟨I.ok.frames,I.ok.mod,I.bs,LA I.ok.bsz I.sz,I.stack,I.stkFree,I.hok,I.bare⟩
def Inv.after {Q:VK}{u:Value}(I:Inv X pins σ H s)(h:CE X.stack X.prog X.w H s Q u s'):EP X pins σ Q u s':=by
 obtain⟨v,H',os,bare,un,hok,r,q⟩:=h
 obtain⟨hh,g,d,t,os'⟩:=s'
 obtain rfl:os'=s.os:=os
 exact⟨v,H',I.call (h':=hh) (g':=g) (d':=d) (t':=t) (ch:=[]) un hok bare (λb z=>absurd z (by simp)),r,q⟩
end
def DC (sp:Sp)(dvs:List V)(E:XK)(t:TA):TE:=λσ H Q=>t σ H λvs H1=>sp (vs ++ dvs) H1 Q E
def Binds (K:Frag)(fd:FuncData)(ps:List Str)(ds:List Value):Prop:=
 ∀(s:Shared) (us:List Value),K.In s.heap->(us ++ ds).length=ps.length->BindsTo s fd ⟨us,[]⟩ (ps.zip (us ++ ds))
def Binds.all {K:Frag}{fd:FuncData}{ps:List Str}(h:∀us:List Value,us.length=ps.length->bindArgs fd ⟨us,[]⟩=pure (ps.zip us)):Binds K fd ps []:=λs us _ hl=>by
 rw[MM] at hl ⊢
 exact .of_eq (h us hl)
def Passes (CX:sY)(X:Cx)(E:XK):Prop:=∀(pins:List (Addr×Obj)) (σ:St) (H:Hp) (s:Shared) (e:Value) (s':Shared),Inv X pins σ H s->CX X.stack H s E e s'->X.xe e s'
section
variable {X:Cx}{CX:sY}{k:Nat}{f C:Addr}{fd:FuncData}{ps:List Str}{sp:Sp}{dvs:List V}{ds:List Value}{E:XK}{x m:Str}{p pos apos:Pos}{e o:Expr}{es:List Expr}{ta:TE}{t:TA}
theorem Gf {pins:List (Addr×Obj)}{σ:St}{H:Hp}{s:Shared}{Q:VK}{us:List Value}{vs:List V}(F:ff X.prog X.w X.K X.mg X.base CX k f fd ps sp)(hr:di k X.A)(hb:Binds X.K fd ps ds)(hd:Vals dvs ds)(hx:Passes CX X E)
  (I:Inv X pins σ H s) (r:Vals vs us) (h:sp (vs ++ dvs) H Q E):wpAny (model X.prog X.w) X.A (call (.ref f) us) (EP X pins σ Q) X.xe s:=by
 have r2:Vals (vs ++ dvs) (us ++ ds):=r.append hd
 have hl:(us ++ ds).length=ps.length:=by rw[<-r2.length];exact F.len _ _ _ _ h
 refine wpAny_call (MF (F.run X.A X.stack s H ⟨us,[]⟩ (us ++ ds) (vs ++ dvs) Q E hr I.env0 (hb s us I.kIn hl) r2 h) λr s' hq=>?_)
 cases r with
 |error e=>exact hx pins σ H s e s' I hq
 |ok fl=>
  cases fl with
  |ret u=>exact I.after hq
  |next=>exact False.elim hq
  |brk=>exact False.elim hq
  |cont=>exact False.elim hq
def mL (F:ff X.prog X.w X.K X.mg X.base CX k f fd ps sp)(hr:di k X.A)(hg:Gl X x)(hm:X.mg x=some (.ref f))(hk:PySem.W.keepIn X.K (.ref f)=true)(hb:Binds X.K fd ps ds)(hd:Vals dvs ds)(hx:Passes CX X E)
  (ha:PA X (e :: es) t) (hdb:(x == ("__debug__":Str))=false:=by decide) (he:starEach (e :: es) X.env=(false,eval e X.env) :: starEach es X.env:=by rfl) (hpl:(backTo pos (starEach es X.env)).any (·.1)=false:=by rfl) :
  PE X (.Call (.Name x p) (e :: es) [] pos) (DC sp dvs E t):=by
 intro pins s σ H Q I h
 refine Mf (ll I hg hm ?_ hdb)
 refine PySem.W.callWith_K (h₀:=X.base) I.ok.mod.kin hk (b7 (ha pos pins s σ H _ I h) λus s1 ⟨vs,H1,I1,r,q⟩=>⟨I1.kIn,?_⟩) he hpl
 exact Gf F hr hb hd hx I1 r q
end
structure aB (N P:List Str)(sc:Scope):Prop where
 kind:sc.kind=.function
 co:sc.isCoroutine=false
 gen:sc.isGenerator=false
 nd:N.Nodup
 pre:N.take P.length=P
 par:∀x∈P,sc.names.lookup x=some .local\/sc.names.lookup x=some .cell
 nofree:∀y∈sc.names,y.2≠.free
theorem pP {kindOf:Str->Option NameKind}{x:Str}:∀{binds:List (Str×Value)} {m:Str->Option Value},(∀v,(x,v)∉binds)->bindL kindOf binds m x=m x
 | [],_,_=>rfl
 | (n,v) :: r,m,h=>by
  unfold bindL
  rw[pP λw hw=>h w (KL _ hw)]
  split
  ·have:x≠n:=by rintro rfl;exact h v KO
   simp[this]
  ·rfl
theorem pL {kindOf:Str->Option NameKind}{x:Str}:∀{binds:List (Str×Value)} {m:Str->Option Value},(∀v,(x,v)∉binds)->bindC kindOf binds m x=m x
 | [],_,_=>rfl
 | (n,v) :: r,m,h=>by
  unfold bindC
  rw[pL λw hw=>h w (KL _ hw)]
  split
  ·rfl
  ·have:x≠n:=by rintro rfl;exact h v KO
   simp[this]
theorem pJ {kindOf:Str->Option NameKind}{x:Str}{v:Value}:∀{P:List Str} {vs:List Value} {i:Nat} {m:Str->Option Value},P.Nodup->P[i]? =some x->vs[i]? =some v->kindOf x=some .local->
  bindL kindOf (P.zip vs) m x=some v
 | [],_,_,_,_,h,_,_=>by simp at h
 |_ :: _,[],_,_,_,_,h,_=>by simp at h
 |p :: P,w :: vs,0,m,nd,h1,h2,hk=>by
  simp at h1 h2;subst h1;subst h2
  show bindL kindOf ((p,w) :: P.zip vs) m p=_
  unfold bindL
  rw[pP λv hv=>(LI.mp nd).1 (of_mem_zip hv).1,KH hk]
  simp
 |p :: P,w :: vs,i + 1,m,nd,h1,h2,hk=>by
  show bindL kindOf ((p,w) :: P.zip vs) m x=_
  unfold bindL
  exact pJ (i:=i) (LI.mp nd).2 (by simpa using h1) (by simpa using h2) hk
theorem qg {kindOf:Str->Option NameKind}{x:Str}{v:Value}:∀{P:List Str} {vs:List Value} {i:Nat} {m:Str->Option Value},P.Nodup->P[i]? =some x->vs[i]? =some v->kindOf x≠some .local->
  bindC kindOf (P.zip vs) m x=some v
 | [],_,_,_,_,h,_,_=>by simp at h
 |_ :: _,[],_,_,_,_,h,_=>by simp at h
 |p :: P,w :: vs,0,m,nd,h1,h2,hk=>by
  simp at h1 h2;subst h1;subst h2
  show bindC kindOf ((p,w) :: P.zip vs) m p=_
  unfold bindC
  rw[pL λv hv=>(LI.mp nd).1 (of_mem_zip hv).1,KZ hk]
  simp
 |p :: P,w :: vs,i + 1,m,nd,h1,h2,hk=>by
  show bindC kindOf ((p,w) :: P.zip vs) m x=_
  unfold bindC
  exact qg (i:=i) (LI.mp nd).2 (by simpa using h1) (by simpa using h2) hk
def start (N:List Str)(vs:List V):St:=vs.map some ++ List.replicate (N.length - vs.length) none
def jG (CX:sY)(P:Program)(w:World)(K:Frag)(mg:Str->Option Value)(base:Heap)(N:List Str)(qual:Str)(scope:Scope)(f:Addr)(cd:Value)(A:Around)(outer:List Env)(s:Shared)(H:Hp)(E:XK):Cx where
 prog:=P
 w:=w
 K:=K
 mg:=mg
 base:=base
 A:=A.deeper (envOfC qual scope s.heap.objs.size f cd)
 N:=N
 s₀:=s
 H₀:=H
 env:=envOfC qual scope s.heap.objs.size f cd
 outer:=outer
 stack:=envOfC qual scope s.heap.objs.size f cd :: outer
 ex:=[]
 calm:=true
 fn:=λ_=>true
 pn:=[]
 xe:=λe s'=>wpAny (model P w) (A.deeper (envOfC qual scope s.heap.objs.size f cd)) (leaving (envOfC qual scope s.heap.objs.size f cd) e) (λ_ s''=>CX outer H s E e s'') (λe' s''=>CX outer H s E e' s'') s'
def sD {sc:Scope}{n:Nat}{x:Str}(h:sc.names.lookup x=some .cell):∃c,(cellsFrom n sc.names []).lookup x=some c:=by
 have q:=PySem.W.cellsFrom_some sc.names n [] (.inl h)
 exact Ms.mp q
def p4 {CX:sY}{P:Program}{w:World}{K:Frag}{mg:Str->Option Value}{base:Heap}{N ps:List Str}{qual:Str}{scope:Scope}{f:Addr}{cd:Value}{A:Around}{outer:List Env}{s s1:Shared}{H:Hp}{E:XK}{us:List Value}{vs:List V}
  (S:aB N ps scope) (hd:A.handled=none) (e0:u6 P w K mg base A outer s H) (hl:vs.length=ps.length) (r:Vals vs us)
  (x:InCallC s s.heap.objs.size (bindL (envOfC qual scope s.heap.objs.size f cd).kindOf (ps.zip us) λ_=>none) (cellsFrom (s.heap.objs.size + 1) scope.names []) (bindC (envOfC qual scope s.heap.objs.size f cd).kindOf (ps.zip us) λ_=>none) s1) :
  Inv (jG CX P w K mg base N qual scope f cd A outer s H E) [] (start N vs) H s1:=by
 have hpl:ps.length<=N.length:=by have:=congrArg List.length S.pre;rw[LR] at this;omega
 obtain⟨h1,tk,rfl,hk⟩:=x.done
 have noA:∀b:Addr,b∉(jG CX P w K mg base N qual scope f cd A outer s H E).ex:=λb z=>absurd (show b∈([]:List Addr) from z) (by simp)
 refine⟨⟨e0.mod,S.kind,rfl,rfl,KI _,λy z c h1 h2=>?_,λy hy=>?_,λy c _ h=>?_,λ_=>hd,Around.frames_deeper e0.frames,.inr ⟨rfl,rfl⟩,λb z=>absurd z (noA b),e0.bs,e0.bsz,λb _ _=>noA b,λb z=>absurd z (noA b),e0.funs,e0.frf⟩,
  rfl,e0.bare,Un.kept hk,⟨_,x.toInCall.ns,λi y v h1 h2 h3=>?_⟩,λy c h=>⟨_,x.cell y c h⟩,e0.hok.fresh (KI _),λy c h=>?_,λp hp=>absurd (show p∈([]:List (Addr×Obj)) from hp) (by simp),e0.hok.kept hk,?_⟩
 ·exact name_of_addr x.apart (Mc h1) (Mc h2)
 ·have hy:scope.names.lookup y=some .cell\/scope.names.lookup y=some .free:=hy
  rcases hy with hy |hy
  ·exact sD hy
  ·exact absurd rfl (S.nofree _ (Mc hy))
 ·exact Nat.le_of_lt (x.above y c (Mc h))
 ·have hi:i < vs.length:=by
   unfold start at h2
   by_cases hi:i < vs.length
   ·exact hi
   ·rw[LG (by simpa using hi)] at h2
    rw[LU] at h2
    split at h2 <;> cases h2
  have ha:vs[i]? =some v:=by
   unfold start at h2
   rw[Lz (by simpa using hi),KW] at h2
   cases e:vs[i]? with
   |none=>rw[e] at h2;cases h2
   |some a=>rw[e] at h2;cases h2;rfl
  obtain⟨u,hu,rv⟩:=r.get ha
  have hp:ps[i]? =some y:=by
   rw[<-S.pre,List.getElem?_take_of_lt (by omega)];exact h1
  have ndP:ps.Nodup:=by rw[<-S.pre];exact S.nd.sublist (List.take_sublist _ _)
  refine⟨u,rv,?_⟩
  rcases S.par y (K9 hp) with k |k
  ·exact .inl ⟨k,pJ ndP hp hu k⟩
  ·obtain⟨c,e⟩:=sD (n:=s.heap.objs.size + 1) k
   refine .inr ⟨.inl k,c,e,?_⟩
   have q:=x.cell y c e
   rw[qg ndP hp hu (by show scope.names.lookup y≠_;rw[k];decide)] at q
   exact q
 ·exact e0.hok.fresh (Nat.le_of_lt (x.above y c (Mc h)))
 ·unfold start
  show _=N.length
  rw[Ls,KD,L4]
  omega
theorem DF {CX:sY}{P:Program}{w:World}{K:Frag}{mg:Str->Option Value}{base:Heap}{k:Nat}{f:Addr}{name qual:Str}{params:Arguments}{body:List Stmt}{scope:Scope}{dV kV doc pm cdv ct oc:Value}{an od:Option Addr}
  {osl:Array (Option Value)} {N ps:List Str} {sp:Sp} (lk:K.lookup f=some ⟨oc,od,.func (PySem.W.fnOf name qual params body scope dV kV doc pm an cdv ct),osl⟩) (hcd:PySem.W.codeIn K cdv qual=true) (S:aB N ps scope)
  (len:∀vs H Q E,sp vs H Q E->vs.length=ps.length)
  (hbody:∀(A:Around) (outer:List Env) (s:Shared) (H:Hp) (vs:List V) (Q:VK) (E:XK),di k (A.deeper (envOfC qual scope s.heap.objs.size f cdv))->sp vs H Q E->
   ∃t,mH (jG CX P w K mg base N qual scope f cdv A outer s H E) body t/\t {nx:=λ_ H'=>Q .non H',rt:=Q} (start N vs) H) :
  ff P w K mg base CX (k + 1) f (PySem.W.fnOf name qual params body scope dV kV doc pm an cdv ct) ps sp:=by
 refine⟨len,λA outer s H args us vs Q E hr e0 hb r hsp=>?_⟩
 have hl:=len _ _ _ _ hsp
 have KX:K.In s.heap:=e0.mod.kin.keeps λb o e=>(e0.bs b o e).1
 have lim:s.heap.NoLimit:=e0.mod.nolimit.keeps λb o e=>(e0.bs b o e).1
 have hkind:∀y∈ps.zip us,scope.names.lookup y.1=some .local\/(scope.names.lookup y.1=some .cell/\((cellsFrom (s.heap.objs.size + 1) scope.names []).lookup y.1).isSome=true):=λ⟨n,v⟩ hy=>by
  rcases S.par n (of_mem_zip hy).1 with q |q
  ·exact .inl q
  ·exact .inr ⟨q,PySem.W.cellsFrom_some _ _ _ (.inl q)⟩
 refine codeAny_call_function hr.depth (KX _ _ lk) rfl S.co S.gen rfl (PySem.W.codeRec_of KX hcd) (hb _ _ _ _ ?_)
 refine wpAny_newFunctionEnv_cells S.kind hkind λenv he s1 x=>?_
 subst he
 refine⟨lim.keeps x.toInCall.keep,codeAny_func ?_⟩
 obtain⟨t,ht,hq⟩:=hbody A outer s H vs Q E (hr.deeper _) hsp
 have I:Inv (jG CX P w K mg base N qual scope f cdv A outer s H E) [] (start N vs) H s1:=p4 S hr.hd e0 hl r x
 refine L3 (ht [] s1 (start N vs) H _ I hq) (λfl s' hs=>?_) λe s' hs=>hs
 have fin:∀{σ':St} {H':Hp} {v:V} {u:Value},Inv (jG CX P w K mg base N qual scope f cdv A outer s H E) [] σ' H' s'->RelV v u->Q v H'->CE outer P w H s Q u s':=
  λ{σ' H' v u} J rv q=>⟨v,H',J.os,J.bare,J.base,J.hok,rv,q⟩
 cases fl with
 |ret u=>
  obtain⟨v,σ',H',J,rv,q⟩:=hs
  exact fin J rv q
 |next=>
  obtain⟨σ',H',J,q⟩:=hs
  exact fin (v:=V.non) (u:=Value.none) J rfl q
 |brk=>
  obtain⟨_,_,_,q⟩:=hs
  exact False.elim q
 |cont=>
  obtain⟨_,_,_,q⟩:=hs
  exact False.elim q
section
variable {X:Cx}{x:Str}{p pos:Pos}{e:Expr}{es:List Expr}{t:TA}{id T:String}{r:List V->Hp->VK->Prop}
def IY (r:List V->Hp->VK->Prop)(t:TA):TE:=λσ H Q=>t σ H λvs H1=>r vs H1 Q
def bc (hc:cM X (.builtin id) r)(hg:Gl X x)(hm:X.mg x=none)(hv:bootBuiltins x=some (.builtin id))(ha:PA X (e :: es) t)(hn:x≠"__name__":=by decide)(hdb:(x == ("__debug__":Str))=false:=by decide)
  (he:starEach (e :: es) X.env=(false,eval e X.env) :: starEach es X.env:=by rfl) (hpl:(backTo pos (starEach es X.env)).any (·.1)=false:=by rfl):PE X (.Call (.Name x p) (e :: es) [] pos) (IY r t):=by
 intro pins s σ H Q I h
 refine Mf (kz I hg hm hv ?_ hn hdb)
 exact PyProof.Rows.callWith_builtin1 (b7 (ha pos pins s σ H _ I h) λus s1 ⟨vs,H1,I1,r1,q1⟩=>hc pins s1 σ H1 vs us Q I1 r1 q1) he hpl
def ij (hc:cM X (.type T) r)(hg:Gl X x)(hm:X.mg x=none)(hv:bootBuiltins x=some (.type T))(ha:PA X (e :: es) t)(hn:x≠"__name__":=by decide)(hdb:(x == ("__debug__":Str))=false:=by decide)
  (he:starEach (e :: es) X.env=(false,eval e X.env) :: starEach es X.env:=by rfl) (hpl:(backTo pos (starEach es X.env)).any (·.1)=false:=by rfl):PE X (.Call (.Name x p) (e :: es) [] pos) (IY r t):=by
 intro pins s σ H Q I h
 refine Mf (kz I hg hm hv ?_ hn hdb)
 exact LW (b7 (ha pos pins s σ H _ I h) λus s1 ⟨vs,H1,I1,r1,q1⟩=>hc pins s1 σ H1 vs us Q I1 r1 q1) he hpl
end
end L2
namespace HT
open PySem PyProof.Rows
section
open PySem.SeqAt
open PySem.AutoSeq1 (wpAny_loadPart')
open PySem.MeetsSeq PySem.MeetsSeq2 PySem.MeetsSeq3
end
section
variable {prog:Program}{w:World}{A:Around}{E:Value->Shared->Prop}{s:Shared}
def pM (n d:Nat):Option Int->Nat
 |none=>d
 |some v=>if v < 0 then (v + (n:Int)).toNat else min v.toNat n
def uj (n d:Nat):pM n d none=d:=rfl
def xG (n d k:Nat):pM n d (some (k:Int))=min k n:=by
 show (if (k:Int) < 0 then ((k:Int) + (n:Int)).toNat else min (k:Int).toNat n)=min k n
 rw[KZ (by omega),Lp]
end
end HT
namespace L2
open PySem PySem.Spec PyProof.Rows
abbrev TO:=St->Hp->(Option Int->Hp->Prop)->Prop
def PO (X:Cx)(e:Option Expr)(t:TO):Prop:=
 ∀(pins:List (Addr×Obj)) (s:Shared) (σ:St) (H:Hp) (Q:Option Int->Hp->Prop),Inv X pins σ H s->t σ H Q->
  wpAny (model X.prog X.w) X.A (evalPart e X.env) (λu s'=>∃o H',Inv X pins σ H' s'/\IsPart u o/\Q o H') X.xe s
def C7:TO:=λ_ H Q=>Q none H
def Hq (t:TE):TO:=λσ H Q=>t σ H λx H1=>∃i,x=.int i/\Q (some i) H1
theorem intsAre_of {ns:List Int}:∀{us:List Value},Vals (ns.map V.int) us->IntsAre us ns:=by
 induction ns with
 |nil=>intro us r;rw[map_nil] at r;cases r;exact .nil
 |cons n ns ih=>
  intro us r
  rw[Ln] at r
  cases r with
  |cons r1 r2=>
   obtain⟨t,e⟩:=r1
   subst e
   exact .cons n t (ih r2)
section
variable {X:Cx}{e:Expr}{te:TE}{lo hi:Option Expr}{tl th:TO}{pos p2:Pos}
def DA:PO X none C7:=by
 intro pins s σ H Q I h
 rw[evalPart_none]
 exact K3 ⟨none,H,I,.none,h⟩
def B4 (h:PE X e te):PO X (some e) (Hq te):=by
 intro pins s σ H Q I hw
 rw[evalPart_some]
 refine b7 (h pins s σ H _ I hw) λu s1 ⟨x,H1,I1,r1,q1⟩=>?_
 obtain⟨i,rfl,q⟩:=q1
 obtain⟨t,rfl⟩:=r1
 exact⟨some i,H1,I1,.int i t,q⟩
def J2 (X:Cx)(r:V->Option Int->Option Int->Hp->VK->Prop):Prop:=
 ∀(pins:List (Addr×Obj)) (s:Shared) (σ:St) (H:Hp) (x:V) (v vl vu:Value) (lo hi:Option Int) (sl:Addr) (Q:VK),Inv X pins σ H s->RelV x v->s.heap.IsSliceOf sl vl vu .none->IsPart vl lo->IsPart vu hi->r x lo hi H Q->
  ∃T id,typeLookup (.type T) "__getitem__"=pure (some (.builtin id))/\s.TypeIs v T/\wpAny (model X.prog X.w) X.A (getItem v (.ref sl)) (EP X pins σ Q) X.xe s
def Kr (r:V->Option Int->Option Int->Hp->VK->Prop)(te:TE)(tl th:TO):TE:=λσ H Q=>te σ H λx H1=>tl σ H1 λl H2=>th σ H2 λu H3=>r x l u H3 Q
def A6 {r:V->Option Int->Option Int->Hp->VK->Prop}(hr:J2 X r)(he:PE X e te)(hl:PO X lo tl)(hu:PO X hi th):PE X (.Subscript e (.Slice lo hi none p2) pos) (Kr r te tl th):=by
 intro pins s σ H Q I h
 refine Subscript_ (b7 (he pins s σ H _ I h) λv s1 ⟨x,H1,I1,r1,q1⟩=>?_)
 refine wpAny_Slice (b7 (hl pins s1 σ H1 _ I1 q1) λvl s2 ⟨l,H2,I2,pl,q2⟩=>b7 (hu pins s2 σ H2 _ I2 q2) λvu s3 ⟨u,H3,I3,pu,q3⟩=>?_)
 rw[evalPart_none]
 refine K3 ?_
 have I4:Inv X pins σ H3 {s3 with heap:=s3.heap.push {cls:=.type "slice",data:=.fields #[vl,vu,.none]}}:=I3.kept (t':=s3.toks) λb ob q=>KC _ q
 obtain⟨T,id,hT,ht,hg⟩:=hr pins {s3 with heap:=s3.heap.push {cls:=.type "slice",data:=.fields #[vl,vu,.none]}} σ H3 x v vl vu l u s3.heap.objs.size Q I4 r1 (Heap.IsSliceOf.new ..) pl pu q3
 show wpAny (model X.prog X.w) X.A (subscriptTail e (.Slice lo hi none p2) v (.ref s3.heap.objs.size)) (EP X pins σ Q) X.xe {s3 with heap:=s3.heap.push {cls:=.type "slice",data:=.fields #[vl,vu,.none]}}
 exact tail_any (ops:=[.ref s3.heap.objs.size,v]) ht hT hg (by with_unfolding_all rfl)
def wb (xs:List V)(lo hi:Option Int):List V:=(xs.drop (HT.pM xs.length 0 lo)).take (HT.pM xs.length xs.length hi - HT.pM xs.length 0 lo)
def so (xs:List V)(lo hi:Option Int):(wb xs lo hi).length<=xs.length:=by
 unfold wb
 rw[LR,length_drop]
 omega
end
def ur (n:Nat)(i:Int):Option Nat:=if 0<=i then (if i < n then some i.toNat else none) else if -(n:Int)<=i then some (i + n).toNat else none
def kh {α:Type}(xs:List α)(i:Int):Option α:=(ur xs.length i).bind λj=>xs[j]?
def wm {n:Nat}{i:Int}{j:Nat}(h:ur n i=some j):seqIndex? i n=some j/\j < n/\ -(n:Int)<=i/\i < n:=by
 unfold ur at h
 by_cases h0:0<=i
 ·rw[KH h0] at h
  by_cases h1:i < n
  ·rw[KH h1] at h
   have e:i.toNat=j:=Option.some.inj h
   exact⟨by rw[seqIndex_of h0 h1,e],by omega,by omega,h1⟩
  ·rw[KZ h1] at h;cases h
 ·rw[KZ h0] at h
  by_cases h1: -(n:Int)<=i
  ·rw[KH h1] at h
   have e:(i + n).toNat=j:=Option.some.inj h
   exact⟨by rw[seqIndex_neg (by omega) h1,e],by omega,h1,by omega⟩
  ·rw[KZ h1] at h;cases h
theorem qF {α:Type}{xs:List α}{i:Int}{v:α}(h:kh xs i=some v):∃j,seqIndex? i xs.length=some j/\xs[j]? =some v/\j < xs.length/\ -(xs.length:Int)<=i/\i < xs.length:=by
 unfold kh at h
 cases e:ur xs.length i with
 |none=>rw[e] at h;cases h
 |some j=>
  rw[e] at h
  obtain⟨h1,h2,h3,h4⟩:=wm e
  exact⟨j,h1,h,h2,h3,h4⟩
def mP {α:Type}{xs:List α}{j:Nat}{v:α}(h:xs[j]? =some v):kh xs (j:Int)=some v:=by
 have hj:j < xs.length:=(KN.mp h).1
 have e:ur xs.length (j:Int)=some j:=by
  unfold ur
  rw[KH (by omega),KH (by omega)];simp
 unfold kh;rw[e];exact h
def xy (b:Expr):Prop:=∀o i,subscripted b false o i=operate [o,i] (getItem o i)
def zM (X:Cx)(r:R2):Prop:=
 ∀(value slice:Expr) (pins:List (Addr×Obj)) (s:Shared) (σ:St) (H:Hp) (x y:V) (v u:Value) (Q:VK),Inv X pins σ H s->RelV x v->RelV y u->r x y H Q->
  subscripted slice false v u=operate [v,u] (getItem v u)->wpAny (model X.prog X.w) X.A (subscriptTail value slice v u) (EP X pins σ Q) X.xe s
def Km (X:Cx)(id:String)(r:V->List V->Hp->VK->Prop):Prop:=
 ∀(pins:List (Addr×Obj)) (s:Shared) (σ:St) (H:Hp) (x:V) (xs:List V) (v:Value) (us:List Value) (Q:VK),Inv X pins σ H s->RelV x v->Vals xs us->r x xs H Q->
  wpAny (model X.prog X.w) X.A (call (.builtin id) (v :: us)) (EP X pins σ Q) X.xe s
section
variable {X:Cx}{a b:Expr}{ta tb:TE}{pos:Pos}
def zM.or {r r':R2}(h:zM X r)(h':zM X r'):zM X (λx y H Q=>r x y H Q\/r' x y H Q):=by
 intro value slice pins s σ H x y v u Q I rx ry q hs
 rcases q with q |q
 ·exact h value slice pins s σ H x y v u Q I rx ry q hs
 ·exact h' value slice pins s σ H x y v u Q I rx ry q hs
def jy {r:R2}(hr:zM X r)(ha:PE X a ta)(hb:PE X b tb)(hs:xy b):PE X (.Subscript a b pos) (Iy r ta tb):=by
 intro pins s σ H Q I h
 exact Subscript_ (EU ha hb I h λv u s2 x y H2 I2 rx ry q=>hr a b pins s2 σ H2 x y v u Q I2 rx ry q (hs _ _))
def Gk (K:Frag):R2:=λx y H Q=>∃p xs i v,x=.ref p/\y=.int i/\fx K H p xs/\kh xs i=some v/\Q v H
def Hz (K:Frag):R2:=λx y H Q=>∃p xs i v,x=.ref p/\y=.int i/\fw K H p xs/\kh xs i=some v/\Q v H
def HB:R2:=λx y H Q=>∃z i c,x=.str z/\y=.int i/\z.length<=sizeLine/\kh z.cps.toList i=some c/\Q (.str ⟨#[c]⟩) H
def eH:zM X (Gk X.K):=by
 intro value slice pins s σ H x y v u Q I rx ry h hs
 obtain⟨p,xs,i,z,rfl,rfl,hq,he,q⟩:=h
 cases rx
 obtain⟨t,rfl⟩:=ry
 obtain⟨its,r,pl,hz⟩:=I.list hq
 obtain⟨j,h1,h2,h3,h4,h5⟩:=qF he
 obtain⟨w,ew,rw'⟩:=r.get h2
 have hl:=r.length
 have hn:=lQ
 have fin:EP X pins σ Q w s:=⟨z,H,I,rw',q⟩
 by_cases h0:0<=i
 ·have hj:i.toNat=j:=by
   rw[seqIndex_of h0 h5] at h1
   exact Option.some.inj h1
  exact item_listR pl.isList h0 (by omega) (by rw[hj];simpa using ew) fin hs
 ·have hj:(i + (its.toArray.size:Int)).toNat=j:=by
   rw[seqIndex_neg (by omega) h4] at h1
   rw[KU,<-hl]
   exact Option.some.inj h1
  exact subscriptTail_builtinR (x:=w) pl.isList.typeIs slot_list_getitem.lookup
   (wpAny_getItem_list_neg (Q:=λr s'=>r=w/\EP X pins σ Q r s') pl.isList (by omega) (by rw[KU] <;> omega) (by omega) (by rw[hj];simpa using ew) ⟨rfl,fin⟩) hs
def FL:zM X (Hz X.K):=by
 intro value slice pins s σ H x y v u Q I rx ry h hs
 obtain⟨p,xs,i,z,rfl,rfl,hq,he,q⟩:=h
 cases rx
 obtain⟨t,rfl⟩:=ry
 obtain⟨its,r,pl,hz⟩:=I.tuple hq
 obtain⟨j,h1,h2,h3,h4,h5⟩:=qF he
 obtain⟨w,ew,rw'⟩:=r.get h2
 have hl:=r.length
 have hn:=lQ
 have fin:EP X pins σ Q w s:=⟨z,H,I,rw',q⟩
 exact subscriptTail_builtinR (x:=w) pl.typeIs slot_tuple_getitem.lookup
  (getItem_tuple (j:=j) (Q:=λr s'=>r=w/\EP X pins σ Q r s') pl (by omega) (by omega) (by rw[KU,<-hl];exact h1) (by simpa using ew) ⟨rfl,fin⟩) hs
def Gd:zM X HB:=by
 intro value slice pins s σ H x y v u Q I rx ry h hs
 obtain⟨z,i,c,rfl,rfl,hz,he,q⟩:=h
 obtain⟨t,rfl⟩:=rx
 obtain⟨t',rfl⟩:=ry
 obtain⟨j,h1,h2,h3,h4,h5⟩:=qF he
 have hl:z.cps.toList.length=z.length:=by simp[Str.length]
 rw[hl] at h1 h4 h5
 have hn:=lQ
 exact tail_any (typeIs_str s z t) slot_str_getitem.lookup (getItem_str (c:=c) (by
  have e1:decide (i < -(2 ^ 63:Int))=false:=K1 (by omega)
  have e2:decide (i>=2 ^ 63)=false:=K1 (by omega)
  rw[e1,e2,Bool.or_false]) (by rw[h1];simpa using h2) ⟨.str ⟨#[c]⟩,H,I.tok _,⟨_,rfl⟩,q⟩) hs
def J9 (K:Frag):R2:=λx y H Q=>Gk K x y H Q\/Hz K x y H Q\/HB x y H Q
def aR:zM X (J9 X.K):=eH.or (FL.or Gd)
def v8 (its:List Value)(n j:Nat)(u:Value):Obj.mapSeq (·.setIfInBounds j u) {cls:=.type "list",data:=.seq its.toArray n}={cls:=.type "list",data:=.seq (its.set j u).toArray n}:=by
 simp[Obj.mapSeq]
def Inv.lst {pins:List (Addr×Obj)}{σ:St}{H:Hp}{s:Shared}{p:Addr}{xs:List V}(I:Inv X pins σ H s)(h:H p=some (.lst xs)) :
  ∃(its:List Value) (n:Nat),Vals xs its/\s.heap.get? p=some {cls:=.type "list",data:=.seq its.toArray n}/\xs.length<=sizeLine:=by
 obtain⟨z,its,n,r,e⟩:=I.hok p _ h
 exact⟨its,n,r,e,z⟩
def Inv.lstUpd {pins:List (Addr×Obj)}{σ:St}{H:Hp}{s:Shared}{p:Addr}{xs ys:List V}{its its':List Value}{n n':Nat}{f:Obj->Obj}(I:Inv X pins σ H s)(h:H p=some (.lst xs))
  (ho:s.heap.get? p=some {cls:=.type "list",data:=.seq its.toArray n}) (hf:f {cls:=.type "list",data:=.seq its.toArray n}={cls:=.type "list",data:=.seq its'.toArray n'}) (r:Vals ys its') (hz:ys.length<=sizeLine) (t:Nat) :
  Inv X pins σ (upd H p (.lst ys)) {s with heap:=s.heap.update p f,toks:=t}:=by
 have e:(s.heap.update p f).get? p=some {cls:=.type "list",data:=.seq its'.toArray n'}:=by
  rw[LN f ho (by rw[hf] <;> rfl),hf]
 refine I.write (x:=p) (e:=p) (by rw[h];trivial) (.inl rfl) (λb u hb q=>(Lg _ _ (Ne.symm hb)).trans q) ⟨_,e⟩ ?_
 exact⟨hz,its',n',r,e⟩
def HQ:V->V->V->Hp->(Hp->Prop)->Prop:=λo i v H Q=>∃p xs k j,o=.ref p/\i=.int k/\H p=some (.lst xs)/\ur xs.length k=some j/\Q (upd H p (.lst (xs.set j v)))
def set_list:El X HQ:=by
 intro pins s σ H o i v ov iv u Q I ro ri rv h
 obtain⟨p,xs,k,j,rfl,rfl,hp,hj,q⟩:=h
 cases ro
 obtain⟨t,rfl⟩:=ri
 obtain⟨its,n,r,ho,hz⟩:=I.lst hp
 obtain⟨h1,h2,h3,h4⟩:=wm hj
 have hl:=r.length
 have hn:=lQ
 have I':Inv X pins σ (upd H p (.lst (xs.set j v))) {s with heap:=s.heap.update p (Obj.mapSeq (·.setIfInBounds j u))}:=
  I.lstUpd hp ho (v8 its n j u) (r.set rv j) (by rw[LJ];exact hz) s.toks
 by_cases h0:0<=k
 ·have hk:k.toNat=j:=by
   rw[seqIndex_of h0 h4] at h1
   exact Option.some.inj h1
  exact PySem.W.ki_setAt ho h0 (by omega) (by rw[KU,<-hl];exact h4) (by rw[hk];exact⟨_,I',q⟩)
 ·have hk:(k + (its.toArray.size:Int)).toNat=j:=by
   rw[seqIndex_neg (by omega) h3] at h1
   rw[KU,<-hl]
   exact Option.some.inj h1
  exact PySem.W.ki_setBack ho (by omega) (by rw[KU,<-hl];exact h3) (by omega) (by rw[hk];exact⟨_,I',q⟩)
def rq (lo hi:Option Int)(n:Nat):(sliceBounds lo hi none n).1=((HT.pM n 0 lo:Nat):Int)/\(sliceBounds lo hi none n).2.1=((HT.pM n n hi:Nat):Int)/\(sliceBounds lo hi none n).2.2=1:=by
 refine⟨?_,?_,rfl⟩
 ·cases lo with
  |none=>simp[sliceBounds,HT.pM]
  |some i=>
   simp only[sliceBounds,HT.pM,Option.getD_none,show (1:Int) > 0 by decide,Mi]
   by_cases h:i < 0
   ·simp only[h,Mi] <;> omega
   ·simp only[h,Mu] <;> omega
 ·cases hi with
  |none=>simp[sliceBounds,HT.pM]
  |some i=>
   simp only[sliceBounds,HT.pM,Option.getD_none,show (1:Int) > 0 by decide,Mi]
   by_cases h:i < 0
   ·simp only[h,Mi] <;> omega
   ·simp only[h,Mu] <;> omega
def o9 (its:List Value)(lo hi:Option Int):slicePick its.toArray lo hi none=((its.drop (HT.pM its.length 0 lo)).take (HT.pM its.length its.length hi - HT.pM its.length 0 lo)).toArray:=by
 obtain⟨h1,h2,h3⟩:=rq lo hi its.toArray.size
 unfold slicePick
 rw[h1,h2,h3]
 simp only[sliceRange_one,pick_run,KU] <;> rfl
def Jx (K:Frag):V->Option Int->Option Int->Hp->VK->Prop:=λx lo hi H Q=>∃a xs,x=.ref a/\fx K H a xs/\∀p,H p=none->Q (.ref p) (upd H p (.lst (wb xs lo hi)))
def C0:J2 X (Jx X.K):=by
 intro pins s σ H x v vl vu lo hi sl Q I rx hs pl pu h
 obtain⟨a,xs,rfl,hx,q⟩:=h
 cases rx
 obtain⟨its,r,ht,hz⟩:=I.list hx
 have hlen:=r.length
 refine⟨"list",_,slot_list_getitem.lookup,ht.isList.typeIs,?_⟩
 refine wpAny_getItem_list_slice ht.isList hs pl pu .none (by simp) ?_ (by rw[KU] <;> omega)
 rw[o9,<-hlen]
 refine⟨.ref s.heap.objs.size,_,I.laid (t':=s.toks) (o:=.lst (wb xs lo hi)) (λb ob q=>KC _ q) (KI _) ?_,rfl,q _ (I.hok.fresh (KI _))⟩
 exact⟨LA (so xs lo hi) hz,_,0,(r.drop (HT.pM xs.length 0 lo)).take (HT.pM xs.length xs.length hi - HT.pM xs.length 0 lo),K0 _ rfl⟩
def dA:cM X (.type "list") (λxs H Q=>∃p ys,xs= [.ref p]/\(fx X.K H p ys\/fw X.K H p ys)/\∀l,H l=none->Q (.ref l) (upd H l (.lst ys))):=by
 intro pins s σ H xs us Q I r h
 obtain⟨p,ys,rfl,hq,q⟩:=h
 obtain⟨u,rfl,rx⟩:=vals1 r
 cases rx
 have fin:∀(its:List Value),Vals ys its->ys.length<=sizeLine->∀(h':Heap) (c':Nat),(∀b o',s.heap.get? b=some o'->h'.get? b=some o')->
   h'.get? s.heap.objs.size=some {cls:=.type "list",dict:=none,data:=.seq its.toArray c',slots:=#[]}->EP X pins σ Q (.ref s.heap.objs.size) {s with heap:=h'}:=λits r' hz h' c' kp e=>
  ⟨.ref s.heap.objs.size,_,I.laid (t':=s.toks) kp (KI _) (show bM X.prog X.w _ h' _ (.lst ys) from⟨hz,its,c',r',e⟩),rfl,q _ (I.hok.fresh (KI _))⟩
 rcases hq with hq |hq
 ·obtain⟨its,r',pl,hz⟩:=I.list hq
  have hlen:=r'.length
  obtain⟨o,ho,hc,n,hd⟩:=pl.isList
  exact call_list_seq p (.inl rfl) ho hc hd (λh' c' kp e=>fin its r' hz h' c' kp e) (by simp only[KU] <;> omega)
 ·obtain⟨its,r',pl,hz⟩:=I.tuple hq
  have hlen:=r'.length
  obtain⟨o,ho,hc,n,hd⟩:=pl
  exact call_list_seq p (.inr rfl) ho hc hd (λh' c' kp e=>fin its r' hz h' c' kp e) (by simp only[KU] <;> omega)
def aW:cM X (.type "tuple") (λxs H Q=>∃p ys,xs= [.ref p]/\((fx X.K H p ys/\∀l,H l=none->Q (.ref l) (upd H l (.tup ys)))\/(fw X.K H p ys/\Q (.ref p) H))):=by
 intro pins s σ H xs us Q I r h
 obtain⟨p,ys,rfl,h⟩:=h
 obtain⟨u,rfl,rx⟩:=vals1 r
 cases rx
 rcases h with⟨hq,q⟩ | ⟨hq,q⟩
 ·obtain⟨its,r',pl,hz⟩:=I.list hq
  have hlen:=r'.length
  refine call_tuple_list pl.isList (λh' kp=>?_) (by simp only[KU] <;> omega)
  have I1:Inv X pins σ H {s with heap:=h'}:=I.kept (t':=s.toks) kp
  have I2:Inv X pins σ (upd H h'.objs.size (.tup ys)) {s with heap:=h'.push {cls:=.type "tuple",data:=.seq its.toArray}}:=
   I1.laid (t':=s.toks) (λb o e=>KC _ e) (KI _) (show bM X.prog X.w _ _ _ (.tup ys) from⟨hz,its,r',qq.new _ _⟩)
  exact⟨.ref h'.objs.size,_,I2,rfl,q _ (I1.hok.fresh (KI _))⟩
 ·obtain⟨its,r',pl,hz⟩:=I.tuple hq
  exact call_tuple_same pl ⟨.ref p,H,I,rfl,q⟩
def J4 (K:Frag)(T:String)(x:V)(H:Hp):Prop:=match x with
 | .str _=>T="str"
 | .int _=>T="int"
 | .ref p=>(T="list"/\∃xs,fx K H p xs)\/(T="tuple"/\∃o,K.lookup p=some o/\o.cls=.type "tuple"/\o.dict=none)\/
   (T="dict"/\((∃kvs,H p=some (.dK kvs))\/∃kvs,H p=some (.dT kvs)))\/(T="set"/\∃S n,H p=some (.set S n))
 |_=>False
theorem EO {pins:List (Addr×Obj)}{σ:St}{H:Hp}{s:Shared}{T:String}{x:V}{v:Value}(I:Inv X pins σ H s)(r:RelV x v)(ty:J4 X.K T x H) :
  s.TypeIs v T/\∀a,v=.ref a->∃ob,s.heap.get? a=some ob/\ob.dict=none:=by
 cases x with
 |str z=>
  obtain⟨t,rfl⟩:=r
  cases (show T="str" from ty)
  exact⟨typeIs_str s z t,λ_ e=>nomatch e⟩
 |int i=>
  obtain⟨t,rfl⟩:=r
  cases (show T="int" from ty)
  exact⟨typeIs_int s i t,λ_ e=>nomatch e⟩
 |ref p=>
  cases r
  rcases ty with⟨rfl,xs,hq⟩ | ⟨rfl,o,hk,hc,hd⟩ | ⟨rfl,hk⟩ | ⟨rfl,S,n,hk⟩
  ·obtain⟨its,_,pl,_⟩:=I.list hq
   refine⟨pl.isList.typeIs,λa e=>?_⟩
   cases e
   obtain⟨o,n,e,c,hd,_⟩:=pl
   exact⟨o,e,hd⟩
  ·refine⟨⟨o,I.kIn p o hk,hc⟩,λa e=>?_⟩
   cases e
   exact⟨o,I.kIn _ o hk,hd⟩
  ·have z:∃o,s.heap.get? p=some o/\o.ExactDict:=by
    rcases hk with⟨kvs,hk⟩ | ⟨kvs,hk⟩
    ·obtain⟨_,_,_,_,o,_,_,e,ex,_⟩:=I.hok p _ hk
     exact⟨o,e,ex⟩
    ·obtain⟨_,_,_,_,o,_,_,e,ex,_⟩:=I.hok p _ hk
     exact⟨o,e,ex⟩
   obtain⟨o,e,ex⟩:=z
   refine⟨⟨o,e,ex.1⟩,λa e2=>?_⟩
   cases e2
   exact⟨o,e,ex.2.1⟩
  ·obtain⟨o,_,_,_,e,ex,_⟩:=I.hok p _ hk
   refine⟨⟨o,e,ex.1⟩,λa e2=>?_⟩
   cases e2
   exact⟨o,e,ex.2.1⟩
 |_=>exact False.elim ty
def Ky (K:Frag)(T:String)(r:V->List V->Hp->VK->Prop)(to:TE)(t:TA):TE:=λσ H Q=>to σ H λx H1=>J4 K T x H1/\t σ H1 λxs H2=>r x xs H2 Q
variable {o e:Expr}{es:List Expr}{to:TE}{t:TA}{name:Str}{apos cpos:Pos}{T id:String}{r:V->List V->Hp->VK->Prop}
def um (pa:PlainAttrs T)(slot:Slot T name id)(hty:typeOf (.builtin id)=pure (.type "method_descriptor"))(hm:Km X id r)(ho:PE X o to)(ha:PA X (e :: es) t)
  (hbase:attributeBase o name X.env (eval o X.env)=eval o X.env:=by rfl)
  (hfew:((backTo cpos (starEach (e :: es) X.env)).all (λx=> !x.1) && (backToKw cpos (keywordEach [] X.env)).all (λx=>x.1.isSome)
   && decide ((e :: es).length + ([]:List Keyword).length + (if ([]:List Keyword).isEmpty then 0 else 1) < 30))=true:=by rfl)
  (hline:(apos.endLine == cpos.line)=true:=by rfl) (hs:starEach (e :: es) X.env=(false,eval e X.env) :: starEach es X.env:=by rfl) (hplain:(backTo cpos (starEach es X.env)).any (·.1)=false:=by rfl) :
  PE X (.Call (.Attribute o name apos) (e :: es) [] cpos) (Ky X.K T r to t):=by
 intro pins s σ H Q I h
 refine wpAny_Call_method_late hbase hfew hline rfl (b7 (ho pins s σ H _ I h) λv s1 ⟨x,H1,I1,r1,ty,q1⟩=>?_)
 obtain⟨h1,h2⟩:=EO I1 r1 ty
 refine⟨T,id,pa,slot,hty,h1,h2,?_⟩
 have hA:=ha cpos pins s1 σ H1 _ I1 q1
 rw[hs] at hA ⊢
 refine Calls.callWith_builtin (by show (false || (backTo cpos (starEach es X.env)).any (·.1))=false;rw[hplain] <;> rfl) (Calls.evalArgs_plain ?_)
 exact b7 hA λus s2 ⟨vs,H2,I2,r2,q2⟩=>hm pins s2 σ H2 x vs v us Q I2 r1 r2 q2
end
def Et (X:Cx)(id:String)(r:V->List V->Hp->VK->Prop):Prop:=
 ∀(pins:List (Addr×Obj)) (s:Shared) (σ:St) (H:Hp) (x:V) (xs:List V) (v:Value) (us:List Value) (Q:VK),Inv X pins σ H s->RelV x v->Vals xs us->r x xs H Q->
  wpAny (model X.prog X.w) X.A (call (.builtin id) (v :: us)) (EP X pins σ Q) X.xe s
theorem Vals.one:∀{x:V} {us:List Value},Vals [x] us->∃u,us= [u]/\RelV x u
 |_,_,.cons r .nil=>⟨_,rfl,r⟩
theorem Vals.eraseIdx:∀{xs:List V} {us:List Value} (i:Nat),Vals xs us->Vals (xs.eraseIdx i) (us.eraseIdx i)
 |_,_,_,.nil=>.nil
 |_,_,0,.cons _ t=>t
 |_,_,i + 1,.cons r t=>.cons r (Vals.eraseIdx i t)
theorem Vals.rep {xs:List V}{us:List Value}(h:Vals xs us):∀k:Nat,Vals (List.replicate k xs).flatten (List.replicate k us).flatten
 | 0=>.nil
 |k + 1=>by
  rw[LB,LB,L9,L9]
  exact Vals.append h (Vals.rep h k)
theorem pz {α:Type}:∀(l:List α) (i:Nat),(l.eraseIdx i).length<=l.length
 | [],_=>KI _
 |_ :: _,0=>Nat.le_succ _
 |_ :: r,i + 1=>Nat.succ_le_succ (pz r i)
theorem foldl_rep (its:List Value):∀(k:Nat) (acc:List Value),
  List.foldl (λx1 x2=>x1 ++ x2) acc.toArray (List.replicate k its.toArray)=(acc ++ (List.replicate k its).flatten).toArray
 | 0,acc=>by simp
 |k + 1,acc=>by
  have e:acc.toArray ++ its.toArray=(acc ++ its).toArray:=by simp
  have e2:(acc ++ its) ++ (List.replicate k its).flatten=acc ++ (List.replicate (k + 1) its).flatten:=by
   rw[LB,L9,MU]
  rw[<-e2,<-foldl_rep its k (acc ++ its),<-e,LB,foldl_cons]
section
variable {X:Cx}{pins:List (Addr×Obj)}{σ:St}{H:Hp}{s:Shared}{l b:Addr}{xs ys zs:List V}
def Inv.lset {its its':List Value}{n:Nat}{f:Array Value->Array Value}{t':Nat}(I:Inv X pins σ H s)(hH:H l=some (.lst xs))
  (e:s.heap.get? l=some {cls:=.type "list",data:=.seq its.toArray n}) (hf:f its.toArray=its'.toArray) (hv:Vals ys its') (hz:ys.length<=sizeLine) :
  Inv X pins σ (upd H l (.lst ys)) {s with heap:=s.heap.update l (Obj.mapSeq f),toks:=t'}:=by
 have q:=PySem.IsL.update e f
 rw[hf] at q
 refine I.write (x:=l) (e:=l) (by rw[hH];exact trivial) (.inl rfl) (λb' u hb hu=>(Lg s.heap (Obj.mapSeq f) (Ne.symm hb)).trans hu) ⟨_,q⟩ ?_
 exact⟨hz,its',_,hv,q⟩
def Inv.lnew {its:List Value}{t':Nat}(I:Inv X pins σ H s)(hv:Vals ys its)(hz:ys.length<=sizeLine) :
  Inv X pins σ (upd H s.heap.objs.size (.lst ys)) {s with heap:=s.heap.push {cls:=.type "list",data:=.seq its.toArray},toks:=t'}:=
 I.laid (λ_ _ q=>KC _ q) (KI _) ⟨hz,its,0,hv,K0 _ rfl⟩
def Inv.fresh (I:Inv X pins σ H s):H s.heap.objs.size=none:=I.hok.fresh (KI _)
def Inv.lstM (I:Inv X pins σ H s)(hH:H l=some (.lst xs)):xs.length<=sizeLine/\∃(its:List Value) (n:Nat),Vals xs its/\xs.length=its.length/\s.heap.get? l=some {cls:=.type "list",data:=.seq its.toArray n}:=by
 obtain⟨z,its,n,r,e⟩:=I.hok l _ hH
 exact⟨z,its,n,r,r.length,e⟩
def tQ {n:Nat}(h:n<=sizeLine):Builtin.List.listTooLong n=false:=by
 unfold Builtin.List.listTooLong
 exact K1 (by omega)
end
section
variable {X:Cx}
def BR:V->List V->Hp->VK->Prop:=λx vs H Q=>∃l xs y,x=.ref l/\vs= [y]/\H l=some (.lst xs)/\xs.length < sizeLine/\Q .non (upd H l (.lst (xs ++ [y])))
def lR:Et X "list.append" BR:=by
 intro pins s σ H x vs v us Q I rx rv h
 obtain⟨l,xs,y,rfl,rfl,hH,hz,q⟩:=h
 cases rx
 obtain⟨u,rfl,ru⟩:=rv.one
 obtain⟨z,its,n,r,hl,e⟩:=I.lstM hH
 refine MH F.slot_list_append ⟨_,e,rfl⟩ F.entry_list_append (F.args_list_append_2 _ _) (PySem.list_append l its.toArray n u (by rw[KU];omega)) ⟨e,?_⟩
 refine⟨.non,_,I.lset (its':=its ++ [u]) hH e (by simp) (r.append (.cons ru .nil)) ?_,rfl,q⟩
 rw[Ls,List.length_singleton]
 omega
def Cg:V->List V->Hp->VK->Prop:=λx vs H Q=>∃l b xs zs,x=.ref l/\vs= [.ref b]/\H l=some (.lst xs)/\H b=some (.lst zs)/\xs.length + zs.length<=sizeLine/\Q .non (upd H l (.lst (xs ++ zs)))
def Gr:Et X "list.extend" Cg:=by
 intro pins s σ H x vs v us Q I rx rv h
 obtain⟨l,b,xs,zs,rfl,rfl,hH,hB,hz,q⟩:=h
 cases rx
 obtain⟨u,rfl,ru⟩:=rv.one
 cases ru
 obtain⟨z,its,n,r,hl,e⟩:=I.lstM hH
 obtain⟨z2,its2,n2,r2,hl2,e2⟩:=I.lstM hB
 have hsz:its.toArray.size + its2.toArray.size<=sizeLine:=by rw[KU,KU];omega
 have hlong:¬(!its.toArray.isEmpty && Builtin.List.listTooLong (its.toArray.size + its2.toArray.size))=true:=by
  rw[tQ hsz,Bool.and_false]
  exact K2
 refine MH F.slot_list_extend ⟨_,e,rfl⟩ F.entry_list_extend (F.args_list_extend_2 _ _)
  (AutoSeq1.list_extend_list_list_0 l its.toArray n b its2.toArray n2 hlong (by rw[KU];omega) (by omega)) ⟨e,e2,?_⟩
 refine⟨.non,_,I.lset (its':=its ++ its2) hH e (by simp) (r.append r2) ?_,rfl,q⟩
 rw[Ls]
 omega
def EW:V->List V->Hp->VK->Prop:=λx vs H Q=>∃l xs i k y,x=.ref l/\vs= [.int i]/\H l=some (.lst xs)/\ -(2 ^ 63)<=i/\i < 2 ^ 63/\seqIndex? i xs.length=some k/\xs[k]? =some y/\Q y (upd H l (.lst (xs.eraseIdx k)))
def Aj:Et X "list.pop" EW:=by
 intro pins s σ H x vs v us Q I rx rv h
 obtain⟨l,xs,i,k,y,rfl,rfl,hH,h1,h2,hk,hy,q⟩:=h
 cases rx
 obtain⟨u,rfl,ru⟩:=rv.one
 obtain⟨t,rfl⟩:=ru
 obtain⟨z,its,n,r,hl,e⟩:=I.lstM hH
 obtain⟨w,hw,rw'⟩:=r.get hy
 refine MH F.slot_list_pop ⟨_,e,rfl⟩ F.entry_list_pop (F.args_list_pop_2 _ _)
  (MeetsSeq.list_pop_at l its.toArray n i t k w (fitsIndex_both h1 h2) (by rw[KU,<-hl];exact hk) (by rw[<-Array.getElem?_toList];exact hw) (by rw[KU];omega)) ⟨e,?_⟩
 refine⟨y,_,I.lset (its':=its.eraseIdx k) hH e ?_ (r.eraseIdx k) ?_,rw',q⟩
 ·show its.toArray.eraseIdxIfInBounds k=(its.eraseIdx k).toArray
  rw[List.eraseIdxIfInBounds_toArray]
 ·have:=pz xs k
  omega
def Jj:R2:=λx y H Q=>∃l b xs zs,x=.ref l/\y=.ref b/\H l=some (.lst xs)/\H b=some (.lst zs)/\xs.length + zs.length<=sizeLine/\∀p,H p=none->Q (.ref p) (upd H p (.lst (xs ++ zs)))
def A5:lK X (binaryOp .Add) Jj:=by
 intro pins s σ H x y v u Q I rx ry h
 obtain⟨l,b,xs,zs,rfl,rfl,hH,hB,hz,q⟩:=h
 cases rx
 cases ry
 obtain⟨z,its,n,r,hl,e⟩:=I.lstM hH
 obtain⟨z2,its2,n2,r2,hl2,e2⟩:=I.lstM hB
 refine PySem.P.add_list e e2 ?_ (by rw[KU,KU];omega)
 have ea:its.toArray ++ its2.toArray=(its ++ its2).toArray:=by simp
 rw[ea]
 exact⟨.ref _,_,I.lnew (t':=s.toks) (r.append r2) (by rw[Ls];omega),rfl,q _ I.fresh⟩
def Jr:R2:=λx y H Q=>∃l k xs,x=.ref l/\y=.int k/\H l=some (.lst xs)/\ -(2 ^ 63)<=k/\k < 2 ^ 63/\xs.length * k.toNat<=sizeLine/\
 ∀p,H p=none->Q (.ref p) (upd H p (.lst (List.replicate k.toNat xs).flatten))
theorem len_rep {α:Type}(xs:List α)(k:Nat):(List.replicate k xs).flatten.length=k * xs.length:=by
 induction k with
 |zero=>simp
 |succ k ih=>rw[LB,L9,Ls,ih,Nat.succ_mul,Nat.add_comm]
def AG:lK X (binaryOp .Mult) Jr:=by
 intro pins s σ H x y v u Q I rx ry h
 obtain⟨l,k,xs,rfl,rfl,hH,h1,h2,hz,q⟩:=h
 cases rx
 obtain⟨t,rfl⟩:=ry
 obtain⟨z,its,n,r,hl,e⟩:=I.lstM hH
 have hlen:its.toArray.size * k.toNat<=sizeLine:=by rw[KU,<-hl];exact hz
 have hcap:¬its.toArray.size * k.toNat > (2 ^ 63 - 1) / 8:=by
  have:(sizeLine:Nat)<=(2 ^ 63 - 1) / 8:=by decide
  omega
 have hfit:¬(!Builtin.List.listFitsIndex k)=true:=by
  rw[fitsIndex_both h1 h2]
  exact K2
 have hlong:¬Builtin.List.listTooLong (its.toArray.size * k.toNat)=true:=by
  rw[tQ hlen]
  exact K2
 have hnew:List.foldl (λx1 x2=>x1 ++ x2) #[] (List.replicate (if its.toArray.isEmpty=true then 0 else k.toNat) its.toArray)=(List.replicate k.toNat its).flatten.toArray:=by
  have f0:∀m:Nat,List.foldl (λx1 x2=>x1 ++ x2) #[] (List.replicate m its.toArray)=(List.replicate m its).flatten.toArray:=λm=>by
   have:=foldl_rep its m []
   rw[List.nil_append] at this
   exact this
  rw[f0]
  cases its with
  |nil=>simp
  |cons a r'=>rw[KZ (by simp)]
 refine wpAny_binaryOp_repeat_ref (T:="list") (U:="int") (by decide) ⟨_,e,rfl⟩ (λs'=>typeIs_int s' k t) noFill_list_mul F.fills_int_mul F.slot_int_rmul repeat_list F.slot_int_index.lookup
  (MH F.slot_int_rmul (typeIs_int s k t) F.entry_int_rmul (F.args_int_rmul_2 _ _) (int___rmul___int_list k t l its.toArray n)
   ⟨e,rfl,⟨_,e,rfl⟩,MH F.slot_list_mul ⟨_,e,rfl⟩ F.entry_list_mul (F.args_list_mul_2 _ _) (AutoListH.list___mul___list_int_3 l its.toArray n k t hfit hcap hlong) ⟨e,?_⟩⟩)
 rw[hnew]
 exact⟨.ref _,_,I.lnew (t':=s.toks) (r.rep k.toNat) (by rw[len_rep,Nat.mul_comm];exact hz),rfl,q _ I.fresh⟩
end
end L2
namespace Att
open PySem PySem.W PySem.Calls PyProof.Rows
theorem mF {P:Params}{h:Heap}:∀(ns:List Int) (vs:List Value),WellAll P h vs (ns.map WData.int)->IntsAre vs ns:=by
 intro ns
 induction ns with
 |nil=>
  intro vs w
  rw[map_nil] at w
  cases w
  exact .nil
 |cons n ns ih=>
  intro vs w
  rw[Ln] at w
  cases w with
  |cons a b=>
   cases a
   exact .cons _ _ (ih _ b)
theorem yz {l:OpenLaw}{n:Nat}(hn:l.most=some n){P:Params}{h:Heap}{args:List WData}{vals:List Value}
  (hpre:l.row.toRowW.claim.pre args=true) (hwl:WellAll P h vals args) :
  ∃a vs ns,vals= [Value.ref a]/\args= [WData.list (ns.map WData.int)]/\h.get? a=some {cls:=.type "list",data:=.seq vs.toArray}/\IntsAre vs ns/\ns.length<=n:=by
 have hsh:WShape.hasAll [] args [.list .int]=true:=(pre_splitW hpre).1
 have hc:l.pre.holds [] {args:=args}=true:=(pre_splitW hpre).2
 obtain⟨d,r,rfl,h1,h2⟩:=hasAllW_cons hsh
 obtain rfl:=hasAllW_nil h2
 obtain⟨xs,rfl,h3⟩:=hasW_list h1
 obtain⟨ns,rfl⟩:=items_int h3
 have hlen:ns.length<=n:=by
  unfold OpenLaw.pre at hc
  have h4:(WTm.not (.lt (.lit (.int (n:Int))) (.len (.arg 0)))).holds [] {args:=[.list (ns.map .int)]}=true:=by
   have h4:=(holds_andW hc).1
   rw[hn] at h4
   exact h4
  have h5:=condW_of h4 (w_not (w_lt w_lit (w_len_list (w_arg rfl))))
  rw[KD] at h5
  refine Nat.le_of_not_lt λq=>?_
  have q':(n:Int) < ((ns.length:Nat):Int):=by omega
  first
   | (rw[KY q'] at h5;exact absurd h5 (by decide))
   | (simp at h5;omega)
 cases hwl with
 |cons w1 w2=>
  cases w2
  cases w1 with
  |list ho hall=>exact⟨_,_,ns,rfl,rfl,ho,mF ns _ hall,hlen⟩
def yq (l:OpenLaw)(args:List WData):l.row.toRowW.claim.post args (.bool true) args=true:=
 postW_of (r:=l.row.toRowW) (X:=(true == true))
  (show WShape.has [] (.bool true) .bool=true by first |rfl |decide |simp[WShape.has,WShape.arms,WShape.armsAll])
  (show (WTm.eq .res (.lit (.bool true))).value [] {args:=args,res:=some (.bool true),after:=args}=some (.bool (true == true)) from w_eq_bool (w_res rfl) w_lit) rfl
def sM {l:OpenLaw}{n:Nat}{q:Program}{loose:List Str}{XP:(Str->Option Value)->Heap->Prop}{YP:World->Heap->Prop}{d:DefRec}
  (hn:l.most=some n) (hdf:d.params.defaults= [])
  (call:∀(w:World) (s₀ s₁:Shared) (mg mb:Str->Option Value) (fa:Addr) (o:Obj) (pm cd doc:Value) (a:Addr) (vs:List Value) (ns:List Int),
   Ground q loose [] XP w s₀ mg mb s₁.heap->YP w s₁.heap->
   s₁.heap.get? fa=some o->o.data=.func (docDef d.name d.params d.body d.scope pm cd doc)->s₁.heap.CodeRec cd d.name->mg d.name=some (.ref fa)->
   s₁.heap.get? a=some {cls:=.type "list",data:=.seq vs.toArray}->IntsAre vs ns->ns.length<=n->s₁.gens=#[]->
   codeAny (model l.prog w) callerA (.call (.ref fa) ⟨[.ref a],[]⟩) (λr s'=>r=.ok (.ret (.bool true))/\OldK s₁.heap s'.heap/\s'.os=s₁.os/\AllBare s'.gens) s₁) :
  WalkO q loose XP YP l.row.toRowW d [] (λf vs=>PySem.call f vs):=by
 intro w s₀ s₁ mg mb G Y fa o pm cd doc dV kV ho hd hcd hD hmg hg args vals as hpre hlay hrd hwl hlo
 obtain rfl:dV=.none:=Dflts.none hD hdf
 obtain rfl:kV=.none:=Dflts.noKw hD
 obtain⟨a,vs,ns,rfl,rfl,hobj,hints,hlen⟩:=yz hn hpre hwl
 refine enter_call (MF (call w s₀ s₁ mg mb fa o pm cd doc a vs ns G Y ho (fd_plain hd) hcd hmg hobj hints hlen hg) λr s' hq=>?_)
 obtain⟨rfl,h2,h3,h4⟩:=hq
 exact⟨.inl ⟨.bool true,.bool true,[],rfl,λ_=>rfl,.bool true,yq l _,λ_=>⟨List.Pairwise.nil,λ_ hm=>(nomatch hm)⟩⟩,h2,h3,h4⟩
end Att
namespace L2
open PySem PySem.Spec PyProof.Rows
theorem pO:∀{vs:List Value} {ns:List Int},IntsAre vs ns->Vals (ns.map V.int) vs
 |_,_,.nil=>.nil
 |_,_,.cons n t h=>.cons ⟨t,rfl⟩ (pO h)
def Gj (H:Hp):Prop:=∀b,H b=none\/∃o xs,H b=some (.aN o (.lst xs))
theorem Ak {P:Program}{w:World}{K:Frag}{mg mb:Str->Option Value}{CX:sY}{k:Nat}{fa a:Addr}{fd:FuncData}{x:Str}{sp:Sp}{s₁:Shared}{vs:List Value}{ns:List Int}
  (KX:K.In s₁.heap) (hns:s₁.heap.Ns mainGlobals mg) (hb:s₁.heap.Ns builtinsNs mb) (hbb:∀x:Str,x≠"__name__"->mb x=bootBuiltins x) (hlim:s₁.heap.NoLimit) (hsys:∃mm,s₁.heap.Ns sysModules mm) (hg:s₁.gens=#[])
  (ha:s₁.heap.get? a=some {cls:=.type "list",data:=.seq vs.toArray}) (hi:IntsAre vs ns) (hl:ns.length<=sizeLine) (hr:di k callerA)
  (F:∀base:Heap,K.In base->base.Ns mainGlobals mg->ff P w K mg base CX k fa fd [x] sp) (hbind:∀(s:Shared) (u:Value),BindsTo s fd ⟨[u],[]⟩ [(x,u)])
  (hsp:∀H:Hp,Gj H->fx K H a (ns.map V.int)->sp [.ref a] H (λv _=>v=.bl true) λ_ _ _=>False)
  (hCX:∀H e s',CX [] H s₁ (λ_ _ _=>False) e s'->False) :
  codeAny (model P w) callerA (.call (.ref fa) ⟨[.ref a],[]⟩) (λr s'=>r=.ok (.ret (.bool true))/\OldK s₁.heap s'.heap/\s'.os=s₁.os/\AllBare s'.gens) s₁:=by
 have rv:=pO hi
 have lenV:=hi.length
 have core:∀H:Hp,Gj H->fx K H a (ns.map V.int)->jk P w H s₁.heap->(∀b,H b≠none->b=a)->(H a≠none->K.lookup a=none)->
   codeAny (model P w) callerA (.call (.ref fa) ⟨[.ref a],[]⟩) (λr s'=>r=.ok (.ret (.bool true))/\OldK s₁.heap s'.heap/\s'.os=s₁.os/\AllBare s'.gens) s₁:=by
  intro H hO hS hok hA hK
  have base_of:∀{b:Addr} {o:Obj},s₁.heap.get? b=some o->H b=none->(rz s₁.heap H).get? b=some o:=λe n=>A0 e n
  have noA:∀{b:Addr} {o:Obj} {es:Array DictEntry} {ep:Nat},s₁.heap.get? b=some o->o.data=.dict es ep->H b=none:=λ{b o es ep} e d=>by
   cases q:H b with
   |none=>rfl
   |some u=>
    have e':b=a:=hA b (by rw[q];simp)
    subst e'
    rw[ha] at e;cases e
    have d':Data.seq vs.toArray _=Data.dict es ep:=d
    cases d'
  have nsK:∀{b:Addr} {m:Str->Option Value},s₁.heap.Ns b m->(rz s₁.heap H).Ns b m:=λ{b m} ⟨o,es,ep,e,d,r⟩=>⟨o,es,ep,base_of e (noA e d),d,r⟩
  have hKb:K.In (rz s₁.heap H):=λb o e=>base_of (KX b o e) (by
   cases q:H b with
   |none=>rfl
   |some u=>
    have e':b=a:=hA b (by rw[q];simp)
    subst e'
    rw[hK (by rw[q];simp)] at e;cases e)
  have hM:Mod K mg (rz s₁.heap H):=⟨hKb,nsK hns,⟨mb,nsK hb,hbb⟩,let ⟨mc,h1,h2⟩:=hlim;⟨mc,nsK h1,h2⟩,let ⟨mm,h1⟩:=hsys;⟨mm,nsK h1⟩⟩
  have e0:u6 P w K mg (rz s₁.heap H) callerA [] s₁ H:=⟨rfl,hM,λb o e=>Ck e,Nat.le_of_eq (x6 _ _),trivial,λb hb=>absurd (show b∈([]:List Addr) from hb) (by simp),hok,.of_eq hg⟩
  refine MF ((F _ hKb (nsK hns)).run callerA [] s₁ H ⟨[.ref a],[]⟩ [.ref a] [.ref a] _ _ hr e0 (hbind s₁ (.ref a)) (.cons rfl .nil) (hsp H hO hS)) λr s' h=>?_
  cases r with
  |error e=>exact (hCX H e s' h).elim
  |ok fl=>
   cases fl with
   |next=>exact False.elim h
   |brk=>exact False.elim h
   |cont=>exact False.elim h
   |ret u=>
    obtain⟨v,H',os,bare,un,hok',r',q⟩:=h
    have q':v=.bl true:=q
    subst q'
    obtain rfl:u=Value.bool true:=r'
    refine⟨rfl,OldK.of_keep λb o e=>?_,os,bare⟩
    cases q:H b with
    |none=>exact un.keep b o e q (by intro z;exact absurd (show b∈([]:List Addr) from z) (by simp)) (by simp)
    |some u=>
     rcases hO b with z | ⟨ob,xs,z⟩
     ·rw[q] at z;cases z
     ·have z2:=un.frzs b ob _ z
      obtain⟨e1,_⟩:=hok b _ z
      obtain⟨e2,_⟩:=hok' b _ z2
      rw[e] at e1;cases e1
      exact e2
 cases hk:K.lookup a with
 |some o=>
  have e:=KX a o hk
  rw[ha] at e
  cases e
  refine core (λ_=>none) (λ_=>.inl rfl) (.inr ⟨_,vs.toArray,_,hk,rfl,rfl,rfl,by rw[KU,lenV];exact hl,by simpa using rv⟩) (λb u z=>by have z':(none:Option HO)=some u:=z;cases z') (λb z=>absurd rfl z) λz=>absurd rfl z
 |none=>
  refine core (λb=>if b=a then some (.aN {cls:=.type "list",data:=.seq vs.toArray} (.lst (ns.map V.int))) else none) (λb=>?_) (.inl (.inr ⟨{cls:=.type "list",data:=.seq vs.toArray},KH rfl⟩)) (λb u z=>?_) (λb z=>?_) λ_=>hk
  ·by_cases hb:b=a
   ·exact .inr ⟨_,_,KH hb⟩
   ·exact .inl (KZ hb)
  ·by_cases hb:b=a
   ·have z':=(KH hb).symm.trans z
    cases z'
    subst hb
    exact⟨ha,by rw[KD];exact hl,vs,_,rv,ha⟩
   ·have z':=(KZ hb).symm.trans z
    cases z'
  ·by_cases hb:b=a
   ·exact hb
   ·exact absurd (KZ hb) z
def Cf {l:PySem.W.OpenLaw}{n k:Nat}{q:Program}{loose:List Str}{XP:(Str->Option Value)->Heap->Prop}{YP:World->Heap->Prop}{d:DefRec}{K:Params->Frag}{CX:World->sY}{sp:World->Sp}{x:Str}
  (hn:l.most=some n) (hn2:n<=sizeLine) (hdf:d.params.defaults= []) (hi:PyProof.Rows.importsNone q=true) (hr:di k callerA)
  (hY:∀(w:World) (h:Heap),YP w h->(K w.params).In h)
  (F:∀(w:World) (mg:Str->Option Value) (fa:Addr) (h:Heap),(K w.params).In h->h.Ns mainGlobals mg->mg d.name=some (.ref fa)->
   ∃fd:FuncData,(∀(s:Shared) (u:Value),BindsTo s fd ⟨[u],[]⟩ [(x,u)])/\
    ∀base:Heap,(K w.params).In base->base.Ns mainGlobals mg->ff l.prog w (K w.params) mg base (CX w) k fa fd [x] (sp w))
  (hsp:∀(w:World) (H:Hp) (a:Addr) (ns:List Int),ns.length<=n->Gj H->fx (K w.params) H a (ns.map V.int)->sp w [.ref a] H (λv _=>v=.bl true) λ_ _ _=>False)
  (hCX:∀(w:World) (H:Hp) (s:Shared) (e:Value) (s':Shared),CX w [] H s (λ_ _ _=>False) e s'->False) :
  PySem.W.WalkO q loose XP YP l.row.toRowW d [] (λf vs=>PySem.call f vs):=by
 refine Att.sM hn hdf λw s₀ s₁ mg mb fa o pm cd doc a vs ns G Y ho hd hcd hmg hobj hints hlen hg=>?_
 have KX:=hY w _ Y
 obtain⟨fd,hb,hF⟩:=F w mg fa _ KX G.T.g hmg
 exact Ak KX G.T.g G.T.b G.T.builtins G.T.nolimit (let ⟨mm,h1,_⟩:=(G.T.seer hi).mods;⟨mm,h1⟩) hg hobj hints (LA hlen hn2) hr hF hb (λH hO hS=>hsp w H a ns hlen hO hS) λH e s'=>hCX w H s₁ e s'
def gS (s:Stmt):Arguments:=match s with
 | .FunctionDef _ a _ _ _ _ _ _ _ _=>a
 |_=>{posonlyargs:=[],args:=[],vararg:=none,kwonlyargs:=[],kw_defaults:=[],kwarg:=none,defaults:=[]}
def bJ (s:Stmt):List Stmt:=match s with
 | .FunctionDef _ _ b _ _ _ _ _ _ _=>b
 |_=>[]
def ak (s:Stmt):Scope:=match s with
 | .FunctionDef _ _ _ _ _ _ sc _ _ _=>sc
 |_=>{kind:=.function,names:=[],isGenerator:=false,isCoroutine:=false}
abbrev u5:sY:=λ_ _ _ _ _ _=>False
abbrev E0:XK:=λ_ _ _=>False
def DG {X:Cx}:Passes u5 X E0:=λ_ _ _ _ _ _ _ h=>h.elim
structure y7 (K:Frag)(x qual:Str)(st:Stmt)(f:Addr)(fd:FuncData):Prop where
 ex:∃(oc:Value) (od:Option Addr) (kV doc pm:Value) (an:Option Addr) (cdv ct:Value) (osl:Array (Option Value)),
  fd=PySem.W.fnOf x qual (gS st) (bJ st) (ak st) .none kV doc pm an cdv ct/\K.lookup f=some ⟨oc,od,.func fd,osl⟩/\PySem.W.codeIn K cdv qual=true
 kp:PySem.W.keepIn K (.ref f)=true
section
variable {P:Program}{w:World}{K:Frag}{mg:Str->Option Value}{base:Heap}
def y7.ok {x qual:Str}{st:Stmt}{f:Addr}{fd:FuncData}{N ps:List Str}{k:Nat}{sp:Sp}(F:y7 K x qual st f fd)(S:aB N ps (ak st))(len:∀vs H Q E,sp vs H Q E->vs.length=ps.length)
  (hbody:∀(cdv:Value) (A:Around) (outer:List Env) (s:Shared) (H:Hp) (vs:List V) (Q:VK) (E:XK),di k (A.deeper (envOfC qual (ak st) s.heap.objs.size f cdv))->sp vs H Q E->
   ∃t,mH (jG u5 P w K mg base N qual (ak st) f cdv A outer s H E).nox (bJ st) t/\t {nx:=λ_ H'=>Q .non H',rt:=Q} (start N vs) H):ff P w K mg base u5 (k + 1) f fd ps sp:=by
 obtain⟨oc,od,kV,doc,pm,an,cdv,ct,osl,rfl,lk,hcd⟩:=F.ex
 refine DF lk hcd S len λA outer s H vs Q E hr hsp=>?_
 obtain⟨t,h,q⟩:=hbody cdv A outer s H vs Q E hr hsp
 exact⟨t,h.nox,q⟩
def y7.binds {x qual:Str}{st:Stmt}{f:Addr}{fd:FuncData}{ps:List Str}(F:y7 K x qual st f fd)
  (h:∀(kV doc pm:Value) (an:Option Addr) (cdv ct:Value) (us:List Value),us.length=ps.length->bindArgs (PySem.W.fnOf x qual (gS st) (bJ st) (ak st) .none kV doc pm an cdv ct) ⟨us,[]⟩=pure (ps.zip us)):Binds K fd ps []:=by
 obtain⟨oc,od,kV,doc,pm,an,cdv,ct,osl,rfl,lk,hcd⟩:=F.ex
 exact .all (h kV doc pm an cdv ct)
def vc {x qual:Str}{st:Stmt}{f:Addr}{oc:Value}{od an:Option Addr}{osl:Array (Option Value)}{kV doc pm cdv ct:Value}(l:K.lookup f=some ⟨oc,od,.func (PySem.W.fnOf x qual (gS st) (bJ st) (ak st) .none kV doc pm an cdv ct),osl⟩)
  (c:PySem.W.codeIn K cdv qual=true) (k:PySem.W.keepIn K (.ref f)=true):y7 K x qual st f (PySem.W.fnOf x qual (gS st) (bJ st) (ak st) .none kV doc pm an cdv ct):=⟨⟨oc,od,kV,doc,pm,an,cdv,ct,osl,rfl,l,c⟩,k⟩
end
section
variable {X:Cx}
def pv (i:Nat){x:Str}{pos:Pos}(hN:X.N[i]? =some x:=by rfl)(hv:vP X.env.scope x:=by first |exact Or.inl rfl |exact Or.inr (Or.inl rfl) |exact Or.inr (Or.inr rfl))(hd:(x == ("__debug__":Str))=false:=by decide)
  (hcd:(x == ("__classdict__":Str))=false:=by decide):PE X (.Name x pos) (CJ i):=gZ hN hv hd hcd
end
def om {A B:Prop}(h:B):if false=true then A else B:=by
 rw[KZ K2]
 exact h
def sL {A B:Prop}(h:A):if true=true then A else B:=by
 rw[KH rfl]
 exact h
def JF (o:Obj):Prop:=∃vs q t,o.data=.fields vs/\vs[1]? =some (.str q t)
def Kt (H:Hp)(b:Addr):HO->Prop
 | .iO ps=>∃more:Array Value,H b=some (.iO (ps ++ more))/\∀c,Value.ref c∈more.toList->∃o,H c=some (.aN o (.own 0))/\JF o
 |o=>H b=some o
theorem Kt.of {H:Hp}{b:Addr}{o:HO}(h:H b=some o):Kt H b o:=by
 cases o with
 |iO ps=>exact⟨#[],by rw[h];simp,λc hc=>by simp at hc⟩
 |_=>exact h
def ai (H H':Hp):Prop:=∀b o,H b=some o->Kt H' b o
def ai.refl (H:Hp):ai H H:=λ_ _ h=>Kt.of h
theorem Kt.some {H:Hp}{b:Addr}{o:HO}(h:Kt H b o):∃u,H b=Option.some u/\((∀ps,o≠.iO ps)->u=o)/\((∃ps,o=.iO ps)->∃ps,u=.iO ps):=by
 cases o with
 |iO ps=>obtain⟨m,e,_⟩:=h;exact⟨_,e,λz=>absurd rfl (z ps),λ_=>⟨_,rfl⟩⟩
 |_=>exact⟨_,h,λ_=>rfl,λ⟨ps,z⟩=>by cases z⟩
theorem Kt.step {H H':Hp}{b:Addr}{o:HO}(h:Kt H b o)(s:ai H H'):Kt H' b o:=by
 cases o with
 |iO ps=>
  obtain⟨m,e,k⟩:=h
  obtain⟨m2,e2,k2⟩:=s b _ e
  refine⟨m ++ m2,by rw[e2,Array.append_assoc],λc hc=>?_⟩
  rw[Array.toList_append,Lk] at hc
  rcases hc with hc |hc
  ·obtain⟨o,eo,io⟩:=k c hc;exact⟨o,s c _ eo,io⟩
  ·exact k2 c hc
 |lst xs=>exact s b _ h
 |tup xs=>exact s b _ h
 |dK xs=>exact s b _ h
 |dT xs=>exact s b _ h
 |set S n=>exact s b _ h
 |ins C dx fs=>exact s b _ h
 |own x=>exact s b _ h
 |xd fs=>exact s b _ h
 |met f x=>exact s b _ h
 |bu lo hi=>exact s b _ h
 |aN o u=>exact s b _ h
 |ext φ=>exact s b _ h
def ai.trans {H H1 H2:Hp}(a:ai H H1)(b:ai H1 H2):ai H H2:=λc o h=>(a c o h).step b
theorem ai.free {H H':Hp}(e:ai H H'){l:Addr}(h:H' l=Option.none):H l=Option.none:=by
 cases q:H l with
 |none=>rfl
 |some o=>
  obtain⟨u,z,_⟩:=(e l o q).some
  rw[z] at h
  cases h
def ai.seq {K:Frag}{H H':Hp}{a:Addr}{xs:List V}(e:ai H H')(h:fx K H a xs):fx K H' a xs:=by
 rcases h with (h | ⟨o,h⟩) |h
 ·exact .inl (.inl (e _ _ h))
 ·exact .inl (.inr ⟨o,e _ _ h⟩)
 ·exact .inr h
end L2
end
namespace L2.ST
open PySem PySem.SetTable
abbrev FH (xs:Array Nat):Prop:=xs.toList.Pairwise (· < ·)
def FE (mask:Nat)(p:Probe):Probe:=
 if p.more > 0 then {p with j:=p.j + 1,more:=p.more - 1} else
 {p with j:=(leap mask p.i p.perturb).1,more:=runEnd mask (leap mask p.i p.perturb).1 - (leap mask p.i p.perturb).1,i:=(leap mask p.i p.perturb).1,perturb:=(leap mask p.i p.perturb).2}
def EC (mask i perturb:Nat):Probe:={j:=i,more:=runEnd mask i - i,i,perturb,dummy:=none}
def st (mask:Nat)(h:Int):Probe:=EC mask (bits h % (mask + 1)) (bits h)
def j8 (mask:Nat):Nat->Probe->Probe
 | 0,p=>p
 |n + 1,p=>j8 mask n (FE mask p)
theorem tx (mask:Nat):∀(n m:Nat) (p:Probe),j8 mask (n + m) p=j8 mask m (j8 mask n p)
 | 0,m,p=>by rw[LK];rfl
 |n + 1,m,p=>by rw[Nat.add_right_comm];exact tx mask n m (FE mask p)
def xU {mask i:Nat}(h:i<=mask):i<=runEnd mask i/\runEnd mask i<=mask/\runEnd mask i - i<=9:=by
 unfold runEnd;split <;> omega
def In (mask:Nat)(p:Probe):Prop:=p.j + p.more<=mask/\p.more<=9
def wQ (mask i q:Nat):(leap mask i q).1<=mask:=by
 unfold leap;exact Nat.lt_succ_iff.mp (Nat.mod_lt _ (Nat.succ_pos _))
theorem tT (mask:Nat):∀(k:Nat) (p:Probe),p.more=k->j8 mask (k + 1) p={p with j:=(leap mask p.i p.perturb).1,more:=runEnd mask (leap mask p.i p.perturb).1 - (leap mask p.i p.perturb).1,i:=(leap mask p.i p.perturb).1,perturb:=(leap mask p.i p.perturb).2}
 | 0,p,h=>by
  show FE mask p=_
  unfold FE
  rw[KZ (by omega)]
 |k + 1,p,h=>by
  have e:FE mask p={p with j:=p.j + 1,more:=p.more - 1}:=by unfold FE;rw[KH (by omega)]
  show j8 mask (k + 1) (FE mask p)=_
  rw[e,tT mask k _ (by dsimp only;omega)]
def yk (mask i q:Nat):j8 mask (runEnd mask i - i + 1) (EC mask i q)=EC mask (leap mask i q).1 (leap mask i q).2:=by
 exact tT mask _ (EC mask i q) rfl
def fG (mask:Nat):Nat->Nat×Nat->Nat×Nat
 | 0,x=>x
 |k + 1,x=>fG mask k (leap mask x.1 x.2)
theorem ml (mask:Nat):∀(k i q:Nat),i<=mask->∃n,n<=10 * k/\j8 mask n (EC mask i q)=EC mask (fG mask k (i,q)).1 (fG mask k (i,q)).2
 | 0,i,q,_=>⟨0,KI _,rfl⟩
 |k + 1,i,q,h=>by
  obtain⟨n,hn,e⟩:=ml mask k (leap mask i q).1 (leap mask i q).2 (wQ _ _ _)
  have:=xU h
  refine⟨(runEnd mask i - i + 1) + n,by omega,?_⟩
  rw[tx,yk,e]
  rfl
theorem pZ (mask:Nat):∀(a b:Nat) (x:Nat×Nat),fG mask (a + b) x=fG mask b (fG mask a x)
 | 0,b,x=>by rw[LK];rfl
 |a + 1,b,x=>by rw[Nat.add_right_comm];exact pZ mask a b (leap mask x.1 x.2)
theorem sX (mask:Nat):∀(k:Nat) (x:Nat×Nat),x.1<=mask->(fG mask k x).1<=mask
 | 0,_,h=>h
 |k + 1,x,_=>sX mask k _ (wQ mask x.1 x.2)
theorem km (mask:Nat):∀(k:Nat) (x:Nat×Nat),(fG mask k x).2=x.2 / 32 ^ k
 | 0,x=>by simp[fG]
 |k + 1,x=>by
  show (fG mask k (leap mask x.1 x.2)).2=_
  rw[km mask k,Nat.pow_succ,Nat.mul_comm,<-Nat.div_div_eq_div_mul]
  rfl
def nx (mask i:Nat):Nat:=(i * 5 + 1) % (mask + 1)
def y9 (mask:Nat):Nat->Nat->Nat
 | 0,i=>i
 |k + 1,i=>y9 mask k (nx mask i)
theorem nk (mask:Nat):∀(a b i:Nat),y9 mask (a + b) i=y9 mask b (y9 mask a i)
 | 0,b,i=>by rw[LK];rfl
 |a + 1,b,i=>by rw[Nat.add_right_comm];exact nk mask a b (nx mask i)
theorem oi (mask:Nat):∀(k i:Nat),fG mask k (i,0)=(y9 mask k i,0)
 | 0,_=>rfl
 |k + 1,i=>by
  show fG mask k (leap mask i 0)=_
  have:leap mask i 0=(nx mask i,0):=by simp[leap,nx]
  rw[this,oi mask k]
  rfl
def GW (mask:Nat):Prop:=mask=7\/mask=31\/mask=127
def Gy (mask:Nat)(hm:GW mask):y9 mask (mask + 1) 0=0/\∀j,j<=mask->∃k,k<=mask/\y9 mask k 0=j:=by
 have h7:∀j:Nat,j < 8->∃k,k < 8/\y9 7 k 0=j:=by decide +kernel
 have h31:∀j:Nat,j < 32->∃k,k < 32/\y9 31 k 0=j:=by decide +kernel
 have h127:∀j:Nat,j < 128->∃k,k < 128/\y9 127 k 0=j:=by decide +kernel
 rcases hm with rfl |rfl |rfl
 ·exact⟨by decide +kernel,λj hj=>let ⟨k,a,b⟩:=h7 j (by omega);⟨k,by omega,b⟩⟩
 ·exact⟨by decide +kernel,λj hj=>let ⟨k,a,b⟩:=h31 j (by omega);⟨k,by omega,b⟩⟩
 ·exact⟨by decide +kernel,λj hj=>let ⟨k,a,b⟩:=h127 j (by omega);⟨k,by omega,b⟩⟩
def GU {mask:Nat}(hm:GW mask){i j:Nat}(hi:i<=mask)(hj:j<=mask):∃k,k<=mask/\y9 mask k i=j:=by
 obtain⟨z,o⟩:=Gy mask hm
 obtain⟨a,ha,ea⟩:=o i hi
 obtain⟨b,hb,eb⟩:=o j hj
 have back:y9 mask (mask + 1 - a) i=0:=by
  rw[<-ea,<-nk,show a + (mask + 1 - a)=mask + 1 by omega];exact z
 by_cases hab:a<=b
 ·refine⟨b - a,by omega,?_⟩
  rw[<-ea,<-nk,show a + (b - a)=b by omega];exact eb
 ·refine⟨mask + 1 - a + b,by omega,?_⟩
  rw[nk,back];exact eb
def vd {mask:Nat}(hm:GW mask){i q j:Nat}(hi:i<=mask)(hq:q < 2 ^ 64)(hj:j<=mask):∃k,k<=mask + 13/\(fG mask k (i,q)).1=j:=by
 have hz:(fG mask 13 (i,q)).2=0:=by
  rw[km]
  exact Nat.div_eq_of_lt (K6 hq (by decide))
 obtain⟨k,hk,e⟩:=GU hm (sX mask 13 (i,q) hi) hj
 refine⟨13 + k,by omega,?_⟩
 rw[pZ]
 have:fG mask 13 (i,q)=((fG mask 13 (i,q)).1,0):=Prod.ext rfl hz
 rw[this,oi]
 exact e
def BV (h:Int):bits h < 2 ^ 64:=by
 unfold bits
 have:=Int.emod_lt_of_pos h (show (0:Int) < 2 ^ 64 by decide)
 have:=Int.emod_nonneg h (show (2 ^ 64:Int)≠0 by decide)
 omega
def BH {mask:Nat}(hm:GW mask)(h:Int){j:Nat}(hj:j<=mask):∃n,n < 10 * turns mask/\(j8 mask n (st mask h)).j=j:=by
 have hi:bits h % (mask + 1)<=mask:=Nat.lt_succ_iff.mp (Nat.mod_lt _ (Nat.succ_pos _))
 obtain⟨k,hk,e⟩:=vd hm hi (BV h) hj
 obtain⟨n,hn,q⟩:=ml mask k (bits h % (mask + 1)) (bits h) hi
 refine⟨n,by unfold turns;omega,?_⟩
 show (j8 mask n (EC mask _ _)).j=j
 rw[q];exact e
def Reach (mask:Nat)(L:Nat->Prop)(h:Int)(j:Nat):Prop:=∃n,n < 10 * turns mask/\(j8 mask n (st mask h)).j=j/\∀m,m < n->L (j8 mask m (st mask h)).j
structure Tab (t:SetTable)(hs:List Int):Prop where
 mask:GW t.mask
 dum:t.dummies=#[]
 rise:FH t.place
 le:∀j,j∈t.place->j<=t.mask
 size:t.place.size=hs.length
 load:t.place.size * 5 < t.mask * 3
 reach:∀(i j:Nat) (h:Int),t.place[i]? =some j->hs[i]? =some h->Reach t.mask (· ∈t.place) h j
 plain:t.plain=true
theorem mf {α:Type}[DecidableEq α]:∀{l m:List α},l.Nodup->(∀x,x∈l->x∈m)->l.length<=m.length
 | [],_,_,_=>LC _
 |a :: l,m,hn,hs=>by
  have ha:=hs a (KO ..)
  have hl:=LI.mp hn
  have:=mf (l:=l) (m:=m.erase a) hl.2 λx hx=>by
   refine (List.mem_erase_of_ne ?_).mpr (hs x (KL _ hx))
   rintro rfl;exact hl.1 hx
  rw[List.length_erase_of_mem ha] at this
  have:0 < m.length:=List.length_pos_of_mem ha
  simp only[K4];omega
def vk {mask:Nat}{xs:Array Nat}(hl:xs.size<=mask):∃j,j<=mask/\j∉xs:=by
 refine Classical.byContradiction λhc=>?_
 have all:∀j,j∈List.range (mask + 1)->j∈xs.toList:=λj hj=>by
  have:=LM.mp hj
  refine Classical.byContradiction λhn=>hc ⟨j,by omega,λz=>hn (by simpa using z)⟩
 have:=mf List.nodup_range all
 simp at this
 omega
theorem qu {P:Nat->Prop}(h:∃n,P n):∃n,P n/\∀m,m < n->¬P m:=by
 obtain⟨n,hn⟩:=h
 induction n using Nat.strongRecOn with
 |_ n ih=>
  by_cases hc:∃m,m < n/\P m
  ·obtain⟨m,hm,hp⟩:=hc
   exact ih m hm hp
  ·exact⟨n,hn,λm hm hp=>hc ⟨m,hm,hp⟩⟩
section
variable {t:SetTable}{hs:List Int}
def Tab.load' (T:Tab t hs):t.place.size<=t.mask:=by have:=T.load;omega
def Tab.first (T:Tab t hs)(h:Int):∃n,n < 10 * turns t.mask/\(j8 t.mask n (st t.mask h)).j∉t.place/\∀m,m < n->(j8 t.mask m (st t.mask h)).j∈t.place:=by
 obtain⟨j,hj,hn⟩:=vk T.load'
 obtain⟨n,h1,h2⟩:=BH T.mask h hj
 obtain⟨k,hk,hlt⟩:=qu (P:=λn=>(j8 t.mask n (st t.mask h)).j∉t.place) ⟨n,by rw[h2];exact hn⟩
 refine⟨k,?_,hk,λm hm=>Classical.byContradiction λz=>hlt m hm z⟩
 rcases Nat.lt_or_ge n k with c |c
 ·exact absurd (show (j8 t.mask n (st t.mask h)).j∉t.place by rw[h2];exact hn) (hlt n c)
 ·omega
end
abbrev own (o:Array (Option Nat))(j:Nat):Option Nat:=o.getD j none
structure Lay (mask:Nat)(o:Array (Option Nat))(hs:List Int):Prop where
 size:o.size=mask + 1
 all:∀k h,hs[k]? =some h->∃j,own o j=some k/\Reach mask (λx=>(own o x).isSome=true) h j
 one:∀j j' k,own o j=some k->own o j'=some k->j=j'
 le:∀j k,own o j=some k->j<=mask/\k < hs.length
abbrev Pr:=Int×Int
def hp (p:Pr):Int:=reduceHash (Builtin.Tuple.tupleHashOf [hashInt p.1,hashInt p.2])
def Sm (p:Pr):Prop:=(0<=p.1/\p.1 < 8)/\(0<=p.2/\p.2 < 8)
section
variable {prog:Program}{w:World}{A:Around}{E:Value->Shared->Prop}{s:Shared}
abbrev Fu (prog:Program)(w:World)(h:Heap)(p:Pr)(a:Addr):Prop:=IsTupleKey (intKind prog w) h [p.1,p.2] a
structure El (f:Pr->Int)(prog:Program)(w:World)(led:Bool)(h:Heap)(S:Addr)(ps:List (Addr×Pr)):Prop where
 ex:∃o ep t,h.get? S=some o/\o.ExactSet/\o.data=.set (ps.map λq=>(f q.2,Value.ref q.1)).toArray ep t/\Tab t (ps.map λq=>f q.2)/\t.led=led
 at':∀q,q∈ps->Fu prog w h q.2 q.1/\Sm q.2
 nd:(ps.map (·.2)).Nodup
end
def si (w:World):Bool:= !(w.params.followText "set-order")
section
variable {prog:Program}{w:World}{A:Around}{E:Value->Shared->Prop}{s:Shared}{R:Result->Shared->Prop}{I:Addr}{fp wr:List Addr}{n:Nat}{P:Nat->Value->Prop}{St:Nat->Heap->Prop}
def tH (a:Value){Q1:Value->Shared->Prop}
  (h:Q1 (.ref s.heap.objs.size) {s with heap:=s.heap.push {cls:=.type "set",dict:=none,data:=.set #[] 0 (.fresh 0 0 (si w))}}) :
  codeAny (model prog w) A (.call (.builtin "set.__new__") ⟨[.type "set",a],[]⟩) (wants Q1 E) s:=by
 refine codeAny_of_tree ?_
 show wpAny _ A.in1 (do (checkBuiltinCall "set.__new__" ⟨[.type "set",a],[]⟩);again (.builtin "set.__new__" ⟨[.type "set",a],[]⟩)) _ _ s
 refine KA (wpAny_of_eq (F.newCall_set_1 a) (K3 ⟨plainId_quiet F.plain_set_new _,codeAny_builtin F.entry_set_new ?_⟩))
 rw[Around.under_plainId F.plain_set_new _]
 (unfold Builtin.«set.__new__» Builtin.Frozenset.newClass)
 have hsub0:=sub_set_self
 obtain⟨hp0,g0,d0,tk0,os0⟩:=s
 dsimp only
 wp_walk
 (refine wpAny_askSetting (K3 ?_))
 dsimp only
 simp only[newObj]
 (refine KA (wpAny_alloc (K3 ?_)))
 exact K3 h
structure Src (prog:Program)(w:World)(h:Heap)(l:Addr)(vs:List Value)(T:String)(itO:Obj)(St:Addr->Nat->Heap->Prop):Prop where
 ty:∃o,h.get? l=some o/\o.cls=.type T
 ns:isSubtype (.type T) (.type "set")=pure false
 nf:isSubtype (.type T) (.type "frozenset")=pure false
 nd:(Value.type T == Value.type "dict")=false
 it:∀(A:Around) (s1:Shared) (Q:Value->Shared->Prop) (E:Value->Shared->Prop),(∀b o,h.get? b=some o->s1.heap.get? b=some o)->Q (.ref s1.heap.objs.size) {s1 with heap:=s1.heap.push itO}->wpAny (model prog w) A (pyIter (.ref l)) Q E s1
 st:∀(h1:Heap),(∀b o,h.get? b=some o->h1.get? b=some o)->St h1.objs.size 0 (h1.push itO)
 wk:∀(A:Around) (I:Addr),A.handled=none->l≠I->Walks prog w A I [I,l] [I] vs.length (λi v=>vs[i]? =some v) (St I)
def Src.list {h:Heap}{l:Addr}{vs:List Value}(hl:h.IsList l vs.toArray):Src prog w h l vs "list" {cls:=.type "list_iterator",data:=.fields #[.ref l,.int 0 0]} (λI i h'=>h'.IsListIter I l i/\h'.IsList l vs.toArray):=by
 obtain⟨o,ho,hc,n,hd⟩:=id hl
 refine⟨⟨o,ho,hc⟩,F.sub_list_set,F.sub_list_frozenset,by decide,λA s1 Q E k hQ=>ME ⟨o,k _ _ ho,hc,n,hd⟩ hQ,λh1 k=>⟨⟨_,K0 _ rfl,rfl,rfl⟩,⟨o,KC _ (k _ _ ho),hc,n,hd⟩⟩,λA I hh hne=>?_⟩
 have:=Walks.list (prog:=prog) (w:=w) hh I l hne vs.toArray
 simpa using this
def sub_tuple_set:isSubtype (.type "tuple") (.type "set")=pure false:=by rw[isSubtype_type];kernel_rfl
def sub_tuple_frozenset:isSubtype (.type "tuple") (.type "frozenset")=pure false:=by rw[isSubtype_type];kernel_rfl
def Src.tuple {h:Heap}{l:Addr}{vs:List Value}(hl:h.IsTuple l vs.toArray):Src prog w h l vs "tuple" {cls:=.type "tuple_iterator",data:=.fields #[.ref l,.int 0 0]} (λI i h'=>h'.IsTupleIter I l i/\h'.IsTuple l vs.toArray):=by
 obtain⟨o,ho,hc,n,hd⟩:=id hl
 refine⟨⟨o,ho,hc⟩,sub_tuple_set,sub_tuple_frozenset,by decide,λA s1 Q E k hQ=>MB ⟨o,k _ _ ho,hc,n,hd⟩ hQ,λh1 k=>⟨⟨_,K0 _ rfl,rfl,rfl⟩,⟨o,KC _ (k _ _ ho),hc,n,hd⟩⟩,λA I hh hne=>?_⟩
 have:=Walks.tuple (prog:=prog) (w:=w) hh I l hne vs.toArray
 simpa using this
end
end L2.ST
namespace L2.SO
open PySem PySem.W PyProof.Rows
section
variable {n:Nat}{key:Nat->Int}
abbrev Kp (key:Nat->Int)(p:Array Nat)(k:Nat):Int:=key (p.getD k 0)
structure Pm (n:Nat)(p:Array Nat):Prop where
 sz:p.size=n
 nd:p.toList.Nodup
 lt:∀x,x∈p->x < n
def Pm.at {p:Array Nat}(P:Pm n p){k:Nat}(hk:k < n):p.getD k 0 < n:=by
 have h:k < p.size:=by rw[P.sz];exact hk
 simp only[Array.getD,h,dif_pos]
 exact P.lt _ (Array.getElem_mem h)
def Dn (key:Nat->Int)(p:Array Nat)(m:Nat):Prop:=∀i j,i < j->j < m->Kp key p j < Kp key p i
end
end L2.SO
namespace L2.ST
open PySem PySem.SetTable PySem.W PyProof.Rows
def code (p:Pr):Int:=p.1 * 8 + p.2
end L2.ST
namespace OM
abbrev Pr:=Int×Int
def BL (p q:Pr):Prop:=p.1 < q.1\/(p.1=q.1/\p.2 < q.2)
def iW (p:Pr):¬BL p p:=by unfold BL;omega
def xV {p q r:Pr}(a:BL p q)(b:BL q r):BL p r:=by unfold BL at *;omega
abbrev Bc (l:List Pr):Prop:=l.Pairwise BL
theorem jR:∀{l m:List Pr},Bc l->Bc m->(∀x,x∈l↔x∈m)->l=m
 | [],[],_,_,_=>rfl
 | [],b :: m,_,_,h=>absurd ((h b).mpr (KO ..)) (by simp)
 |a :: l,[],_,_,h=>absurd ((h a).mp (KO ..)) (by simp)
 |a :: l,b :: m,hl,hm,h=>by
  have hl':=List.pairwise_cons.mp hl
  have hm':=List.pairwise_cons.mp hm
  have e:a=b:=by
   rcases KG.mp ((h a).mp (KO ..)) with e |e
   ·exact e
   ·rcases KG.mp ((h b).mpr (KO ..)) with e' |e'
    ·exact e'.symm
    ·exact absurd (xV (hm'.1 a e) (hl'.1 b e')) (iW _)
  subst e
  congr 1
  refine jR hl'.2 hm'.2 λx=>⟨λhx=>?_,λhx=>?_⟩
  ·rcases KG.mp ((h x).mp (KL _ hx)) with e |e
   ·subst e;exact absurd (hl'.1 x hx) (iW _)
   ·exact e
  ·rcases KG.mp ((h x).mpr (KL _ hx)) with e |e
   ·subst e;exact absurd (hm'.1 x hx) (iW _)
   ·exact e
def pQ {l:List Pr}(h:Bc l):l.Nodup:=h.imp λ{a b} hab e=>by subst e;exact iW _ hab
def dU {l:List Pr}(p:Pr->Bool)(h:Bc l):Bc (l.filter p):=h.sublist List.filter_sublist
def ba (n:Nat):List Pr:=(List.range (n * n)).map λk=>(((k / n:Nat):Int),((k % n:Nat):Int))
def aU {n:Nat}{p:Pr}:p∈ba n↔(0<=p.1/\p.1 < n)/\(0<=p.2/\p.2 < n):=by
 unfold ba
 rw[Lo]
 constructor
 ·rintro⟨k,hk,rfl⟩
  have hk:=LM.mp hk
  have hn:0 < n:=by
   rcases Nat.eq_zero_or_pos n with e |e
   ·subst e;omega
   ·exact e
  have h1:k / n < n:=Nat.div_lt_of_lt_mul hk
  have h2:k % n < n:=Nat.mod_lt _ hn
  generalize k / n=q at h1
  generalize k % n=r at h2
  exact⟨⟨Int.natCast_nonneg _,by dsimp only;omega⟩,⟨Int.natCast_nonneg _,by dsimp only;omega⟩⟩
 ·rintro⟨⟨a0,a1⟩,⟨b0,b1⟩⟩
  have hn:0 < n:=by omega
  refine⟨p.1.toNat * n + p.2.toNat,LM.mpr ?_,?_⟩
  ·have h1:p.1.toNat + 1<=n:=by omega
   have h2:p.2.toNat < n:=by omega
   have:=Nat.mul_le_mul_right n h1
   rw[Nat.add_mul] at this
   omega
  ·have h2:p.2.toNat < n:=by omega
   have e1:(p.1.toNat * n + p.2.toNat) / n=p.1.toNat:=by
    rw[Nat.mul_comm,Nat.mul_add_div hn,Nat.div_eq_of_lt h2];rfl
   have e2:(p.1.toNat * n + p.2.toNat) % n=p.2.toNat:=by
    rw[Nat.mul_comm,Nat.mul_add_mod,Nat.mod_eq_of_lt h2]
   rw[e1,e2]
   refine Prod.ext ?_ ?_ <;> dsimp only <;> omega
def gr (n:Nat):Bc (ba n):=by
 unfold ba
 refine Mn.mpr (MP ?_ List.pairwise_lt_range)
 intro a b ha hb hab
 have ha:=LM.mp ha
 have hb:=LM.mp hb
 have hn:0 < n:=by
  rcases Nat.eq_zero_or_pos n with e |e
  ·subst e;omega
  ·exact e
 have h1:a / n<=b / n:=Nat.div_le_div_right (Nat.le_of_lt hab)
 have e1:=Nat.div_add_mod a n
 have e2:=Nat.div_add_mod b n
 unfold BL
 dsimp only
 rcases Nat.lt_or_ge (a / n) (b / n) with c |c
 ·left;omega
 ·right
  have e:a / n=b / n:=by omega
  rw[e] at e1
  omega
open Classical in
noncomputable def j9 (n:Nat)(R:Int->Int->Prop):List Pr:=(ba n).filter λp=>decide (R p.1 p.2)
def nY {n:Nat}{R:Int->Int->Prop}{p:Pr}:p∈j9 n R↔((0<=p.1/\p.1 < n)/\(0<=p.2/\p.2 < n))/\R p.1 p.2:=by
 unfold j9
 rw[K8,aU]
 simp
def nS (n:Nat)(R:Int->Int->Prop):Bc (j9 n R):=dU _ (gr n)
def vq {n:Nat}{R S:Int->Int->Prop}(h:∀a b:Int,0<=a->a < n->0<=b->b < n->(R a b↔S a b)):j9 n R=j9 n S:=by
 refine jR (nS n R) (nS n S) λx=>?_
 rw[nY,nY]
 constructor
 ·rintro⟨⟨⟨a,b⟩,c,d⟩,r⟩;exact⟨⟨⟨a,b⟩,c,d⟩,(h _ _ a b c d).mp r⟩
 ·rintro⟨⟨⟨a,b⟩,c,d⟩,r⟩;exact⟨⟨⟨a,b⟩,c,d⟩,(h _ _ a b c d).mpr r⟩
def Wn (n:Nat)(l:List Pr):Prop:=∀p,p∈l->(0<=p.1/\p.1 < n)/\(0<=p.2/\p.2 < n)
abbrev Mem (l:List Pr)(a b:Int):Prop:=(a,b)∈l
def yA {n:Nat}{l:List Pr}(w:Wn n l)(r:Bc l):j9 n (Mem l)=l:=by
 refine jR (nS n _) r λx=>?_
 rw[nY]
 exact⟨λh=>h.2,λh=>⟨w x h,h⟩⟩
def BD (n:Nat)(R:Int->Int->Prop):(j9 n R).length<=n * n:=by
 unfold j9
 refine LA (Mj ..) ?_
 unfold ba;simp
inductive Tr (R:Int->Int->Prop):Int->Int->Prop
 |one {a b}:R a b->Tr R a b
 |more {a b c}:R a b->Tr R b c->Tr R a c
theorem Tr.trans {R:Int->Int->Prop}{a b c:Int}(h:Tr R a b)(k:Tr R b c):Tr R a c:=by
 induction h with
 |one r=>exact .more r k
 |more r _ ih=>exact .more r (ih k)
theorem Tr.least {R S:Int->Int->Prop}(f:∀a b,R a b->S a b)(t:∀a b c,S a b->S b c->S a c){a b:Int}(h:Tr R a b):S a b:=by
 induction h with
 |one r=>exact f _ _ r
 |more r _ ih=>exact t _ _ _ (f _ _ r) ih
theorem Tr.wn {n:Nat}{l:List Pr}(w:Wn n l){a b:Int}(h:Tr (Mem l) a b):(0<=a/\a < n)/\(0<=b/\b < n):=by
 induction h with
 |one r=>exact w _ r
 |more r _ ih=>exact⟨(w _ r).1,ih.2⟩
structure Ord (n:Nat)(l:List Pr):Prop where
 lo:1<=n
 hi:n<=8
 wn:Wn n l
 ris:Bc l
 irr:∀a,(a,a)∉l
 tr:∀a b c,(a,b)∈l->(b,c)∈l->(a,c)∈l
def Ord.tr_mem {n:Nat}{l:List Pr}(O:Ord n l){a b:Int}:Tr (Mem l) a b↔(a,b)∈l:=
 ⟨λh=>h.least (λ_ _ r=>r) λa b c=>O.tr a b c,λh=>.one h⟩
def Ord.closed {n:Nat}{l:List Pr}(O:Ord n l):j9 n (Tr (Mem l))=l:=by
 rw[vq (S:=Mem l) λa b _ _ _ _=>O.tr_mem,yA O.wn O.ris]
theorem jE {l m:List Pr}(hl:l.Nodup)(h:∀x,x∈l->x∈m):l.length<=m.length:=by
 induction l generalizing m with
 |nil=>exact LC _
 |cons a l ih=>
  have ha:=h a (KO ..)
  have hl':=LI.mp hl
  have:=ih (m:=m.erase a) hl'.2 λx hx=>by
   refine (List.mem_erase_of_ne ?_).mpr (h x (KL _ hx))
   rintro rfl;exact hl'.1 hx
  rw[List.length_erase_of_mem ha] at this
  have:0 < m.length:=List.length_pos_of_mem ha
  simp only[K4];omega
def sub_eq {l m:List Pr}(hl:Bc l)(hm:Bc m)(h:∀x,x∈l->x∈m)(e:l.length=m.length):l=m:=by
 refine jR hl hm λx=>⟨h x,λhx=>Classical.byContradiction λhn=>?_⟩
 have:=jE (l:=x :: l) (m:=m) (LI.mpr ⟨hn,pQ hl⟩) λy hy=>by
  rcases KG.mp hy with e |e
  ·subst e;exact hx
  ·exact h y e
 simp only[K4] at this
 omega
def more (l:List Pr):List Pr:=l.flatMap λp=>(l.filter λq=>decide (q.1=p.2)).map λq=>(p.1,q.2)
abbrev Tb:=Nat->Nat->Bool
def Tb.set (M:Tb)(a b:Nat):Tb:=λx y=>if x=a/\y=b then true else M x y
def Dl (M:Tb)(m:Nat):Prop:=∀k a b,k < m->M a k=true->M k b=true->M a b=true
def Phase (M0 M:Tb)(m:Nat)(D:Nat->Nat->Prop):Prop:=∀a b,M a b=true↔M0 a b=true\/(D a b/\M0 a m=true/\M0 m b=true)
def Phase.start (M:Tb)(m:Nat):Phase M M m λ_ _=>False:=λa b=>by simp
def Phase.row {M0 M:Tb}{m:Nat}{D:Nat->Nat->Prop}(P:Phase M0 M m D)(a:Nat):M a m=true↔M0 a m=true:=by
 rw[P]
 exact⟨λh=>h.elim id λh=>h.2.1,.inl⟩
def Phase.col {M0 M:Tb}{m:Nat}{D:Nat->Nat->Prop}(P:Phase M0 M m D)(b:Nat):M m b=true↔M0 m b=true:=by
 rw[P]
 exact⟨λh=>h.elim id λh=>h.2.2,.inl⟩
def Phase.step {M0 M:Tb}{m:Nat}{D:Nat->Nat->Prop}(P:Phase M0 M m D)(x y:Nat) :
  Phase M0 (if M x m=true/\M m y=true then M.set x y else M) m (λa b=>D a b\/(a=x/\b=y)):=λa b=>by
 have r:=P.row x
 have c:=P.col y
 by_cases h:M x m=true/\M m y=true
 ·rw[KH h]
  unfold Tb.set
  by_cases e:a=x/\b=y
  ·rw[KH e]
   obtain⟨rfl,rfl⟩:=e
   simp only[true_iff]
   exact .inr ⟨.inr (by simp),r.mp h.1,c.mp h.2⟩
  ·rw[KZ e,P]
   constructor
   ·rintro (q | ⟨d,q⟩)
    ·exact .inl q
    ·exact .inr ⟨.inl d,q⟩
   ·rintro (q | ⟨d |d,q⟩)
    ·exact .inl q
    ·exact .inr ⟨d,q⟩
    ·exact absurd d e
 ·rw[KZ h,P]
  constructor
  ·rintro (q | ⟨d,q⟩)
   ·exact .inl q
   ·exact .inr ⟨.inl d,q⟩
  ·rintro (q | ⟨d | ⟨rfl,rfl⟩,q1,q2⟩)
   ·exact .inl q
   ·exact .inr ⟨d,q1,q2⟩
   ·exact absurd ⟨r.mpr q1,c.mpr q2⟩ h
def Phase.done {M0 M:Tb}{m n:Nat}{D:Nat->Nat->Prop}(P:Phase M0 M m D)(hD:∀a b,a < n->b < n->D a b)(hM:∀a b,M0 a b=true->a < n/\b < n)(T:Dl M0 m) :
  Dl M (m + 1)/\∀a b,M a b=true->a < n/\b < n:=by
 have hM':∀a b,M a b=true->a < n/\b < n:=λa b h=>by
  rcases (P a b).mp h with q | ⟨_,q1,q2⟩
  ·exact hM a b q
  ·exact⟨(hM _ _ q1).1,(hM _ _ q2).2⟩
 have put:∀a b,M0 a m=true->M0 m b=true->M a b=true:=λa b h1 h2=>(P a b).mpr (.inr ⟨hD a b (hM _ _ h1).1 (hM _ _ h2).2,h1,h2⟩)
 refine⟨λk a b hk h1 h2=>?_,hM'⟩
 rcases Nat.lt_or_ge k m with c |c
 ·rcases (P a k).mp h1 with q1 | ⟨_,q1,q1'⟩
  ·rcases (P k b).mp h2 with q2 | ⟨_,q2,q2'⟩
   ·exact (P a b).mpr (.inl (T k a b c q1 q2))
   ·exact put a b (T k a m c q1 q2) q2'
  ·rcases (P k b).mp h2 with q2 | ⟨_,q2,q2'⟩
   ·exact put a b q1 (T k m b c q1' q2)
   ·exact put a b q1 q2'
 ·have e:k=m:=by omega
  subst e
  exact put a b ((P.row a).mp h1) ((P.col b).mp h2)
structure Tab (n:Nat)(ps:List Pr)(M:Tb):Prop where
 inn:∀a b,M a b=true->a < n/\b < n
 sub:∀a b:Nat,((a:Int),(b:Int))∈ps->M a b=true
 sup:∀a b:Nat,M a b=true->Tr (Mem ps) a b
def Tab.phase {n:Nat}{ps:List Pr}{M0 M:Tb}{m:Nat}{D:Nat->Nat->Prop}(T:Tab n ps M0)(P:Phase M0 M m D):Tab n ps M:=
 ⟨λa b h=>by
  rcases (P a b).mp h with q | ⟨_,q1,q2⟩
  ·exact T.inn a b q
  ·exact⟨(T.inn _ _ q1).1,(T.inn _ _ q2).2⟩,
  λa b h=>(P a b).mpr (.inl (T.sub a b h)),
  λa b h=>by
  rcases (P a b).mp h with q | ⟨_,q1,q2⟩
  ·exact T.sup a b q
  ·exact (T.sup _ _ q1).trans (T.sup _ _ q2)⟩
def Tab.all {n:Nat}{ps:List Pr}{M:Tb}(w:Wn n ps)(T:Tab n ps M)(H:Dl M n)(a b:Nat):M a b=true↔Tr (Mem ps) a b:=by
 refine⟨T.sup a b,λh=>?_⟩
 have key:∀{x y:Int},Tr (Mem ps) x y->M x.toNat y.toNat=true:=λ{x y} h=>by
  induction h with
  | @one x y r=>
   have:=w _ r
   refine T.sub _ _ ?_
   have e1:((x.toNat:Nat):Int)=x:=by simp only at this;omega
   have e2:((y.toNat:Nat):Int)=y:=by simp only at this;omega
   rw[e1,e2];exact r
  | @more x y z r _ ih=>
   have:=w _ r
   have e1:((x.toNat:Nat):Int)=x:=by simp only at this;omega
   have e2:((y.toNat:Nat):Int)=y:=by simp only at this;omega
   have q:M x.toNat y.toNat=true:=T.sub _ _ (by rw[e1,e2];exact r)
   exact H y.toNat _ _ (T.inn _ _ q).2 q ih
 have:=key h
 simpa using this
end OM
namespace L2
open PySem PySem.Spec PyProof.Rows
abbrev Pr:=Int×Int
abbrev Sm:=L2.ST.Sm
section
variable {X:Cx}{pins:List (Addr×Obj)}{σ:St}{H H':Hp}{s:Shared}
def ie (H H':Hp):Prop:=(∀b xs,H b=some (.tup xs)->H' b=some (.tup xs))/\∀b o u,H b=some (.aN o u)->H' b=some (.aN o u)
def ie.trans {H H1 H2:Hp}(a:ie H H1)(b:ie H1 H2):ie H H2:=⟨λc xs h=>b.1 c xs (a.1 c xs h),λc o u h=>b.2 c o u (a.2 c o u h)⟩
def ai.grow {H H':Hp}(e:ai H H'):ie H H':=⟨λb xs h=>e b _ h,λb o u h=>e b _ h⟩
def ie.new {H:Hp}{l:Addr}{o:HO}(h:H l=none):ie H (upd H l o):=⟨λb xs e=>by rw[ao (ay e h)];exact e,λb o' u e=>by rw[ao (ay e h)];exact e⟩
def ai.new {H:Hp}{l:Addr}{o:HO}(h:H l=none):ai H (upd H l o):=λb u e=>Kt.of (by rw[ao (ay e h)];exact e)
def fw.grow {K:Frag}{a:Addr}{xs:List V}(h:fw K H a xs)(g:ie H H'):fw K H' a xs:=by
 rcases h with (h | ⟨o,h⟩) |h
 ·exact .inl (.inl (g.1 _ _ h))
 ·exact .inl (.inr ⟨o,g.2 _ _ _ h⟩)
 ·exact .inr h
def ie.list {a:Addr}{ys:List V}{o:HO}(h:H a=some (.lst ys)):ie H (upd H a o):=
 ⟨λb xs e=>by rw[ao (DJ e h (by intro z;cases z))];exact e,λb o' u e=>by rw[ao (DJ e h (by intro z;cases z))];exact e⟩
def bg (K:Frag)(H:Hp):List V->List Pr->Prop:=Paired λv p=>∃a,v=.ref a/\fw K H a [.int p.1,.int p.2]
def bg.grow {K:Frag}{vs:List V}{ps:List Pr}(h:bg K H vs ps)(g:ie H H'):bg K H' vs ps:=Paired.mapP h λv p ⟨a,e,q⟩=>⟨a,e,q.grow g⟩
theorem Paired.getP {α β:Type}{F:α->β->Prop}:∀{l:List α} {m:List β} {i:Nat} {x:α},Paired F l m->l[i]? =some x->∃y,m[i]? =some y/\F x y
 |_,_,_,_,.nil,e=>by simp at e
 |_,_,0,_,.cons r _,e=>by simp at e;subst e;exact⟨_,rfl,r⟩
 |_,_,i + 1,x,.cons _ t,e=>by
  obtain⟨u,h1,h2⟩:=Paired.getP (i:=i) (x:=x) t (by simpa using e)
  exact⟨u,by simpa using h1,h2⟩
abbrev pq (qs:List (Addr×Pr)):List Pr:=qs.map (·.2)
end
def l6 (cells:List (Str×Addr)):List (Str×NameKind)->List (Str×Addr)->List (Str×Addr)
 | [],cs=>cs
 | (n,k) :: r,cs=>l6 cells r (if k == .free then (n,(cells.lookup n).getD 0) :: cs else cs)
def nu {scope:Scope}{env:Env}(h:∀y∈scope.names,y.2=.free->∃c,env.cells.lookup y.1=some c):closureFor scope env=pure (l6 env.cells scope.names []):=by
 unfold closureFor
 have key:∀(l:List (Str×NameKind)) (cs:List (Str×Addr)),(∀y∈l,y.2=.free->∃c,env.cells.lookup y.1=some c)->
   (forIn l cs (λ(x:Str×NameKind) (r:List (Str×Addr))=>if (x.2 == NameKind.free)=true then (do let a <-cellOf env x.1;pure (ForInStep.yield ((x.1,a) :: r)):Sem _) else pure (ForInStep.yield r)):Sem (List (Str×Addr)))=pure (l6 env.cells l cs):=by
  intro l
  induction l with
  |nil=>intro cs _;rfl
  |cons y l ih=>
   intro cs hy
   obtain⟨n,k⟩:=y
   rw[List.forIn_cons]
   unfold l6
   by_cases hk:(k == NameKind.free)=true
   ·have hk':k=.free:=by simpa using hk
    obtain⟨c,hc⟩:=hy (n,k) (KO ..) hk'
    have hce:cellOf env n=pure c:=by unfold cellOf;rw[hc]
    simp only[hk,Mi]
    have hc':env.cells.lookup n=some c:=hc
    rw[hce,hc']
    simp only[pure_bind,Option.getD_some]
    exact ih _ λz hz=>hy z (KL _ hz)
   ·simp only[hk,Mu,LP]
    simp only[pure_bind]
    exact ih _ λz hz=>hy z (KL _ hz)
 have:=key scope.names [] h
 simp only[bind_pure_comp] at this ⊢
 first
  |exact this
  | (rw[this];rfl)
  | (simpa using this)
theorem lO {cells:List (Str×Addr)}{x:Str}:∀{l:List (Str×NameKind)} {cs:List (Str×Addr)},((x,NameKind.free)∈l\/cs.lookup x=some ((cells.lookup x).getD 0))->(l6 cells l cs).lookup x=some ((cells.lookup x).getD 0)
 | [],cs,h=>by
  rcases h with h |h
  ·cases h
  ·exact h
 | (n,k) :: r,cs,h=>by
  unfold l6
  refine lO ?_
  by_cases hk:(k == NameKind.free)=true
  ·rw[KH hk]
   by_cases hx:x=n
   ·subst hx;right;simp
   ·rcases h with h |h
    ·rcases KG.mp h with e |e
     ·injection e with e1 _;exact absurd e1 hx
     ·exact .inl e
    ·right
     rw[Mv,show (x == n)=false by simpa using hx]
     exact h
  ·rw[KZ hk]
   rcases h with h |h
   ·rcases KG.mp h with e |e
    ·injection e with _ e2;exact absurd (by rw[<-e2];rfl) hk
    ·exact .inl e
   ·exact .inr h
theorem mi {cells:List (Str×Addr)}{x:Str}{c:Addr}:∀{l:List (Str×NameKind)} {cs:List (Str×Addr)},(l6 cells l cs).lookup x=some c->((x,NameKind.free)∈l/\c=(cells.lookup x).getD 0)\/cs.lookup x=some c
 | [],cs,h=>.inr h
 | (n,k) :: r,cs,h=>by
  unfold l6 at h
  rcases mi h with⟨a,b⟩ |a
  ·exact .inl ⟨KL _ a,b⟩
  ·by_cases hk:(k == NameKind.free)=true
   ·rw[KH hk,Mv] at a
    by_cases hx:x=n
    ·subst hx
     simp at a
     have:k=.free:=by simpa using hk
     subst this
     exact .inl ⟨KO ..,a.symm⟩
    ·rw[show (x == n)=false by simpa using hx] at a
     exact .inr a
   ·rw[KZ hk] at a
    exact .inr a
theorem mw {f:Str->NameKind->NameKind}{x:Str}:∀(l:List (Str×NameKind)),(l.map λy=>(y.1,f y.1 y.2)).lookup x=(l.lookup x).map (f x)
 | []=>rfl
 | (n,k) :: l=>by
  rw[Ln,Mv,Mv]
  by_cases hx:x=n
  ·subst hx;simp
  ·have hb:(x == n)=false:=by simpa using hx
   simp only[hb]
   exact mw l
def oy (scope:Scope)(env:Env)(x:Str):(relabel scope env).names.lookup x=(scope.names.lookup x).map λk=>if (k == .free && env.scope.kind == .function && env.kindOf x == some .cell) then .cell else k:=by
 have e:(relabel scope env).names=scope.names.map λy=>(y.1,if (y.2 == .free && env.scope.kind == .function && env.kindOf y.1 == some .cell) then .cell else y.2):=by
  unfold relabel
  dsimp only
  refine LQ λy _=>?_
  obtain⟨n,k⟩:=y
  dsimp only
  split <;> rfl
 rw[e]
 exact mw (f:=λn k=>if (k == .free && env.scope.kind == .function && env.kindOf n == some .cell) then .cell else k) scope.names
def hX (X:Cx)(NB:List Str)(scope:Scope)(C:Addr)(ex:List Addr)(s3:Shared)(H3:Hp)(pn:List (Addr×Obj)):Cx:=
 {X with N:=NB,s₀:=s3,H₀:=H3,env:=compEnvC scope (l6 X.env.cells scope.names []) C X.env,outer:=X.stack,ex:=ex,fn:=λ_=>false,pn:=pn,xe:=λ_ _=>False}
def qH (own:Nat)(ixs:List Nat)(σ:St):St:=List.replicate own none ++ ixs.map λi=>(σ[i]?).join
structure cF (X:Cx)(NB:List Str)(own:Nat)(ixs:List Nat)(scope:Scope):Prop where
 kind:scope.kind=.function
 nocell:∀y∈scope.names,y.2≠.cell
 names:∀y∈scope.names,scope.names.lookup y.1=some y.2
 frees:∀y∈scope.names,y.2=.free->X.env.kindOf y.1=some .cell\/X.env.kindOf y.1=some .free
 nd:NB.Nodup
 len:NB.length=own + ixs.length
 at':∀k,k < ixs.length->NB[own + k]? =X.N[ixs.getD k 0]?/\∀x,NB[own + k]? =some x->(x,NameKind.free)∈scope.names
section
variable {X:Cx}{NB:List Str}{own:Nat}{ixs:List Nat}{scope:Scope}{pins:List (Addr×Obj)}{σ:St}{H:Hp}{s:Shared}
def yj (S:cF X NB own ixs scope)(I:Inv X pins σ H s){fp:List Addr}(hfp:∀b∈fp,kN X pins H b)(hob:∀b∈fp,∃o,s.heap.get? b=some o){h1:Heap}{tk:Nat}
  (hn:h1.Ns s.heap.objs.size (λ_=>none)) (hk:∀b o,s.heap.get? b=some o->h1.get? b=some o) :
  Inv (hX X NB scope s.heap.objs.size fp s H (X.pn ++ pins)) [] (qH own ixs σ) H {s with heap:=h1,toks:=tk}:=by
 have stk:=I.stack
 have frees:∀{x:Str},(x,NameKind.free)∈scope.names->∃c,X.env.cells.lookup x=some c:=λ{x} hx=>I.ok.has x (S.frees _ hx rfl)
 have clE:∀{x:Str} {c:Addr},(l6 X.env.cells scope.names []).lookup x=some c->(x,NameKind.free)∈scope.names/\X.env.cells.lookup x=some c:=λ{x c} h=>by
  rcases mi h with⟨a,b⟩ |a
  ·obtain⟨c',e⟩:=frees a
   rw[e] at b
   exact⟨a,by rw[e,b];rfl⟩
  ·simp at a
 have kindB:∀x,(hX X NB scope s.heap.objs.size fp s H (X.pn ++ pins)).env.kindOf x=(scope.names.lookup x).map λk=>if (k == .free && X.env.scope.kind == .function && X.env.kindOf x == some .cell) then .cell else k:=λx=>oy scope X.env x
 have isFree:∀{x:Str},((hX X NB scope s.heap.objs.size fp s H (X.pn ++ pins)).env.kindOf x=some .cell\/(hX X NB scope s.heap.objs.size fp s H (X.pn ++ pins)).env.kindOf x=some .free)->(x,NameKind.free)∈scope.names:=λ{x} h=>by
  rw[kindB] at h
  cases e:scope.names.lookup x with
  |none=>rw[e] at h;simp at h
  |some k=>
   have hm:=Mc e
   cases k with
   |free=>exact hm
   |cell=>exact absurd rfl (S.nocell _ hm)
   |_=>rw[e] at h;simp at h
 have neN:∀b o,s.heap.get? b=some o->b≠s.heap.objs.size:=λb o e=>Lf (KJ e)
 have cellN:∀{x:Str} {c:Addr},X.env.cells.lookup x=some c->c < s.heap.objs.size:=λ{x c} e=>by
  obtain⟨v,o,ho,_⟩:=I.cell x c e
  exact KJ ho
 have ok:(hX X NB scope s.heap.objs.size fp s H (X.pn ++ pins)).Ok:=by
  refine⟨I.ok.mod,S.kind,I.ok.glob,I.ok.blt,KI _,λx y c h1 h2=>I.ok.inj x y c (clE h1).2 (clE h2).2,λx hx=>?_,λx c h=>(by cases h),I.ok.hd,I.ok.frames,.inl rfl,λb hb=>?_,I.bs,LA I.ok.bsz I.sz,λb o e hb=>?_,λb hb hs=>?_,stk,I.stkFree⟩
  ·have hm:=isFree hx
   exact⟨_,lO (.inl hm)⟩
  ·obtain⟨_,f1,f2,f3,f4,f5⟩:=hfp b hb
   refine⟨?_,λx c h z=>f4 x c (clE h).2 z⟩
   obtain⟨o,ho⟩:=hob b hb
   exact neN b o ho
  ·obtain⟨_,f1,f2,f3,f4,f5⟩:=hfp b hb
   rcases f3 with f3 |f3
   ·exact I.ok.noex b o e f3
   ·exact absurd (K6 (KJ e) (LA I.ok.bsz f3)) (LL _)
  ·obtain⟨_,f1,f2,f3,f4,f5⟩:=hfp b hb
   rcases KG.mp (I.stkSub b hs) with z |z
   ·exact f1 z
   ·exact f2 z
 refine⟨ok,rfl,I.bare,Un.kept hk,⟨_,hn,λi x v h1' h2' h3'=>?_⟩,λx c h=>?_,I.hok.fresh (KI _),λx c h=>I.freeC x c (clE h).2,λp hp=>?_,I.hok.kept hk,?_⟩
 ·
  have h1':NB[i]? =some x:=h1'
  have hown:own<=i:=by
   refine Classical.byContradiction λhc=>?_
   have hlt:i < own:=Nat.lt_of_not_le hc
   unfold qH at h2'
   rw[Lz (by simpa using hlt),LU,KH hlt] at h2'
   cases h2'
  obtain⟨k,rfl⟩:∃k,i=own + k:=⟨i - own,by omega⟩
  have hk':k < ixs.length:=by
   have:=(KN.mp h1').1
   rw[S.len] at this;omega
  obtain⟨e1,e2⟩:=S.at' k hk'
  have hm:=e2 x h1'
  unfold qH at h2'
  rw[LG (by simp),L4,Nat.add_sub_cancel_left,KW,KR hk'] at h2'
  simp only[Option.map_some,Option.some.injEq] at h2'
  have hix:ixs.getD k 0=ixs[k]:=by simp[hk']
  have hσ:σ[ixs[k]]? =some (some v):=by
   cases e:σ[ixs[k]]? with
   |none=>rw[e] at h2';cases h2'
   |some o=>rw[e] at h2';simp at h2';rw[h2']
  rw[e1,hix] at h1'
  have hkind:=S.frees _ hm rfl
  have hvis:vP X.env.scope x:=hkind.elim (λz=>.inr (.inl z)) (λz=>.inr (.inr z))
  obtain⟨m,hm',hl⟩:=I.loc
  obtain⟨u,r,look⟩:=hl _ x v h1' hσ hvis
  refine⟨u,r,.inr ⟨?_,?_⟩⟩
  ·rw[kindB]
   have hfr:scope.names.lookup x=some .free:=S.names _ hm
   rw[hfr]
   simp only[Option.map_some]
   split
   ·exact .inl rfl
   ·exact .inr rfl
  ·rcases look with⟨z,_⟩ | ⟨_,c,hc,hcell⟩
   ·rcases hkind with q |q
    ·rw[q] at z;cases z
    ·rw[q] at z;cases z
   ·refine⟨c,?_,?_⟩
    ·have:=lO (cells:=X.env.cells) (cs:=[]) (.inl hm)
     rw[hc] at this
     exact this
    ·obtain⟨o,ho,hd⟩:=hcell
     exact⟨o,hk _ _ ho,hd⟩
 ·obtain⟨v,o,ho,hd⟩:=I.cell x c (clE h).2
  exact⟨v,o,hk _ _ ho,hd⟩
 ·have hp':p∈X.pn ++ pins:=by
   rcases Lk.mp hp with z |z
   ·exact z
   ·cases z
  obtain⟨e,n,ne,nf,d⟩:=I.pin p hp'
  refine⟨hk _ _ e,n,neN _ _ e,λz=>?_,d⟩
  rcases KG.mp (I.stkSub _ z) with q |q
  ·exact ne q
  ·exact nf q
 ·show (qH own ixs σ).length=NB.length
  unfold qH
  rw[S.len];simp
end
abbrev xh (ifs:List Expr)(env:Env):Sem Bool:=forIn ifs true λc r=>if r=true then do let ok <-isTrue c env (eval c env);pure (ForInStep.yield ok) else pure (ForInStep.yield r)
theorem yS {prog:Program}{w:World}{A:Around}{R:Result->Shared->Prop}{s:Shared}{elt target iter:Expr}{ifs:List Expr}{scope:Scope}{pos:Pos}{it acc:Value}{env:Env}(I:Nat->Shared->Prop)
  (turn:∀n s,I n s->wpAny (model prog w) A (pyNext it) (λr s1=>match r with
   |none=>R (.ok .next) s1
   |some v=>wpAny (model prog w) A (letOwnedTupleGo target it v) (λ_ s1'=>wpAny (model prog w) A (assign target env v) (λ_ s2=>
     wpAny (model prog w) A (xh ifs env) (λok s3=>
      if ok=true then wpAny (model prog w) A (eval elt env) (λx s4=>wpAny (model prog w) A (call (.builtin "list.append") [acc,x]) (λ_ s5=>∃m,m < n/\I m s5) (λ_ _=>False) s4) (λ_ _=>False) s3
      else ∃m,m < n/\I m s3) (λ_ _=>False) s2) (λ_ _=>False) s1') (λ_ _=>False) s1) (λ_ _=>False) s)
  (n:Nat) (h:I n s):codeAny (model prog w) A (.compLoop (.ListComp elt [⟨target,iter,ifs,0⟩] scope pos) 0 it acc env) R s:=by
 refine codeAny_loop rfl I (λn s hI=>?_) n h
 (show wpAny _ A ((compTurn (.ListComp elt [⟨target,iter,ifs,0⟩] scope pos) 0 it acc env).onRaise (λx=>do (noteFrame x env);theTreesLotGoes x)) _ _ s)
 refine wpAny_noted ?_
 rw[compTurn_list]
 refine KA (wpAny_standAt (KA (L3 (turn n s hI) (λr s1 h1=>?_) λ_ _ z=>z.elim)))
 cases r with
 |none=>exact K3 h1
 |some v=>
  refine KA (L3 h1 (λ_ s1' h1'=>?_) λ_ _ z=>z.elim)
  refine KA (L3 h1' (λ_ s2 h2=>KA (L3 h2 (λok s3 h3=>?_) λ_ _ z=>z.elim)) λ_ _ z=>z.elim)
  cases ok with
  |false=>exact K3 ⟨rfl,h3⟩
  |true=>exact KA (KA (L3 h3 (λx s4 h4=>KA (L3 h4 (λ_ s5 h5=>K3 (K3 ⟨rfl,h5⟩)) λ_ _ z=>z.elim)) λ_ _ z=>z.elim))
def zE (X:Cx)(ifs:List Expr)(t:TT):Prop:=
 ∀(pins:List (Addr×Obj)) (s:Shared) (σ:St) (H:Hp) (Q:Bool->Hp->Prop),Inv X pins σ H s->t σ H Q->wpAny (model X.prog X.w) X.A (xh ifs X.env) (TP X pins σ Q) X.xe s
def EF:TT:=λ_ H Q=>Q true H
def qi {X:Cx}:zE X [] EF:=λpins s σ H Q I h=>K3 ⟨H,I,h⟩
def wu {X:Cx}{c:Expr}{t:TT}(h:PT X c t):zE X [c] t:=λpins s σ H Q I q=>wpAny_tests_one (h pins s σ H Q I q)
def uN (own:Nat)(ixs:List Nat)(wi:TI)(g:TG)(tt:TT)(te:TE)(σ:St)(H:Hp)(Q:VK):Prop:=wi σ H λJ H1=>∀D,H1 D=none->∃W:Nat->Nat->St->Hp->Prop,(∃m,W 0 m (qH own ixs σ) (upd H1 D (.lst [])))/\∀i m σ' H',W i m σ' H'->
 (J.stop i H'/\(∃acc,H' D=some (.lst acc))/\Q (.ref D) H')\/
 (J.go i H'/\∃N:St->Hp->Prop,(∀σ2 H2,N σ2 H2->∃m',m' < m/\W (i + 1) m' σ2 H2)/\∀x H2,J.yld i H' x H2->g x σ' H2 λσ3 H3=>tt σ3 H3 λb H4=>
  if b=true then te σ3 H4 λv H5=>∃acc,H5 D=some (.lst acc)/\acc.length < sizeLine/\N σ3 (upd H5 D (.lst (acc ++ [v]))) else N σ3 H4)
section
variable {X:Cx}{NB:List Str}{own:Nat}{ixs:List Nat}{scope:Scope}{elt tg iter:Expr}{ifs:List Expr}{pos:Pos}{wi:TI}{g:TG}{tt:TT}{te:TE}
def qd (hc:X.calm=true)(S:cF X NB own ixs scope)
  (hg:∀C ex s3 H3 pn,PG (hX X NB scope C ex s3 H3 pn) tg g) (ht:∀C ex s3 H3 pn,zE (hX X NB scope C ex s3 H3 pn) ifs tt) (he:∀C ex s3 H3 pn,PE (hX X NB scope C ex s3 H3 pn) elt te)
  {pins:List (Addr×Obj)} {σ:St} {H1:Hp} {s2:Shared} {it:Addr} {fp:List Addr} {tn:Nat->Heap->Prop} {J:It} {Q:VK} (I2:Inv X pins σ H1 s2) (T:Turn X.prog X.w X.K tg J fp it tn) (st2:tn 0 s2.heap) (f2:∀b∈fp,kN X pins H1 b)
  (hQ:∀D,H1 D=none->∃W:Nat->Nat->St->Hp->Prop,(∃m,W 0 m (qH own ixs σ) (upd H1 D (.lst [])))/\∀i m σ' H',W i m σ' H'->
   (J.stop i H'/\(∃acc,H' D=some (.lst acc))/\Q (.ref D) H')\/
   (J.go i H'/\∃N:St->Hp->Prop,(∀σ2 H2,N σ2 H2->∃m',m' < m/\W (i + 1) m' σ2 H2)/\∀x H2,J.yld i H' x H2->g x σ' H2 λσ3 H3=>tt σ3 H3 λb H4=>
    if b=true then te σ3 H4 λv H5=>∃acc,H5 D=some (.lst acc)/\acc.length < sizeLine/\N σ3 (upd H5 D (.lst (acc ++ [v]))) else N σ3 H4))
  {E:Value->Shared->Prop} {RR:Value->Addr->Result->Shared->Prop}
  (fin:∀D C H' s' m,Inv X pins σ H' s'->Q (.ref D) H'->s'.heap.Ns C m->H' C=none->C≠X.env.locals->(∀x c,X.env.cells.lookup x=some c->c≠C)->X.s₀.heap.objs.size<=C->(∀p∈X.pn ++ pins,p.1≠C)->RR (.ref D) C (.ok .next) s') :
  wpAny (model X.prog X.w) X.A (newList []) (λacc s3=>wpAny (model X.prog X.w) X.A (newFunctionEnv scope X.env.globals (l6 X.env.cells scope.names []) [] X.env.qual none .none (some X.env)) (λcenv s4=>
   codeAny (model X.prog X.w) X.A (.compStart (.ListComp elt [⟨tg,iter,ifs,0⟩] scope pos) 0 (.ref it) acc {cenv with scope:=relabel scope X.env}) (RR acc cenv.locals) s4) E s3) E s2:=by
 refine wpAny_newList ?_ (LC _)
 have hD:H1 s2.heap.objs.size=none:=I2.hok.fresh (KI _)
 obtain⟨W,⟨m0,w0⟩,turn⟩:=hQ s2.heap.objs.size hD
 generalize hs3:({s2 with heap:=s2.heap.push (seqObj "list" ([]:List Value).toArray 0)}:Shared)=s3
 have I3:Inv X pins σ (upd H1 s2.heap.objs.size (.lst [])) s3:=by
  rw[<-hs3]
  exact I2.lnew (ys:=[]) (its:=[]) (t':=s2.toks) .nil (LC _)
 have k3:∀b o,s2.heap.get? b=some o->s3.heap.get? b=some o:=λb o e=>by rw[<-hs3];exact KC _ e
 have sz3:s3.heap.objs.size=s2.heap.objs.size + 1:=by rw[<-hs3];exact Mr ..
 have ob2:∀b∈fp,∃o,s2.heap.get? b=some o:=λb hb=>let ⟨o,e,_⟩:=T.obj 0 _ st2 b hb;⟨o,e⟩
 have neD:∀b∈fp,b≠s2.heap.objs.size:=λb hb=>let ⟨o,e⟩:=ob2 b hb;Lf (KJ e)
 have f3:∀b∈fp,kN X pins (upd H1 s2.heap.objs.size (.lst [])) b:=λb hb=>by
  obtain⟨a1,a2⟩:=f2 b hb
  exact⟨by rw[ao (neD b hb)];exact a1,a2⟩
 have st3:tn 0 s3.heap:=T.keep _ _ _ st2 λb _ o e=>k3 b o e
 refine wpAny_newFunctionEnv S.nocell (λy hy=>by simp at hy) (λh4 hn4 sb4=>?_) S.kind
 have k4:∀b o,s3.heap.get? b=some o->h4.get? b=some o:=λb o e=>sb4.extBut b o (Lf (KJ e)) (KC _ e)
 have I4:Inv (hX X NB scope s3.heap.objs.size fp s3 (upd H1 s2.heap.objs.size (.lst [])) (X.pn ++ pins)) [] (qH own ixs σ) (upd H1 s2.heap.objs.size (.lst [])) {s3 with heap:=h4,toks:=s3.toks + ([]:List (Str×Value)).length}:=
  yj S I3 f3 (λb hb=>let ⟨o,e⟩:=ob2 b hb;⟨o,k3 _ _ e⟩) (by simpa using hn4) k4
 have st4:tn 0 h4:=T.keep _ _ _ st3 λb _ o e=>k4 b o e
 generalize hB:hX X NB scope s3.heap.objs.size fp s3 (upd H1 s2.heap.objs.size (.lst [])) (X.pn ++ pins)=B at I4
 have hgB:PG B tg g:=by rw[<-hB];exact hg _ _ _ _ _
 have htB:zE B ifs tt:=by rw[<-hB];exact ht _ _ _ _ _
 have heB:PE B elt te:=by rw[<-hB];exact he _ _ _ _ _
 have eP:B.prog=X.prog:=by rw[<-hB];rfl
 have eW:B.w=X.w:=by rw[<-hB];rfl
 have eK:B.K=X.K:=by rw[<-hB];rfl
 have eA:B.A=X.A:=by rw[<-hB];rfl
 have eC:B.calm=true:=by rw[<-hB];exact hc
 have eX:B.xe=λ_ _=>False:=by rw[<-hB];rfl
 have eE:B.env=compEnvC scope (l6 X.env.cells scope.names []) s3.heap.objs.size X.env:=by rw[<-hB];rfl
 have ex:B.ex=fp:=by rw[<-hB];rfl
 have eL:B.env.locals=s3.heap.objs.size:=by rw[eE];rfl
 have stat:∀{H':Hp},(∀b∈fp,H' b=none)->∀b∈fp,kN B [] H' b:=λ{H'} hn b hb=>by
  obtain⟨a1,a2,a3,a4,a5,a6⟩:=f3 b hb
  obtain⟨o,eo⟩:=ob2 b hb
  refine⟨hn b hb,?_,λz=>?_,.inl (by rw[ex];exact hb),λx c e z=>?_,λp hp z=>?_⟩
  ·rw[eL];exact Lf (KJ (k3 _ _ eo))
  ·have hz:b∈dz X.stack:=by rw[<-hB] at z;exact z
   rcases KG.mp (I3.stkSub b hz) with q |q
   ·exact a2 q
   ·exact a3 q
  ·rw[eE] at e
   rcases mi e with⟨m1,m2⟩ |m1
   ·obtain⟨c',e'⟩:=I3.ok.has x (S.frees _ m1 rfl)
    rw[e'] at m2
    exact a5 x c' e' (by rw[<-z,m2];rfl)
   ·simp at m1
  ·have hp':p∈X.pn ++ pins:=by
    rw[<-hB] at hp
    rcases Lk.mp hp with q |q
    ·exact q
    ·cases q
   exact a6 p hp' z
 have back:∀{σ':St} {H':Hp} {s':Shared},Inv B [] σ' H' s'->Inv X pins σ H' s':=λ{σ' H' s'} J'=>by
  have u:=J'.base
  have os:=J'.os
  have bare:=J'.bare
  have hok:=J'.hok
  subst hB
  exact I3.call' (ch:=fp) os u hok bare λb hb=>by
   obtain⟨a1,a2,a3,a4,a5,a6⟩:=f3 b hb
   exact⟨a4,a2,a5,a6⟩
 have loop:∀s5:Shared,s5={s3 with heap:=h4,toks:=s3.toks + ([]:List (Str×Value)).length}->
   codeAny (model X.prog X.w) X.A (.compLoop (.ListComp elt [⟨tg,iter,ifs,0⟩] scope pos) 0 (.ref it) (.ref s2.heap.objs.size) (compEnvC scope (l6 X.env.cells scope.names []) s3.heap.objs.size X.env)) (RR (.ref s2.heap.objs.size) s3.heap.objs.size) s5:=by
  rintro s5 rfl
  refine yS (λn s'=>∃i σ' H',Inv B [] σ' H' s'/\tn i s'.heap/\(∀b∈fp,H' b=none)/\W i n σ' H') ?_ m0 ⟨0,_,_,I4,st4,λb hb=>(f3 b hb).1,w0⟩
  rintro n s6 ⟨i,σ6,H6,I6,st6,fr6,w6⟩
  rcases turn i n σ6 H6 w6 with⟨stop,⟨acc,hacc⟩,qn⟩ | ⟨go,N,hN,step⟩
  ·have:=T.done B eP eW eK eC i [] s6 σ6 H6 (λ_ _=>False) I6 (stat fr6) st6 stop
   rw[eA] at this
   refine b7 this λr s7 ⟨hr,I7⟩=>?_
   subst hr
   obtain⟨m7,hn7,_⟩:=I7.loc
   rw[eL] at hn7
   have J7:=back I7
   refine fin _ _ H6 s7 m7 J7 qn hn7 (by rw[<-eL];exact I7.free) (λz=>?_) (λx c e z=>?_) ?_ λp hp z=>?_
   ·have:=I3.lt
    rw[<-z] at this
    exact LL _ this
   ·obtain⟨v,o,ho,_⟩:=I3.cell x c e
    exact absurd (KJ ho) (by rw[z];exact LL _)
   ·exact I3.sz
   ·have:=KJ (I3.pin p hp).1
    rw[z] at this
    exact LL _ this
  ·have hitem:=T.item B eP eW eK eC i [] s6 σ6 H6 (λ_ _=>False) I6 (stat fr6) st6 go
   rw[eA] at hitem
   refine b7 hitem λr s7 ⟨u,hr,h7⟩=>?_
   subst hr
   refine b7 h7 λ_ s8 ⟨x,H8,I8,r8,y8,st8,fr8⟩=>?_
   have I8':=I8.pinned (stat fr8) (T.obj _ _ st8)
   have ha:=hgB _ s8 σ6 H8 x u _ I8' r8 (step x H8 y8)
   rw[eP,eW,eA,eE,eX] at ha
   refine b7 ha λ_ s9 ⟨σ9,H9,I9,q9⟩=>?_
   have hb:=htB _ s9 σ9 H9 _ I9 q9
   rw[eP,eW,eA,eE,eX] at hb
   refine b7 hb λok s10 ⟨H10,I10,q10⟩=>?_
   have again:∀{σ7:St} {H7:Hp} {s7:Shared},Inv B ([] ++ nz fp s8.heap) σ7 H7 s7->N σ7 H7->∃m,m < n/\∃i σ' H',Inv B [] σ' H' s7/\tn i s7.heap/\(∀b∈fp,H' b=none)/\W i m σ' H':=λ{σ7 H7 s7} I7 n7=>by
    obtain⟨m',hm,w7⟩:=hN σ7 H7 n7
    refine⟨m',hm,i + 1,σ7,H7,I7.unpinned,T.keep _ _ _ st8 λb hb o e=>(I7.pin (b,o) (Lw _ (Lw _ (iL hb e)))).1,λb hb=>?_,w7⟩
    obtain⟨o,e,d⟩:=T.obj _ _ st8 b hb
    exact (I7.pin (b,o) (Lw _ (Lw _ (iL hb e)))).2.1
   cases ok with
   |false=>
    simp only[LP,Mu] at q10 ⊢
    exact again I10 q10
   |true=>
    simp only[Mi] at q10 ⊢
    have hv:=heB _ s10 σ9 H10 _ I10 q10
    rw[eP,eW,eA,eE,eX] at hv
    refine b7 hv λy s11 ⟨v,H11,I11,r11,acc,hacc,hz,q11⟩=>?_
    have hap:=lR (X:=B) _ s11 σ9 H11 (.ref s2.heap.objs.size) [v] (.ref s2.heap.objs.size) [y] (λz H'=>z=.non/\N σ9 H') I11 rfl (.cons r11 .nil) ⟨_,acc,v,rfl,rfl,hacc,hz,rfl,q11⟩
    rw[eP,eW,eA,eX] at hap
    exact b7 hap λ_ s12 ⟨_,H12,I12,_,_,q12⟩=>again I12 q12
 exact codeAny_compStart_list (loop _ rfl) (T.self X.A 0 _ _ _ st4 (loop _ rfl))
def uf (hc:X.calm=true)(S:cF X NB own ixs scope)(hi:PI X tg iter wi)
  (hg:∀C ex s3 H3 pn,PG (hX X NB scope C ex s3 H3 pn) tg g) (ht:∀C ex s3 H3 pn,zE (hX X NB scope C ex s3 H3 pn) ifs tt) (he:∀C ex s3 H3 pn,PE (hX X NB scope C ex s3 H3 pn) elt te)
  (hs:∀x,foldedSetIterable iter X.env x=pure x:=by intro _;rfl) :
  PE X (.ListComp elt [⟨tg,iter,ifs,0⟩] scope pos) (uN own ixs wi g tt te):=by
 intro pins s σ H Q I h
 rw[eval_ListComp]
 refine wpAny_comprehension_free (use:=none) rfl hs (nu λy hy e=>I.ok.has _ (S.frees y hy e)) S.kind (λy hy e=>by rw[S.names y hy,e]) ?_
 refine b7 (hi pins s σ H _ I h) λv s1 h1=>b7 h1 λitv s2 h2=>?_
 obtain⟨it,fp,tn,J,H2,e,I2,T,st2,f2,q2⟩:=h2
 subst e
 refine qd hc S hg ht he I2 T st2 f2 q2 (RR:=λacc C=>compPost (model X.prog X.w) X.A X.xe none (EP X pins σ Q) acc C) λD C H' s' m J' q hn hC n1 n2 n3 n4=>?_
 refine⟨m,hn,λh'' sb=>⟨.ref D,H',?_,rfl,q⟩⟩
 exact J'.turned (t':=s'.toks) (it:=C) (λb o hb e=>sb.extBut b o hb e) hC n1 (.inr n3) n2 n4
def AX {i:Nat}{y:Str}{py spos:Pos}(hc:X.calm=true)(S:cF X NB own ixs scope)(hi:PI X tg iter wi)
  (hg:∀C ex s3 H3 pn,PG (hX X NB scope C ex s3 H3 pn) tg g) (ht:∀C ex s3 H3 pn,zE (hX X NB scope C ex s3 H3 pn) ifs tt) (he:∀C ex s3 H3 pn,PE (hX X NB scope C ex s3 H3 pn) elt te)
  (hN:X.N.Nodup) (hy:X.N[i]? =some y) (hl:X.env.scope.names.lookup y=some .local)
  (hsw:swapsWith (.ListComp elt [⟨tg,iter,ifs,0⟩] scope pos) (some (.Name y py)) spos.line X.env=pure true)
  (hs:∀x,foldedSetIterable iter X.env x=pure x:=by intro _;rfl) :
  PS X (.Assign [.Name y py] (.ListComp elt [⟨tg,iter,ifs,0⟩] scope pos) spos) (λD σ H=>uN own ixs wi g tt te σ H λv H'=>D.nx (σ.set i (some v)) H'):=by
 intro pins s σ H D I h
 rw[exec_Assign_Name_used _ _ _ _ hsw]
 refine KA (wpAny_standAt (KA ?_))
 show wpAny _ X.A (comprehension (.ListComp elt [⟨tg,iter,ifs,0⟩] scope pos) scope X.env _ (newList []) false (eval iter X.env) (some (assign (.Name y py) X.env)) >>= λ_=>pure ()) _ _ s
 refine KA (L3 (wpAny_comprehension_free (use:=some (assign (.Name y py) X.env)) (Q:=λ_ s'=>SP X pins D .next s') rfl hs (nu λy hy e=>I.ok.has _ (S.frees y hy e)) S.kind (λy hy e=>by rw[S.names y hy,e]) ?_)
  (λ_ s' hq=>K3 (K3 hq)) λ_ _ e=>e)
 refine b7 (hi pins s σ H _ I h) λv s1 h1=>b7 h1 λitv s2 h2=>?_
 obtain⟨it,fp,tn,J,H2,e,I2,T,st2,f2,q2⟩:=h2
 subst e
 refine qd hc S hg ht he I2 T st2 f2 q2 (Q:=λv H'=>D.nx (σ.set i (some v)) H') (RR:=λacc C=>compPost (model X.prog X.w) X.A X.xe (some (assign (.Name y py) X.env)) (λ_ s'=>SP X pins D .next s') acc C) λD' C H' s' m J' q hn hC n1 n2 n3 n4=>?_
 show wpAny _ X.A (assign (.Name y py) X.env (.ref D')) _ _ s'
 refine wpAny_assign_Name (pC J' hN hy (.inl hl) (v:=.ref D') rfl (λs'' I'' ⟨a,sb,ha⟩=>?_) (.inr hl))
 have hCa:C≠a:=by
  rcases ha with z |z
  ·rw[z];exact n1
  ·exact (n2 _ _ z).symm
 refine⟨m,hn.sameBut sb hCa,λh3 sb3=>⟨_,H',?_,q⟩⟩
 exact I''.turned (t':=s''.toks) (it:=C) (λb o hb e=>sb3.extBut b o hb e) hC n1 (.inr n3) n2 n4
end
section
variable {own:Nat}{ixs:List Nat}{g:TG}{tt:TT}{te:TE}{σ:St}{H:Hp}{Q:VK}{K:Frag}{D a:Addr}{xs:List V}
abbrev dE (g:TG)(tt:TT)(te:TE)(D:Addr)(x:V)(σ:St)(H:Hp)(N:St->Hp->Prop):Prop:=g x σ H λσ3 H3=>tt σ3 H3 λb H4=>
  if b=true then te σ3 H4 λv H5=>∃acc,H5 D=some (.lst acc)/\acc.length < sizeLine/\N σ3 (upd H5 D (.lst (acc ++ [v]))) else N σ3 H4
def yY (Pv:Nat->St->Hp->Prop)(h0:Pv 0 (qH own ixs σ) (upd H D (.lst [])))(hl:∀i σ H,i<=xs.length->Pv i σ H->fx K H a xs)
  (hs:∀i x σ H,xs[i]? =some x->Pv i σ H->dE g tt te D x σ H (Pv (i + 1))) (hd:∀σ H,Pv xs.length σ H->(∃acc,H D=some (.lst acc))/\Q (.ref D) H) :
  ∃W:Nat->Nat->St->Hp->Prop,(∃m,W 0 m (qH own ixs σ) (upd H D (.lst [])))/\∀i m σ' H',W i m σ' H'->
   ((yM K a).stop i H'/\(∃acc,H' D=some (.lst acc))/\Q (.ref D) H')\/
   ((yM K a).go i H'/\∃N:St->Hp->Prop,(∀σ2 H2,N σ2 H2->∃m',m' < m/\W (i + 1) m' σ2 H2)/\∀x H2,(yM K a).yld i H' x H2->dE g tt te D x σ' H2 N):=by
 refine⟨λi m σ H=>m=xs.length - i/\i<=xs.length/\Pv i σ H,⟨xs.length,by simp,LC _,h0⟩,?_⟩
 rintro i m σ H ⟨rfl,hi,p⟩
 have q:=hl i σ H hi p
 by_cases hlt:i < xs.length
 ·refine .inr ⟨⟨xs,xs[i],q,by simp[hlt]⟩,Pv (i + 1),λσ' H' p'=>⟨xs.length - (i + 1),by omega,rfl,hlt,p'⟩,λx H' y=>?_⟩
  obtain⟨e,y⟩:=y
  subst e
  exact hs i x σ _ (y xs q) p
 ·have e:i=xs.length:=by omega
  subst e
  exact .inl ⟨⟨xs,q,KI _⟩,hd σ H p⟩
def uS {lo:Int}{n:Nat}(Pv:Nat->St->Hp->Prop)(h0:Pv 0 (qH own ixs σ) (upd H D (.lst [])))
  (hs:∀i σ H,i < n->Pv i σ H->dE g tt te D (.int (lo + i)) σ H (Pv (i + 1))) (hd:∀σ H,Pv n σ H->(∃acc,H D=some (.lst acc))/\Q (.ref D) H) :
  ∃W:Nat->Nat->St->Hp->Prop,(∃m,W 0 m (qH own ixs σ) (upd H D (.lst [])))/\∀i m σ' H',W i m σ' H'->
   ((Bh lo n).stop i H'/\(∃acc,H' D=some (.lst acc))/\Q (.ref D) H')\/
   ((Bh lo n).go i H'/\∃N:St->Hp->Prop,(∀σ2 H2,N σ2 H2->∃m',m' < m/\W (i + 1) m' σ2 H2)/\∀x H2,(Bh lo n).yld i H' x H2->dE g tt te D x σ' H2 N):=by
 refine⟨λi m σ H=>m=n - i/\i<=n/\Pv i σ H,⟨n,by simp,LC _,h0⟩,?_⟩
 rintro i m σ H ⟨rfl,hi,p⟩
 by_cases hlt:i < n
 ·refine .inr ⟨hlt,Pv (i + 1),λσ' H' p'=>⟨n - (i + 1),by omega,rfl,hlt,p'⟩,λx H' y=>?_⟩
  obtain⟨e,y⟩:=y
  subst e y
  exact hs i σ _ hlt p
 ·have e:i=n:=by omega
  subst e
  exact .inl ⟨KI _,hd σ H p⟩
end
mutual
inductive Rep (K:Frag)(H:Hp):V->PyData->Prop
 |non:Rep K H .non .none
 |bl (b:Bool):Rep K H (.bl b) (.bool b)
 |int (i:Int):Rep K H (.int i) (.int i)
 |str (x:Str):Rep K H (.str x) (.str x)
 |tup {a:Addr} {xs:List V} {ds:List PyData}:fw K H a xs->jB K H xs ds->Rep K H (.ref a) (.tuple ds)
 |lst {a:Addr} {xs:List V} {ds:List PyData}:fx K H a xs->jB K H xs ds->Rep K H (.ref a) (.list ds)
inductive jB (K:Frag)(H:Hp):List V->List PyData->Prop
 |nil:jB K H [] []
 |cons {x:V} {xs:List V} {d:PyData} {ds:List PyData}:Rep K H x d->jB K H xs ds->jB K H (x :: xs) (d :: ds)
end
section
variable {X:Cx}{pins:List (Addr×Obj)}{σ:St}{H H':Hp}{s:Shared}
mutual
theorem Rep.reads (I:Inv X pins σ H s):∀{x:V} {d:PyData} {u:Value},Rep X.K H x d->RelV x u->∃as,Reads s.heap u d as
 |_,_,_,.non,r=>by cases r;exact⟨_,.none⟩
 |_,_,_,.bl b,r=>by cases r;exact⟨_,.bool b⟩
 |_,_,_,.int i,r=>by obtain⟨t,rfl⟩:=r;exact⟨_,.int i t⟩
 |_,_,_,.str x,r=>by obtain⟨t,rfl⟩:=r;exact⟨_,.str x t⟩
 |_,_,_,.tup h hs,r=>by
  cases r
  obtain⟨its,rv,⟨o,ho,hc,n,hd⟩,_⟩:=I.tuple h
  obtain⟨as,q⟩:=jB.reads I hs rv
  exact⟨_,.tuple ho hc hd (by simpa using q)⟩
 |_,_,_,.lst h hs,r=>by
  cases r
  obtain⟨its,rv,pl,_⟩:=I.list h
  obtain⟨o,ho,hc,n,hd⟩:=pl.isList
  obtain⟨as,q⟩:=jB.reads I hs rv
  exact⟨_,.list ho hc hd (by simpa using q)⟩
theorem jB.reads (I:Inv X pins σ H s):∀{xs:List V} {ds:List PyData} {us:List Value},jB X.K H xs ds->Vals xs us->∃as,ReadsAll s.heap us ds as
 |_,_,_,.nil,r=>by cases r;exact⟨_,.nil⟩
 |_,_,_,.cons h hs,r=>by
  cases r with
  |cons r1 r2=>
   obtain⟨as,q⟩:=Rep.reads I h r1
   obtain⟨bs,q'⟩:=jB.reads I hs r2
   exact⟨_,.cons q q'⟩
end
def EJ (K:Frag)(neg:Bool):R2:=λx y H Q=>∃d e,Rep K H x d/\Rep K H y e/\SeqAt.shaped d=true/\SeqAt.shaped e=true/\Q (.bl (if neg then !PyData.eqv d e else PyData.eqv d e)) H
def iM (hu:X.A.units + 64 < cLine):lK X (compareOp .Eq) (EJ X.K false):=by
 intro pins s σ H x y v u Q I rx ry h
 obtain⟨d,e,h1,h2,s1,s2,q⟩:=h
 obtain⟨as,r1⟩:=h1.reads I rx
 obtain⟨bs,r2⟩:=h2.reads I ry
 exact SeqAt.compareEq_shaped r1 r2 s1 s2 hu ⟨.bl _,H,I,rfl,q⟩
def dX (hu:X.A.units + 64 < cLine):lK X (compareOp .NotEq) (EJ X.K true):=by
 intro pins s σ H x y v u Q I rx ry h
 obtain⟨d,e,h1,h2,s1,s2,q⟩:=h
 obtain⟨as,r1⟩:=h1.reads I rx
 obtain⟨bs,r2⟩:=h2.reads I ry
 exact SeqAt.compareNe_shaped r1 r2 s1 s2 hu ⟨.bl _,H,I,rfl,q⟩
def Hw (K:Frag)(neg:Bool):R2:=λx y H Q=>∃p xs d ds,y=.ref p/\(fx K H p xs\/fw K H p xs)/\jB K H xs ds/\Rep K H x d/\SeqAt.shaped d=true/\(∀e,e∈ds->SeqAt.shaped e=true)/\
 Q (.bl (if neg then !(ds.any λe=>PyData.eqv e d) else ds.any λe=>PyData.eqv e d)) H
theorem jB.at' {K:Frag}:∀{xs:List V} {ds:List PyData} {i:Nat} {x:V},jB K H xs ds->xs[i]? =some x->∃d,ds[i]? =some d/\Rep K H x d
 |_,_,_,_,.nil,e=>by simp at e
 |_,_,0,_,.cons r _,e=>by simp at e;subst e;exact⟨_,rfl,r⟩
 |_,_,i + 1,x,.cons _ t,e=>by
  obtain⟨u,h1,h2⟩:=jB.at' (i:=i) (x:=x) t (by simpa using e)
  exact⟨u,by simpa using h1,h2⟩
open Classical in
theorem uo (I:Inv X pins σ H s)(d:PyData):∀{xs:List V} {us:List Value} {ds:List PyData},Vals xs us->jB X.K H xs ds->(∀e,e∈ds->SeqAt.shaped e=true)->∃f:Value->Bool,us.any f=(ds.any λe=>PyData.eqv e d)/\∀u,u∈us->∃e as,e∈ds/\Reads s.heap u e as/\f u=PyData.eqv e d:=by
 intro xs us ds hv hr hs
 let f:Value->Bool:=λu=>if h:∃e as,SeqAt.shaped e=true/\Reads s.heap u e as then PyData.eqv (Classical.choose h) d else false
 have hf:∀{u:Value} {e:PyData} {as:List Addr},SeqAt.shaped e=true->Reads s.heap u e as->f u=PyData.eqv e d:=λ{u e as} h1 h2=>by
  have hx:∃e as,SeqAt.shaped e=true/\Reads s.heap u e as:=⟨e,as,h1,h2⟩
  show (if h:∃e as,SeqAt.shaped e=true/\Reads s.heap u e as then PyData.eqv (Classical.choose h) d else false)=_
  rw[dif_pos hx]
  obtain⟨bs,q1,q2⟩:=Classical.choose_spec hx
  rw[SeqAt.Reads.unique _ _ _ _ _ (MD q1) q2 h2]
 refine⟨f,?_,?_⟩
 ·induction hv generalizing ds with
  |nil=>cases hr;rfl
  | @cons x u xs us r1 r2 ih=>
   cases hr with
   | @cons _ _ e es h1 h2=>
    obtain⟨as,q⟩:=h1.reads I r1
    rw[Mz,Mz,hf (hs e (KO ..)) q,ih h2 λz hz=>hs z (KL _ hz)]
 ·intro u hu
  obtain⟨i,hi,e0⟩:=List.mem_iff_getElem.mp hu
  have hi':i < xs.length:=by rw[hv.length];exact hi
  obtain⟨u',eu,ru⟩:=hv.get (KR hi')
  rw[KR hi,e0] at eu
  cases eu
  obtain⟨e,ee,re⟩:=jB.at' hr (KR hi')
  obtain⟨as,q⟩:=re.reads I ru
  have hm:=K9 ee
  exact⟨e,as,hm,q,hf (hs e hm) q⟩
inductive C9 (K:Frag)(H:Hp):V->String->Prop
 |non:C9 K H .non "NoneType"
 |bl (b:Bool):C9 K H (.bl b) "bool"
 |int (i:Int):C9 K H (.int i) "int"
 |str (x:Str):C9 K H (.str x) "str"
 |tup {a:Addr} {xs:List V}:fw K H a xs->C9 K H (.ref a) "tuple"
 |lst {a:Addr} {xs:List V}:fx K H a xs->C9 K H (.ref a) "list"
 |dic {a:Addr} {kvs:List (Key×V)}:H a=some (.dK kvs)->C9 K H (.ref a) "dict"
def JH (K:Frag):List V->Hp->VK->Prop:=λxs H Q=>∃x T t b,xs= [x,.ty T]/\C9 K H x t/\PySem.W.kitOne K (.type t) (.type T)=some b/\Q (.bl b) H
theorem BG:cM X (.builtin "isinstance") (JH X.K):=by
 intro pins s σ H xs us Q I r h
 obtain⟨x,T,t,b,rfl,ty,e,q⟩:=h
 obtain⟨u,c,rfl,rx,rc⟩:=vals2 r
 cases rc
 have fin:∀tk,EP X pins σ Q (.bool b) {s with toks:=tk}:=λtk=>⟨.bl b,H,I.tok tk,rfl,q⟩
 cases ty with
 |non=>exact iB I rx .non e fin
 |bl b=>exact iB I rx (.bl b) e fin
 |int i=>exact iB I rx (.int i) e fin
 |str z=>exact iB I rx (.str z) e fin
 |dic hk=>exact iB I rx (.dK hk) e fin
 |tup hq=>
  cases rx
  obtain⟨its,rv,⟨o,h1,h2,_⟩,_⟩:=I.tuple hq
  exact Lr PySem.W.kitx_tuple I.kIn ⟨o,h1,h2⟩ e (λz=>nomatch z) fin
 |lst hq=>
  cases rx
  obtain⟨its,rv,pl,_⟩:=I.list hq
  obtain⟨o,h1,h2,_⟩:=pl.isList
  exact Lr PySem.W.kitx_list I.kIn ⟨o,h1,h2⟩ e (λz=>nomatch z) fin
def sf {A:Around}{its:List Value}{bs:List Bool}(hv:Vals (bs.map V.bl) its):TruthOf X.prog X.w A (λi v=>its[i]? =some v) (λi=>bs.getD i false):=λi v s Q E hi hq=>by
 have hl:=hv.length
 have hi2:i < bs.length:=by
  have:=(KN.mp hi).1
  rw[<-hl] at this;simpa using this
 obtain⟨u,eu,ru⟩:=hv.get (i:=i) (x:=.bl bs[i]) (by simp[hi2])
 rw[hi] at eu;cases eu
 cases ru
 refine LV ?_
 have:bs.getD i false=bs[i]:=by simp[hi2]
 rw[<-this];exact hq
theorem range_all (bs:List Bool):(List.range bs.length).all (λi=>bs.getD i false)=bs.all id:=by
 induction bs with
 |nil=>rfl
 |cons b bs ih=>
  rw[K4,List.range_succ_eq_map,Mk,MG,Mk,<-ih]
  rfl
theorem range_any (bs:List Bool):(List.range bs.length).any (λi=>bs.getD i false)=bs.any id:=by
 induction bs with
 |nil=>rfl
 |cons b bs ih=>
  rw[K4,List.range_succ_eq_map,Mz,List.any_map,Mz,<-ih]
  rfl
def vj (K:Frag)(f:List Bool->Bool):List V->Hp->VK->Prop:=λxs H Q=>∃a bs,xs= [.ref a]/\fx K H a (bs.map V.bl)/\Q (.bl (f bs)) H
def nA (hc:X.calm=true){a:Addr}{bs:List Bool}{Q:VK}(I:Inv X pins σ H s)(hq:fx X.K H a (bs.map V.bl)){f:List Bool->Bool}{g:(Nat->Bool)->Nat->Bool}(hfg:g (λi=>bs.getD i false) bs.length=f bs)(q:Q (.bl (f bs)) H) :
  wpAny (model X.prog X.w) X.A.in1 (pyIter (.ref a)) (λit s2=>∃Ii fp wr n P St tr,it=.ref Ii/\Walks X.prog X.w X.A.in1 Ii fp wr n P St/\St 0 s2.heap/\TruthOf X.prog X.w X.A.in1 P tr/\
   ∀h' tk,(∀b o,b∉wr->s2.heap.get? b=some o->h'.get? b=some o)->EP X pins σ Q (.bool (g tr n)) {s2 with heap:=h',toks:=tk}) X.xe s:=by
 obtain⟨its,rv,pl,hz⟩:=I.list hq
 have hh:X.A.in1.handled=none:=I.ok.hd hc
 have hlen:its.length=bs.length:=by rw[<-rv.length];simp
 obtain⟨o,ho,_⟩:=id pl.isList
 refine ME pl.isList ?_
 have W:=Walks.list (prog:=X.prog) (w:=X.w) hh s.heap.objs.size a (Lf (KJ ho)) its.toArray
 refine⟨s.heap.objs.size,_,_,_,_,_,λi=>bs.getD i false,rfl,W,⟨⟨_,K0 _ rfl,rfl,rfl⟩,pl.isList.push _⟩,?_,λh' tk k=>?_⟩
 ·have:=sf (X:=X) (A:=X.A.in1) rv
  simpa using this
 ·have e:its.toArray.size=bs.length:=by simpa using hlen
  rw[e,hfg]
  have I1:Inv X pins σ H {s with heap:=s.heap.push {cls:=.type "list_iterator",data:=.fields #[.ref a,.int 0 0]}}:=I.kept (t':=s.toks) λb o e=>KC _ e
  have hf:H s.heap.objs.size=none:=I.hok.fresh (KI _)
  have fp:=I.fpOk (H':=H) (b:=s.heap.objs.size) (KI _) hf
  refine⟨.bl _,H,I1.turned (it:=s.heap.objs.size) (t':=tk) (λb o hb e=>k b o (by simpa using hb) e) hf fp.2.1 fp.2.2.2.1 fp.2.2.2.2.1 fp.2.2.2.2.2,rfl,q⟩
def h9 (hc:X.calm=true):cM X (.builtin "all") (vj X.K λbs=>bs.all id):=by
 intro pins s σ H xs us Q I r h
 obtain⟨a,bs,rfl,hq,q⟩:=h
 obtain⟨u,rfl,rx⟩:=vals1 r
 cases rx
 exact call_all_walk (nA hc I hq (f:=λbs=>bs.all id) (g:=λtr n=>(List.range n).all tr) (range_all bs) q)
def As (hc:X.calm=true):cM X (.builtin "any") (vj X.K λbs=>bs.any id):=by
 intro pins s σ H xs us Q I r h
 obtain⟨a,bs,rfl,hq,q⟩:=h
 obtain⟨u,rfl,rx⟩:=vals1 r
 cases rx
 exact call_any_walk (nA hc I hq (f:=λbs=>bs.any id) (g:=λtr n=>(List.range n).any tr) (range_any bs) q)
def By:cM X (.type "range") (λxs H Q=>∃n:Int,xs= [.int n]/\∀p,H p=none->Q (.ref p) (upd H p (.bu 0 n))):=by
 intro pins s σ H xs us Q I r h
 obtain⟨n,rfl,q⟩:=h
 obtain⟨u,rfl,rx⟩:=vals1 r
 obtain⟨t,rfl⟩:=rx
 refine call_range_1 ⟨.ref s.heap.objs.size,upd H s.heap.objs.size (.bu 0 n),?_,rfl,q _ (I.hok.fresh (KI _))⟩
 exact I.laid (λb o e=>KC _ e) (KI _) ⟨_,_,_,K0 _ rfl⟩
def pd (hc:X.calm=true):cM X (.type "list") (λxs H Q=>∃p n,xs= [.ref p]/\H p=some (.bu 0 n)/\0<=n/\n<=1000/\∀l,H l=none->Q (.ref l) (upd H l (.lst ((List.range n.toNat).map λ(i:Nat)=>V.int (i:Int))))):=by
 intro pins s σ H xs us Q I r h
 obtain⟨p,n,rfl,hp,h0,h1,q⟩:=h
 obtain⟨u,rfl,rx⟩:=vals1 r
 cases rx
 obtain⟨t,u,v,hr⟩:∃t u v,s.heap.get? p=some {cls:=.type "range",data:=.fields #[.int 0 t,.int n u,.int 1 v]}:=I.hok p _ hp
 have hsz:Builtin.Range.rangeSize 0 n 1=(n.toNat:Int):=by rw[rangeSize_one];split <;> omega
 refine call_list_range (I.ok.hd hc) hr (small_one (by omega) (by omega) (by omega) (by omega)) hsz (by omega) λh' tk acc c k hS hacc=>?_
 have hv:Vals ((List.range n.toNat).map λ(i:Nat)=>V.int (i:Int)) acc.toList:=by
  have key:∀(m:Nat) (us:List Value) (j:Nat),us.length=m->(∀(i:Nat) (v:Value),us[i]? =some v->∃t,v=Value.int ((j + i:Nat):Int) t)->Vals ((List.range' j m).map λ(i:Nat)=>V.int (i:Int)) us:=by
   intro m
   induction m with
   |zero=>intro us j hl _;cases us with
    |nil=>exact .nil
    |cons a b=>simp at hl
   |succ m ih=>
    intro us j hl hh
    cases us with
    |nil=>simp at hl
    |cons u us=>
     rw[List.range'_succ,Ln]
     refine .cons (by have:=hh 0 u rfl;simp at this;exact this) (ih us (j + 1) (by simpa using hl) λi v hi=>?_)
     obtain⟨t,e⟩:=hh (i + 1) v (by simpa using hi)
     exact⟨t,by rw[e];congr 2;omega⟩
  have:=key n.toNat acc.toList 0 (by simpa using hacc.1) λi v hi=>by
   obtain⟨t,e⟩:=hacc.2 i v (by simpa using hi)
   exact⟨t,by rw[e];simp⟩
  rw[List.range_eq_range'];exact this
 refine⟨.ref s.heap.objs.size,_,I.laid (t':=tk) k (KI _) (show bM X.prog X.w _ h' _ (.lst _) from⟨by simp;rw[Ld];omega,acc.toList,c,hv,by simpa using hS⟩),rfl,q _ (I.hok.fresh (KI _))⟩
end
def Rc (h:Heap)(e:Addr)(cls:Value)(T:Addr)(fl:Value):Prop:=∃oe vs oT ts,h.get? e=some oe/\oe.cls=cls/\oe.dict=none/\oe.data=.fields vs/\vs[1]? =some (.ref T)/\T≠e/\h.get? T=some oT/\oT.data=.fields ts/\ts[3]? =some fl
abbrev Keeps (F:List Addr)(ch:List Addr)(h h':Heap):Prop:=∀b o,h.get? b=some o->b∉F->b∉ch->h'.get? b=some o
abbrev Slots (F:List Addr)(h h':Heap):Prop:=∀b o,h.get? b=some o->b∈F->∃sl,h'.get? b=some {o with slots:=sl}
section
variable {M:Model}{A:Around}{E:Value->Shared->Prop}{s:Shared}{base:Heap}{env:Env}{outer:List Env}{L e:Addr}{cls:Value}{Q:Unit->Shared->Prop}
def zP {oe:Obj}{vs:Array Value}{head:Value}{hadNext:Bool}(hfr:A.frames=some (env :: outer))(hl:s.heap.FunFrames base (env :: outer))(hf:env.frame=some L)(he:s.heap.get? e=some oe)(hc:oe.cls=cls)(hdd:oe.dict=none)(hd:oe.data=.fields vs)(hsz:1 < vs.size)
  (h:∀h' T,Keeps (dz (env :: outer)) [e] s.heap h'->Slots (dz (env :: outer)) s.heap h'->s.heap.get? T=none->Rc h' e cls T (rawInt L)->Q () {s with heap:=h'}) :
  wpAny M A (do let a <-frameOf env;let pl <-entryPlaceOf L hadNext;let b <-EntryCells.newEntry head a .none (rawInt L) .none pl;setField (.ref e) 1 b) Q E s:=by
 have eF:e∉dz (env :: outer):=λz=>by
  obtain⟨_,o,q,n⟩:=hl.mem z
  rw[he] at q;cases q;exact n _ hd
 refine KA (wpAny_frameOf_fun hfr hl hf λh1 s1=>?_)
 refine KA (wpAny_entryPlaceOf λpl hpl=>?_)
 unfold EntryCells.newEntry newFields
 refine KA (MT ?_ (hpl.sizeOk5 _ _ _ _ _))
 have e1:h1.get? e=some oe:=(s1.2.1 e eF).trans he
 have e2:=KC (h:=h1) {cls:=.type "traceback",dict:=none,data:=.fields ([head,.ref L,.none,rawInt L,.none] ++ (if pl.isEmpty then List.replicate 6 Value.none else pl)).toArray} e1
 have tn:h1.objs.size≠e:=L7 (KJ e1)
 refine MS e2 hd hsz (h _ h1.objs.size (λb o q hb hn=>?_) (λb o q hb=>?_) ?_ ?_)
 ·have hbe:b≠e:=by simpa using hn
  have q1:h1.get? b=some o:=(s1.2.1 b hb).trans q
  rw[Lg _ _ (Ne.symm hbe)]
  exact KC _ q1
 ·obtain⟨sl,q1⟩:=s1.2.2 b o q
  have hbe:b≠e:=λz=>eF (z▸hb)
  refine⟨sl,?_⟩
  rw[Lg _ _ (Ne.symm hbe)]
  exact KC _ q1
 ·cases q:s.heap.get? h1.objs.size with
  |none=>rfl
  |some o=>obtain⟨sl,q1⟩:=s1.2.2 _ o q;exact absurd (KJ q1) (LL _)
 ·have d3:=MQ hd (·.setIfInBounds 1 (Value.ref h1.objs.size))
  have e3:=LN (Obj.mapFields (·.setIfInBounds 1 (Value.ref h1.objs.size))) e2 (Obj.isFreed_of_fields d3)
  refine⟨_,_,_,_,e3,(Obj.cls_mapFields _ _).trans hc,?_,d3,by simp[hsz],tn,(Lg _ _ (Ne.symm tn)).trans (K0 h1 rfl),rfl,?_⟩
  ·unfold Obj.mapFields
   split <;> exact hdd
  ·rcases hpl with rfl | ⟨_,_,_,_,_,_,_,rfl⟩ <;> simp
def ve {oe:Obj}{vs:Array Value}(hfr:A.frames=some (env :: outer))(hl:s.heap.FunFrames base (env :: outer))(hf:env.frame=some L)(he:s.heap.get? e=some oe)(hc:oe.cls=cls)(hdd:oe.dict=none)(hd:oe.data=.fields vs)(h1:vs[1]? =some .none)
  (h:∀h' T,Keeps (dz (env :: outer)) [e] s.heap h'->Slots (dz (env :: outer)) s.heap h'->s.heap.get? T=none->Rc h' e cls T (rawInt L)->Q () {s with heap:=h'}):wpAny M A (noteFrame (.ref e) env) Q E s:=by
 unfold noteFrame
 simp only[hf]
 refine KA (LY he hd h1 ?_)
 rw[KZ (by decide)]
 exact zP hfr hl hf he hc hdd hd (Ml.mp h1).1 h
def p7 {T0:Addr}(hfr:A.frames=some (env :: outer))(hl:s.heap.FunFrames base (env :: outer))(hf:env.frame=some L)(r:Rc s.heap e cls T0 .none)
  (h:∀h' T,Keeps (dz (env :: outer)) [e,T0] s.heap h'->Slots (dz (env :: outer)) s.heap h'->(s.heap.get? T=none\/T=T0)->Rc h' e cls T (rawInt L)->Q () {s with heap:=h'}):wpAny M A (noteFrame (.ref e) env) Q E s:=by
 obtain⟨oe,vs,oT,ts,he,hc,hdd,hd,h1,hTe,hT,hdT,h3⟩:=r
 have tF:T0∉dz (env :: outer):=λz=>by
  obtain⟨_,o,q,n⟩:=hl.mem z
  rw[hT] at q;cases q;exact n _ hdT
 unfold noteFrame
 simp only[hf]
 refine KA (LY he hd h1 ?_)
 rw[KH (show (Value.ref T0 != Value.none)=true from by simp)]
 refine KA (LY hT hdT h3 ?_)
 rw[KZ (show ¬((Value.none == rawInt L)=true) from by simp[rawInt])]
 refine KA (MS hT hdT (Ml.mp h3).1 ?_)
 have oth:∀b,b≠T0->(s.heap.update T0 (Obj.mapFields (·.setIfInBounds 3 Value.none))).get? b=s.heap.get? b:=λb hb=>Lg _ _ (Ne.symm hb)
 have nf:∀b o,s.heap.get? b=some o->(∀ws,o.data≠.fields ws)->b≠T0:=λb o q n z=>by
  rw[z,hT] at q;cases q;exact n _ hdT
 refine zP (base:=base) hfr (hl.of_keeps λb o q n=>⟨o,(oth b (nf b o q n)).trans q,rfl⟩) hf ((oth e (Ne.symm hTe)).trans he) hc hdd hd (Ml.mp h1).1 λh' T kp sl tn rc=>?_
 refine h h' T (λb o q hb hn=>?_) (λb o q hb=>?_) ?_ rc
 ·simp only[KG,K5,LF,not_or] at hn
  exact kp b o ((oth b hn.2).trans q) hb (by simp[hn.1])
 ·exact sl b o ((oth b λz=>tF (z▸hb)).trans q) hb
 ·by_cases z:T=T0
  ·exact .inr z
  ·exact .inl ((oth T z).symm.trans tn)
def mZ {T:Addr}{fl:Value}(r:Rc s.heap e cls T fl)(h:∀h',Keeps [] [T] s.heap h'->Rc h' e cls T .none->Q () {s with heap:=h'}):wpAny M A (setFlight (.ref e) none) Q E s:=by
 obtain⟨oe,vs,oT,ts,he,hc,hdd,hd,h1,hTe,hT,hdT,h3⟩:=r
 have sz:3 < ts.size:=(Ml.mp h3).1
 unfold setFlight
 refine KA (LY he hd h1 ?_)
 rw[KH (show (Value.ref T != Value.none)=true from by simp)]
 refine MS hT hdT sz (h _ (λb o q _ hn=>?_) ?_)
 ·have hb:b≠T:=by simpa using hn
  exact (Lg _ _ (Ne.symm hb)).trans q
 ·have d3:=MQ hdT (·.setIfInBounds 3 ((none:Option Addr).elim Value.none λf=>rawInt f))
  exact⟨oe,vs,_,_,(Lg _ _ hTe).trans he,hc,hdd,hd,h1,hTe,LN _ hT (Obj.isFreed_of_fields d3),d3,by simp[sz]⟩
end
section
variable {P:Program}{w:World}
theorem bM.there {H:Hp}{h:Heap}{a:Addr}{o:HO}(x:bM P w H h a o):∃u,h.get? a=some u:=by
 cases o with
 |lst xs=>obtain⟨_,_,_,_,e⟩:=x;exact⟨_,e⟩
 |tup xs=>obtain⟨_,_,_,u,e,_⟩:=x;exact⟨u,e⟩
 |dK kvs=>obtain⟨_,_,_,_,o,_,_,e,_⟩:=x;exact⟨_,e⟩
 |dT kvs=>obtain⟨_,_,_,_,o,_,_,e,_⟩:=x;exact⟨_,e⟩
 |set S n=>obtain⟨o,_,_,_,e,_⟩:=x;exact⟨_,e⟩
 |ins C dx fs=>obtain⟨_,_,_,e,_⟩:=x;exact⟨_,e⟩
 |own y=>obtain⟨_,e⟩:=x;exact⟨_,e⟩
 |xd fs=>obtain⟨_,⟨_,_,_,e,_⟩,_⟩:=x;exact⟨_,e⟩
 |bu lo hi=>obtain⟨_,_,_,e⟩:=x;exact⟨_,e⟩
 |aN ob u=>obtain⟨e,_⟩:=x;exact⟨_,e⟩
 |iO ps=>exact⟨_,show h.get? a=some _ from x⟩
 |met f y=>exact⟨_,show h.get? a=some _ from x⟩
 |ext φ=>obtain⟨_,⟨_,e⟩,_⟩:=x;exact⟨_,e⟩
end
structure Lies (h₀:Heap)(H:Hp)(h:Heap)(e:Addr)(cls:Value):Prop where
 free:H e=none
 new:h₀.get? e=none
 ob:∃T,Rc h e cls T .none/\H T=none/\h₀.get? T=none
def kW (P:Program)(w:World):sY:=λouter H s E e s'=>∃ea cls H',e=.ref ea/\s'.os=s.os/\AllBare s'.gens/\Un (dz outer) [] H H' s.heap s'.heap/\jk P w H' s'.heap/\Lies s.heap H' s'.heap ea cls/\E cls none H'
section
variable {P:Program}{w:World}{M:Model}{A:Around}{E':Value->Shared->Prop}{s:Shared}{env:Env}{outer:List Env}{L e:Addr}{cls:Value}{base h₀:Heap}{H:Hp}{Q:Unit->Shared->Prop}
def lu {h h':Heap}(hok:jk P w H h)(k:∀b o,h.get? b=some o->(∃u,H b=some u)->h'.get? b=some o):jk P w H h':=λa o ha=>
 (hok a o ha).stay (λb u hb q=>k b u q (hb.elim (λz=>⟨o,by rw[z];exact ha⟩) λz=>⟨_,z⟩)) (λ_ q=>q) λ_ _ q=>q
def Ac (hfr:A.frames=some (env :: outer))(hf:env.frame=some L)(hfn:s.heap.FunFrames base (env :: outer))(hok:jk P w H s.heap)(hff:∀b∈dz (env :: outer),H b=none)(Ly:Lies h₀ H s.heap e cls)(hex:∀b o,h₀.get? b=some o->∃o',s.heap.get? b=some o')
  (hQ:∀h',(∀b o,s.heap.get? b=some o->b∉dz (env :: outer)->((∃o0,h₀.get? b=some o0)\/∃u,H b=some u)->h'.get? b=some o)->(∀b o,s.heap.get? b=some o->b∈dz (env :: outer)->∃sl,h'.get? b=some {o with slots:=sl})->Lies h₀ H h' e cls->jk P w H h'->Q () {s with heap:=h'}) :
  wpAny M A (leaving env (.ref e)) Q E' s:=by
 obtain⟨fr,nw,T0,rc,hHT,hnT⟩:=Ly
 obtain⟨oe,vs,oT,ts,he,hc,hdd,hd,h1,hTe,hT,hdT,h3⟩:=id rc
 have tF:T0∉dz (env :: outer):=λz=>by
  obtain⟨_,o,q,n⟩:=hfn.mem z
  rw[hT] at q;cases q;exact n _ hdT
 unfold leaving
 refine KA (p7 hfr hfn hf rc λh4 T kp sl tn rc4=>mZ rc4 λh5 kp5 rc5=>?_)
 have nT:∀b o,s.heap.get? b=some o->b≠T0->b≠T:=λb o q n z=>by
  rcases tn with tn |tn
  ·rw[z,tn] at q;cases q
  ·exact n (z.trans tn)
 have kept:∀b o,s.heap.get? b=some o->b∉dz (env :: outer)->((∃o0,h₀.get? b=some o0)\/∃u,H b=some u)->h5.get? b=some o:=λb o q hb hor=>by
  have be:b≠e:=λz=>by subst z;rcases hor with⟨_,z⟩ | ⟨_,z⟩ <;> simp_all
  have bT:b≠T0:=λz=>by subst z;rcases hor with⟨_,z⟩ | ⟨_,z⟩ <;> simp_all
  exact kp5 b o (kp b o q hb (by simp[be,bT])) (by simp) (by simp[nT b o q bT])
 have slot:∀b o,s.heap.get? b=some o->b∈dz (env :: outer)->∃sl,h5.get? b=some {o with slots:=sl}:=λb o q hb=>by
  obtain⟨x,q4⟩:=sl b o q hb
  exact⟨x,kp5 b _ q4 (by simp) (by simp[nT b o q λz=>tF (z▸hb)])⟩
 have fresh:H T=none/\h₀.get? T=none:=by
  rcases tn with tn |tn
  ·refine⟨?_,?_⟩
   ·cases q:H T with
    |none=>rfl
    |some u=>obtain⟨o,qo⟩:=(hok T u q).there;rw[tn] at qo;cases qo
   ·cases q:h₀.get? T with
    |none=>rfl
    |some u=>obtain⟨o,qo⟩:=hex T u q;rw[tn] at qo;cases qo
  ·rw[tn];exact⟨hHT,hnT⟩
 refine hQ h5 kept slot ⟨fr,nw,T,rc5,fresh.1,fresh.2⟩ (lu hok λb o q hu=>kept b o q (λz=>?_) (.inr hu))
 obtain⟨u,hu⟩:=hu
 rw[hff b z] at hu;cases hu
def uM {h:Heap}{args:List Value}(hfr:A.frames=some (env :: outer))(hf:env.frame=some L)(hfn:h.FunFrames base (env :: outer))(hok:jk P w H h)(hff:∀b∈dz (env :: outer),H b=none)(hex:∀b o,h₀.get? b=some o->∃o',h.get? b=some o')(hx:Heap.MadeExcOf h s.heap e cls args)
  (hQ:∀h',(∀b o,h.get? b=some o->b∉dz (env :: outer)->h'.get? b=some o)->(∀b o,h.get? b=some o->b∈dz (env :: outer)->∃sl,h'.get? b=some {o with slots:=sl})->Lies h₀ H h' e cls->jk P w H h'->Q () {s with heap:=h'}) :
  wpAny M A (leaving env (.ref e)) Q E' s:=by
 obtain⟨t,he,_,_⟩:=hx.there
 unfold leaving
 refine KA (ve (cls:=cls) hfr (hfn.of_keeps λb o q _=>⟨o,hx.keeps b o q,rfl⟩) hf he rfl rfl rfl rfl λh4 T kp sl tn rc4=>mZ rc4 λh5 kp5 rc5=>?_)
 have ne:∀b o,h.get? b=some o->b≠e:=λb o q z=>by rw[z,hx.new] at q;cases q
 have nT:∀b o,h.get? b=some o->b≠T:=λb o q z=>by
  have:=hx.keeps b o q
  rw[z,tn] at this;cases this
 have kept:∀b o,h.get? b=some o->b∉dz (env :: outer)->h5.get? b=some o:=λb o q hb=>kp5 b o (kp b o (hx.keeps b o q) hb (by simp[ne b o q])) (by simp) (by simp[nT b o q])
 have slot:∀b o,h.get? b=some o->b∈dz (env :: outer)->∃sl,h5.get? b=some {o with slots:=sl}:=λb o q hb=>by
  obtain⟨x,q4⟩:=sl b o (hx.keeps b o q) hb
  exact⟨x,kp5 b _ q4 (by simp) (by simp[nT b o q])⟩
 have fresh:∀{b:Addr},h.get? b=none->H b=none/\h₀.get? b=none:=λ{b} hb=>by
  refine⟨?_,?_⟩
  ·cases q:H b with
   |none=>rfl
   |some u=>obtain⟨o,qo⟩:=(hok b u q).there;rw[hb] at qo;cases qo
  ·cases q:h₀.get? b with
   |none=>rfl
   |some u=>obtain⟨o,qo⟩:=hex b u q;rw[hb] at qo;cases qo
 have no:h.get? T=none:=by
  cases q:h.get? T with
  |none=>rfl
  |some o=>exact absurd rfl (nT T o q)
 obtain⟨f1,f2⟩:=fresh hx.new
 obtain⟨g1,g2⟩:=fresh no
 refine hQ h5 kept slot ⟨f1,f2,T,rc5,g1,g2⟩ (lu hok λb o q hu=>kept b o q λz=>?_)
 obtain⟨u,hu⟩:=hu
 rw[hff b z] at hu;cases hu
end
section
variable {P:Program}{w:World}{K:Frag}{mg:Str->Option Value}{base:Heap}{N:List Str}{qual:Str}{scope:Scope}{f:Addr}{cd:Value}{A:Around}{outer:List Env}{s0:Shared}{H0:Hp}{E:XK}
def a9:Passes (kW P w) (jG (kW P w) P w K mg base N qual scope f cd A outer s0 H0 E) E:=by
 intro pins σ H s e s' I hcx
 obtain⟨ea,cls,H',rfl,os,bare,un,hok,Ly,q⟩:=hcx
 have I':=I.call' os un hok bare (λb hb=>absurd hb (by simp))
 have old:∀{b:Addr},s.heap.get? b=none->s0.heap.get? b=none:=λ{b} hb=>by
  cases z:s0.heap.get? b with
  |none=>rfl
  |some o=>obtain⟨o',z'⟩:=I.base.there b o z (show b∉([]:List Addr) by simp);rw[hb] at z';cases z'
 have Ly0:Lies s0.heap H' s'.heap ea cls:=by
  obtain⟨fr,nw,T,rc,hHT,hnT⟩:=Ly
  exact⟨fr,old nw,T,rc,hHT,old hnT⟩
 have above:s0.heap.objs.size<=(envOfC qual scope s0.heap.objs.size f cd).locals:=I.ok.above
 refine Ac (base:=base) (h₀:=s0.heap) I'.ok.frames rfl I'.stack I'.hok I'.stkFree Ly0 (λb o z=>I'.base.there b o z (show b∉([]:List Addr) by simp)) λh' kept slot Ly' hok'=>?_
 have nL:∀{b:Addr} {o:Obj},s0.heap.get? b=some o->b∉dz outer->b∉dz (envOfC qual scope s0.heap.objs.size f cd :: outer):=λ{b o} z hb hm=>by
  rcases KG.mp (I'.stkSub b hm) with e |e
  ·have:=KJ z
   rw[e] at this
   exact absurd (K6 this above) (LL _)
  ·exact hb e
 have inn:∀{b:Addr},b∈dz outer->b∈dz (envOfC qual scope s0.heap.objs.size f cd :: outer):=λ{b} hb=>by
  obtain⟨en,h1,h2⟩:=Me.mp hb
  exact Me.mpr ⟨en,KL _ h1,h2⟩
 refine⟨ea,cls,H',rfl,os.trans I.os,bare,⟨λb o z n hb _=>?_,λb o z n hb _=>?_,λb o z n _=>I'.base.free b o z n (show b∉([]:List Addr) by simp),λb o z _=>?_,I'.base.tups,I'.base.frzs,I'.base.tbls⟩,hok',Ly',q⟩
 ·exact kept b o (I'.base.keep b o z n hb (show b∉([]:List Addr) by simp)) (nL z hb) (.inl ⟨o,z⟩)
 ·obtain⟨sl,z1⟩:=I'.base.slot b o z n hb (show b∉([]:List Addr) by simp)
  obtain⟨sl2,z2⟩:=slot b _ z1 (inn hb)
  exact⟨sl2,z2⟩
 ·obtain⟨o',z1⟩:=I'.base.there b o z (show b∉([]:List Addr) by simp)
  by_cases hb:b∈dz (envOfC qual scope s0.heap.objs.size f cd :: outer)
  ·obtain⟨sl,z2⟩:=slot b o' z1 hb
   exact⟨_,z2⟩
  ·exact⟨o',kept b o' z1 hb (.inl ⟨o,z⟩)⟩
def E8 (C:Addr)(E:XK)(t:TA):TS:=λ_ σ H=>t σ H λvs H1=>vs.length<=sizeLine/\E (.ref C) none H1
def zx {x:Str}{C:Addr}{np cpos pos:Pos}{e0:Expr}{es:List Expr}{t:TA}{Bn newId initId:String}{bmB:List Value}(FB:ExcBaseFacts Bn newId initId bmB)(hbb:bmB.contains (.type "BaseException")=true)(q:PySem.W.excIn K C bmB newId=true)
  (hg:Gl (jG (kW P w) P w K mg base N qual scope f cd A outer s0 H0 E) x) (hm:mg x=some (.ref C)) (ha:PA (jG (kW P w) P w K mg base N qual scope f cd A outer s0 H0 E) (e0 :: es) t)
  (he:starEach (e0 :: es) (envOfC qual scope s0.heap.objs.size f cd)=(false,eval e0 (envOfC qual scope s0.heap.objs.size f cd)) :: starEach es (envOfC qual scope s0.heap.objs.size f cd):=by rfl)
  (hpl:(backTo cpos (starEach es (envOfC qual scope s0.heap.objs.size f cd))).any (·.1)=false:=by rfl) (hdb:(x == ("__debug__":Str))=false:=by decide) :
  PS (jG (kW P w) P w K mg base N qual scope f cd A outer s0 H0 E) (.Raise (some (.Call (.Name x np) (e0 :: es) [] cpos)) none pos) (E8 C E t):=by
 intro pins s σ H D I h
 have own:∀{hh:Heap},K.In hh->∃bm Nn nm qn bs hdct sn sub ab col dd k0 k1 k2 k3 k5 mN,hh.get? C=some (excClassObj nm qn C Nn bs bm hdct sn sub ab col dd k0 k1 k2 k3 k5 newId)/\hh.Ns Nn mN/\mN "__init__"=none/\OwnTail hh bmB bm:=λ{hh} X=>by
  have q:=q
  unfold PySem.W.excIn at q
  split at q
  ·rename_i dd cdd sl ho
   split at q
   ·rename_i C' bm k0 k1 k2 k3 n k5 hm hs
    simp only[KP,beq_iff_eq,Mo] at q
    obtain⟨⟨⟨⟨⟨rfl,rfl⟩,hdel⟩,ht⟩,hok⟩,hni⟩:=q
    obtain⟨nm,bs,mro,ns,qn,hd,sn,sub,ab,col,del⟩:=cdd
    dsimp only at hm hdel hok hni
    subst hm hdel
    have hsl:sl=#[k0,k1,k2,k3,some (.builtin n),k5]:=by
     obtain⟨l⟩:=sl
     simp only at hs
     rw[hs]
    subst hsl
    exact⟨bm,ns,nm,qn,bs,hd,sn,sub,ab,col,dd,k0,k1,k2,k3,k5,_,X _ _ ho,.of_isNs (PySem.W.isNs_of_in X hok),PySem.W.nsMap_none_of_in X hok hni,PySem.W.tail_of_in X ht⟩
   ·cases q
  ·cases q
 obtain⟨bm,Nn,nm,qn,bs,hdct,sn,sub,ab,col,dd,k0,k1,k2,k3,k5,mN,hC,hN,hni,TL⟩:=own I.ok.mod.kin
 have hA:=ha cpos pins s σ H _ I h
 refine wpAny_Raise_call_subT (C:=C) (nm:=nm) (q:=qn) (N:=Nn) (bs:=bs) (bm:=bm) (hdct:=hdct) (sn:=sn) (sub:=sub) (ab:=ab) (col:=col) (dd:=dd) (k0:=k0) (k1:=k1) (k2:=k2) (k3:=k3) (k5:=k5) FB (mN:=mN) (TL.hasType hbb) (I.ok.hd rfl) ?_ hni (ll I hg hm ⟨rfl,?_⟩ hdb)
 ·show (backTo cpos (starEach (e0 :: es) (envOfC qual scope s0.heap.objs.size f cd))).any (·.1)=false
  rw[he]
  show (false || (backTo cpos (starEach es (envOfC qual scope s0.heap.objs.size f cd))).any (·.1))=false
  rw[hpl];rfl
 have hA:wpAny _ _ (spliced (backTo cpos (starEach (e0 :: es) (envOfC qual scope s0.heap.objs.size f cd)))) _ _ s:=hA
 show wpAny _ _ (evalArgs (.ref C) true (backTo cpos (starEach (e0 :: es) (envOfC qual scope s0.heap.objs.size f cd))) []) _ _ s
 rw[he] at hA ⊢
 refine Calls.evalArgs_plain (b7 hA λus s2 ⟨vs,H2,I2,r2,hl2,q2⟩=>⟨rfl,by show us.length<=_;rw[<-r2.length];exact hl2,I2.bk _ _ hC,hN.keeps I2.bk,TL.keeps I2.bk,λh' e hx=>?_⟩)
 have above:s0.heap.objs.size<=(envOfC qual scope s0.heap.objs.size f cd).locals:=I2.ok.above
 have nil:∀b:Addr,b∉([]:List Addr):=λb=>by simp
 refine uM (s:={s2 with heap:=h'}) (h:=s2.heap) (base:=base) (h₀:=s0.heap) I2.ok.frames rfl I2.stack I2.hok I2.stkFree (λb o z=>I2.base.there b o z (nil b)) hx λh2 kept slot Ly hok=>?_
 have nL:∀{b:Addr} {o:Obj},s0.heap.get? b=some o->b∉dz outer->b∉dz (envOfC qual scope s0.heap.objs.size f cd :: outer):=λ{b o} z hb hm=>by
  rcases KG.mp (I2.stkSub b hm) with e |e
  ·have:=KJ z
   rw[e] at this
   exact absurd (K6 this above) (LL _)
  ·exact hb e
 have inn:∀{b:Addr},b∈dz outer->b∈dz (envOfC qual scope s0.heap.objs.size f cd :: outer):=λ{b} hb=>by
  obtain⟨en,h1,h2⟩:=Me.mp hb
  exact Me.mpr ⟨en,KL _ h1,h2⟩
 refine⟨e,.ref C,H2,rfl,I2.os,I2.bare,⟨λb o z n hb _=>?_,λb o z n hb _=>?_,λb o z n _=>I2.base.free b o z n (nil b),λb o z _=>?_,I2.base.tups,I2.base.frzs,I2.base.tbls⟩,hok,Ly,q2⟩
 ·exact kept b o (I2.base.keep b o z n hb (nil b)) (nL z hb)
 ·obtain⟨sl,z1⟩:=I2.base.slot b o z n hb (nil b)
  obtain⟨sl2,z2⟩:=slot b _ z1 (inn hb)
  exact⟨sl2,z2⟩
 ·obtain⟨o',z1⟩:=I2.base.there b o z (nil b)
  by_cases hb:b∈dz (envOfC qual scope s0.heap.objs.size f cd :: outer)
  ·obtain⟨sl,z2⟩:=slot b o' z1 hb
   exact⟨_,z2⟩
  ·exact⟨o',kept b o' z1 hb⟩
end
section
variable {X:Cx}{pins:List (Addr×Obj)}{σ:St}{H:Hp}{s:Shared}{h':Heap}{e T:Addr}{oe oT:Obj}{vs ts:Array Value}
def Inv.exc {tk:Nat}(I:Inv X pins σ H s)(hex:X.ex= [])(he:s.heap.get? e=some oe)(hd:oe.data=.fields vs)(hT:s.heap.get? T=some oT)(hdT:oT.data=.fields ts)(n1:X.s₀.heap.get? e=none)(n2:X.s₀.heap.get? T=none)(pn:∀p∈X.pn ++ pins,p.1≠e/\p.1≠T)
  (kept:∀b o,s.heap.get? b=some o->b∉dz X.stack->b≠e->b≠T->h'.get? b=some o) (slot:∀b o,s.heap.get? b=some o->b∈dz X.stack->∃sl,h'.get? b=some {o with slots:=sl}) (hok:jk X.prog X.w H h') :
  Inv X pins σ H {s with heap:=h',toks:=tk}:=by
 have nil:∀b:Addr,b∉X.ex:=λb=>by rw[hex];simp
 have any:∀b o,s.heap.get? b=some o->(∀ws,o.data≠.fields ws)->∃sl,h'.get? b=some {o with slots:=sl}:=λb o q n=>by
  by_cases hb:b∈dz X.stack
  ·exact slot b o q hb
  ·refine⟨o.slots,kept b o q hb (λz=>?_) λz=>?_⟩
   ·rw[z,he] at q;cases q;exact n _ hd
   ·rw[z,hT] at q;cases q;exact n _ hdT
 have cellK:∀{c:Addr} {v:Option Value},s.heap.IsCell c v->h'.IsCell c v:=λ{c v} ⟨o,ho,hdc⟩=>by
  obtain⟨sl,q⟩:=any c o ho λws z=>by rw[hdc] at z;cases z
  exact⟨_,q,hdc⟩
 have nsub:∀{b:Addr},b≠X.env.locals->b∉X.fs->b∉dz X.stack:=λ{b} h1 h2 hb=>(KG.mp (I.stkSub b hb)).elim h1 h2
 have neL:∀b o,X.s₀.heap.get? b=some o->b≠X.env.locals:=λb o q=>Lf (K6 (KJ q) I.ok.above)
 have ne2:∀b o,X.s₀.heap.get? b=some o->b≠e/\b≠T:=λb o q=>⟨λz=>by (rw[z,n1] at q;cases q),λz=>by (rw[z,n2] at q;cases q)⟩
 refine⟨I.ok,I.os,I.bare,⟨λb o q n hb hx=>?_,λb o q n hb hx=>?_,I.base.free,λb o q hx=>?_,I.base.tups,I.base.frzs,I.base.tbls⟩,?_,λx c q=>?_,I.free,I.freeC,λp hp=>?_,hok,I.len⟩
 ·exact kept b o (I.base.keep b o q n hb hx) (nsub (neL b o q) hb) (ne2 b o q).1 (ne2 b o q).2
 ·obtain⟨sl,q1⟩:=I.base.slot b o q n hb hx
  by_cases hs:b∈dz X.stack
  ·obtain⟨sl2,q2⟩:=slot b _ q1 hs
   exact⟨sl2,q2⟩
  ·exact⟨sl,kept b _ q1 hs (ne2 b o q).1 (ne2 b o q).2⟩
 ·obtain⟨o',q1⟩:=I.base.there b o q hx
  by_cases hs:b∈dz X.stack
  ·obtain⟨sl2,q2⟩:=slot b _ q1 hs
   exact⟨_,q2⟩
  ·exact⟨o',kept b _ q1 hs (ne2 b o q).1 (ne2 b o q).2⟩
 ·obtain⟨m,⟨o,es,ep,ho,hdd,r⟩,hl⟩:=I.loc
  obtain⟨sl,q⟩:=any _ o ho λws z=>by rw[hdd] at z;cases z
  refine⟨m,⟨_,es,ep,q,hdd,r⟩,λi x v e1 e2 e3=>?_⟩
  obtain⟨u,r',l⟩:=hl i x v e1 e2 e3
  refine⟨u,r',?_⟩
  rcases l with l | ⟨k,c,q,z⟩
  ·exact .inl l
  ·exact .inr ⟨k,c,q,cellK z⟩
 ·obtain⟨v,z⟩:=I.cell x c q
  exact⟨v,cellK z⟩
 ·obtain⟨q,n,ne,nf,d⟩:=I.pin p hp
  exact⟨kept p.1 p.2 q (nsub ne nf) (pn p hp).1 (pn p hp).2,n,ne,nf,d⟩
def iw (e:Addr)(cls:Value)(h:Heap):Prop:=∃o vs,h.get? e=some o/\o.cls=cls/\o.dict=none/\o.data=.fields vs
def Rc.isExc {h:Heap}{e T:Addr}{cls fl:Value}(r:Rc h e cls T fl):iw e cls h:=let ⟨oe,vs,_,_,a,b,c,d,_⟩:=r;⟨oe,vs,a,b,c,d⟩
def Inv.track {cls:Value}(I:Inv X pins σ H s)(he:iw e cls s.heap)(hn:H e=none)(n1:X.s₀.heap.get? e=none)(hL:e≠X.env.locals)(hc:∀x c,X.env.cells.lookup x=some c->c≠e)(pn:∀p∈X.pn ++ pins,p.1≠e) :
  Inv X pins σ (upd H e (.ext (iw e cls))) s:=by
 have un:∀{b:Addr},b≠e->upd H e (.ext (iw e cls)) b=H b:=λ{b} z=>ao z
 have keepT:∀{b:Addr} {o:HO},H b=some o->upd H e (.ext (iw e cls)) b=some o:=λ{b o} q=>by rw[un (ay q hn)];exact q
 refine⟨I.ok,I.os,I.bare,⟨I.base.keep,I.base.slot,λb o q n hx=>?_,I.base.there,λb xs q=>keepT (I.base.tups b xs q),λb o u q=>keepT (I.base.frzs b o u q),λb ps q=>?_⟩,I.loc,I.cell,?_,λx c q=>?_,λp hp=>?_,λa o ha=>?_,I.len⟩
 ·rw[un (λz=>by rw[z,n1] at q;cases q)];exact I.base.free b o q n hx
 ·obtain⟨m,q1⟩:=I.base.tbls b ps q
  exact⟨m,keepT q1⟩
 ·rw[un hL.symm];exact I.free
 ·rw[un (hc x c q)];exact I.freeC x c q
 ·obtain⟨q,n,ne,nf,d⟩:=I.pin p hp
  exact⟨q,by rw[un (pn p hp)];exact n,ne,nf,d⟩
 ·by_cases z:a=e
  ·subst z
   rw[aj] at ha
   cases ha
   obtain⟨o,vs,q,c⟩:=he
   exact⟨⟨o,vs,q,c⟩,⟨o,q⟩,λh1 h2 ⟨o1,v1,q1,c1⟩ k=>⟨o1,v1,k o1 q1,c1⟩⟩
  ·rw[un z] at ha
   exact (I.hok a o ha).stay (λb u _ q=>q) (λb q=>keepT q) λb xs q=>q.imp keepT λ⟨o,q⟩=>⟨o,keepT q⟩
def yf {M:Model}{A:Around}{E:Value->Shared->Prop}{i:Nat}{x:Str}{v:V}{Q:Unit->Shared->Prop}(I:Inv X pins σ H s)(hN:X.N.Nodup)(hi:X.N[i]? =some x)(hk:X.env.scope.names.lookup x=some .local)(hv:σ[i]? =some (some v))
  (h:∀s',Inv X pins (σ.set i none) H s'->Q () s'):wpAny M A (unbindName X.env x) Q E s:=by
 obtain⟨m,hn,hl⟩:=id I.loc
 have hcls:(X.env.scope.kind == .class || (X.env.scope.kind == .module && X.env.locals != X.env.globals))=false:=by rw[I.ok.kind];rfl
 obtain⟨u,_,look⟩:=hl i x v hi hv (.inl hk)
 have hm:m x=some u:=by
  rcases look with⟨_,q⟩ | ⟨k,_⟩
  ·exact q
  ·have hk':X.env.kindOf x=some .local:=hk
   rw[hk'] at k
   rcases k with k |k <;> cases k
 refine wpAny_unbindName_local hk hn hm hcls λh' u' hn' hs=>?_
 obtain⟨oL,_,_,hoL,_⟩:=id hn
 have same:∀{b:Addr} {o:Obj},b≠X.env.locals->s.heap.get? b=some o->h'.get? b=some o:=λ{b o} z q=>(hs.2 b z).trans q
 have neL:∀{b:Addr} {o:Obj},X.s₀.heap.get? b=some o->b≠X.env.locals:=λ{b o} q=>Lf (K6 (KJ q) I.ok.above)
 have hok:jk X.prog X.w H h':=lu I.hok λb o q hu=>same (λz=>by obtain⟨w',hw⟩:=hu;rw[z,I.free] at hw;cases hw) q
 refine h _ ⟨I.ok,I.os,I.bare,⟨λb o q n hb hx=>same (neL q) (I.base.keep b o q n hb hx),λb o q n hb hx=>?_,I.base.free,λb o q hx=>?_,I.base.tups,I.base.frzs,I.base.tbls⟩,⟨_,hn',λj y v' e1 e2 e3=>?_⟩,λy c q=>?_,I.free,I.freeC,λp hp=>?_,hok,by simpa using I.len⟩
 ·obtain⟨sl,q1⟩:=I.base.slot b o q n hb hx
  exact⟨sl,same (neL q) q1⟩
 ·obtain⟨o',q1⟩:=I.base.there b o q hx
  exact⟨o',same (neL q) q1⟩
 ·by_cases hj:j=i
  ·subst hj
   rw[KQ (by rw[I.len];exact (KN.mp hi).1)] at e2
   cases e2
  ·rw[KS (Ne.symm hj)] at e2
   obtain⟨u2,r',q⟩:=hl j y v' e1 e2 e3
   refine⟨u2,r',?_⟩
   rcases q with⟨k,q⟩ | ⟨k,c,q,z⟩
   ·have:y≠x:=λz=>hj (nP hN e1 (z▸hi))
    exact .inl ⟨k,by simp[this,q]⟩
   ·exact .inr ⟨k,c,q,z.sameBut hs (I.cne y c q)⟩
 ·obtain⟨w',z⟩:=I.cell y c q
  exact⟨w',z.sameBut hs (I.cne y c q)⟩
 ·obtain⟨q,n,ne,nf,d⟩:=I.pin p hp
  exact⟨same ne q,n,ne,nf,d⟩
end
def vF (bmB:List Value)(newId:String)(C:Addr)(bm:List Value)(h:Heap):Prop:=∃Nn nm qn bs hdct sn sub ab col dd k0 k1 k2 k3 k5,h.get? C=some (excClassObj nm qn C Nn bs bm hdct sn sub ab col dd k0 k1 k2 k3 k5 newId)/\OwnTail h bmB bm
def mroIn (K:Frag)(C:Addr):List Value:=match K.lookup C with
 |some ⟨_,_,.cls cd,_⟩=>cd.mro
 |_=>[]
def wF {K:Frag}{C:Addr}{bmB:List Value}{newId:String}(q:PySem.W.excIn K C bmB newId=true):∃bm,mroIn K C=.ref C :: bm/\∀{h:Heap},K.In h->vF bmB newId C bm h:=by
 have q0:=q
 unfold PySem.W.excIn at q
 split at q
 ·rename_i dd cdd sl ho
  split at q
  ·rename_i C' bm k0 k1 k2 k3 n k5 hm hs
   simp only[KP,beq_iff_eq,Mo] at q
   obtain⟨⟨⟨⟨⟨rfl,rfl⟩,hdel⟩,ht⟩,hok⟩,hni⟩:=q
   refine⟨bm,by unfold mroIn;rw[ho];exact hm,λ{h} X=>?_⟩
   obtain⟨nm,bs,mro,ns,qn,hd,sn,sub,ab,col,del⟩:=cdd
   dsimp only at hm hdel hok hni
   subst hm hdel
   have hsl:sl=#[k0,k1,k2,k3,some (.builtin n),k5]:=by
    obtain⟨l⟩:=sl
    simp only at hs
    rw[hs]
   subst hsl
   exact⟨ns,nm,qn,bs,hd,sn,sub,ab,col,dd,k0,k1,k2,k3,k5,X _ _ ho,PySem.W.tail_of_in X ht⟩
  ·cases q
 ·cases q
def zA {M:Model}{A:Around}{E:Value->Shared->Prop}{s:Shared}{Q:Bool->Shared->Prop}{C D e:Addr}{oe:Obj}{bm bmD bmB bmB2:List Value}{nC nD:String}(oC:vF bmB nC C bm s.heap)(oD:vF bmB2 nD D bmD s.heap)(he:s.heap.get? e=some oe)(hcls:oe.cls=.ref C)
  (hb:bmB2.contains (.type "BaseException")=true) (hup:(Value.ref C :: bm).contains (.ref D)=true) (hq:Q true s):wpAny M A (excMatches (.ref e) (.ref D)) Q E s:=by
 obtain⟨N1,J8,qn1,bs1,hd1,sn1,sub1,ab1,col1,dd1,a0,a1,a2,a3,a5,hC,TC⟩:=oC
 obtain⟨N2,J0,qn2,bs2,hd2,sn2,sub2,ab2,col2,dd2,b0,b1,b2,b3,b5,hD,TD⟩:=oD
 have hcB:(Value.ref D :: bmD).contains (.type "BaseException")=true:=by rw[List.contains_cons,TD.hasType hb,Bool.or_true]
 have f:=tc_notTuple
 obtain⟨h,g,d,t,os⟩:=s
 unfold excMatches
 repeat (first
  | (with_reducible refine wpAny_loadPart_at he ?_;rw[hcls])
  |with_reducible refine wpAny_loadPart_at hD ?_
  | (with_reducible refine wpAny_isSubtype_exc hD ?_;rw[hcB])
  | (with_reducible refine wpAny_isSubtype_exc hC ?_;rw[hup])
  |wp_step)
 exact hq
def Mt (K:Frag)(cls:Value)(D:Addr):Prop:=∀{M:Model} {A:Around} {E:Value->Shared->Prop} {s:Shared} {Q:Bool->Shared->Prop} {e:Addr} {oe:Obj},K.In s.heap->s.heap.get? e=some oe->oe.cls=cls->Q true s->wpAny M A (excMatches (.ref e) (.ref D)) Q E s
def DD {K:Frag}{C D:Addr}{bmB bmB2:List Value}{nC nD:String}(qC:PySem.W.excIn K C bmB nC=true)(qD:PySem.W.excIn K D bmB2 nD=true)(hb:bmB2.contains (.type "BaseException")=true)(hup:(mroIn K C).contains (.ref D)=true):Mt K (.ref C) D:=by
 intro M A E s Q e oe X he hc hq
 obtain⟨bm,e1,o1⟩:=wF qC
 obtain⟨bmD,e2,o2⟩:=wF qD
 rw[e1] at hup
 exact zA (o1 X) (o2 X) he hc hb hup hq
abbrev Cx.inTry (X:Cx)(Ex:Value->Shared->Prop)(pn:List (Addr×Obj)):Cx:={X with xe:=Ex,pn:=pn}
abbrev Cx.inEx (X:Cx)(e:Addr):Cx:={X with A:=X.A.mark (some (.ref e)),calm:=false,xe:=λ_ _=>False}
section
variable {X:Cx}{pins:List (Addr×Obj)}{σ:St}{H:Hp}{s:Shared}
def Inv.toTry (I:Inv X pins σ H s)(Ex:Value->Shared->Prop):Inv (X.inTry Ex (X.pn ++ pins)) [] σ H s:=
 ⟨⟨I.ok.mod,I.ok.kind,I.ok.glob,I.ok.blt,I.ok.above,I.ok.inj,I.ok.has,I.ok.cab,I.ok.hd,I.ok.frames,I.ok.stk,I.ok.exf,I.ok.bs,I.ok.bsz,I.ok.noex,I.ok.exfs,I.ok.funs,I.ok.frf⟩,I.os,I.bare,I.base,I.loc,I.cell,I.free,I.freeC,λp hp=>I.pin p (by simpa using hp),I.hok,I.len⟩
def Inv.ofTry {Ex:Value->Shared->Prop}{pins2:List (Addr×Obj)}(I:Inv (X.inTry Ex (X.pn ++ pins)) pins2 σ H s):Inv X pins σ H s:=
 ⟨⟨I.ok.mod,I.ok.kind,I.ok.glob,I.ok.blt,I.ok.above,I.ok.inj,I.ok.has,I.ok.cab,I.ok.hd,I.ok.frames,I.ok.stk,I.ok.exf,I.ok.bs,I.ok.bsz,I.ok.noex,I.ok.exfs,I.ok.funs,I.ok.frf⟩,I.os,I.bare,I.base,I.loc,I.cell,I.free,I.freeC,λp hp=>I.pin p (L6 _ hp),I.hok,I.len⟩
def Inv.toEx (I:Inv X pins σ H s)(e:Addr):Inv (X.inEx e) pins σ H s:=
 ⟨⟨I.ok.mod,I.ok.kind,I.ok.glob,I.ok.blt,I.ok.above,I.ok.inj,I.ok.has,I.ok.cab,λz=>absurd z K2,I.ok.frames,I.ok.stk,I.ok.exf,I.ok.bs,I.ok.bsz,I.ok.noex,I.ok.exfs,I.ok.funs,I.ok.frf⟩,I.os,I.bare,I.base,I.loc,I.cell,I.free,I.freeC,I.pin,I.hok,I.len⟩
def Inv.ofEx {e:Addr}(ok:X.Ok)(I:Inv (X.inEx e) pins σ H s):Inv X pins σ H s:=
 ⟨ok,I.os,I.bare,I.base,I.loc,I.cell,I.free,I.freeC,I.pin,I.hok,I.len⟩
theorem SP.ofTry {Ex:Value->Shared->Prop}{D:Ends}{f:Flow}{s':Shared}(h:SP (X.inTry Ex (X.pn ++ pins)) [] D f s'):SP X pins D f s':=by
 cases f with
 |next=>obtain⟨σ',H',I,q⟩:=h;exact⟨σ',H',I.ofTry,q⟩
 |brk=>obtain⟨σ',H',I,q⟩:=h;exact⟨σ',H',I.ofTry,q⟩
 |cont=>obtain⟨σ',H',I,q⟩:=h;exact⟨σ',H',I.ofTry,q⟩
 |ret u=>obtain⟨v,σ',H',I,r,q⟩:=h;exact⟨v,σ',H',I.ofTry,r,q⟩
end
def DP (i:Nat)(D:Ends):Ends:={nx:=λσ H=>D.nx ((σ.set i (some .non)).set i none) H,rt:=D.rt,bk:=λσ H=>D.bk ((σ.set i (some .non)).set i none) H,ct:=λσ H=>D.ct ((σ.set i (some .non)).set i none) H}
def JQ (K:Frag)(Dc:Addr)(i len:Nat)(tb:XK->TS)(th:Addr->TS):TS:=λD σ H=>∃Eb:XK,tb Eb D σ H/\∀cls d H',Eb cls d H'->Mt K cls Dc/\∀(ea:Addr) (σ':St),H' ea=none->σ'.length=len->th ea (DP i D) (σ'.set i (some (.ref ea))) (upd H' ea (.ext (iw ea cls)))
section
variable {X:Cx}
def Eg {n x:Str}{i:Nat}{Dc:Addr}{np hpos pos:Pos}{body suite:List Stmt}{b0:Stmt}{tb:XK->TS}{th:Addr->TS}(hst:X.stack=X.env :: X.outer)(hfr:X.env.frame=some X.env.locals)(hex:X.ex= [])
  (hb:∀Eb Ex pn,Passes (kW X.prog X.w) (X.inTry Ex pn) Eb->mH (X.inTry Ex pn) body (tb Eb)) (hs:∀e,mH (X.inEx e) (b0 :: suite) (th e)) (hg:Gl X x) (hm:X.mg x=some (.ref Dc)) (hN:X.N.Nodup) (hi:X.N[i]? =some n) (hk:X.env.scope.names.lookup n=some .local)
  (hdb:(x == ("__debug__":Str))=false:=by decide) :
  PS X (.Try body [.ExceptHandler (some (.Name x np)) (some n) (b0 :: suite) hpos] [] [] pos) (JQ X.K Dc i X.N.length tb th):=by
 intro pins s σ H D I h
 obtain⟨Eb,h1,h2⟩:=h
 refine wpAny_Try_except ?_
 refine L3 (hb Eb (λe s₁=>wpAny (model X.prog X.w) X.A (noteFrame e X.env) (λ_ s₂=>wpAny (model X.prog X.w) X.A (setFlight e none) (λ_ s₃=>wpAny (model X.prog X.w) X.A (handleBy e X.env [.ExceptHandler (some (.Name x np)) (some n) (b0 :: suite) hpos]) (SP X pins D) X.xe s₃) X.xe s₂) X.xe s₁) (X.pn ++ pins) ?_ [] s σ H D (I.toTry _) h1) (λf s1 q=>?_) λe s1 q=>q
 ·intro pins2 σ2 H2 s2 e s3 I2 hcx
  obtain⟨ea,cls,H',rfl,os,bare,un,hok,Ly,q⟩:=hcx
  have I3:Inv X pins σ2 H' s3:=(I2.call' os un hok bare (λb hb=>absurd hb (by simp))).ofTry
  have I2':Inv X pins σ2 H2 s2:=I2.ofTry
  have nil:∀b:Addr,b∉X.ex:=λb=>by rw[hex];simp
  obtain⟨mt,hth⟩:=h2 cls none H' q
  obtain⟨fr,nw,T,rc,hHT,hnT⟩:=Ly
  obtain⟨oe,vs,oT,ts,he,hc,hdd,hd,hv1,hTe,hT,hdT,hv3⟩:=id rc
  have old:∀{b:Addr},s2.heap.get? b=none->X.s₀.heap.get? b=none:=λ{b} hb=>by
   cases z:X.s₀.heap.get? b with
   |none=>rfl
   |some o=>obtain⟨o',z'⟩:=I2'.base.there b o z (nil b);rw[hb] at z';cases z'
  have hpn:∀p∈X.pn ++ pins,p.1≠ea/\p.1≠T:=λp hp=>by
   have:=(I2'.pin p hp).1
   exact⟨λz=>by (rw[z,nw] at this;cases this),λz=>by (rw[z,hnT] at this;cases this)⟩
  have hfn:=I3.stack
  have mem:∀{b:Addr},b∈dz X.stack->∃o,s3.heap.get? b=some o/\∀ws,o.data≠.fields ws:=λ{b} hb=>(hfn.mem hb).2
  have tF:T∉dz X.stack:=λz=>by
   obtain⟨o,q,n⟩:=mem z
   rw[hT] at q;cases q;exact n _ hdT
  have hfn':s3.heap.FunFrames X.base (X.env :: X.outer):=by rw[<-hst];exact hfn
  have step:∀{h':Heap} {tk:Nat},Keeps (dz X.stack) [ea,T] s3.heap h'->Slots (dz X.stack) s3.heap h'->Inv X pins σ2 H' {s3 with heap:=h',toks:=tk}:=λ{h' tk} kp sl=>by
   have kept:∀b o,s3.heap.get? b=some o->b∉dz X.stack->b≠ea->b≠T->h'.get? b=some o:=λb o q hb n1 n2=>kp b o q hb (by simp[n1,n2])
   refine I3.exc hex he hd hT hdT (old nw) (old hnT) hpn kept sl (lu I3.hok λb o q hu=>?_)
   obtain⟨u,hu⟩:=hu
   refine kept b o q (λz=>?_) (λz=>?_) λz=>?_
   ·rw[I3.stkFree b z] at hu;cases hu
   ·rw[z,fr] at hu;cases hu
   ·rw[z,hHT] at hu;cases hu
  have hfr':X.A.frames=some (X.env :: X.outer):=by rw[<-hst];exact I3.ok.frames
  have more:∀{h4 h5:Heap} {T2:Addr},(s3.heap.get? T2=none\/T2=T)->Keeps [] [T2] h4 h5->Keeps (dz X.stack) [ea,T] s3.heap h4->Slots (dz X.stack) s3.heap h4->Keeps (dz X.stack) [ea,T] s3.heap h5/\Slots (dz X.stack) s3.heap h5:=λ{h4 h5 T2} tn k5 kp sl=>by
   have nT:∀b o,s3.heap.get? b=some o->b≠T->b≠T2:=λb o q n z=>by
    rcases tn with tn |tn
    ·rw[z,tn] at q;cases q
    ·exact n (z.trans tn)
   refine⟨λb o q hb hn=>k5 b o (kp b o q hb hn) (by simp) ?_,λb o q hb=>?_⟩
   ·simp only[KG,K5,LF,not_or] at hn
    simp[nT b o q hn.2]
   ·obtain⟨x,q4⟩:=sl b o q hb
    exact⟨x,k5 b _ q4 (by simp) (by simp[nT b o q λz=>tF (z▸hb)])⟩
  have key:∀{h5:Heap} {T2:Addr},(s3.heap.get? T2=none\/T2=T)->Rc h5 ea cls T2 .none->Keeps (dz X.stack) [ea,T] s3.heap h5->Slots (dz X.stack) s3.heap h5->wpAny (model X.prog X.w) X.A (handleBy (.ref ea) X.env [.ExceptHandler (some (.Name x np)) (some n) (b0 :: suite) hpos]) (SP X pins D) X.xe {s3 with heap:=h5}:=λ{h5 T2} tn rc5 kp5 sl5=>by
   have I5:Inv X pins σ2 H' {s3 with heap:=h5}:=step (tk:=s3.toks) kp5 sl5
   obtain⟨oe5,vs5,he5,hc5,_,_⟩:=rc5.isExc
   refine wpAny_handleBy_cons (codeAny_handlers_test (ll (X:=X.inEx ea) (I5.toEx ea) hg hm ?_ hdb)) (by intro q;cases q)
   refine mt I5.kIn he5 hc5 ?_
   refine codeAny_handlers_suite_as (mZ (s:={s3 with heap:=h5}) rc5 λh6 k6 rc6=>?_)
   obtain⟨kp6,sl6⟩:=more tn k6 kp5 sl5
   have I6:Inv X pins σ2 H' {s3 with heap:=h6}:=step (tk:=s3.toks) kp6 sl6
   have eL:ea≠X.env.locals:=λz=>by
    obtain⟨m,⟨o,es,ep,ho,hdd,r⟩,_⟩:=I3.loc
    rw[<-z,he] at ho;cases ho
    rw[hd] at hdd;cases hdd
   have eC:∀y c,X.env.cells.lookup y=some c->c≠ea:=λy c q z=>by
    obtain⟨v,o,ho,hdd⟩:=I3.cell y c q
    rw[z,he] at ho;cases ho
    rw[hd] at hdd;cases hdd
   have I7:=I6.track (cls:=cls) rc6.isExc fr (old nw) eL eC λp hp=>(hpn p hp).1
   refine iu I7 hN hi (.inl hk) (v:=.ref ea) rfl (λs8 I8=>?_) (.inr hk)
   refine L3 (hs ea pins s8 _ _ (DP i D) (I8.toEx ea) (hth ea σ2 fr I3.len)) (λf s9 q9=>?_) λ_ _ z=>z.elim
   have back:∀{σ9:St} {H9:Hp} {Q:Unit->Shared->Prop},Inv (X.inEx ea) pins σ9 H9 s9->(∀s',Inv X pins ((σ9.set i (some .non)).set i none) H9 s'->Q () s')->wpAny (model X.prog X.w) X.A (do bindName X.env n .none;unbindBehindTheSuite X.env n hpos) Q X.xe s9:=λ{σ9 H9 Q} I9 hQ=>by
    refine KA (wpAny_bindName (iu (I9.ofEx I.ok) hN hi (.inl hk) (v:=.non) rfl (λs10 I10=>?_) (.inr hk)))
    have hl:i < σ9.length:=by rw[I9.len];exact (KN.mp hi).1
    exact wpAny_onRaise (yf (v:=.non) I10 hN hi hk (by rw[KQ hl]) hQ)
   cases f with
   |next=>obtain⟨σ9,H9,I9,q⟩:=q9;exact back I9 λs' I'=>⟨_,H9,I',q⟩
   |brk=>obtain⟨σ9,H9,I9,q⟩:=q9;exact back I9 λs' I'=>⟨_,H9,I',q⟩
   |cont=>obtain⟨σ9,H9,I9,q⟩:=q9;exact back I9 λs' I'=>⟨_,H9,I',q⟩
   |ret u=>obtain⟨v,σ9,H9,I9,r,q⟩:=q9;exact back I9 λs' I'=>⟨v,_,H9,I',r,q⟩
  refine p7 hfr' hfn' hfr rc λh4 T2 kp4 sl4 tn rc4=>mZ (s:={s3 with heap:=h4}) rc4 λh5 k5 rc5=>?_
  rw[<-hst] at kp4 sl4
  obtain⟨kp5,sl5⟩:=more tn k5 kp4 sl4
  exact key tn rc5 kp5 sl5
 ·cases f with
  |next=>exact ML (SP.ofTry q)
  |brk=>exact SP.ofTry q
  |cont=>exact SP.ofTry q
  |ret u=>exact SP.ofTry q
end
structure kP (k:Nat)(A:Around):Prop where
 dp:A.depth + 3 * k + 5 < recursionLimit
 un:A.units + 16 * k + 200 < cLine
 gd:A.guards=some []
def di.h {k:Nat}{A:Around}(r:di k A):kP k A:=⟨r.dp,r.un,r.gd⟩
def di.mark {k:Nat}{A:Around}(r:di k A)(v:Option Value):kP k (A.mark v):=⟨r.dp,r.un,r.gd⟩
def kP.deeper {k:Nat}{A:Around}(r:kP (k + 1) A)(env:Env):kP k (A.deeper env):=
 ⟨by have:=r.dp;show A.depth + 1 + 3 * k + 5 < _;omega,by have:=r.un;show A.units + 3 + 16 * k + 200 < _;omega,r.gd⟩
structure pA (P:Program)(w:World)(K:Frag)(mg:Str->Option Value)(base:Heap)(CX:sY)(k:Nat)(f:Addr)(fd:FuncData)(ps:List Str)(sp:Sp):Prop where
 len:∀vs H Q E,sp vs H Q E->vs.length=ps.length
 run:∀(A:Around) (outer:List Env) (s:Shared) (H:Hp) (args:Args) (us:List Value) (vs:List V) (Q:VK) (E:XK),kP k A->u6 P w K mg base A outer s H->BindsTo s fd args (ps.zip us)->Vals vs us->sp vs H Q E->
  codeAny (model P w) A (.call (.ref f) args) (CR CX outer P w H s Q E) s
abbrev xp (CX:sY)(P:Program)(w:World)(K:Frag)(mg:Str->Option Value)(base:Heap)(N:List Str)(qual:Str)(scope:Scope)(f:Addr)(cd:Value)(A:Around)(outer:List Env)(s:Shared)(H:Hp)(E:XK):Cx:=
 {jG CX P w K mg base N qual scope f cd A outer s H E with calm:=false}
def uW {CX:sY}{P:Program}{w:World}{K:Frag}{mg:Str->Option Value}{base:Heap}{N ps:List Str}{qual:Str}{scope:Scope}{f:Addr}{cd:Value}{A:Around}{outer:List Env}{s s1:Shared}{H:Hp}{E:XK}{us:List Value}{vs:List V}
  (S:aB N ps scope) (e0:u6 P w K mg base A outer s H) (hl:vs.length=ps.length) (r:Vals vs us)
  (x:InCallC s s.heap.objs.size (bindL (envOfC qual scope s.heap.objs.size f cd).kindOf (ps.zip us) λ_=>none) (cellsFrom (s.heap.objs.size + 1) scope.names []) (bindC (envOfC qual scope s.heap.objs.size f cd).kindOf (ps.zip us) λ_=>none) s1) :
  Inv (xp CX P w K mg base N qual scope f cd A outer s H E) [] (start N vs) H s1:=by
 have e1:u6 P w K mg base {A with handled:=none} outer s H:=⟨e0.frames,e0.mod,e0.bs,e0.bsz,e0.funs,e0.frf,e0.hok,e0.bare⟩
 have I:=p4 (CX:=CX) (E:=E) (A:={A with handled:=none}) S rfl e1 hl r x
 exact⟨⟨I.ok.mod,I.ok.kind,I.ok.glob,I.ok.blt,I.ok.above,I.ok.inj,I.ok.has,I.ok.cab,λz=>absurd z K2,Around.frames_deeper e0.frames,I.ok.stk,I.ok.exf,I.ok.bs,I.ok.bsz,I.ok.noex,I.ok.exfs,I.ok.funs,I.ok.frf⟩,I.os,I.bare,I.base,I.loc,I.cell,I.free,I.freeC,I.pin,I.hok,I.len⟩
section
variable {P:Program}{w:World}{K:Frag}{mg:Str->Option Value}{base:Heap}
theorem y7.okH {x qual:Str}{st:Stmt}{f:Addr}{fd:FuncData}{N ps:List Str}{k:Nat}{sp:Sp}(F:y7 K x qual st f fd)(S:aB N ps (ak st))(len:∀vs H Q E,sp vs H Q E->vs.length=ps.length)
  (hbody:∀(cdv:Value) (A:Around) (outer:List Env) (s:Shared) (H:Hp) (vs:List V) (Q:VK) (E:XK),kP k (A.deeper (envOfC qual (ak st) s.heap.objs.size f cdv))->sp vs H Q E->
   ∃t,mH (xp u5 P w K mg base N qual (ak st) f cdv A outer s H E).nox (bJ st) t/\t {nx:=λ_ H'=>Q .non H',rt:=Q} (start N vs) H):pA P w K mg base u5 (k + 1) f fd ps sp:=by
 obtain⟨oc,od,kV,doc,pm,an,cdv,ct,osl,rfl,lk,hcd⟩:=F.ex
 refine⟨len,λA outer s H args us vs Q E hr e0 hb r hsp=>?_⟩
 have hl:=len _ _ _ _ hsp
 have KX:K.In s.heap:=e0.mod.kin.keeps λb o e=>(e0.bs b o e).1
 have lim:s.heap.NoLimit:=e0.mod.nolimit.keeps λb o e=>(e0.bs b o e).1
 have hkind:∀y∈ps.zip us,(ak st).names.lookup y.1=some .local\/((ak st).names.lookup y.1=some .cell/\((cellsFrom (s.heap.objs.size + 1) (ak st).names []).lookup y.1).isSome=true):=λ⟨n,v⟩ hy=>by
  rcases S.par n (of_mem_zip hy).1 with q |q
  ·exact .inl q
  ·exact .inr ⟨q,PySem.W.cellsFrom_some _ _ _ (.inl q)⟩
 have hdep:A.depth < recursionLimit:=by have:=hr.dp;omega
 refine codeAny_call_function hdep (KX _ _ lk) rfl S.co S.gen rfl (PySem.W.codeRec_of KX hcd) (hb _ _ _ _ ?_)
 refine wpAny_newFunctionEnv_cells S.kind hkind λenv he s1 x=>?_
 subst he
 refine⟨lim.keeps x.toInCall.keep,codeAny_func ?_⟩
 obtain⟨t,ht,hq⟩:=hbody cdv A outer s H vs Q E (hr.deeper _) hsp
 have I:Inv (xp u5 P w K mg base N qual (ak st) f cdv A outer s H E) [] (start N vs) H s1:=uW S e0 hl r x
 refine L3 (ht.nox [] s1 (start N vs) H _ I hq) (λfl s' hs=>?_) λe s' hs=>hs
 have fin:∀{σ':St} {H':Hp} {v:V} {u:Value},Inv (xp u5 P w K mg base N qual (ak st) f cdv A outer s H E) [] σ' H' s'->RelV v u->Q v H'->CE outer P w H s Q u s':=
  λ{σ' H' v u} J rv q=>⟨v,H',J.os,J.bare,J.base,J.hok,rv,q⟩
 cases fl with
 |ret u=>
  obtain⟨v,σ',H',J,rv,q⟩:=hs
  exact fin J rv q
 |next=>
  obtain⟨σ',H',J,q⟩:=hs
  exact fin (v:=V.non) (u:=Value.none) J rfl q
 |brk=>
  obtain⟨_,_,_,q⟩:=hs
  exact False.elim q
 |cont=>
  obtain⟨_,_,_,q⟩:=hs
  exact False.elim q
def y7.D8 {x qual:Str}{st:Stmt}{f:Addr}{fd:FuncData}{N ps:List Str}{k:Nat}{sp:Sp}(F:y7 K x qual st f fd)(S:aB N ps (ak st))(len:∀vs H Q E,sp vs H Q E->vs.length=ps.length)
  (hbody:∀(cdv:Value) (A:Around) (outer:List Env) (s:Shared) (H:Hp) (vs:List V) (Q:VK) (E:XK),di k (A.deeper (envOfC qual (ak st) s.heap.objs.size f cdv))->sp vs H Q E->
   ∃t,mH (jG (kW P w) P w K mg base N qual (ak st) f cdv A outer s H E) (bJ st) t/\t {nx:=λ_ H'=>Q .non H',rt:=Q} (start N vs) H):ff P w K mg base (kW P w) (k + 1) f fd ps sp:=by
 obtain⟨oc,od,kV,doc,pm,an,cdv,ct,osl,rfl,lk,hcd⟩:=F.ex
 exact DF lk hcd S len λA outer s H vs Q E hr hsp=>hbody cdv A outer s H vs Q E hr hsp
end
section
variable {X:Cx}{CX:sY}{k:Nat}{f:Addr}{fd:FuncData}{ps:List Str}{sp:Sp}{dvs:List V}{ds:List Value}{E:XK}{x:Str}{p pos:Pos}{e:Expr}{es:List Expr}{t:TA}
theorem zF (F:pA X.prog X.w X.K X.mg X.base CX k f fd ps sp)(hr:kP k X.A)(hg:Gl X x)(hm:X.mg x=some (.ref f))(hk:PySem.W.keepIn X.K (.ref f)=true)(hb:Binds X.K fd ps ds)(hd:Vals dvs ds)(hx:Passes CX X E)
  (ha:PA X (e :: es) t) (hdb:(x == ("__debug__":Str))=false:=by decide) (he:starEach (e :: es) X.env=(false,eval e X.env) :: starEach es X.env:=by rfl) (hpl:(backTo pos (starEach es X.env)).any (·.1)=false:=by rfl) :
  PE X (.Call (.Name x p) (e :: es) [] pos) (DC sp dvs E t):=by
 intro pins s σ H Q I h
 refine Mf (ll I hg hm ?_ hdb)
 refine PySem.W.callWith_K (h₀:=X.base) I.ok.mod.kin hk (b7 (ha pos pins s σ H _ I h) λus s1 ⟨vs,H1,I1,r,q⟩=>⟨I1.kIn,?_⟩) he hpl
 have r2:Vals (vs ++ dvs) (us ++ ds):=r.append hd
 have hl:(us ++ ds).length=ps.length:=by rw[<-r2.length];exact F.len _ _ _ _ q
 refine wpAny_call (MF (F.run X.A X.stack s1 H1 ⟨us,[]⟩ (us ++ ds) (vs ++ dvs) Q E hr I1.env0 (hb s1 us I1.kIn hl) r2 q) λr s' hq=>?_)
 cases r with
 |error e=>exact hx pins σ H1 s1 e s' I1 hq
 |ok fl=>
  cases fl with
  |ret u=>exact I1.after hq
  |next=>exact False.elim hq
  |brk=>exact False.elim hq
  |cont=>exact False.elim hq
end
section
variable {prog:Program}{w:World}{A:Around}{E:Value->Shared->Prop}{s:Shared}{K:Frag}{x D:Addr}{ox:Obj}
structure tZ (K:Frag)(D:Addr):Prop where
 cl:(PySem.W.clsIn K D).isSome=true
 ga:PySem.W.findIn K (.ref D) "__getattribute__"=some (some (.builtin "BaseException.__getattribute__"))
 gn:PySem.W.findIn K (.ref D) "__getattr__"=some none
 cls:PySem.W.findIn K (.ref D) "__class__"=some (some (.builtin "object.__class__"))
 get:PySem.W.specialIn K (.builtin "object.__class__") "__get__"=some (some (.builtin "getset_descriptor.__get__"))
 tk:PySem.W.takesIn K (.builtin "object.__class__")=some true
 ob:PySem.W.mroIn K D (.type "object")=some true
 be:PySem.W.mroIn K D (.type "BaseException")=some true
def AI (e:tZ K D):PySem.W.findObj K D none "__class__"=some (.bind (.builtin "getset_descriptor.__get__") (.builtin "object.__class__")):=by
 obtain⟨cd,hc⟩:=Ms.mp e.cl
 unfold PySem.W.findObj
 rw[hc,Option.bind_some,e.cls,Option.bind_some]
 simp[e.get,e.tk]
def ye {M:Model}{nameV:Value}{Q:Unit->Shared->Prop}(e:tZ K D)(X:K.In s.heap)(I:PySem.W.InstAt s.heap x ox D none)(hq:Q () s):wpAny M A (checkBuiltinCall "BaseException.__getattribute__" ⟨[.ref x,nameV],[]⟩) Q E s:=by
 have hk:builtinKind "BaseException.__getattribute__"=some .slot:=by decide +kernel
 have hsp:splitId "BaseException.__getattribute__"=some ("BaseException","__getattribute__"):=by decide +kernel
 have ha:=F.args_bexc_ga (.ref x) nameV
 have L0:=I.type (M:=M)
 have L1:=PySem.W.looks_mroIn (M:=M) X e.be
 simp only[checkBuiltinCall,hk,hsp]
 obtain⟨hh,g,d,t,os⟩:=s
 refine KA ?_
 unfold isInstance
 repeat (first
  |with_reducible refine L0.at ?_
  |with_reducible refine L1.at ?_
  |wp_step)
 exact hq
def Cz {tk:Tok}{Q:Fin->Shared->Prop}(e:tZ K D)(X:K.In s.heap)(I:PySem.W.InstAt s.heap x ox D none)(hq:Q (.done (.ret (.ref D))) s):wpAny (model prog w) A (Builtin.«object.__getattribute__» ⟨[.ref x,.str "__class__" tk],[]⟩) Q E s:=by
 have L0:=I.type (M:=model prog w)
 have L1:=PySem.W.looks_find (M:=model prog w) X I (AI e)
 obtain⟨hh,g,d,t,os⟩:=s
 repeat (any_goals (first
  |assumption
  |with_reducible refine L0.at ?_
  |with_reducible refine L1.at ?_
  |wp_step))
 exact PySem.W.class_get X I e.ob (K3 hq)
def E1 {tk:Tok}{Q:Value->Shared->Prop}(FB:ExcAttrFacts "ValueError")(e:tZ K D)(X:K.In s.heap)(I:PySem.W.InstAt s.heap x ox D none)(hq:Q (.ref D) s):wpAny (model prog w) A (getAttrBy (.ref x) (.str "__class__" tk) false) Q E s:=by
 have f3:=FB.ga.bind (.ref x)
 have hx2:(Value.builtin "BaseException.__getattribute__" == Value.builtin "object.__getattribute__")=false:=by decide +kernel
 have hx1:(onTheHeap (Value.ref D) && Value.builtin "BaseException.__getattribute__" == Value.builtin "object.__getattribute__")=false:=by rw[hx2];rfl
 have L0:=I.type (M:=model prog w)
 have L1:=PySem.W.looks_findIn (M:=model prog w) X e.ga
 have L2:=PySem.W.looks_findIn (M:=model prog w) X e.gn
 obtain⟨hh,g,d,t,os⟩:=s
 repeat (any_goals (first
  |assumption
  |with_reducible refine L0.at ?_
  |with_reducible refine L1.at ?_
  |with_reducible refine L2.at ?_
  |wp_step))
 exact codeAny_call_builtin FB.ga.plain F.entry_bexc_ga (ye e X I (Cz e X I (PySem.W.handed_on rfl hq)))
def AN {Q:Option Value->Shared->Prop}(FB:ExcAttrFacts "ValueError")(e:tZ K D)(X:K.In s.heap)(I:PySem.W.InstAt s.heap x ox D none)(hq:Q (some (.ref D)) {s with toks:=s.toks + 1}):wpAny (model prog w) A (getAttr? (.ref x) "__class__") Q E s:=by
 unfold getAttr? getAttrBy?
 exact KA (wpAny_mkText (KA (wpAny_attempt (E1 FB e X I (K3 hq)))))
def iw.inst {h:Heap}(i:iw x (.ref D) h):∃ox,PySem.W.InstAt h x ox D none:=by
 obtain⟨o,vs,a,b,c,d⟩:=i
 exact⟨o,a,b,by unfold PySem.W.notCls;rw[d],by rw[c];trivial⟩
def zI (e:tZ K D):PySem.W.KitX K (.ref x) (.ref D) (iw x (.ref D)) where
 ty:=λ_ _ _ i=>let ⟨_,I⟩:=i.inst;I.type
 it:=λ_ _ X _=>by
  obtain⟨cdD,hcD⟩:=Ms.mp e.cl
  unfold PySem.W.clsIn at hcD
  split at hcD
  ·rename_i c' d' cd' sl' ho
   intro A' Q' E' s' k q
   unfold isType loadHead
   exact KA (wpAny_loadPart (k _ _ (X _ _ ho)) (K3 q))
  ·cases hcD
 ne:=λh tp dd its n sl X htp=>by
  obtain⟨cdD,hcD⟩:=Ms.mp e.cl
  refine Bool.eq_false_iff.mpr λq=>?_
  have e:D=tp:=Value.ref.inj (beq_iff_eq.mp q)
  subst e
  unfold PySem.W.clsIn at hcD
  split at hcD
  ·rename_i c' d' cd' sl' ho
   have z:=(X _ _ ho).symm.trans htp
   cases z
  ·cases hcD
 ca:=λX i k=>let ⟨_,I⟩:=i.inst;AN F.excAttr_ValueError e X I k
end
end L2
namespace L2
open PySem PySem.SeqAt PySem.Spec PyProof.Rows
section
variable {X:Cx}
def Hx (K:Frag):List V->Hp->VK->Prop:=λxs H Q=>∃(x D:Addr) (c:V) (C:Value) (b:Bool),xs= [.ref x,c]/\(∀u,RelV c u->u=C)/\H x=some (.ext (iw x (.ref D)))/\tZ K D/\PySem.W.kitOne K (.ref D) C=some b/\Q (.bl b) H
def bw:cM X (.builtin "isinstance") (Hx X.K):=by
 intro pins s σ H xs us Q I r h
 obtain⟨x,D,c,C,b,rfl,hc,hx,e,k,q⟩:=h
 obtain⟨u,v,rfl,rx,rc⟩:=vals2 r
 cases rx
 rw[hc v rc]
 obtain⟨p,_,_⟩:=(show bM X.prog X.w H s.heap x (.ext (iw x (.ref D))) from I.hok x _ hx)
 exact Lr (zI e) I.kIn p k (λz=>nomatch z) λtk=>⟨.bl b,H,I.tok tk,rfl,q⟩
theorem kq:∀{bs:List Bool} {us:List Value},Vals (bs.map V.bl) us->us=bs.map Value.bool
 | [],_,.nil=>rfl
 |b :: bs,_,.cons r rs=>by rw[kq rs];cases r;rfl
def sC {bs:List Bool}(k:Bool)(A:Around)(s:Shared)(y:Value)(hy:y∈bs.map Value.bool):EqAt A s y (.bool k) (isBoolOf k y):=by
 obtain⟨b,_,rfl⟩:=Lo.mp hy
 exact EqAt.bool_bool b k
theorem rn (k:Bool)(bs:List Bool):(bs.map Value.bool).countP (isBoolOf k)=bs.count k:=by
 induction bs with
 |nil=>rfl
 |cons b bs ih=>rw[Ln,List.countP_cons,List.count_cons,ih];cases b <;> cases k <;> rfl
def Cb (K:Frag):V->List V->Hp->VK->Prop:=λx vs H Q=>∃(a:Addr) (bs:List Bool) (k:Bool),x=.ref a/\vs= [.bl k]/\fx K H a (bs.map V.bl)/\Q (.int (bs.count k:Nat)) H
def yx:Et X "list.count" (Cb X.K):=by
 intro pins s σ H x vs v us Q I rx rv h
 obtain⟨a,bs,k,rfl,rfl,hq,q⟩:=h
 cases rx
 obtain⟨u,rfl,ru⟩:=vals1 rv
 cases ru
 obtain⟨its,rs,pl,hz⟩:=I.list hq
 have hits:=kq rs
 subst hits
 obtain⟨⟨cls,dd,data,sl⟩,ho,hc,n,hd⟩:=id pl.isList
 simp only at hc hd
 subst hc hd
 refine MH PySem.F.slot_list_count ⟨_,ho,rfl⟩ PySem.F.entry_list_count (PySem.F.args_list_count_2 _ _) (list_countAt a (bs.map Value.bool).toArray n dd sl (.bool k) (isBoolOf k)) ⟨ho,λy hy=>sC k _ _ y (by simpa using hy),?_⟩
 rw[show (bs.map Value.bool).toArray.toList=bs.map Value.bool from rfl,rn]
 exact⟨.int (bs.count k:Nat),H,I.tok _,⟨_,rfl⟩,q⟩
def Cu (K:Frag):V->List V->Hp->VK->Prop:=λx vs H Q=>∃(a:Addr) (bs:List Bool) (k:Bool),x=.ref a/\vs= [.bl k]/\fx K H a (bs.map V.bl)/\k∈bs/\Q (.int (bs.idxOf k:Nat)) H
def xR:Et X "list.index" (Cu X.K):=by
 intro pins s σ H x vs v us Q I rx rv h
 obtain⟨a,bs,k,rfl,rfl,hq,hk,q⟩:=h
 cases rx
 obtain⟨u,rfl,ru⟩:=vals1 rv
 cases ru
 obtain⟨its,rs,pl,hz⟩:=I.list hq
 have hits:=kq rs
 subst hits
 obtain⟨⟨cls,dd,data,sl⟩,ho,hc,n,hd⟩:=id pl.isList
 simp only at hc hd
 subst hc hd
 have hj:bs.idxOf k < bs.length:=Lu.mpr hk
 have hsz:(sizeLine:Int) < 2 ^ 63 - 1:=by decide +kernel
 rw[KD] at hz
 refine MH PySem.F.slot_list_index ⟨_,ho,rfl⟩ PySem.F.entry_list_index (PySem.F.args_list_index_2 _ _)
  (list_indexAt a (bs.map Value.bool).toArray n dd sl (.bool k) (isBoolOf k) (bs.idxOf k) (by simpa using hj) (by omega) ?_ ?_) ⟨ho,λy hy=>sC k _ _ y (by simpa using hy),?_⟩
 ·simp[isBoolOf,Mg hj]
 ·intro m hm hlt
  have hm':m < bs.length:=by simpa using hm
  have hne:bs[m]≠k:=λz=>by
   have:=List.not_of_lt_findIdx (p:=(· == k)) hlt
   simp[z] at this
  simpa[isBoolOf] using hne
 ·exact⟨.int (bs.idxOf k:Nat),H,I.tok _,⟨_,rfl⟩,q⟩
end
end L2
namespace L2
open PySem PySem.Spec PyProof.Rows
section
variable {X:Cx}
def qb (hu:X.A.units + 100 < cLine):lK X (compareOp .NotIn) (Hw X.K true):=by
 intro pins s σ H x y v u Q I rx ry h
 obtain⟨p,xs,d,ds,rfl,hq,hs,hx,s1,s2,q⟩:=h
 cases ry
 obtain⟨bs,r2⟩:=hx.reads I rx
 have key:∀{e:PyData} {as:List Addr} {u:Value},SeqAt.shaped e=true->Reads s.heap u e as->SeqAt.EqAt X.A.in1 s u v (PyData.eqv e d):=λ{e as u} h1 h2=>by
  refine SeqAt.eqAt_reads _ _ _ _ _ _ _ _ h2 r2 (MD h1) (MD s1) ?_
  have:=SeqAt.depth_of_shaped h1
  show X.A.units + 1 + _ < _
  omega
 rcases hq with hq |hq
 ·obtain⟨its,r,pl,hz⟩:=I.list hq
  obtain⟨f,e1,e2⟩:=uo I d r hs s2
  refine SeqAt.notIn_listAt f pl.isList (λw hw=>?_) ⟨.bl _,H,I,rfl,?_⟩
  ·obtain⟨e,as,hm,rd,ef⟩:=e2 w (by simpa using hw)
   rw[ef];exact key (s2 e hm) rd
  ·rw[show its.toArray.any f=its.any f by simp,e1];exact q
 ·obtain⟨its,r,pl,hz⟩:=I.tuple hq
  obtain⟨f,e1,e2⟩:=uo I d r hs s2
  refine SeqAt.notIn_tupleAt f pl (λw hw=>?_) ⟨.bl _,H,I,rfl,?_⟩
  ·obtain⟨e,as,hm,rd,ef⟩:=e2 w (by simpa using hw)
   rw[ef];exact key (s2 e hm) rd
  ·rw[show its.toArray.any f=its.any f by simp,e1];exact q
end
abbrev D:=PyData
def kD:Key->D
 | .inl i=>.int i
 | .inr x=>.str x
mutual
inductive Rp (K:Frag)(G:Hp):V->D->Prop
 |non:Rp K G .non .none
 |bl (b:Bool):Rp K G (.bl b) (.bool b)
 |int (i:Int):Rp K G (.int i) (.int i)
 |str (x:Str):Rp K G (.str x) (.str x)
 |tup {a:Addr} {xs:List V} {ds:List D}:fw K G a xs->bH K G xs ds->Rp K G (.ref a) (.tuple ds)
 |lst {a:Addr} {xs:List V} {ds:List D}:G a=some (.lst xs)->bH K G xs ds->Rp K G (.ref a) (.list ds)
 |scr {a:Addr} {ns:List Int}:fx K G a (ns.map V.int)->Rp K G (.ref a) (.dict [(.none,.list (ns.map int))])
 |dK {a:Addr} {kvs:List (Key×V)} {ds:List (D×D)}:G a=some (.dK kvs)->xX K G kvs ds->Rp K G (.ref a) (.dict ds)
 |dT {a:Addr} {kvs:List (List Key×V)} {ds:List (D×D)}:G a=some (.dT kvs)->za K G kvs ds->Rp K G (.ref a) (.dict ds)
inductive bH (K:Frag)(G:Hp):List V->List D->Prop
 |nil:bH K G [] []
 |cons {x:V} {xs:List V} {d:D} {ds:List D}:Rp K G x d->bH K G xs ds->bH K G (x :: xs) (d :: ds)
inductive xX (K:Frag)(G:Hp):List (Key×V)->List (D×D)->Prop
 |nil:xX K G [] []
 |cons {k:Key} {x:V} {xs:List (Key×V)} {d:D} {ds:List (D×D)}:Rp K G x d->xX K G xs ds->xX K G ((k,x) :: xs) ((kD k,d) :: ds)
inductive za (K:Frag)(G:Hp):List (List Key×V)->List (D×D)->Prop
 |nil:za K G [] []
 |cons {k:List Key} {x:V} {xs:List (List Key×V)} {d:D} {ds:List (D×D)}:Rp K G x d->za K G xs ds->za K G ((k,x) :: xs) ((.tuple (k.map kD),d) :: ds)
end
section
variable {K:Frag}{G G' H H':Hp}
def HH {b:Addr}{o:HO}(h:Kt H b o)(hu:∀ps,o≠.iO ps):H b=some o:=by
 obtain⟨u,e,k,_⟩:=h.some
 rw[e,k hu]
theorem jI {a b:Addr}{o u:HO}(h:Kt H b u)(hb:b≠a)(ha:∀x y,H a≠some (.aN x y)):Kt (upd H a o) b u:=by
 cases u with
 |iO ps=>
  obtain⟨m,e,k⟩:=h
  refine⟨m,by rw[ao hb];exact e,λc hc=>?_⟩
  obtain⟨x,ex,ix⟩:=k c hc
  exact⟨x,by rw[ao (λz=>ha x _ (z▸ex))];exact ex,ix⟩
 |_=>exact (ao hb).trans h
def Rd.mono {a:Addr}{u:HO}(h:Rd G a u)(s:ai G G')(hu:∀ps,u≠.iO ps:=by intro _ z;cases z):Rd G' a u:=h.elim (λe=>.inl (HH (s _ _ e) hu)) λ⟨o,e⟩=>.inr ⟨o,s _ _ e⟩
mutual
theorem Rp.mono (s:ai G G'):∀{x:V} {d:D},Rp K G x d->Rp K G' x d
 |_,_,.non=>.non
 |_,_,.bl b=>.bl b
 |_,_,.int i=>.int i
 |_,_,.str x=>.str x
 |_,_,.tup h hs=>.tup (h.grow s.grow) (bH.mono s hs)
 |_,_,.lst h hs=>.lst (s _ _ h) (bH.mono s hs)
 |_,_,.scr h=>.scr (s.seq h)
 |_,_,.dK h hs=>.dK (s _ _ h) (xX.mono s hs)
 |_,_,.dT h hs=>.dT (s _ _ h) (za.mono s hs)
theorem bH.mono (s:ai G G'):∀{xs:List V} {ds:List D},bH K G xs ds->bH K G' xs ds
 |_,_,.nil=>.nil
 |_,_,.cons h hs=>.cons (Rp.mono s h) (bH.mono s hs)
theorem xX.mono (s:ai G G'):∀{xs:List (Key×V)} {ds:List (D×D)},xX K G xs ds->xX K G' xs ds
 |_,_,.nil=>.nil
 |_,_,.cons h hs=>.cons (Rp.mono s h) (xX.mono s hs)
theorem za.mono (s:ai G G'):∀{xs:List (List Key×V)} {ds:List (D×D)},za K G xs ds->za K G' xs ds
 |_,_,.nil=>.nil
 |_,_,.cons h hs=>.cons (Rp.mono s h) (za.mono s hs)
end
theorem bH.len:∀{xs:List V} {ds:List D},bH K G xs ds->xs.length=ds.length
 |_,_,.nil=>rfl
 |_,_,.cons _ t=>by simp[bH.len t]
theorem bH.at:∀{xs:List V} {ds:List D} {i:Nat} {d:D},bH K G xs ds->ds[i]? =some d->∃x,xs[i]? =some x/\Rp K G x d
 |_,_,_,_,.nil,e=>by simp at e
 |_,_,0,_,.cons r _,e=>by simp at e;subst e;exact⟨_,rfl,r⟩
 |_,_,i + 1,x,.cons _ t,e=>by
  obtain⟨u,h1,h2⟩:=bH.at (i:=i) (d:=x) t (by simpa using e)
  exact⟨u,by simpa using h1,h2⟩
theorem bH.at':∀{xs:List V} {ds:List D} {i:Nat} {x:V},bH K G xs ds->xs[i]? =some x->∃d,ds[i]? =some d/\Rp K G x d
 |_,_,_,_,.nil,e=>by simp at e
 |_,_,0,_,.cons r _,e=>by simp at e;subst e;exact⟨_,rfl,r⟩
 |_,_,i + 1,x,.cons _ t,e=>by
  obtain⟨u,h1,h2⟩:=bH.at' (i:=i) (x:=x) t (by simpa using e)
  exact⟨u,by simpa using h1,h2⟩
theorem bH.append:∀{xs ys:List V} {ds es:List D},bH K G xs ds->bH K G ys es->bH K G (xs ++ ys) (ds ++ es)
 |_,_,_,_,.nil,s=>s
 |_,_,_,_,.cons r t,s=>.cons r (bH.append t s)
def bH.snoc {xs:List V}{ds:List D}{x:V}{d:D}(h:bH K G xs ds)(q:Rp K G x d):bH K G (xs ++ [x]) (ds ++ [d]):=h.append (.cons q .nil)
theorem bH.take:∀{xs:List V} {ds:List D} (n:Nat),bH K G xs ds->bH K G (xs.take n) (ds.take n)
 |_,_,0,_=>.nil
 |_,_,_ + 1,.nil=>.nil
 |_,_,n + 1,.cons r t=>.cons r (bH.take n t)
theorem bH.drop:∀{xs:List V} {ds:List D} (n:Nat),bH K G xs ds->bH K G (xs.drop n) (ds.drop n)
 |_,_,0,r=>r
 |_,_,_ + 1,.nil=>.nil
 |_,_,n + 1,.cons _ t=>bH.drop n t
theorem bH.set {x:V}{d:D}(r:Rp K G x d):∀{xs:List V} {ds:List D} (i:Nat),bH K G xs ds->bH K G (xs.set i x) (ds.set i d)
 |_,_,_,.nil=>.nil
 |_,_,0,.cons _ t=>.cons r t
 |_,_,i + 1,.cons q t=>.cons q (bH.set r i t)
theorem bH.rep {n:Nat}{xs:List V}{ds:List D}(h:bH K G xs ds):bH K G (List.replicate n xs).flatten (List.replicate n ds).flatten:=by
 induction n with
 |zero=>exact .nil
 |succ n ih=>rw[LB,LB,L9,L9];exact h.append ih
mutual
def zb:D->Bool
 | .dict _=>false
 | .list ds=>pj ds
 | .tuple ds=>pj ds
 |_=>true
def pj:List D->Bool
 | []=>true
 |d :: ds=>zb d && pj ds
end
mutual
theorem Rp.rep:∀{x:V} {d:D},Rp K G x d->zb d=true->Rep K G x d
 |_,_,.non,_=>.non
 |_,_,.bl b,_=>.bl b
 |_,_,.int i,_=>.int i
 |_,_,.str x,_=>.str x
 |_,_,.tup h hs,e=>.tup h (bH.reps hs (by simpa[zb] using e))
 |_,_,.lst h hs,e=>.lst (.inl (.inl h)) (bH.reps hs (by simpa[zb] using e))
 |_,_,.scr _,e=>by simp[zb] at e
 |_,_,.dK _ _,e=>by simp[zb] at e
 |_,_,.dT _ _,e=>by simp[zb] at e
theorem bH.reps:∀{xs:List V} {ds:List D},bH K G xs ds->pj ds=true->jB K G xs ds
 |_,_,.nil,_=>.nil
 |_,_,.cons h hs,e=>.cons (Rp.rep h (by simp[pj] at e;exact e.1)) (bH.reps hs (by simp[pj] at e;exact e.2))
end
def Own (K:Frag)(G H:Hp)(a:Addr):D->Prop
 | .list ds=>∃xs,H a=some (.lst xs)/\bH K G xs ds
 | .dict ds=>(∃kvs,H a=some (.dK kvs)/\xX K G kvs ds)\/∃kvs,H a=some (.dT kvs)/\za K G kvs ds
 |_=>False
def Own.obj {a:Addr}{d:D}(h:Own K G H a d):∃o,H a=some o:=by
 cases d <;> first |exact h.elim |skip
 ·obtain⟨xs,e,_⟩:=h;exact⟨_,e⟩
 ·rcases h with⟨_,e,_⟩ | ⟨_,e,_⟩ <;> exact⟨_,e⟩
def Own.mono {a:Addr}{d:D}(h:Own K G H a d)(s:ai G G')(m:∀o,H a=some o->Kt H' a o):Own K G' H' a d:=by
 cases d <;> first |exact h.elim |skip
 ·obtain⟨xs,e,r⟩:=h;exact⟨xs,m _ e,r.mono s⟩
 ·rcases h with⟨k,e,r⟩ | ⟨k,e,r⟩
  ·exact .inl ⟨k,m _ e,r.mono s⟩
  ·exact .inr ⟨k,m _ e,r.mono s⟩
def Own.rp {a:Addr}{d:D}(h:Own K G H a d)(n:G a=none){G':Hp}(s:ai G G')(e:∀o,H a=some o->G' a=some o):Rp K G' (.ref a) d:=by
 cases d <;> first |exact h.elim |skip
 ·obtain⟨xs,q,r⟩:=h;exact .lst (e _ q) (r.mono s)
 ·rcases h with⟨k,q,r⟩ | ⟨k,q,r⟩
  ·exact .dK (e _ q) (r.mono s)
  ·exact .dT (e _ q) (r.mono s)
def ky (K:Frag)(B:Option Addr)(G H:Hp)(v:V)(d:D):Prop:=Rp K G v d\/∃a,v=.ref a/\B≠some a/\Own K G H a d
def gu (B:Option Addr)(H H':Hp):Prop:=(∀b o,H b=some o->B≠some b->Kt H' b o)/\∀b o u,H b=some (.aN o u)->H' b=some (.aN o u)
def gu.refl (B:Option Addr)(H:Hp):gu B H H:=⟨λ_ _ h _=>Kt.of h,λ_ _ _ h=>h⟩
theorem vg {B:Option Addr}{b:Addr}{o:HO}(h1:Kt H b o)(y:gu B H H')(n:B≠some b):Kt H' b o:=by
 cases o with
 |iO ps=>
  obtain⟨m,e,k⟩:=h1
  obtain⟨m2,e2,k2⟩:=y.1 b _ e n
  refine⟨m ++ m2,by rw[e2,Array.append_assoc],λc hc=>?_⟩
  rw[Array.toList_append,Lk] at hc
  rcases hc with hc |hc
  ·obtain⟨o,eo,io⟩:=k c hc;exact⟨o,y.2 c _ _ eo,io⟩
  ·exact k2 c hc
 |_=>exact y.1 b _ h1 n
def gu.trans {B:Option Addr}{H1:Hp}(x:gu B H H1)(y:gu B H1 H'):gu B H H':=⟨λb o h n=>vg (x.1 b o h n) y n,λb o u h=>y.2 b o u (x.2 b o u h)⟩
def ai.mov (s:ai H H')(B:Option Addr):gu B H H':=⟨λb o h _=>s b o h,λb o u h=>s b _ h⟩
def ky.mono {B:Option Addr}{v:V}{d:D}(h:ky K B G H v d)(s:ai G G')(m:gu B H H'):ky K B G' H' v d:=by
 rcases h with h | ⟨a,e,n,h⟩
 ·exact .inl (h.mono s)
 ·exact .inr ⟨a,e,n,h.mono s λo q=>m.1 a o q n⟩
def ky.rpH {B:Option Addr}{v:V}{d:D}(h:ky K B G H v d)(s:ai G H):Rp K H v d:=by
 rcases h with h | ⟨a,rfl,n,h⟩
 ·exact h.mono s
 ·cases d <;> first |exact h.elim |skip
  ·obtain⟨xs,q,r⟩:=h;exact .lst q (r.mono s)
  ·rcases h with⟨k,q,r⟩ | ⟨k,q,r⟩
   ·exact .dK q (r.mono s)
   ·exact .dT q (r.mono s)
def ky.list {B:Option Addr}{v:V}{ds:List D}(h:ky K B G H v (.list ds))(s:ai G H):∃a xs,v=.ref a/\Rd H a (.lst xs)/\bH K G xs ds:=by
 rcases h with h | ⟨a,rfl,n,xs,q,r⟩
 ·cases h with
  |lst h r=>exact⟨_,_,rfl,.inl (s _ _ h),r⟩
 ·exact⟨a,xs,rfl,.inl q,r⟩
def ky.tuple {B:Option Addr}{v:V}{ds:List D}(h:ky K B G H v (.tuple ds))(s:ai G H):∃a xs,v=.ref a/\fw K H a xs/\bH K G xs ds:=by
 rcases h with h | ⟨a,rfl,n,h⟩
 ·cases h with
  |tup h r=>exact⟨_,_,rfl,h.grow s.grow,r⟩
 ·exact h.elim
def ky.int {B:Option Addr}{v:V}{i:Int}(h:ky K B G H v (.int i)):v=.int i:=by
 rcases h with h | ⟨a,rfl,n,h⟩
 ·cases h;rfl
 ·exact h.elim
def ky.bool {B:Option Addr}{v:V}{b:Bool}(h:ky K B G H v (.bool b)):v=.bl b:=by
 rcases h with h | ⟨a,rfl,n,h⟩
 ·cases h;rfl
 ·exact h.elim
def ky.str {B:Option Addr}{v:V}{x:Str}(h:ky K B G H v (.str x)):v=.str x:=by
 rcases h with h | ⟨a,rfl,n,h⟩
 ·cases h;rfl
 ·exact h.elim
def ky.none {B:Option Addr}{v:V}(h:ky K B G H v .none):v=.non:=by
 rcases h with h | ⟨a,rfl,n,h⟩
 ·cases h;rfl
 ·exact h.elim
end
def Fz:HO->Prop
 | .tup _=>True
 | .aN _ _=>True
 |_=>False
def Mx (H:Hp)(b:Addr):Prop:=H b≠none/\∀o,H b=some o->¬Fz o
def Mx.lst {H:Hp}{b:Addr}{xs:List V}(h:H b=some (.lst xs)):Mx H b:=⟨by rw[h];simp,λys z=>by rw[h] at z;cases z;exact λy=>y⟩
theorem Mx.same {H H':Hp}{b:Addr}(h:Mx H b)(m:∀o,H b=some o->Kt H' b o):Mx H' b:=by
 obtain⟨h1,h2⟩:=h
 cases e:H b with
 |none=>exact absurd e h1
 |some o=>
  obtain⟨u,eu,k1,k2⟩:=(m o e).some
  refine⟨by rw[eu];simp,λxs z=>?_⟩
  rw[eu] at z
  cases z
  by_cases c:∃ps,o=.iO ps
  ·obtain⟨ps,e⟩:=k2 c;rw[e];exact λy=>y
  ·rw[k1 λps e=>c ⟨ps,e⟩];exact h2 o e
def Own.mx {K:Frag}{G H:Hp}{a:Addr}{d:D}(h:Own K G H a d):Mx H a:=by
 cases d <;> first |exact h.elim |skip
 ·obtain⟨xs,e,_⟩:=h;exact Mx.lst e
 ·rcases h with⟨k,e,_⟩ | ⟨k,e,_⟩ <;> exact⟨by rw[e];simp,λys z=>by rw[e] at z;cases z;exact λy=>y⟩
open Classical in
noncomputable def ka (G H:Hp):Hp:=λb=>match G b with
 |some o=>some o
 |none=>match H b with
  |some o=>if Fz o then some o else none
  |none=>none
def j4 {G H:Hp}:ai G (ka G H):=λb o e=>Kt.of (by unfold ka;rw[e])
theorem xA {G H:Hp}(s:ai G H){b:Addr}{o:HO}(e:H b=some o)(f:Fz o):ka G H b=some o:=by
 unfold ka
 cases q:G b with
 |some u=>
  obtain⟨u',eu,k1,k2⟩:=(s b u q).some
  rw[e] at eu
  cases eu
  by_cases c:∃ps,u=.iO ps
  ·obtain⟨ps,z⟩:=k2 c;subst z;exact f.elim
  ·rw[k1 λps z=>c ⟨ps,z⟩]
 |none=>simp only[e];rw[KH f]
theorem sh {G H:Hp}(s:ai G H):ai (ka G H) H:=λb o e=>by
 unfold ka at e
 cases q:G b with
 |some u=>rw[q] at e;cases e;exact s b _ q
 |none=>
  rw[q] at e
  cases q2:H b with
  |none=>rw[q2] at e;cases e
  |some u=>
   rw[q2] at e
   dsimp only at e
   split at e
   ·cases e;exact Kt.of q2
   ·cases e
theorem xC {G H H':Hp}(hh:ai H H'){b:Addr}(m:Mx H b):ka G H' b=G b:=by
 unfold ka
 cases q:G b with
 |some u=>rfl
 |none=>
  obtain⟨h1,h2⟩:=m
  cases e:H b with
  |none=>exact absurd e h1
  |some o=>
   have hm:=(show Mx H b from⟨h1,h2⟩).same (hh b)
   cases e2:H' b with
   |none=>rfl
   |some u=>simp only;rw[KZ (hm.2 u e2)]
def nr {K:Frag}{G H:Hp}(s:ai G H){a:Addr}{xs:List V}(h:fw K H a xs):fw K (ka G H) a xs:=by
 rcases h with (h | ⟨o,h⟩) |h
 ·exact .inl (.inl (xA s h trivial))
 ·exact .inl (.inr ⟨o,xA s h trivial⟩)
 ·exact .inr h
structure Fx where
 K:Frag
 H0:Hp
 G0:Hp
 par:List Addr
 ca:Str->Addr
 br:Nat->Bool
 bx:Option Addr
inductive Sl where
 |no |fz (d:D) |ow (d:D) |bx |br (d:D)
abbrev En:=List Sl
inductive Nv where
 |no |da (d:D) |bx
def Sl.val:Sl->Nv
 | .no=>.no
 | .fz d=>.da d
 | .ow d=>.da d
 | .br d=>.da d
 | .bx=>.bx
def vl (env:En):List Nv:=env.map Sl.val
def Jc (Γ:Fx)(B:Option Addr)(G H:Hp)(i:Nat)(o:Option (Option V)):Sl->Prop
 | .no=>True
 | .fz d=>∃v,o=some (some v)/\Rp Γ.K G v d
 | .ow d=>∃a,o=some (some (.ref a))/\Γ.H0 a=none/\G a=none/\B≠some a/\Own Γ.K G H a d
 | .bx=>∃a,o=some (some (.ref a))/\B=some a
 | .br d=>Γ.br i=true/\∃a,o=some (some (.ref a))/\B≠some a/\a∉Γ.par/\Own Γ.K G H a d
structure SR (Γ:Fx)(B:Option Addr)(G H:Hp)(σ:St)(env:En)(β:Int):Prop where
 sub:ai G H
 old:ai Γ.G0 G
 new:∀b,Mx Γ.H0 b->Γ.G0 b=none->G b=none
 keep:∀b o,Γ.H0 b=some o->b∉Γ.par->Kt H b o
 pin:∀b,b∈Γ.par->Mx H b
 fix:∀b,Γ.bx=some b->B=some b
 box:∀b,B=some b->H b=some (.lst [.int β])/\G b=none/\(b∈Γ.par\/Γ.H0 b=none)
 len:σ.length=env.length
 slot:∀(i:Nat) (s:Sl),env[i]? =some s->Jc Γ B G H i (σ[i]?) s
 sep:∀(i j:Nat) (a:Addr) (d e:D),env[i]? =some (.ow d)->env[j]? =some (.ow e)->σ[i]? =some (some (.ref a))->σ[j]? =some (some (.ref a))->i=j
structure Ext (G H G' H':Hp):Prop where
 hh:ai H H'
 gg:ai G G'
 gh:ai G' H'
 on:∀b,Mx H b->G' b=G b
def Ext.refl {G H:Hp}(s:ai G H):Ext G H G H:=⟨ai.refl _,ai.refl _,s,λ_ _=>rfl⟩
def Ext.tups {G H H':Hp}(s:ai G H)(hh:ai H H'):Ext G H (ka G H') H':=⟨hh,j4,sh (s.trans hh),λ_ m=>xC hh m⟩
def Ext.new {G H:Hp}(s:ai G H){p:Addr}{o:HO}(h:H p=none):Ext G H (upd G p o) (upd H p o):=by
 refine⟨ai.new h,ai.new (s.free h),λb u e=>?_,λb hb=>?_⟩
 ·by_cases z:b=p
  ·subst z;rw[aj] at e;exact Kt.of (by rw[aj];exact e)
  ·rw[ao z] at e;exact jI (s b u e) z (λx y w=>by rw[h] at w;cases w)
 ·exact ao (λz=>hb.1 (by rw[z];exact h))
def Ext.own {G H:Hp}(s:ai G H){p:Addr}{o:HO}(h:H p=none):Ext G H G (upd H p o):=
 ⟨ai.new h,ai.refl _,s.trans (ai.new h),λ_ _=>rfl⟩
def Ext.trans {G H G1 H1 G2 H2:Hp}(x:Ext G H G1 H1)(y:Ext G1 H1 G2 H2):Ext G H G2 H2:=by
 refine⟨x.hh.trans y.hh,x.gg.trans y.gg,y.gh,λb hb=>?_⟩
 rw[y.on b (hb.same λo e=>x.hh b o e),x.on b hb]
section
variable {Γ:Fx}{B:Option Addr}{G H G' H':Hp}{σ:St}{env:En}{β:Int}
def SR.there (I:SR Γ B G H σ env β){b:Addr}(h:Γ.H0 b≠none):H b≠none:=by
 by_cases hp:b∈Γ.par
 ·exact (I.pin b hp).1
 ·cases e:Γ.H0 b with
  |none=>exact absurd e h
  |some o=>obtain⟨u,eu,_⟩:=(I.keep b o e hp).some;rw[eu];simp
def SR.thereM (I:SR Γ B G H σ env β){b:Addr}(h:Mx Γ.H0 b):Mx H b:=by
 by_cases hp:b∈Γ.par
 ·exact I.pin b hp
 ·exact h.same λo e=>I.keep b o e hp
def SR.ext (I:SR Γ B G H σ env β)(x:Ext G H G' H'):SR Γ B G' H' σ env β:=by
 refine⟨x.gh,I.old.trans x.gg,λb h1 h2=>?_,λb o h1 h2=>(I.keep b o h1 h2).step x.hh,λb hb=>?_,I.fix,λb e=>?_,I.len,λi s e=>?_,I.sep⟩
 ·rw[x.on b (I.thereM h1)];exact I.new b h1 h2
 ·exact (I.pin b hb).same λo e=>x.hh b o e
 ·obtain⟨h1,h2,h3⟩:=I.box b e
  exact⟨x.hh b _ h1,by rw[x.on b (Mx.lst h1)];exact h2,h3⟩
 ·have q:=I.slot i s e
  cases s with
  |no=>trivial
  |fz d=>obtain⟨v,h1,h2⟩:=q;exact⟨v,h1,h2.mono x.gg⟩
  |ow d=>
   obtain⟨a,h1,h2,h3,h4,h5⟩:=q
   exact⟨a,h1,h2,by rw[x.on a h5.mx];exact h3,h4,h5.mono x.gg λo q=>x.hh a o q⟩
  |bx=>exact q
  |br d=>obtain⟨b1,a,h1,h4,hp,h5⟩:=q;exact⟨b1,a,h1,h4,hp,h5.mono x.gg λo q=>x.hh a o q⟩
def iz (env:En)(i:Nat):En:=match env[i]? with
 |some (.ow d)=>env.set i (.fz d)
 |_=>env
def aN (L:List Nat)(env:En):En:=L.foldl iz env
def bZ (L M:List Nat)(env:En):aN (L ++ M) env=aN M (aN L env):=by unfold aN;rw[List.foldl_append]
def uI (env:En)(i:Nat)(s:Sl)(h:∀t,env[i]? =some t->t.val=s.val):vl (env.set i s)=vl env:=by
 unfold vl
 apply List.ext_getElem?
 intro j
 rw[KW,KW,List.getElem?_set]
 by_cases e:i=j
 ·subst e
  by_cases hi:i < env.length
  ·simp only[Mi,hi]
   have:=h _ (KR hi)
   simp[KR hi,this]
  ·simp only[Mi,hi,Mu]
   rw[LO (by omega)]
 ·simp[e]
def Df (env:En)(i:Nat):vl (iz env i)=vl env:=by
 unfold iz
 split
 ·rename_i d e
  exact uI _ _ _ λt ht=>by rw[e] at ht;cases ht;rfl
 ·rfl
theorem dQ (L:List Nat)(env:En):vl (aN L env)=vl env:=by
 unfold aN
 induction L generalizing env with
 |nil=>rfl
 |cons i L ih=>rw[foldl_cons,ih,Df]
theorem DT {i:Nat}{d:D}(h:(vl env)[i]? =some (.da d)):env[i]? =some (.fz d)\/env[i]? =some (.ow d)\/env[i]? =some (.br d):=by
 unfold vl at h
 rw[KW] at h
 cases e:env[i]? with
 |none=>rw[e] at h;simp at h
 |some s=>
  rw[e] at h
  cases s with
  |no=>simp[Sl.val] at h
  |fz d'=>simp[Sl.val] at h;subst h;exact .inl rfl
  |ow d'=>simp[Sl.val] at h;subst h;exact .inr (.inl rfl)
  |bx=>simp[Sl.val] at h
  |br d'=>simp[Sl.val] at h;subst h;exact .inr (.inr rfl)
theorem Hd {i:Nat}(h:(vl env)[i]? =some .bx):env[i]? =some .bx:=by
 unfold vl at h
 rw[KW] at h
 cases e:env[i]? with
 |none=>rw[e] at h;simp at h
 |some s=>
  rw[e] at h
  cases s with
  |bx=>rfl
  |_=>simp[Sl.val] at h
def SR.freeze (I:SR Γ B G H σ env β)(i:Nat)(hb:Γ.br i=false){d:D}(h:(vl env)[i]? =some (.da d)):∃G' v,SR Γ B G' H σ (iz env i) β/\ai G G'/\σ[i]? =some (some v)/\Rp Γ.K G' v d:=by
 rcases DT h with e |e |e
 ·obtain⟨v,h1,h2⟩:=I.slot i _ e
  exact⟨G,v,by unfold iz;rw[e];exact I,ai.refl _,h1,h2⟩
 rotate_left
 ·obtain⟨z,_⟩:=I.slot i _ e
  rw[hb] at z;cases z
 ·obtain⟨a,h1,h2,h3,h4,h5⟩:=I.slot i _ e
  obtain⟨o,ho⟩:=h5.obj
  have sG:ai G (upd G a o):=ai.new h3
  have hi:i < env.length:=(KN.mp e).1
  have hr:Rp Γ.K (upd G a o) (.ref a) d:=h5.rp h3 sG λo' q=>by rw[ho] at q;cases q;exact aj
  refine⟨upd G a o,.ref a,?_,sG,h1,hr⟩
  unfold iz
  rw[e]
  refine⟨λb u q=>?_,I.old.trans sG,λb n1 n2=>?_,I.keep,I.pin,I.fix,λb q=>?_,by rw[LJ];exact I.len,λj s q=>?_,λj k c d1 d2 q1 q2 q3 q4=>?_⟩
  ·by_cases z:b=a
   ·subst z;rw[aj] at q;cases q;exact Kt.of ho
   ·rw[ao z] at q;exact I.sub b u q
  ·rw[ao (λz=>n1.1 (by rw[z];exact h2))];exact I.new b n1 n2
  ·obtain⟨k1,k2,k3⟩:=I.box b q
   exact⟨k1,by rw[ao (λz=>h4 (by rw[<-z];exact q))];exact k2,k3⟩
  ·by_cases z:j=i
   ·subst z
    rw[KQ hi] at q
    cases q
    exact⟨.ref a,h1,hr⟩
   ·rw[KS (Ne.symm z)] at q
    have w:=I.slot j s q
    cases s with
    |no=>trivial
    |fz d'=>obtain⟨v,w1,w2⟩:=w;exact⟨v,w1,w2.mono sG⟩
    |ow d'=>
     obtain⟨c,w1,w2,w3,w4,w5⟩:=w
     have ca:c≠a:=λz2=>z (I.sep j i c d' d q e w1 (by rw[z2];exact h1))
     exact⟨c,w1,w2,by rw[ao ca];exact w3,w4,w5.mono sG λo q=>Kt.of q⟩
    |bx=>exact w
    |br d'=>obtain⟨b1,c,w1,w4,wp,w5⟩:=w;exact⟨b1,c,w1,w4,wp,w5.mono sG λo q=>Kt.of q⟩
  ·have ne:∀{j:Nat} {d':D},(env.set i (Sl.fz d))[j]? =some (.ow d')->env[j]? =some (.ow d'):=λ{j d'} q=>by
    by_cases z:j=i
    ·subst z;rw[KQ hi] at q;cases q
    ·rw[KS (Ne.symm z)] at q;exact q
   exact I.sep j k c d1 d2 (ne q1) (ne q2) q3 q4
theorem SR.aN (I:SR Γ B G H σ env β)(L:List Nat)(hb:∀i,i∈L->Γ.br i=false):∃G',SR Γ B G' H σ (aN L env) β/\ai G G':=by
 induction L generalizing env G with
 |nil=>exact⟨G,I,ai.refl _⟩
 |cons i L ih=>
  show ∃G',SR Γ B G' H σ (L2.aN L (iz env i)) β/\ai G G'
  have key:∃G1,SR Γ B G1 H σ (iz env i) β/\ai G G1:=by
   cases e:env[i]? with
   |none=>exact⟨G,by unfold iz;rw[e];exact I,ai.refl _⟩
   |some s=>
    cases s with
    |ow d=>
     obtain⟨G1,v,h1,h2,_⟩:=I.freeze i (hb i (KO ..)) (d:=d) (by unfold vl;rw[KW,e];rfl)
     exact⟨G1,h1,h2⟩
    |_=>exact⟨G,by unfold iz;rw[e];exact I,ai.refl _⟩
  obtain⟨G1,I1,s1⟩:=key
  obtain⟨G2,I2,s2⟩:=ih I1 λj hj=>hb j (KL _ hj)
  exact⟨G2,I2,s1.trans s2⟩
def SR.set (I:SR Γ B G H σ env β){i:Nat}(hi:i < env.length){v:V}{d:D}(h:Rp Γ.K G v d):SR Γ B G H (σ.set i (some v)) (env.set i (.fz d)) β:=by
 have hs:i < σ.length:=by rw[I.len];exact hi
 refine⟨I.sub,I.old,I.new,I.keep,I.pin,I.fix,I.box,by rw[LJ,LJ];exact I.len,λj s q=>?_,λj k c d1 d2 q1 q2 q3 q4=>?_⟩
 ·by_cases z:j=i
  ·subst z
   rw[KQ hi] at q
   cases q
   exact⟨v,by rw[KQ hs],h⟩
  ·rw[KS (Ne.symm z)] at q ⊢
   exact I.slot j s q
 ·have ne:∀{j:Nat} {d':D},(env.set i (Sl.fz d))[j]? =some (.ow d')->j≠i/\env[j]? =some (.ow d'):=λ{j d'} q=>by
   by_cases z:j=i
   ·subst z;rw[KQ hi] at q;cases q
   ·rw[KS (Ne.symm z)] at q;exact⟨z,q⟩
  obtain⟨n1,e1⟩:=ne q1
  obtain⟨n2,e2⟩:=ne q2
  rw[KS (Ne.symm n1)] at q3
  rw[KS (Ne.symm n2)] at q4
  exact I.sep j k c d1 d2 e1 e2 q3 q4
def SR.setOw (I:SR Γ B G H σ env β){i:Nat}(hi:i < env.length){a:Addr}{d:D}(h0:Γ.H0 a=none)(hg:G a=none)(hb:B≠some a)(h:Own Γ.K G H a d)(hn:∀(j:Nat) (d':D),env[j]? =some (.ow d')->j≠i->σ[j]?≠some (some (.ref a))):SR Γ B G H (σ.set i (some (.ref a))) (env.set i (.ow d)) β:=by
 have hs:i < σ.length:=by rw[I.len];exact hi
 refine⟨I.sub,I.old,I.new,I.keep,I.pin,I.fix,I.box,by rw[LJ,LJ];exact I.len,λj s q=>?_,λj k c d1 d2 q1 q2 q3 q4=>?_⟩
 ·by_cases z:j=i
  ·subst z
   rw[KQ hi] at q
   cases q
   exact⟨a,by rw[KQ hs],h0,hg,hb,h⟩
  ·rw[KS (Ne.symm z)] at q ⊢
   exact I.slot j s q
 ·by_cases z1:j=i
  ·by_cases z2:k=i
   ·rw[z1,z2]
   ·subst z1
    rw[KS (Ne.symm z2)] at q2 q4
    rw[KQ hs] at q3
    cases q3
    exact absurd q4 (hn k d2 q2 z2)
  ·by_cases z2:k=i
   ·subst z2
    rw[KS (Ne.symm z1)] at q1 q3
    rw[KQ hs] at q4
    cases q4
    exact absurd q3 (hn j d1 q1 z1)
   ·rw[KS (Ne.symm z1)] at q1 q3
    rw[KS (Ne.symm z2)] at q2 q4
    exact I.sep j k c d1 d2 q1 q2 q3 q4
def SR.fresh (I:SR Γ B G H σ env β){a:Addr}(h:H a=none):Γ.H0 a=none/\G a=none/\B≠some a/\∀(j:Nat) (d:D),env[j]? =some (.ow d)->σ[j]?≠some (some (.ref a)):=by
 have hB:B≠some a:=λz=>by rw[(I.box a z).1] at h;cases h
 refine⟨?_,I.sub.free h,hB,λj d e z=>?_⟩
 ·cases e:Γ.H0 a with
  |none=>rfl
  |some o=>exact absurd h (I.there (by rw[e];simp))
 ·obtain⟨c,h1,_,_,_,h5⟩:=I.slot j _ e
  rw[z] at h1
  cases h1
  obtain⟨o,ho⟩:=h5.obj
  rw[h] at ho;cases ho
def SR.write (I:SR Γ B G H σ env β)(hb:∀j,Γ.br j=false){i:Nat}{a:Addr}{d d':D}{o:HO}(e:env[i]? =some (.ow d))(ea:σ[i]? =some (some (.ref a)))(h:∀H',H' a=some o->ai G H'->Own Γ.K G H' a d'):SR Γ B G (upd H a o) σ (env.set i (.ow d')) β:=by
 obtain⟨a',h1,h2,h3,h4,h5⟩:=I.slot i _ e
 rw[ea] at h1;cases h1
 have hi:i < env.length:=(KN.mp e).1
 have ha:∀x y,H a≠some (.aN x y):=λx y w=>h5.mx.2 _ w trivial
 have sub:ai G (upd H a o):=λb u q=>jI (I.sub b u q) (λz=>by rw[z,h3] at q;cases q) ha
 refine⟨sub,I.old,I.new,λb u q n=>?_,λb q=>?_,I.fix,λb q=>?_,by rw[LJ];exact I.len,λj s q=>?_,λj k c d1 d2 q1 q2 q3 q4=>?_⟩
 ·exact jI (I.keep b u q n) (λz=>by rw[z,h2] at q;cases q) ha
 ·by_cases z:b=a
  ·subst z;exact (h _ aj sub).mx
  ·exact (I.pin b q).same λo e=>Kt.of (by rw[ao z];exact e)
 ·obtain⟨k1,k2,k3⟩:=I.box b q
  exact⟨by rw[ao (λz=>h4 (by rw[<-z];exact q))];exact k1,k2,k3⟩
 ·by_cases z:j=i
  ·subst z
   rw[KQ hi] at q
   cases q
   exact⟨a,ea,h2,h3,h4,h _ aj sub⟩
  ·rw[KS (Ne.symm z)] at q
   have w:=I.slot j s q
   cases s with
   |no=>trivial
   |fz d1=>exact w
   |ow d1=>
    obtain⟨c,w1,w2,w3,w4,w5⟩:=w
    have ca:c≠a:=λz2=>z (I.sep j i c d1 d q e w1 (by rw[z2];exact ea))
    exact⟨c,w1,w2,w3,w4,w5.mono (ai.refl _) λo q=>Kt.of (by rw[ao ca];exact q)⟩
   |bx=>exact w
   |br d1=>obtain⟨b1,_⟩:=w;rw[hb j] at b1;cases b1
 ·have back:∀{j:Nat} {d1:D},(env.set i (Sl.ow d'))[j]? =some (.ow d1)->∃d2,env[j]? =some (.ow d2):=λ{j d1} q=>by
   by_cases z:j=i
   ·subst z;exact⟨d,e⟩
   ·rw[KS (Ne.symm z)] at q;exact⟨d1,q⟩
  obtain⟨_,b1⟩:=back q1
  obtain⟨_,b2⟩:=back q2
  exact I.sep j k c _ _ b1 b2 q3 q4
end
inductive R (α:Type) where
 |ok (a:α) (β:Int)
 |exc (c:Str)
 |bad
def R.bnd {α γ:Type}(r:R α)(k:α->Int->R γ):R γ:=match r with
 | .ok a β=>k a β
 | .exc c=>.exc c
 | .bad=>.bad
def R.of {α:Type}(o:Option α)(β:Int):R α:=match o with
 |some a=>.ok a β
 |none=>.bad
abbrev VF (α:Type):=List Nv->Int->R α
def Kp (Γ:Fx)(H':Hp):Prop:=∀b o,Γ.H0 b=some o->b∉Γ.par->Kt H' b o
def Out {α:Type}(Γ:Fx)(E:XK)(r:R α)(P:α->Int->Prop):Prop:=match r with
 | .ok a β=>P a β
 | .exc c=>∀H',Kp Γ H'->E (.ref (Γ.ca c)) none H'
 | .bad=>False
section
variable {α γ:Type}{Γ:Fx}{E:XK}
theorem Out.bnd {r:R α}{k:α->Int->R γ}{P:γ->Int->Prop}(h:Out Γ E (r.bnd k) P):Out Γ E r λa β=>Out Γ E (k a β) P:=by
 cases r with
 |ok a β=>exact h
 |exc c=>exact h
 |bad=>exact h
theorem Out.imp {r:R α}{P P':α->Int->Prop}(h:Out Γ E r P)(i:∀a β,P a β->P' a β):Out Γ E r P':=by
 cases r with
 |ok a β=>exact i a β h
 |exc c=>exact h
 |bad=>exact h
theorem Out.of {o:Option α}{β:Int}{P:α->Int->Prop}(h:Out Γ E (R.of o β) P):∃a,o=some a/\P a β:=by
 cases o with
 |none=>exact h.elim
 |some a=>exact⟨a,rfl,h⟩
end
inductive Md where
 |b |v |w
def VO (K:Frag)(B:Option Addr)(H G' H':Hp):Md->D->V->Prop
 | .b,d,v=>ky K B G' H' v d
 | .v,d,v=>Rp K G' v d
 | .w,d,v=>∃a,v=.ref a/\H a=none/\G' a=none/\Own K G' H' a d
def pT (Γ:Fx)(E:XK)(f:VF D)(L:List Nat)(md:Md):TE:=λσ H Q=>∃env G B β,SR Γ B G H σ env β/\
 Out Γ E (f (vl env) β) λd β'=>∀v G' H',SR Γ B G' H' σ (aN L env) β'->ai G G'->gu B H H'->VO Γ.K B H G' H' md d v->Q v H'
def SE (X:Cx)(Γ:Fx)(E:XK)(e:Expr)(f:VF D)(L:List Nat)(md:Md):Prop:=PE X e (pT Γ E f L md)
def qT (Γ:Fx)(E:XK)(f:VF Bool)(L:List Nat):TT:=λσ H Q=>∃env G B β,SR Γ B G H σ env β/\
 Out Γ E (f (vl env) β) λc β'=>∀G' H',SR Γ B G' H' σ (aN L env) β'->ai G G'->gu B H H'->Q c H'
def y6 (X:Cx)(Γ:Fx)(E:XK)(e:Expr)(f:VF Bool)(L:List Nat):Prop:=PT X e (qT Γ E f L)
def pD (X:Cx)(Γ:Fx)(E:XK)(e:Expr)(f:VF Bool)(L:List Nat):Prop:=PW X e (qT Γ E f L)
def aT (Γ:Fx)(E:XK)(f:VF (List D))(L:List Nat):TA:=λσ H Q=>∃env G B β,SR Γ B G H σ env β/\
 Out Γ E (f (vl env) β) λds β'=>∀vs G' H',SR Γ B G' H' σ (aN L env) β'->ai G G'->gu B H H'->bH Γ.K G' vs ds->Q vs H'
def SA (X:Cx)(Γ:Fx)(E:XK)(es:List Expr)(f:VF (List D))(L:List Nat):Prop:=PA X es (aT Γ E f L)
def PE.post' {X:Cx}{e:Expr}{t u:TE}(h:PE X e t)(m:∀σ H Q,u σ H Q->t σ H Q):PE X e u:=λpins s σ H Q I q=>h pins s σ H Q I (m σ H Q q)
def PT.post {X:Cx}{e:Expr}{t u:TT}(h:PT X e t)(m:∀σ H Q,u σ H Q->t σ H Q):PT X e u:=λpins s σ H Q I q=>h pins s σ H Q I (m σ H Q q)
def PW.post {X:Cx}{e:Expr}{t u:TT}(h:PW X e t)(m:∀σ H Q,u σ H Q->t σ H Q):PW X e u:=λwh pins s σ H Q I q=>h wh pins s σ H Q I (m σ H Q q)
def PA.post {X:Cx}{es:List Expr}{t u:TA}(h:PA X es t)(m:∀σ H Q,u σ H Q->t σ H Q):PA X es u:=λpos pins s σ H Q I q=>h pos pins s σ H Q I (m σ H Q q)
def PS.post {X:Cx}{st:Stmt}{t u:TS}(h:PS X st t)(m:∀D σ H,u D σ H->t D σ H):PS X st u:=λpins s σ H D I q=>h pins s σ H D I (m D σ H q)
def dat:Option Nv->Option D
 |some (.da d)=>some d
 |_=>none
def gv (i:Nat):VF D:=λvs β=>R.of (dat vs[i]?) β
def cst (d:D):VF D:=λ_ β=>.ok d β
section
variable {X:Cx}{Γ:Fx}{E:XK}{e a b c:Expr}{f fa fb fc:VF D}{L La Lb Lc:List Nat}{md ma mb mc:Md}{pos:Pos}
theorem join_some {o:Option Nv}{d:D}(h:dat o=some d):o=some (.da d):=by
 cases o with
 |none=>cases h
 |some o=>cases o with
  |da x=>cases h;rfl
  |_=>cases h
def SR.letIn {B:Option Addr}{G H:Hp}{σ:St}{env:En}{β:Int}(I:SR Γ B G H σ env β){p:Addr}{d:D}(h0:Γ.H0 p=none)(hg:G p=none)(hb:B≠some p)(hn:∀(j:Nat) (d':D),env[j]? =some (.ow d')->σ[j]?≠some (some (.ref p)))(h:Own Γ.K G H p d) :
  ∃G',SR Γ B G' H σ env β/\ai G G'/\Rp Γ.K G' (.ref p) d:=by
 obtain⟨o,ho⟩:=h.obj
 have sG:ai G (upd G p o):=ai.new hg
 refine⟨upd G p o,⟨λb u q=>?_,I.old.trans sG,λb n1 n2=>?_,I.keep,I.pin,I.fix,λb q=>?_,I.len,λj s q=>?_,I.sep⟩,sG,h.rp hg sG λo' q=>by rw[ho] at q;cases q;exact aj⟩
 ·by_cases z:b=p
  ·subst z;rw[aj] at q;cases q;exact Kt.of ho
  ·rw[ao z] at q;exact I.sub b u q
 ·rw[ao (λz=>n1.1 (by rw[z];exact h0))];exact I.new b n1 n2
 ·obtain⟨k1,k2,k3⟩:=I.box b q
  exact⟨k1,by rw[ao (λz=>hb (by rw[<-z];exact q))];exact k2,k3⟩
 ·have w:=I.slot j s q
  cases s with
  |no=>trivial
  |fz d'=>obtain⟨v,w1,w2⟩:=w;exact⟨v,w1,w2.mono sG⟩
  |ow d'=>
   obtain⟨c,w1,w2,w3,w4,w5⟩:=w
   have ca:c≠p:=λz2=>hn j d' q (by rw[<-z2];exact w1)
   exact⟨c,w1,w2,by rw[ao ca];exact w3,w4,w5.mono sG λo q=>Kt.of q⟩
  |bx=>exact w
  |br d'=>obtain⟨b1,c,w1,w4,wp,w5⟩:=w;exact⟨b1,c,w1,w4,wp,w5.mono sG λo q=>Kt.of q⟩
def wK {env:En}{i j:Nat}{d:D}(h:(iz env i)[j]? =some (.ow d)):env[j]? =some (.ow d):=by
 unfold iz at h
 split at h
 ·rename_i d' e
  by_cases z:i=j
  ·subst z
   rw[KQ (KN.mp e).1] at h;cases h
  ·rw[KS z] at h;exact h
 ·exact h
theorem jl {L:List Nat}{env:En}{j:Nat}{d:D}(h:(aN L env)[j]? =some (.ow d)):env[j]? =some (.ow d):=by
 unfold aN at h
 induction L generalizing env with
 |nil=>exact h
 |cons i L ih=>exact wK (ih h)
def SR.letW {B:Option Addr}{G H G' H':Hp}{σ:St}{env:En}{β β':Int}{L:List Nat}{d:D}{v:V}(I:SR Γ B G H σ env β)(I':SR Γ B G' H' σ (L2.aN L env) β')(h:VO Γ.K B H G' H' .w d v):∃G2,SR Γ B G2 H' σ (L2.aN L env) β'/\ai G' G2/\Rp Γ.K G2 v d:=by
 obtain⟨p,rfl,h1,h2,h3⟩:=h
 obtain⟨q1,q2,q3,q4⟩:=I.fresh h1
 exact I'.letIn q1 h2 q3 (λj d' e=>q4 j d' (jl e)) h3
def SE.wv (h:SE X Γ E e f L .w):SE X Γ E e f L .v:=by
 refine PE.post' h λσ H Q ⟨env,G,B,β,I,o⟩=>⟨env,G,B,β,I,o.imp λd β' k v G' H' I' s m vo=>?_⟩
 obtain⟨G2,I2,s2,r⟩:=I.letW I' vo
 exact k v G2 H' I2 (s.trans s2) m r
theorem VO.brw {B:Option Addr}{H G' H':Hp}{d:D}{v:V}{K:Frag}(h:VO K B H G' H' md d v)(hB:∀x,B=some x->H x≠none):ky K B G' H' v d:=by
 cases md with
 |b=>exact h
 |v=>exact .inl h
 |w=>
  obtain⟨p,rfl,h1,h2,h3⟩:=h
  exact .inr ⟨p,rfl,λz=>hB p z h1,h3⟩
def SR.boxThere {B:Option Addr}{G H:Hp}{σ:St}{env:En}{β:Int}(I:SR Γ B G H σ env β):∀x,B=some x->H x≠none:=λx e=>by rw[(I.box x e).1];simp
def af (i:Nat){x:Str}(hN:X.N[i]? =some x:=by rfl)(hv:vP X.env.scope x:=by first |exact Or.inl rfl |exact Or.inr (Or.inl rfl) |exact Or.inr (Or.inr rfl))(hd:(x == ("__debug__":Str))=false:=by decide)
  (hcd:(x == ("__classdict__":Str))=false:=by decide):SE X Γ E (.Name x pos) (gv i) [] .b:=by
 refine PE.post' (gZ hN hv hd hcd) λσ H Q ⟨env,G,B,β,I,o⟩=>?_
 obtain⟨d,e,k⟩:=o.of
 have e:=join_some e
 rcases DT e with q |q |q
 ·obtain⟨v,h1,h2⟩:=I.slot i _ q
  exact⟨v,h1,k v G H I (ai.refl _) (gu.refl _ _) (.inl h2)⟩
 ·obtain⟨p,h1,h2,h3,h4,h5⟩:=I.slot i _ q
  exact⟨.ref p,h1,k _ G H I (ai.refl _) (gu.refl _ _) (.inr ⟨p,rfl,h4,h5⟩)⟩
 ·obtain⟨_,p,h1,h4,_,h5⟩:=I.slot i _ q
  exact⟨.ref p,h1,k _ G H I (ai.refl _) (gu.refl _ _) (.inr ⟨p,rfl,h4,h5⟩)⟩
def ax (i:Nat)(hb:Γ.br i=false){x:Str}(hN:X.N[i]? =some x:=by rfl)(hv:vP X.env.scope x:=by first |exact Or.inl rfl |exact Or.inr (Or.inl rfl) |exact Or.inr (Or.inr rfl))(hd:(x == ("__debug__":Str))=false:=by decide)
  (hcd:(x == ("__classdict__":Str))=false:=by decide):SE X Γ E (.Name x pos) (gv i) [i] .v:=by
 refine PE.post' (gZ hN hv hd hcd) λσ H Q ⟨env,G,B,β,I,o⟩=>?_
 obtain⟨d,e,k⟩:=o.of
 obtain⟨G',v,I',s,h1,h2⟩:=I.freeze i hb (join_some e)
 exact⟨v,h1,k v G' H I' s (gu.refl _ _) h2⟩
def zQ {v:V}{d:D}(h:PE X e (tC v))(r:∀G,Rp Γ.K G v d):SE X Γ E e (cst d) [] .v:=by
 refine PE.post' h λσ H Q ⟨env,G,B,β,I,o⟩=>?_
 exact o v G H I (ai.refl _) (gu.refl _ _) (r G)
def ar {i:Int}{j}:SE X Γ E (.Constant (.int i) j pos) (cst (.int i)) [] .v:=zQ nH λ_=>.int i
def fF {i:Bool}{j}:SE X Γ E (.Constant (.bool i) j pos) (cst (.bool i)) [] .v:=zQ pF λ_=>.bl i
def vW {j}:SE X Γ E (.Constant .none j pos) (cst .none) [] .v:=zQ E5 λ_=>.non
def js {x:Str}{j}:SE X Γ E (.Constant (.str x) j pos) (cst (.str x)) [] .v:=zQ og λ_=>.str x
def Dt {x:Str}{i:Int}{t:Tok}(hg:Gl X x)(hm:X.mg x=some (.int i t))(hd:(x == ("__debug__":Str))=false:=by decide):SE X Γ E (.Name x pos) (cst (.int i)) [] .v:=zQ (cz hg hm (show RelV (.int i) _ from⟨_,rfl⟩) hd) λ_=>.int i
def two {W:V->V->Hp->Prop}{B:Option Addr}{G H:Hp}{σ:St}{env:En}{β:Int}(I:SR Γ B G H σ env β)
  (h:Out Γ E (fa (vl env) β) λd1 β1=>Out Γ E (fb (vl env) β1) λd2 β2=>∀x y G2 H2,SR Γ B G2 H2 σ (aN (La ++ Lb) env) β2->ai G G2->gu B H H2->ky Γ.K B G2 H2 x d1->ky Γ.K B G2 H2 y d2->W x y H2) :
  pT Γ E fa La ma σ H λx H1=>pT Γ E fb Lb mb σ H1 λy H2=>W x y H2:=by
 refine⟨env,G,B,β,I,h.imp λd1 β1 h x G1 H1 I1 s1 m1 vx=>⟨aN La env,G1,B,β1,I1,?_⟩⟩
 rw[dQ]
 refine h.imp λd2 β2 k y G2 H2 I2 s2 m2 vy=>?_
 refine k x y G2 H2 (by rw[bZ];exact I2) (s1.trans s2) (m1.trans m2) ((vx.brw I.boxThere).mono s2 m2) (vy.brw I1.boxThere)
def mq (K:Frag)(r:R2)(g:D->D->Option D)(md:Md):Prop:=∀(B:Option Addr) (G H:Hp) (x y:V) (dx dy d:D) (Q:VK),ai G H->(∀x,B=some x->H x≠none)->ky K B G H x dx->ky K B G H y dy->g dx dy=some d->
 (∀v G' H',Ext G H G' H'->VO K B H G' H' md d v->Q v H')->r x y H Q
def f2 (fa fb:VF D)(g:D->D->Option D):VF D:=λvs β=>(fa vs β).bnd λx β1=>(fb vs β1).bnd λy β2=>R.of (g x y) β2
theorem eG {B:Option Addr}{H H2:Hp}(m:gu B H H2)(hB:∀x,B=some x->H2 x≠none){p:Addr}(h:H2 p=none):H p=none:=by
 cases e:H p with
 |none=>rfl
 |some o=>obtain⟨u,eu,_⟩:=(m.1 p o e λz=>hB p z h).some;rw[eu] at h;cases h
theorem VO.back {K:Frag}{B:Option Addr}{H H2 G' H':Hp}{d:D}{v:V}(h:VO K B H2 G' H' md d v)(m:gu B H H2)(hB:∀x,B=some x->H2 x≠none):VO K B H G' H' md d v:=by
 cases md with
 |b=>exact h
 |v=>exact h
 |w=>obtain⟨p,e,h1,h2,h3⟩:=h;exact⟨p,e,eG m hB h1,h2,h3⟩
def jT {r:R2}{g:D->D->Option D}{Q:VK}(pr:mq Γ.K r g md){B:Option Addr}{G H:Hp}{σ:St}{env:En}{β:Int}(I:SR Γ B G H σ env β)
  (h:Out Γ E (f2 fa fb g (vl env) β) λd β'=>∀v G' H',SR Γ B G' H' σ (aN (La ++ Lb) env) β'->ai G G'->gu B H H'->VO Γ.K B H G' H' md d v->Q v H') :
  pT Γ E fa La ma σ H λx H1=>pT Γ E fb Lb mb σ H1 λy H2=>r x y H2 Q:=by
 refine two I (h.bnd.imp λd1 β1 h=>h.bnd.imp λd2 β2 h x y G2 H2 I2 s2 m2 bx by'=>?_)
 obtain⟨d,e,k⟩:=h.of
 refine pr B G2 H2 x y d1 d2 d Q I2.sub I2.boxThere bx by' e λv G' H' x' vo=>?_
 exact k v G' H' (I2.ext x') (s2.trans x'.gg) (m2.trans (x'.hh.mov B)) (vo.back m2 I2.boxThere)
def bY {op:Operator}{r:R2}{g:D->D->Option D}(ho:lK X (binaryOp op) r)(pr:mq Γ.K r g md)(ha:SE X Γ E a fa La ma)(hb:SE X Γ E b fb Lb mb):SE X Γ E (.BinOp a op b pos) (f2 fa fb g) (La ++ Lb) md:=
 PE.post' (mr ho ha hb) λσ H Q ⟨env,G,B,β,I,o⟩=>jT pr I o
def fB {op:CmpOp}{r:R2}{g:D->D->Option D}(ho:lK X (compareOp op) r)(pr:mq Γ.K r g md)(ha:SE X Γ E a fa La ma)(hb:SE X Γ E b fb Lb mb)(hm:behindInMarks op b=false):SE X Γ E (.Compare a [op] [b] pos) (f2 fa fb g) (La ++ Lb) md:=
 PE.post' (BW ho ha hb hm) λσ H Q ⟨env,G,B,β,I,o⟩=>jT pr I o
def bo {r:R2}{g:D->D->Option D}(hr:zM X r)(pr:mq Γ.K r g md)(ha:SE X Γ E a fa La ma)(hb:SE X Γ E b fb Lb mb)(hs:xy b):SE X Γ E (.Subscript a b pos) (f2 fa fb g) (La ++ Lb) md:=
 PE.post' (jy hr ha hb hs) λσ H Q ⟨env,G,B,β,I,o⟩=>jT pr I o
def zT (K:Frag)(r:V->Hp->VK->Prop)(g:D->Option D)(md:Md):Prop:=∀(B:Option Addr) (G H:Hp) (x:V) (dx d:D) (Q:VK),ai G H->(∀x,B=some x->H x≠none)->ky K B G H x dx->g dx=some d->
 (∀v G' H',Ext G H G' H'->VO K B H G' H' md d v->Q v H')->r x H Q
def f1 (fa:VF D)(g:D->Option D):VF D:=λvs β=>(fa vs β).bnd λx β1=>R.of (g x) β1
def iZ {r:V->Hp->VK->Prop}{g:D->Option D}{Q:VK}(pr:zT Γ.K r g md){B:Option Addr}{G H:Hp}{σ:St}{env:En}{β:Int}(I:SR Γ B G H σ env β)
  (h:Out Γ E (f1 fa g (vl env) β) λd β'=>∀v G' H',SR Γ B G' H' σ (aN La env) β'->ai G G'->gu B H H'->VO Γ.K B H G' H' md d v->Q v H') :
  pT Γ E fa La ma σ H λx H1=>r x H1 Q:=by
 refine⟨env,G,B,β,I,h.bnd.imp λd1 β1 h x G1 H1 I1 s1 m1 vx=>?_⟩
 obtain⟨d,e,k⟩:=h.of
 refine pr B G1 H1 x d1 d Q I1.sub I1.boxThere (vx.brw I.boxThere) e λv G' H' x' vo=>?_
 exact k v G' H' (I1.ext x') (s1.trans x'.gg) (m1.trans (x'.hh.mov B)) (vo.back m1 I1.boxThere)
def HJ {op:UnaryOp}{r:V->Hp->VK->Prop}{g:D->Option D}(ho:Iq X (unaryOp op) r)(pr:zT Γ.K r g md)(ha:SE X Γ E a fa La ma):SE X Γ E (.UnaryOp op a pos) (f1 fa g) La md:=
 PE.post' (HA ho ha) λσ H Q ⟨env,G,B,β,I,o⟩=>iZ pr I o
def aX {id:String}{r:List V->Hp->VK->Prop}{g:D->Option D}{x:Str}{p:Pos}(hc:cM X (.builtin id) r)(pr:zT Γ.K (λx=>r [x]) g md)(hg:Gl X x)(hm:X.mg x=none)(hv:bootBuiltins x=some (.builtin id))(ha:SE X Γ E a fa La ma)(hn:x≠"__name__":=by decide)(hdb:(x == ("__debug__":Str))=false:=by decide)
  (he:starEach [a] X.env=(false,eval a X.env) :: starEach [] X.env:=by rfl):SE X Γ E (.Call (.Name x p) [a] [] pos) (f1 fa g) La md:=
 PE.post' (bc hc hg hm hv (ah ha aH he) hn hdb he) λσ H Q ⟨env,G,B,β,I,o⟩=>iZ (r:=λx=>r [x]) pr I o
def bF {id:String}{r:List V->Hp->VK->Prop}{g:D->Option D}{x:Str}{p:Pos}(hc:cM X (.type id) r)(pr:zT Γ.K (λx=>r [x]) g md)(hg:Gl X x)(hm:X.mg x=none)(hv:bootBuiltins x=some (.type id))(ha:SE X Γ E a fa La ma)(hn:x≠"__name__":=by decide)(hdb:(x == ("__debug__":Str))=false:=by decide)
  (he:starEach [a] X.env=(false,eval a X.env) :: starEach [] X.env:=by rfl):SE X Γ E (.Call (.Name x p) [a] [] pos) (f1 fa g) La md:=
 PE.post' (ij hc hg hm hv (ah ha aH he) hn hdb he) λσ H Q ⟨env,G,B,β,I,o⟩=>iZ (r:=λx=>r [x]) pr I o
def sv {id:String}{r:List V->Hp->VK->Prop}{g:D->D->Option D}{x:Str}{p:Pos}(hc:cM X (.builtin id) r)(pr:mq Γ.K (λx y=>r [x,y]) g md)(hg:Gl X x)(hm:X.mg x=none)(hv:bootBuiltins x=some (.builtin id))(ha:SE X Γ E a fa La ma)(hb:SE X Γ E b fb Lb mb)(hn:x≠"__name__":=by decide)(hdb:(x == ("__debug__":Str))=false:=by decide)
  (he:starEach [a,b] X.env=(false,eval a X.env) :: starEach [b] X.env:=by rfl) (he2:starEach [b] X.env=(false,eval b X.env) :: starEach [] X.env:=by rfl) (hpl:(backTo pos (starEach [b] X.env)).any (·.1)=false:=by rfl):SE X Γ E (.Call (.Name x p) [a,b] [] pos) (f2 fa fb g) (La ++ Lb) md:=
 PE.post' (bc hc hg hm hv (ah ha (ah hb aH he2) he) hn hdb he hpl) λσ H Q ⟨env,G,B,β,I,o⟩=>jT (r:=λx y=>r [x,y]) pr I o
def cV (fa fb:VF D):VF D:=λvs β=>(fa vs β).bnd λx β1=>match x with
 | .bool true=>fb vs β1
 | .bool false=>.ok (.bool false) β1
 |_=>.bad
def jd {op}(h:SE X Γ E a fa La md):SE X Γ E (.BoolOp op [a] pos) fa La md:=Fs h
theorem gY {rest:List Expr}(ha:SE X Γ E a fa La ma)(hb:SE X Γ E (.BoolOp .And (b :: rest) pos) fb Lb .v)(hbr:∀i,i∈Lb->Γ.br i=false):SE X Γ E (.BoolOp .And (a :: b :: rest) pos) (cV fa fb) (La ++ Lb) .v:=by
 refine PE.post' (EK ha hb) λσ H Q ⟨env,G,B,β,I,o⟩=>?_
 refine⟨env,G,B,β,I,o.bnd.imp λd1 β1 h x G1 H1 I1 s1 m1 vx=>?_⟩
 have bx:=vx.brw I.boxThere
 cases d1 with
 |bool c=>
  obtain rfl:=bx.bool
  refine⟨c,rfl,?_⟩
  cases c with
  |true=>exact sL ⟨_,G1,B,β1,I1,by rw[dQ];exact h.imp λd β' k v G' H' I' s' m' vo=>k v G' H' (by rw[bZ];exact I') (s1.trans s') (m1.trans m') vo⟩
  |false=>
   obtain⟨G2,I2,s2⟩:=I1.aN Lb hbr
   exact om (h _ G2 H1 (by rw[bZ];exact I2) (s1.trans s2) m1 (.bl false))
 |_=>exact h.elim
def zy:D->Option D
 | .bool c=>some (.bool (!c))
 |_=>none
theorem AS (ha:SE X Γ E a fa La ma):SE X Γ E (.UnaryOp .Not a pos) (f1 fa zy) La .v:=by
 refine PE.post' (Eu ha) λσ H Q ⟨env,G,B,β,I,o⟩=>?_
 refine iZ (r:=λx H1 Q=>∃c,x=.bl c/\Q (.bl (!c)) H1) ?_ I o
 intro B G H x dx d Q s hB bx e k
 cases dx with
 |bool c=>
  obtain rfl:=bx.bool
  cases e
  exact⟨c,rfl,k _ G H (Ext.refl s) (.bl _)⟩
 |_=>cases e
def EH:D->Option Bool
 | .none=>some false
 | .bool b=>some b
 | .int i=>some (i != 0)
 | .str y=>if y.length<=sizeLine then some ((y.length:Int) != 0) else none
 | .list ds=>some (!ds.isEmpty)
 | .tuple ds=>some (!ds.isEmpty)
 | .dict _=>none
def jZ (fa:VF D):VF Bool:=λvs β=>(fa vs β).bnd λx β1=>R.of (EH x) β1
def mn {K:Frag}{G:Hp}{xs:List V}{ds:List D}(r:bH K G xs ds):(!ds.isEmpty)= !xs.isEmpty:=by cases r <;> rfl
theorem cw (hK:X.K=Γ.K)(ha:SE X Γ E a fa La ma)(he:∀whole,isTrue a X.env whole=(do let v <-whole;standAt a.pos;holding [v] (truthy v)):=by intro _;rfl):y6 X Γ E a (jZ fa) La:=by
 refine PT.post (Bj ha he) λσ H Q ⟨env,G,B,β,I,o⟩=>?_
 refine⟨env,G,B,β,I,o.bnd.imp λd1 β1 h x G1 H1 I1 s1 m1 vx=>?_⟩
 obtain⟨c,e,k⟩:=h.of
 have bx:=vx.brw I.boxThere
 refine⟨c,?_,k G1 H1 I1 s1 m1⟩
 rw[hK]
 cases d1 with
 |none=>obtain rfl:=bx.none;cases e;rfl
 |bool b=>obtain rfl:=bx.bool;cases e;rfl
 |int i=>obtain rfl:=bx.int;cases e;rfl
 |str y=>
  obtain rfl:=bx.str
  simp only[EH] at e
  split at e
  ·cases e;exact⟨by assumption,rfl⟩
  ·cases e
 |list ds=>obtain⟨p,xs,rfl,hq,r⟩:=bx.list I1.sub;cases e;exact .inl ⟨xs,.inl hq,mn r⟩
 |tuple ds=>obtain⟨p,xs,rfl,hq,r⟩:=bx.tuple I1.sub;cases e;exact .inr (.inl ⟨xs,hq,mn r⟩)
 |dict ds=>cases e
def fH (fa:VF D):VF Bool:=λvs β=>(fa vs β).bnd λx β1=>match x with
 | .bool c=>.ok c β1
 |_=>.bad
theorem b8 {op:CmpOp}{r:R2}{g:D->D->Option D}(ho:lK X (compareOp op) r)(pr:mq Γ.K r g .v)(ha:SE X Γ E a fa La ma)(hb:SE X Γ E b fb Lb mb)(hm:behindInMarks op b=false):y6 X Γ E (.Compare a [op] [b] pos) (fH (f2 fa fb g)) (La ++ Lb):=by
 refine PT.post (wY ho ha hb hm) λσ H Q ⟨env,G,B,β,I,o⟩=>?_
 refine jT pr I (o.bnd.imp λd β' h v G' H' I' s' m' vo=>?_)
 cases d with
 |bool c=>cases vo;exact⟨c,rfl,h G' H' I' s' m'⟩
 |_=>exact h.elim
def oR (t:VF Bool):VF Bool:=λvs β=>(t vs β).bnd λc β1=>.ok (!c) β1
def Aa (t u:VF Bool):VF Bool:=λvs β=>(t vs β).bnd λc β1=>if c=true then u vs β1 else .ok false β1
def lH (t u:VF Bool):VF Bool:=λvs β=>(t vs β).bnd λc β1=>if c=true then .ok true β1 else u vs β1
variable {ta tb tc:VF Bool}
def cW (ha:y6 X Γ E a ta La):y6 X Γ E (.UnaryOp .Not a pos) (oR ta) La:=by
 refine PT.post (vB ha) λσ H Q ⟨env,G,B,β,I,o⟩=>?_
 exact⟨env,G,B,β,I,o.bnd.imp λc β1 h=>h⟩
def pD.t (h:pD X Γ E e ta La):y6 X Γ E e ta La:=PW.pt h
def rb (ha:y6 X Γ E a ta La):pD X Γ E (.BoolOp .And [a] pos) ta La:=wD ha
def iP (ha:y6 X Γ E a ta La):pD X Γ E (.BoolOp .Or [a] pos) ta La:=Ad ha
theorem vt {rest:List Expr}(ha:y6 X Γ E a ta La)(hb:pD X Γ E (.BoolOp .And (b :: rest) pos) tb Lb)(hbr:∀i,i∈Lb->Γ.br i=false):pD X Γ E (.BoolOp .And (a :: b :: rest) pos) (Aa ta tb) (La ++ Lb):=by
 refine PW.post (BA ha hb) λσ H Q ⟨env,G,B,β,I,o⟩=>?_
 refine⟨env,G,B,β,I,o.bnd.imp λc β1 h G1 H1 I1 s1 m1=>?_⟩
 cases c with
 |true=>exact sL ⟨_,G1,B,β1,I1,by rw[dQ];exact Out.imp h λd β' k G' H' I' s' m'=>k G' H' (by rw[bZ];exact I') (s1.trans s') (m1.trans m')⟩
 |false=>
  obtain⟨G2,I2,s2⟩:=I1.aN Lb hbr
  exact om (h G2 H1 (by rw[bZ];exact I2) (s1.trans s2) m1)
theorem lx {rest:List Expr}(ha:y6 X Γ E a ta La)(hb:pD X Γ E (.BoolOp .Or (b :: rest) pos) tb Lb)(hbr:∀i,i∈Lb->Γ.br i=false):pD X Γ E (.BoolOp .Or (a :: b :: rest) pos) (lH ta tb) (La ++ Lb):=by
 refine PW.post (DY ha hb) λσ H Q ⟨env,G,B,β,I,o⟩=>?_
 refine⟨env,G,B,β,I,o.bnd.imp λc β1 h G1 H1 I1 s1 m1=>?_⟩
 cases c with
 |true=>
  obtain⟨G2,I2,s2⟩:=I1.aN Lb hbr
  exact sL (h G2 H1 (by rw[bZ];exact I2) (s1.trans s2) m1)
 |false=>exact om ⟨_,G1,B,β1,I1,by rw[dQ];exact Out.imp h λd β' k G' H' I' s' m'=>k G' H' (by rw[bZ];exact I') (s1.trans s') (m1.trans m')⟩
def Kj (t:VF Bool)(fa fb:VF D):VF D:=λvs β=>(t vs β).bnd λc β1=>if c=true then fa vs β1 else fb vs β1
def ag:VF (List D):=λ_ β=>.ok [] β
def aa (fa:VF D)(fr:VF (List D)):VF (List D):=λvs β=>(fa vs β).bnd λx β1=>(fr vs β1).bnd λxs β2=>.ok (x :: xs) β2
variable {fr:VF (List D)}{es:List Expr}
def aq:SA X Γ E [] ag []:=PA.post aH λσ H Q ⟨env,G,B,β,I,o⟩=>o [] G H I (ai.refl _) (gu.refl _ _) .nil
def ae (ha:SE X Γ E a fa La .v)(hr:SA X Γ E es fr Lb)(hs:starEach (a :: es) X.env=(false,eval a X.env) :: starEach es X.env:=by rfl):SA X Γ E (a :: es) (aa fa fr) (La ++ Lb):=by
 refine PA.post (ah ha hr hs) λσ H Q ⟨env,G,B,β,I,o⟩=>?_
 refine⟨env,G,B,β,I,o.bnd.imp λd1 β1 h x G1 H1 I1 s1 m1 vx=>⟨aN La env,G1,B,β1,I1,?_⟩⟩
 rw[dQ]
 refine h.bnd.imp λds β2 k xs G2 H2 I2 s2 m2 r=>?_
 exact k (x :: xs) G2 H2 (by rw[bZ];exact I2) (s1.trans s2) (m1.trans m2) (.cons (vx.mono s2) r)
def bL (fr:VF (List D)):VF D:=λvs β=>(fr vs β).bnd λds β1=>if ds.length<=sizeLine then .ok (.tuple ds) β1 else .bad
def bB (fr:VF (List D)):VF D:=λvs β=>(fr vs β).bnd λds β1=>if ds.length<=sizeLine then .ok (.list ds) β1 else .bad
def gf {x1}(h:SA X Γ E es fr L):SE X Γ E (.Tuple es x1 pos) (bL fr) L .v:=by
 refine PE.post' (vO h) λσ H Q ⟨env,G,B,β,I,o⟩=>?_
 refine⟨env,G,B,β,I,o.bnd.imp λds β1 k xs G1 H1 I1 s1 m1 r=>?_⟩
 by_cases hz:ds.length<=sizeLine
 ·rw[KH hz] at k
  refine⟨by rw[r.len];exact hz,λp hp=>?_⟩
  have x:=Ext.new I1.sub (o:=.tup xs) hp
  exact k _ _ _ (I1.ext x) (s1.trans x.gg) (m1.trans (x.hh.mov B)) (.tup (.inl (.inl aj)) (r.mono x.gg))
 ·rw[KZ hz] at k;exact k.elim
def cn (h:SA X Γ E es fr L):SE X Γ E (.List es pos) (bB fr) L .w:=by
 refine PE.post' (lZ h) λσ H Q ⟨env,G,B,β,I,o⟩=>?_
 refine⟨env,G,B,β,I,o.bnd.imp λds β1 k xs G1 H1 I1 s1 m1 r=>?_⟩
 by_cases hz:ds.length<=sizeLine
 ·rw[KH hz] at k
  refine⟨by rw[r.len];exact hz,λp hp=>?_⟩
  have x:=Ext.own I1.sub (o:=.lst xs) hp
  exact k _ _ _ (I1.ext x) s1 (m1.trans (x.hh.mov B)) ⟨p,rfl,eG m1 I1.boxThere hp,I1.sub.free hp,xs,aj,r⟩
 ·rw[KZ hz] at k;exact k.elim
inductive FR where
 |ok (d:D) (fresh:Bool)
 |exc (c:Str)
 |bad
def FV (K:Frag)(H G' H':Hp)(fr:Bool)(d:D)(v:V):Prop:=if fr=true then ∃a,v=.ref a/\H a=none/\G' a=none/\Own K G' H' a d else Rp K G' v d
def BO (K:Frag)(ca:Str->Addr)(n:Nat)(F:List D->FR):Sp:=λvs H Q E=>∃G ds,ai G H/\ds.length=n/\bH K G vs ds/\match F ds with
 | .ok d fr=>∀v G' H',ai H H'->ai G G'->ai G' H'->(∀b,Mx H b->G b=none->G' b=none)->FV K H G' H' fr d v->Q v H'
 | .exc c=>∀H',ai H H'->E (.ref (ca c)) none H'
 | .bad=>False
structure cE (P:Program)(w:World)(K:Frag)(mg:Str->Option Value)(base:Heap)(ca:Str->Addr)(x:Str)(ps:List Str)(k:Nat)(F:List D->FR):Prop where
 ex:∃f fd,mg x=some (.ref f)/\PySem.W.keepIn K (.ref f)=true/\Binds K fd ps []/\ff P w K mg base (kW P w) k f fd ps (BO K ca ps.length F)
 len:∀ds,F ds≠.bad->ds.length=ps.length
def au (F:List D->FR)(fr:VF (List D)):VF D:=λvs β=>(fr vs β).bnd λds β1=>match F ds with
 | .ok d _=>.ok d β1
 | .exc c=>.exc c
 | .bad=>.bad
def fD (F:List D->FR)(fr:VF (List D)):VF D:=λvs β=>(fr vs β).bnd λds β1=>match F ds with
 | .ok d true=>.ok d β1
 | .ok _ false=>.bad
 | .exc c=>.exc c
 | .bad=>.bad
def SR.called {B:Option Addr}{G1 H1 G2 H2:Hp}{σ:St}{env:En}{β:Int}(I1:SR Γ B G1 H1 σ env β)(h:ai H1 H2)(g:ai G1 G2)(s:ai G2 H2)(n:∀b,Mx H1 b->G1 b=none->G2 b=none):SR Γ B G2 H2 σ env β/\gu B H1 H2:=by
 refine⟨⟨s,I1.old.trans g,λb n1 n2=>?_,λb o e np=>(I1.keep b o e np).step h,λb hb=>?_,I1.fix,λb e=>?_,I1.len,λi t e=>?_,I1.sep⟩,h.mov B⟩
 ·exact n b (I1.thereM n1) (I1.new b n1 n2)
 ·exact (I1.pin b hb).same λo e=>h b o e
 ·obtain⟨h1,h2,h3⟩:=I1.box b e
  exact⟨h b _ h1,n b (Mx.lst h1) h2,h3⟩
 ·have q:=I1.slot i t e
  cases t with
  |no=>trivial
  |fz d=>obtain⟨v,h1,h2⟩:=q;exact⟨v,h1,h2.mono g⟩
  |ow d=>
   obtain⟨p,h1,h2,h3,h4,h5⟩:=q
   exact⟨p,h1,h2,n p h5.mx h3,h4,h5.mono g λo q=>h p o q⟩
  |bx=>exact q
  |br d=>obtain⟨b1,p,h1,h4,hp,h5⟩:=q;exact⟨b1,p,h1,h4,hp,h5.mono g λo q=>h p o q⟩
def SR.kp {B:Option Addr}{G H H':Hp}{σ:St}{env:En}{β:Int}(I:SR Γ B G H σ env β)(h:ai H H'):Kp Γ H':=λb o e n=>(I.keep b o e n).step h
theorem pG {F:List D->FR}{ps:List Str}{Q:VK}{B:Option Addr}{G H:Hp}{σ:St}{env:En}{β:Int}(I:SR Γ B G H σ env β)(hK:X.K=Γ.K){wv:Bool}
  (h:Out Γ E (if wv=true then fD F fr (vl env) β else au F fr (vl env) β) λd β'=>∀v G' H',SR Γ B G' H' σ (aN L env) β'->ai G G'->gu B H H'->VO Γ.K B H G' H' (if wv=true then .w else .v) d v->Q v H') (hl:∀ds,F ds≠.bad->ds.length=ps.length) :
  aT Γ E fr L σ H λvs H1=>BO X.K Γ.ca ps.length F vs H1 Q E:=by
 refine⟨env,G,B,β,I,?_⟩
 have h:Out Γ E (fr (vl env) β) λds β1=>Out Γ E (match F ds with
   | .ok d true=>.ok d β1
   | .ok d false=>if wv=true then .bad else .ok d β1
   | .exc c=>.exc c
   | .bad=>.bad) λd β'=>∀v G' H',SR Γ B G' H' σ (aN L env) β'->ai G G'->gu B H H'->VO Γ.K B H G' H' (if wv=true then .w else .v) d v->Q v H':=by
  cases wv with
  |true=>
   simp only[Mi] at h ⊢
   refine h.bnd.imp λds β1 h=>?_
   cases q:F ds with
   |ok d b=>rw[q] at h;cases b <;> exact h
   |exc c=>rw[q] at h;exact h
   |bad=>rw[q] at h;exact h
  |false=>
   simp only[LP,Mu] at h ⊢
   refine h.bnd.imp λds β1 h=>?_
   cases q:F ds with
   |ok d b=>rw[q] at h;cases b <;> exact h
   |exc c=>rw[q] at h;exact h
   |bad=>rw[q] at h;exact h
 refine h.imp λds β1 k vs G1 H1 I1 s1 m1 r=>?_
 refine⟨G1,ds,I1.sub,?_,by rw[hK];exact r,?_⟩
 ·exact hl ds λz=>by rw[z] at k;exact k
 cases q:F ds with
 |bad=>rw[q] at k;exact k
 |exc c=>rw[q] at k;exact λH' s=>k H' (I1.kp s)
 |ok d b=>
  rw[q] at k
  intro v G' H' hh hg hs hn fv
  obtain⟨I2,m2⟩:=I1.called hh hg hs hn
  cases b with
  |true=>
   obtain⟨p,rfl,p1,p2,p3⟩:∃a,v=.ref a/\H1 a=none/\G' a=none/\Own X.K G' H' a d:=fv
   rw[hK] at p3
   have hp:=eG m1 I1.boxThere p1
   cases wv with
   |true=>exact k _ G' H' I2 (s1.trans hg) (m1.trans m2) ⟨p,rfl,hp,p2,p3⟩
   |false=>
    obtain⟨q1,q2,q3,q4⟩:=I1.fresh p1
    obtain⟨G3,I3,s3,r3⟩:=I2.letIn q1 p2 q3 q4 p3
    exact k _ G3 H' I3 ((s1.trans hg).trans s3) (m1.trans m2) r3
  |false=>
   cases wv with
   |true=>exact k.elim
   |false=>
    have fv:Rp X.K G' v d:=fv
    rw[hK] at fv
    exact k _ G' H' I2 (s1.trans hg) (m1.trans m2) fv
def aC {x:Str}{ps:List Str}{k:Nat}{F:List D->FR}{p:Pos}(hf:cE X.prog X.w X.K X.mg X.base Γ.ca x ps k F)(hr:di k X.A)(hx:Passes (kW X.prog X.w) X E)(hK:X.K=Γ.K)(hg:Gl X x)(ha:SA X Γ E (a :: es) fr L)(hdb:(x == ("__debug__":Str))=false:=by decide)
  (he:starEach (a :: es) X.env=(false,eval a X.env) :: starEach es X.env:=by rfl) (hpl:(backTo pos (starEach es X.env)).any (·.1)=false:=by rfl):SE X Γ E (.Call (.Name x p) (a :: es) [] pos) (au F fr) L .v:=by
 obtain⟨f,fd,hm,hk,hb,hF⟩:=hf.ex
 refine PE.post' (mL (dvs:=[]) hF hr hg hm hk hb .nil hx ha hdb he hpl) λσ H Q ⟨env,G,B,β,I,o⟩=>?_
 show aT Γ E fr L σ H λvs H1=>BO X.K Γ.ca ps.length F (vs ++ []) H1 Q E
 have:=pG (Q:=Q) (wv:=false) (ps:=ps) I hK o hf.len
 simpa using this
def iC {x:Str}{ps:List Str}{k:Nat}{F:List D->FR}{p:Pos}(hf:cE X.prog X.w X.K X.mg X.base Γ.ca x ps k F)(hr:di k X.A)(hx:Passes (kW X.prog X.w) X E)(hK:X.K=Γ.K)(hg:Gl X x)(ha:SA X Γ E (a :: es) fr L)(hdb:(x == ("__debug__":Str))=false:=by decide)
  (he:starEach (a :: es) X.env=(false,eval a X.env) :: starEach es X.env:=by rfl) (hpl:(backTo pos (starEach es X.env)).any (·.1)=false:=by rfl):SE X Γ E (.Call (.Name x p) (a :: es) [] pos) (fD F fr) L .w:=by
 obtain⟨f,fd,hm,hk,hb,hF⟩:=hf.ex
 refine PE.post' (mL (dvs:=[]) hF hr hg hm hk hb .nil hx ha hdb he hpl) λσ H Q ⟨env,G,B,β,I,o⟩=>?_
 show aT Γ E fr L σ H λvs H1=>BO X.K Γ.ca ps.length F (vs ++ []) H1 Q E
 have:=pG (Q:=Q) (wv:=true) (ps:=ps) I hK o hf.len
 simpa using this
end
inductive SO where
 |nx (env:En) (β:Int)
 |bk (env:En) (β:Int)
 |ct (env:En) (β:Int)
 |rt (d:D) (fr:Bool) (β:Int)
 |exc (c:Str)
 |bad
abbrev SF:=En->Int->SO
def RV (Γ:Fx)(G' H':Hp)(fr:Bool)(d:D)(v:V):Prop:=if fr=true then ∃a,v=.ref a/\Γ.H0 a=none/\G' a=none/\Own Γ.K G' H' a d else Rp Γ.K G' v d
def oQ (Γ:Fx)(E:XK)(G:Hp)(N:Ends):SO->Prop
 | .nx env β=>∀B G' H' σ,SR Γ B G' H' σ env β->ai G G'->N.nx σ H'
 | .bk env β=>∀B G' H' σ,SR Γ B G' H' σ env β->ai G G'->N.bk σ H'
 | .ct env β=>∀B G' H' σ,SR Γ B G' H' σ env β->ai G G'->N.ct σ H'
 | .rt d fr β=>∀B G' H' σ env v,SR Γ B G' H' σ env β->ai G G'->RV Γ G' H' fr d v->N.rt v H'
 | .exc c=>∀H',Kp Γ H'->E (.ref (Γ.ca c)) none H'
 | .bad=>False
def sT (Γ:Fx)(E:XK)(m:SF):TS:=λN σ H=>∃env G B β,SR Γ B G H σ env β/\oQ Γ E G N (m env β)
def SS (X:Cx)(Γ:Fx)(E:XK)(st:Stmt)(m:SF):Prop:=PS X st (sT Γ E m)
def y1 (X:Cx)(Γ:Fx)(E:XK)(st:List Stmt)(m:SF):Prop:=mH X st (sT Γ E m)
def mH.post {X:Cx}{st:List Stmt}{t u:TS}(h:mH X st t)(m:∀D σ H,u D σ H->t D σ H):mH X st u:=λpins s σ H D I q=>h pins s σ H D I (m D σ H q)
def aL (m m':SF):SF:=λenv β=>match m env β with
 | .nx env' β'=>m' env' β'
 |r=>r
def lI:SF:=λenv β=>.nx env β
section
variable {X:Cx}{Γ:Fx}{E:XK}{e a b c:Expr}{f fa fb:VF D}{L La Lb:List Nat}{md ma mb:Md}{pos:Pos}{st:Stmt}{sts:List Stmt}{m m':SF}{ta:VF Bool}
theorem oQ.weak {G G1:Hp}{N:Ends}{r:SO}(h:oQ Γ E G N r)(s:ai G G1):oQ Γ E G1 N r:=by
 cases r with
 |nx env β=>exact λB G' H' σ I s'=>h B G' H' σ I (s.trans s')
 |bk env β=>exact λB G' H' σ I s'=>h B G' H' σ I (s.trans s')
 |ct env β=>exact λB G' H' σ I s'=>h B G' H' σ I (s.trans s')
 |rt d fr β=>exact λB G' H' σ env v I s'=>h B G' H' σ env v I (s.trans s')
 |exc c=>exact h
 |bad=>exact h
def bV:y1 X Γ E [] lI:=mH.post mK λN σ H ⟨env,G,B,β,I,o⟩=>o B G H σ I (ai.refl _)
theorem av (h:SS X Γ E st m)(h':y1 X Γ E sts m'):y1 X Γ E (st :: sts) (aL m m'):=by
 refine mH.post (b9 h h') λN σ H ⟨env,G,B,β,I,o⟩=>?_
 refine⟨env,G,B,β,I,?_⟩
 unfold aL at o
 cases q:m env β with
 |nx env' β'=>rw[q] at o;exact λB' G' H' σ' I' s'=>⟨env',G',B',β',I',o.weak s'⟩
 |bk env' β'=>rw[q] at o;exact o
 |ct env' β'=>rw[q] at o;exact o
 |rt d fr β'=>rw[q] at o;exact o
 |exc c=>rw[q] at o;exact o
 |bad=>rw[q] at o;exact o
def az (h:SS X Γ E st m):y1 X Γ E [st] m:=cT h
def toS {α:Type}(r:R α)(k:α->Int->SO):SO:=match r with
 | .ok x β=>k x β
 | .exc c=>.exc c
 | .bad=>.bad
theorem b6 {α:Type}{G:Hp}{N:Ends}{r:R α}{k:α->Int->SO}{P:α->Int->Prop}(h:oQ Γ E G N (toS r k))(i:∀x β,oQ Γ E G N (k x β)->P x β):Out Γ E r P:=by
 cases r with
 |ok x β=>exact i x β h
 |exc c=>exact h
 |bad=>exact h
def SR.set' {B:Option Addr}{G H:Hp}{σ:St}{env:En}{β:Int}(I:SR Γ B G H σ env β)(i:Nat){v:V}{d:D}(h:Rp Γ.K G v d):SR Γ B G H (σ.set i (some v)) (env.set i (.fz d)) β:=by
 by_cases hi:i < env.length
 ·exact I.set hi h
 ·have h1:env.set i (.fz d)=env:=LS (by omega)
  have h2:σ.set i (some v)=σ:=LS (by rw[I.len];omega)
  rw[h1,h2];exact I
def SR.setOw' {B:Option Addr}{G H:Hp}{σ:St}{env:En}{β:Int}(I:SR Γ B G H σ env β)(i:Nat){a:Addr}{d:D}(h0:Γ.H0 a=none)(hg:G a=none)(hb:B≠some a)(h:Own Γ.K G H a d)(hn:∀(j:Nat) (d':D),env[j]? =some (.ow d')->σ[j]?≠some (some (.ref a))):SR Γ B G H (σ.set i (some (.ref a))) (env.set i (.ow d)) β:=by
 by_cases hi:i < env.length
 ·exact I.setOw hi h0 hg hb h λj d' e _=>hn j d' e
 ·have h1:env.set i (.ow d)=env:=LS (by omega)
  have h2:σ.set i (some (.ref a))=σ:=LS (by rw[I.len];omega)
  rw[h1,h2];exact I
def dk (i:Nat)(L:List Nat)(f:VF D):SF:=λenv β=>toS (f (vl env) β) λd β'=>.nx ((aN L env).set i (.fz d)) β'
def cv {i:Nat}{x:Str}{pos':Pos}(he:SE X Γ E e f L .v)(hN:X.N.Nodup)(hi:X.N[i]? =some x:=by rfl)(hx:Loc X.env.scope x:=by first |exact Or.inl rfl |exact Or.inr rfl)(hs:swapsWith e (some (.Name x pos')) pos.line X.env=pure false:=by rfl)(hf:X.fn x=true\/X.env.scope.names.lookup x=some .local:=by first |exact .inl rfl |exact .inr rfl |assumption) :
  SS X Γ E (.Assign [.Name x pos'] e pos) (dk i L f):=by
 refine PS.post (iG hN hi hx he hs hf) λN σ H ⟨env,G,B,β,I,o⟩=>?_
 refine⟨env,G,B,β,I,b6 o λd β' k v G' H' I' s' m' vo=>?_⟩
 exact k B G' H' _ (I'.set' i vo) s'
def p5 (i:Nat)(L:List Nat)(f:VF D):SF:=λenv β=>toS (f (vl env) β) λd β'=>.nx ((aN L env).set i (.ow d)) β'
def mX {i:Nat}{x:Str}{pos':Pos}(he:SE X Γ E e f L .w)(hN:X.N.Nodup)(hi:X.N[i]? =some x:=by rfl)(hx:Loc X.env.scope x:=by first |exact Or.inl rfl |exact Or.inr rfl)(hs:swapsWith e (some (.Name x pos')) pos.line X.env=pure false:=by rfl)(hf:X.fn x=true\/X.env.scope.names.lookup x=some .local:=by first |exact .inl rfl |exact .inr rfl |assumption) :
  SS X Γ E (.Assign [.Name x pos'] e pos) (p5 i L f):=by
 refine PS.post (iG hN hi hx he hs hf) λN σ H ⟨env,G,B,β,I,o⟩=>?_
 refine⟨env,G,B,β,I,b6 o λd β' k v G' H' I' s' m' vo=>?_⟩
 obtain⟨p,rfl,h1,h2,h3⟩:=vo
 obtain⟨q1,q2,q3,q4⟩:=I.fresh h1
 exact k B G' H' _ (I'.setOw' i q1 h2 q3 h3 λj d' z=>q4 j d' (jl z)) s'
def pI (L:List Nat)(f:VF D):SF:=λenv β=>toS (f (vl env) β) λ_ β'=>.nx (aN L env) β'
def wj (he:SE X Γ E e f L md)(hs:swapsWith e none pos.line X.env=pure false:=by rfl):SS X Γ E (.Expr e pos) (pI L f):=by
 refine PS.post (rB he hs) λN σ H ⟨env,G,B,β,I,o⟩=>?_
 exact⟨env,G,B,β,I,b6 o λd β' k v G' H' I' s' m' vo=>k B G' H' _ I' s'⟩
def bK (f:VF D):SF:=λenv β=>toS (f (vl env) β) λd β'=>.rt d false β'
def aQ (he:SE X Γ E e f L .v):SS X Γ E (.Return (some e) pos) (bK f):=by
 refine PS.post (hW he) λN σ H ⟨env,G,B,β,I,o⟩=>?_
 exact⟨env,G,B,β,I,b6 o λd β' k v G' H' I' s' m' vo=>k B G' H' σ _ v I' s' vo⟩
def fE (f:VF D):SF:=λenv β=>toS (f (vl env) β) λd β'=>.rt d true β'
def gH (he:SE X Γ E e f L .w):SS X Γ E (.Return (some e) pos) (fE f):=by
 refine PS.post (hW he) λN σ H ⟨env,G,B,β,I,o⟩=>?_
 refine⟨env,G,B,β,I,b6 o λd β' k v G' H' I' s' m' vo=>?_⟩
 obtain⟨p,rfl,h1,h2,h3⟩:=vo
 obtain⟨q1,_⟩:=I.fresh h1
 exact k B G' H' σ _ _ I' s' ⟨p,rfl,q1,h2,h3⟩
def ui (i:Nat):SF:=λenv β=>match env[i]? with
 |some (.fz d)=>.rt d false β
 |some (.ow d)=>.rt d true β
 |_=>.bad
theorem qG (i:Nat){x:Str}{p:Pos}(hN:X.N[i]? =some x:=by rfl)(hv:vP X.env.scope x:=by first |exact Or.inl rfl |exact Or.inr (Or.inl rfl) |exact Or.inr (Or.inr rfl))(hd:(x == ("__debug__":Str))=false:=by decide)
  (hcd:(x == ("__classdict__":Str))=false:=by decide):SS X Γ E (.Return (some (.Name x p)) pos) (ui i):=by
 refine PS.post (hW (gZ hN hv hd hcd)) λN σ H ⟨env,G,B,β,I,o⟩=>?_
 unfold ui at o
 cases q:env[i]? with
 |none=>rw[q] at o;exact o.elim
 |some s=>
  rw[q] at o
  cases s with
  |no=>exact o.elim
  |bx=>exact o.elim
  |br d=>exact o.elim
  |fz d=>
   obtain⟨v,h1,h2⟩:=I.slot i _ q
   exact⟨v,h1,o B G H σ env v I (ai.refl _) h2⟩
  |ow d=>
   obtain⟨p,h1,h2,h3,h4,h5⟩:=I.slot i _ q
   exact⟨_,h1,o B G H σ env _ I (ai.refl _) ⟨p,rfl,h2,h3,h5⟩⟩
def jO (L:List Nat)(t:VF Bool)(m m':SF):SF:=λenv β=>toS (t (vl env) β) λc β'=>if c=true then m (aN L env) β' else m' (aN L env) β'
theorem cO {x y:List Stmt}(hc:y6 X Γ E c ta L)(ha:y1 X Γ E x m)(hb:y1 X Γ E y m'):SS X Γ E (.If c x y pos) (jO L ta m m'):=by
 refine PS.post (wB hc ha hb) λN σ H ⟨env,G,B,β,I,o⟩=>?_
 refine⟨env,G,B,β,I,b6 o λd β' k G' H' I' s' m'=>?_⟩
 cases d with
 |true=>exact sL ⟨_,G',B,β',I',oQ.weak k s'⟩
 |false=>exact om ⟨_,G',B,β',I',oQ.weak k s'⟩
def jL (L:List Nat)(t:VF Bool)(m:SF):Nat->SF
 | 0=>λ_ _=>.bad
 |n + 1=>λenv β=>toS (t (vl env) β) λc β'=>if c=true then (match m (aN L env) β' with
   | .nx env2 β2=>jL L t m n env2 β2
   | .ct env2 β2=>jL L t m n env2 β2
   | .bk env2 β2=>.nx env2 β2
   |r=>r) else .nx (aN L env) β'
theorem AB {x:List Stmt}(n:Nat)(hp:PassesOwn (model X.prog X.w) X.A X.env X.xe)(hc:y6 X Γ E c ta L)(hb:y1 X Γ E x m):SS X Γ E (.While c x [] pos) (jL L ta m n):=by
 refine PS.post (Ao hp hc hb) λN σ H ⟨env,G,B,β,I,o⟩=>?_
 refine⟨λk σ H=>∃env G1 B β,SR Γ B G1 H σ env β/\ai G G1/\oQ Γ E G1 N (jL L ta m k env β),⟨n,env,G,B,β,I,ai.refl _,o⟩,?_⟩
 rintro k σ H ⟨env,G1,B,β,I,sG,o⟩
 cases k with
 |zero=>exact o.elim
 |succ k=>
  refine⟨env,G1,B,β,I,b6 o λd β' q G' H' I' s' m'=>?_⟩
  cases d with
  |false=>exact om (q B G' H' σ I' s')
  |true=>
   refine sL ⟨λσ H=>∃env G1 B β,SR Γ B G1 H σ env β/\ai G G1/\oQ Γ E G1 N (jL L ta m k env β),λσ' H' h=>⟨k,Nat.lt_succ_self k,h⟩,aN L env,G',B,β',I',?_⟩
   rw[KH rfl] at q
   cases r:m (aN L env) β' with
   |nx env2 β2=>rw[r] at q;exact λB2 G2 H2 σ2 I2 s2=>⟨env2,G2,B2,β2,I2,(sG.trans s').trans s2,oQ.weak q (s'.trans s2)⟩
   |ct env2 β2=>rw[r] at q;exact λB2 G2 H2 σ2 I2 s2=>⟨env2,G2,B2,β2,I2,(sG.trans s').trans s2,oQ.weak q (s'.trans s2)⟩
   |bk env2 β2=>rw[r] at q;exact λB2 G2 H2 σ2 I2 s2=>q B2 G2 H2 σ2 I2 (s'.trans s2)
   |rt d fr β2=>rw[r] at q;exact oQ.weak q s'
   |exc c=>rw[r] at q;exact q
   |bad=>rw[r] at q;exact q
def Walk (K:Frag)(B:Option Addr)(G H1:Hp)(ds:List D)(J:It):Prop:=∀Gc H (i:Nat),ai G Gc->ai Gc H->gu B H1 H->
 (i < ds.length->J.go i H/\∀x H',J.yld i H x H'->∃G' d,Ext Gc H G' H'/\ds[i]? =some d/\Rp K G' x d)/\(ds.length<=i->J.stop i H)
def iT (Γ:Fx)(E:XK)(f:VF (List D))(L:List Nat)(md:Md):TI:=λσ H Rr=>∃env G B β,SR Γ B G H σ env β/\
 Out Γ E (f (vl env) β) λds β'=>∀J G' H',SR Γ B G' H' σ (aN L env) β'->ai G G'->gu B H H'->Walk Γ.K B G' (match md with | .b=>H' |_=>λ_=>none) ds J->Rr J H'
def SI (X:Cx)(Γ:Fx)(E:XK)(tg e:Expr)(f:VF (List D))(L:List Nat)(md:Md):Prop:=PI X tg e (iT Γ E f L md)
def PI.post {X:Cx}{tg e:Expr}{t u:TI}(h:PI X tg e t)(m:∀σ H Q,u σ H Q->t σ H Q):PI X tg e u:=λpins s σ H Q I q=>h pins s σ H Q I (m σ H Q q)
variable {tg:Expr}
def kn:D->Option (List D)
 | .list ds=>some ds
 | .tuple ds=>some ds
 |_=>none
def bz (fa:VF D):VF (List D):=λvs β=>(fa vs β).bnd λx β1=>R.of (kn x) β1
end
def Kv (K:Frag)(tl:TE):TI:=λσ H R=>tl σ H λx H1=>∃a xs,x=.ref a/\((fx K H1 a xs/\R (yM K a) H1)\/(fw K H1 a xs/\R (D4 K a) H1))
section
variable {X:Cx}{tg l:Expr}{tl:TE}
def D7 (hl:PE X l tl):PI X tg l (Kv X.K tl):=by
 intro pins s σ H R I h
 refine b7 (hl pins s σ H _ I h) λv s1 ⟨x,H1,I1,r1,q1⟩=>?_
 obtain⟨a,xs,e,q⟩:=q1
 subst e
 cases r1
 rcases q with⟨hq,q⟩ | ⟨hq,q⟩
 ·obtain⟨its,rv,p,hz⟩:=I1.list hq
  refine ME p.isList ?_
  refine⟨s1.heap.objs.size,[s1.heap.objs.size],_,_,H1,rfl,I1.kept (t':=s1.toks) λb o e=>KC _ e,me a _,⟨_,K0 _ rfl,rfl,rfl⟩,λb hb=>?_,q⟩
  have e:b=s1.heap.objs.size:=by simpa using hb
  subst e
  exact I1.fpOk (KI _) (I1.hok.fresh (KI _))
 ·obtain⟨its,rv,p,hz⟩:=I1.tuple hq
  refine MB (show s1.heap.IsTuple a its.toArray from p) ?_
  refine⟨s1.heap.objs.size,[s1.heap.objs.size],_,_,H1,rfl,I1.kept (t':=s1.toks) λb o e=>KC _ e,nR a _,⟨_,K0 _ rfl,rfl,rfl⟩,λb hb=>?_,q⟩
  have e:b=s1.heap.objs.size:=by simpa using hb
  subst e
  exact I1.fpOk (KI _) (I1.hok.fresh (KI _))
end
section
variable {X:Cx}{Γ:Fx}{E:XK}{e a b c:Expr}{f fa fb:VF D}{L La Lb:List Nat}{md ma mb:Md}{pos:Pos}{st:Stmt}{sts:List Stmt}{m m':SF}{ta:VF Bool}{tg:Expr}
def lP {K:Frag}{B:Option Addr}{G H1:Hp}{p:Addr}{xs:List V}{ds:List D}(h:∀Gc H,ai G Gc->ai Gc H->gu B H1 H->fx K H p xs)(r:bH K G xs ds):Walk K B G H1 ds (yM K p):=λGc H i s1 s2 m=>by
 have hq:=h Gc H s1 s2 m
 refine⟨λhi=>⟨?_,λx H' y=>?_⟩,λhi=>⟨xs,hq,by rw[r.len];exact hi⟩⟩
 ·have hi':i < xs.length:=by rw[r.len];exact hi
  exact⟨xs,xs[i],hq,by simp[hi']⟩
 ·obtain⟨rfl,y⟩:=y
  obtain⟨d,e,q⟩:=r.at' (y xs hq)
  exact⟨Gc,d,Ext.refl s2,e,q.mono s1⟩
def tm {K:Frag}{B:Option Addr}{G H1:Hp}{p:Addr}{xs:List V}{ds:List D}(h:∀Gc H,ai G Gc->ai Gc H->gu B H1 H->fw K H p xs)(r:bH K G xs ds):Walk K B G H1 ds (D4 K p):=λGc H i s1 s2 m=>by
 have hq:=h Gc H s1 s2 m
 refine⟨λhi=>⟨?_,λx H' y=>?_⟩,λhi=>⟨xs,hq,by rw[r.len];exact hi⟩⟩
 ·have hi':i < xs.length:=by rw[r.len];exact hi
  exact⟨xs,xs[i],hq,by simp[hi']⟩
 ·obtain⟨rfl,y⟩:=y
  obtain⟨d,e,q⟩:=r.at' (y xs hq)
  exact⟨Gc,d,Ext.refl s2,e,q.mono s1⟩
theorem GB (hK:X.K=Γ.K)(ha:SE X Γ E a fa La .v):SI X Γ E tg a (bz fa) La .v:=by
 refine PI.post (D7 ha) λσ H Q ⟨env,G,B,β,I,o⟩=>?_
 refine⟨env,G,B,β,I,o.bnd.imp λd1 β1 h x G1 H1 I1 s1 m1 vx=>?_⟩
 obtain⟨ds,e,k⟩:=h.of
 rw[hK]
 have vx:Rp Γ.K G1 x d1:=vx
 cases d1 with
 |list l=>
  cases e
  cases vx with
  | @lst p xs _ hq r=>exact⟨p,xs,rfl,.inl ⟨.inl (Rd.mono (.inl hq) I1.sub),k _ G1 H1 I1 s1 m1 (lP (λGc H t1 t2 _=>.inl (Rd.mono (.inl hq) (t1.trans t2))) r)⟩⟩
 |tuple l=>
  cases e
  cases vx with
  | @tup p xs _ hq r=>exact⟨p,xs,rfl,.inr ⟨hq.grow I1.sub.grow,k _ G1 H1 I1 s1 m1 (tm (λGc H t1 t2 _=>hq.grow (t1.trans t2).grow) r)⟩⟩
 |_=>cases e
theorem jJ (hK:X.K=Γ.K)(ha:SE X Γ E a fa La ma):SI X Γ E tg a (bz fa) La .b:=by
 refine PI.post (D7 ha) λσ H Q ⟨env,G,B,β,I,o⟩=>?_
 refine⟨env,G,B,β,I,o.bnd.imp λd1 β1 h x G1 H1 I1 s1 m1 vx=>?_⟩
 obtain⟨ds,e,k⟩:=h.of
 rw[hK]
 have vx:=vx.brw I.boxThere
 cases d1 with
 |list l=>
  cases e
  rcases vx with vx | ⟨p,rfl,hb,xs,q,r⟩
  ·cases vx with
   | @lst p xs _ hq r=>exact⟨p,xs,rfl,.inl ⟨.inl (Rd.mono (.inl hq) I1.sub),k _ G1 H1 I1 s1 m1 (lP (λGc H t1 t2 _=>.inl (Rd.mono (.inl hq) (t1.trans t2))) r)⟩⟩
  ·exact⟨p,xs,rfl,.inl ⟨.inl (.inl q),k _ G1 H1 I1 s1 m1 (lP (λGc H t1 t2 mv=>.inl (.inl (mv.1 p _ q hb))) r)⟩⟩
 |tuple l=>
  cases e
  rcases vx with vx | ⟨p,rfl,hb,q⟩
  ·cases vx with
   | @tup p xs _ hq r=>exact⟨p,xs,rfl,.inr ⟨hq.grow I1.sub.grow,k _ G1 H1 I1 s1 m1 (tm (λGc H t1 t2 _=>hq.grow (t1.trans t2).grow) r)⟩⟩
  ·exact q.elim
 |_=>cases e
def cZ (lo:Int)(n:Nat):List D:=(List.range n).map λ(k:Nat)=>int (lo + k)
def fT (lo:Int)(n:Nat):(cZ lo n).length=n:=by unfold cZ;simp
def Ae {K:Frag}{B:Option Addr}{G H1:Hp}(lo:Int)(n:Nat):Walk K B G H1 (cZ lo n) (Bh lo n):=λGc H i s1 s2 m=>by
 rw[fT]
 refine⟨λhi=>⟨hi,λx H' y=>?_⟩,λhi=>hi⟩
 obtain⟨rfl,rfl⟩:=y
 refine⟨Gc,.int (lo + i),Ext.refl s2,?_,.int _⟩
 unfold cZ
 rw[KW,LX hi];rfl
def D8 (j:Int):Bool:=Nat.ble j.natAbs 1000000
def zh {j:Int}(h:D8 j=true): -(2 ^ 62)<=j/\j < 2 ^ 62:=by
 have:=Nat.le_of_ble_eq_true h
 omega
def yO {j:Int}(h: -1000<=j)(h2:j<=10000):D8 j=true:=Nat.ble_eq_true_of_le (by omega)
def cB (fa:VF D):VF (List D):=λvs β=>(fa vs β).bnd λx β1=>match x with
 | .int j=>if D8 j=true then .ok (cZ 0 j.toNat) β1 else .bad
 |_=>.bad
theorem ke {p:Pos}(hg:Gl X "range")(hm:X.mg "range"=none)(ha:SE X Γ E a fa La ma)(hs:starEach [a] X.env= [(false,eval a X.env)]:=by rfl)(hs':starEach [a] X.env=(false,eval a X.env) :: starEach [] X.env:=by rfl):SI X Γ E tg (.Call (.Name "range" p) [a] [] pos) (cB fa) La md:=by
 refine PI.post (jQ hg hm (ah ha aH hs') hs) λσ H Q ⟨env,G,B,β,I,o⟩=>?_
 refine⟨env,G,B,β,I,o.bnd.imp λd1 β1 h x G1 H1 I1 s1 m1 vx=>?_⟩
 have vx:=vx.brw I.boxThere
 cases d1 with
 |int j=>
  obtain rfl:=vx.int
  dsimp only at h
  by_cases hj:D8 j=true
  ·rw[KH hj] at h
   exact⟨j,rfl,(zh hj).1,(zh hj).2,h _ G1 H1 I1 s1 m1 (Ae 0 _)⟩
  ·rw[KZ hj] at h;exact h.elim
 |_=>exact h.elim
inductive Tg where
 |nm (i:Nat)
 |two (i j:Nat)
def pairD:D->Option (D×D)
 | .tuple [x,y]=>some (x,y)
 |_=>none
def AW {d x y:D}(h:pairD d=some (x,y)):d=.tuple [x,y]:=by
 unfold pairD at h
 split at h
 ·cases h;rfl
 ·cases h
def fY:Tg->D->En->Option En
 | .nm i,d,env=>some (env.set i (.fz d))
 | .two i j,d,env=>(pairD d).map λp=>(env.set i (.fz p.1)).set j (.fz p.2)
def ki:Tg->D->List Nv->Option (List Nv)
 | .nm i,d,vs=>some (vs.set i (.da d))
 | .two i j,d,vs=>(pairD d).map λp=>(vs.set i (.da p.1)).set j (.da p.2)
def uz (env:En)(i:Nat)(s:Sl):vl (env.set i s)=(vl env).set i s.val:=by unfold vl;rw[List.map_set]
theorem CZ (t:Tg)(d:D)(env:En):(fY t d env).map vl=ki t d (vl env):=by
 cases t with
 |nm i=>show some (vl _)=some _;rw[uz];rfl
 |two i j=>
  show ((pairD d).map _).map vl=(pairD d).map _
  cases pairD d with
  |none=>rfl
  |some p=>show some (vl _)=some _;rw[uz,uz];rfl
def gT (Γ:Fx)(t:Tg):TG:=λv σ H Q=>∃env G B β d env',SR Γ B G H σ env β/\Rp Γ.K G v d/\fY t d env=some env'/\∀σ',SR Γ B G H σ' env' β->Q σ' H
def SG (X:Cx)(Γ:Fx)(tg:Expr)(t:Tg):Prop:=PG X tg (gT Γ t)
def PG.post {X:Cx}{tg:Expr}{t u:TG}(h:PG X tg t)(m:∀v σ H Q,u v σ H Q->t v σ H Q):PG X tg u:=λpins s σ H v uu Q I r q=>h pins s σ H v uu Q I r (m v σ H Q q)
def cX {i:Nat}{x:Str}(hN:X.N.Nodup)(hi:X.N[i]? =some x:=by rfl)(hx:Loc X.env.scope x:=by first |exact Or.inl rfl |exact Or.inr rfl)(hf:X.fn x=true\/X.env.scope.names.lookup x=some .local:=by first |exact .inl rfl |exact .inr rfl |assumption):SG X Γ (.Name x pos) (.nm i):=by
 refine PG.post (cy hN hi hx hf) λv σ H Q ⟨env,G,B,β,d,env',I,r,e,k⟩=>?_
 cases e
 exact k _ (I.set' i r)
theorem hJ {i j:Nat}{x y:Str}{px py:Pos}{n:Nat}(hN:X.N.Nodup)(hc:X.calm=true:=by rfl)(hK:X.K=Γ.K:=by rfl)(hi:X.N[i]? =some x:=by rfl)(hj:X.N[j]? =some y:=by rfl)(hx:Loc X.env.scope x:=by first |exact Or.inl rfl |exact Or.inr rfl)(hy:Loc X.env.scope y:=by first |exact Or.inl rfl |exact Or.inr rfl)
  (hf:X.fn x=true\/X.env.scope.names.lookup x=some .local:=by first |exact .inl rfl |exact .inr rfl |assumption) (hf':X.fn y=true\/X.env.scope.names.lookup y=some .local:=by first |exact .inl rfl |exact .inr rfl |assumption):SG X Γ (.Tuple [.Name x px,.Name y py] n pos) (.two i j):=by
 refine PG.post (nW (n:=2) hc (cP (cy hN hi hx hf) (cP (cy hN hj hy hf') lA))) λv σ H Q ⟨env,G,B,β,d,env',I,r,e,k⟩=>?_
 rw[hK]
 have e:(pairD d).map (λp=>(env.set i (.fz p.1)).set j (.fz p.2))=some env':=e
 cases q:pairD d with
 |none=>rw[q] at e;cases e
 |some p=>
  obtain⟨dx,dy⟩:=p
  rw[q] at e
  cases e
  obtain rfl:=AW q
  cases r with
  | @tup p xs _ hq r=>
   cases r with
   |cons r1 r=>
    cases r with
    |cons r2 r=>
     cases r
     exact⟨p,_,rfl,hq.grow I.sub.grow,rfl,_,_,rfl,_,_,rfl,rfl,k _ ((I.set' i r1).set' j r2)⟩
def qj (t:Tg)(m:SF):List D->SF
 | []=>λenv β=>.nx env β
 |d :: ds=>λenv β=>match fY t d env with
  |none=>.bad
  |some env1=>match m env1 β with
   | .nx env2 β2=>qj t m ds env2 β2
   | .ct env2 β2=>qj t m ds env2 β2
   | .bk env2 β2=>.nx env2 β2
   |r=>r
def gL (t:Tg)(L:List Nat)(fi:VF (List D))(m:SF):SF:=λenv β=>toS (fi (vl env) β) λds β'=>qj t m ds (aN L env) β'
def i0 {t:Tg}{fi:VF (List D)}{x:List Stmt}(hp:PassesOwn (model X.prog X.w) X.A X.env X.xe)(hc:X.calm=true)(hi:SI X Γ E tg e fi L .v)(hg:SG X Γ tg t)(hb:y1 X Γ E x m)(hs:∀x,foldedSetIterable e X.env x=pure x:=by intro _;rfl):SS X Γ E (.For tg e x [] pos) (gL t L fi m):=by
 refine PS.post (qr hp hc hi hg hb hs) λN σ H ⟨env,G,B,β,I,o⟩=>?_
 refine⟨env,G,B,β,I,b6 o λds β' q J G' H' I' s' m' w=>?_⟩
 have w:Walk Γ.K B G' (λ_=>none) ds J:=w
 refine⟨λi n σ H=>n=ds.length - i/\i<=ds.length/\∃env G1 B β,SR Γ B G1 H σ env β/\ai G' G1/\oQ Γ E G1 N (qj t m (ds.drop i) env β),⟨ds.length,by simp,LC _,aN L env,G',B,β',I',ai.refl _,by rw[List.drop_zero];exact oQ.weak q s'⟩,?_⟩
 rintro i n σ H ⟨rfl,hi,env,G1,B1,β1,I1,s1,q⟩
 obtain⟨w1,w2⟩:=w G1 H i s1 I1.sub ⟨(λb o e=>by cases e),λb o u e=>by cases e⟩
 by_cases hlt:i < ds.length
 ·obtain⟨go,yl⟩:=w1 hlt
  refine .inr ⟨go,λσ H=>∃env G2 B β,SR Γ B G2 H σ env β/\ai G' G2/\oQ Γ E G2 N (qj t m (ds.drop (i + 1)) env β),λσ2 H2 h=>⟨ds.length - (i + 1),by omega,rfl,hlt,h⟩,λx H2 y=>?_⟩
  obtain⟨G2,d,x2,ed,rd⟩:=yl x H2 y
  have I2:=I1.ext x2
  have q:=oQ.weak q x2.gg
  rw[List.drop_eq_getElem_cons hlt] at q
  have ed':ds[i]=d:=by rw[KR hlt] at ed;exact Option.some.inj ed
  rw[ed'] at q
  unfold qj at q
  cases eb:fY t d env with
  |none=>rw[eb] at q;exact q.elim
  |some env1=>
   rw[eb] at q
   refine⟨env,G2,B1,β1,d,env1,I2,rd,eb,λσ3 I3=>⟨env1,G2,B1,β1,I3,?_⟩⟩
   have s2:=s1.trans x2.gg
   dsimp only at q
   cases r:m env1 β1 with
   |nx env2 β2=>rw[r] at q;exact λB2 G3 H3 σ2 I2 s3=>⟨env2,G3,B2,β2,I2,s2.trans s3,oQ.weak q s3⟩
   |ct env2 β2=>rw[r] at q;exact λB2 G3 H3 σ2 I2 s3=>⟨env2,G3,B2,β2,I2,s2.trans s3,oQ.weak q s3⟩
   |bk env2 β2=>rw[r] at q;exact λB2 G3 H3 σ2 I2 s3=>q B2 G3 H3 σ2 I2 s3
   |rt d fr β2=>rw[r] at q;exact q
   |exc c=>rw[r] at q;exact q
   |bad=>rw[r] at q;exact q
 ·have e:i=ds.length:=by omega
  subst e
  rw[List.drop_length] at q
  exact .inl ⟨w2 (KI _),q B1 G1 H σ I1 (ai.refl _)⟩
end
abbrev Fx.hX (Γ:Fx)(H0 G0:Hp)(par:List Addr)(br:Nat->Bool)(bx:Option Addr):Fx:=⟨Γ.K,H0,G0,par,Γ.ca,br,bx⟩
def dI (own:Nat)(ixs:List Nat)(vs:List Nv):List Nv:=List.replicate own .no ++ ixs.map λi=>(vs[i]?).getD .no
def Hr:Option Sl->Sl
 |some (.ow d)=>.br d
 |some s=>s
 |none=>.no
def benv (own:Nat)(ixs:List Nat)(env:En):En:=List.replicate own .no ++ ixs.map λi=>Hr env[i]?
theorem Ce (o:Option Sl):(Hr o).val=(o.map Sl.val).getD .no:=by
 cases o with
 |none=>rfl
 |some s=>cases s <;> rfl
def BZ (own:Nat)(ixs:List Nat)(env:En):vl (benv own ixs env)=dI own ixs (vl env):=by
 unfold vl benv dI
 rw[MC,List.map_replicate,Lm]
 congr 1
 refine LQ λi _=>?_
 show (Hr env[i]?).val=_
 rw[Ce,KW]
def vK (env:En):Prop:=∀(i:Nat) (d:D),env[i]?≠some (.ow d)
theorem sN {env:En}(h:vK env)(L:List Nat):aN L env=env:=by
 unfold aN
 induction L with
 |nil=>rfl
 |cons i L ih=>
  rw[foldl_cons]
  have:iz env i=env:=by
   unfold iz
   split
   ·rename_i d e;exact absurd e (h i d)
   ·rfl
  rw[this];exact ih
def pW (own:Nat)(ixs:List Nat)(env:En):vK (benv own ixs env):=λi d e=>by
 unfold benv at e
 have hm:=K9 e
 rcases Lk.mp hm with h |h
 ·have:=L8 h;cases this
 ·obtain⟨k,_,hk⟩:=Lo.mp h
  cases q:env[k]? with
  |none=>rw[q] at hk;cases hk
  |some s=>rw[q] at hk;cases s <;> cases hk
def ou {env:En}(h:vK env)(i:Nat)(d:D):vK (env.set i (.fz d)):=λj d' e=>by
 by_cases z:i=j
 ·subst z
  by_cases hi:i < env.length
  ·rw[KQ hi] at e;cases e
  ·rw[LS (by omega)] at e;exact h _ _ e
 ·rw[KS z] at e;exact h _ _ e
theorem yT {env env1:En}{t:Tg}{d:D}(h:vK env)(e:fY t d env=some env1):vK env1:=by
 cases t with
 |nm i=>cases e;exact ou h i d
 |two i j=>
  have e:(pairD d).map _=some env1:=e
  cases q:pairD d with
  |none=>rw[q] at e;cases e
  |some p=>rw[q] at e;cases e;exact ou (ou h _ _) _ _
theorem yD {env env1:En}{t:Tg}{d:D}(e:fY t d env=some env1)(d':D):fY t d' env1=fY t d' env:=by
 cases t with
 |nm i=>cases e;show some _=some _;rw[set_set]
 |two i j=>
  have e:(pairD d).map _=some env1:=e
  cases q:pairD d with
  |none=>rw[q] at e;cases e
  |some p=>
   rw[q] at e;cases e
   show (pairD d').map _=(pairD d').map _
   cases pairD d' with
   |none=>rfl
   |some p'=>
    show some _=some _
    congr 1
    dsimp only
    by_cases z:i=j
    ·subst z;simp[set_set]
    ·rw[List.set_comm _ _ (Ne.symm z),set_set,set_set]
def Ext.mov {G H G' H':Hp}(x:Ext G H G' H')(B:Option Addr):gu B H H':=x.hh.mov B
section
variable {Γ:Fx}{B:Option Addr}{G H G1 H1 Gc Hc:Hp}{σ σ':St}{env envb:En}{β β':Int}{own:Nat}{ixs:List Nat}{Da:Addr}{acc:List V}
def uV (envb:En):Nat->Bool:=λj=>match envb[j]? with
 |some (.br _)=>true
 |_=>false
def SR.block (I:SR Γ B G H σ env β)(own:Nat)(ixs:List Nat)(hD:H Da=none):SR (Γ.hX (upd H Da (.lst [])) G (Da :: B.toList) (uV (benv own ixs env)) B) B G (upd H Da (.lst [])) (qH own ixs σ) (benv own ixs env) β:=by
 obtain⟨q1,q2,q3,q4⟩:=I.fresh hD
 have nB:∀b,B=some b->b≠Da:=λb e z=>q3 (by rw[<-z];exact e)
 refine⟨I.sub.trans (ai.new hD),ai.refl _,λb _ h=>h,λb o h _=>Kt.of h,λb hb=>?_,λb e=>e,λb e=>?_,?_,λi s e=>?_,λi j c d d' e=>absurd e (pW own ixs env i d)⟩
 ·rcases KG.mp hb with z |z
  ·subst z;exact Mx.lst aj
  ·have z':B=some b:=by simpa using z
   exact Mx.lst (by rw[ao (nB b z')];exact (I.box b z').1)
 ·obtain⟨h1,h2,_⟩:=I.box b e
  exact⟨by rw[ao (nB b e)];exact h1,h2,.inl (KL _ (by simpa using e))⟩
 ·unfold qH benv;simp
 ·by_cases hi:i < own
  ·unfold benv at e
   rw[Lz (by simpa using hi),LU,KH hi] at e
   cases e;trivial
  ·have e0:=e
   unfold benv at e
   rw[LG (by simpa using hi),L4,KW] at e
   cases ek:ixs[i - own]? with
   |none=>rw[ek] at e;cases e
   |some k=>
    rw[ek] at e
    have e:Hr env[k]? =s:=Option.some.inj e
    have es:(qH own ixs σ)[i]? =some ((σ[k]?).join):=by
     unfold qH
     rw[LG (by simpa using hi),L4,KW,ek];rfl
    rw[es]
    cases q:env[k]? with
    |none=>rw[q] at e;subst e;trivial
    |some t=>
     rw[q] at e
     have w:=I.slot k t q
     cases t with
     |no=>subst e;trivial
     |fz d=>subst e;obtain⟨v,h1,h2⟩:=w;exact⟨v,by rw[h1];rfl,h2⟩
     |bx=>subst e;obtain⟨a,h1,h2⟩:=w;exact⟨a,by rw[h1];rfl,h2⟩
     |ow d=>
      subst e
      obtain⟨a,h1,h2,h3,h4,h5⟩:=w
      obtain⟨o,ho⟩:=h5.obj
      have aD:a≠Da:=ay ho hD
      refine⟨by show uV _ i=true;unfold uV;rw[e0];rfl,a,by rw[h1];rfl,h4,?_,h5.mono (ai.refl _) λo q=>Kt.of (by rw[ao aD];exact q)⟩
      intro hm
      rcases KG.mp hm with z |z
      ·exact aD z
      ·exact h4 (by simpa using z)
     |br d=>
      subst e
      obtain⟨b1,a,h1,h4,hp,h5⟩:=w
      obtain⟨o,ho⟩:=h5.obj
      have aD:a≠Da:=ay ho hD
      refine⟨by show uV _ i=true;unfold uV;rw[e0];rfl,a,by rw[h1];rfl,h4,?_,h5.mono (ai.refl _) λo q=>Kt.of (by rw[ao aD];exact q)⟩
      intro hm
      rcases KG.mp hm with z |z
      ·exact aD z
      ·exact h4 (by simpa using z)
def SR.unblock (I:SR Γ B G H σ env β){br:Nat->Bool}(hD:H Da=none)(J:SR (Γ.hX (upd H Da (.lst [])) G (Da :: B.toList) br B) B Gc Hc σ' envb β'):SR Γ B Gc Hc σ env β'/\gu B H Hc/\Gc Da=none:=by
 obtain⟨q1,q2,q3,q4⟩:=I.fresh hD
 have up:∀{b:Addr},Mx H b->Mx (upd H Da (.lst [])) b:=λ{b} h=>h.same λo e=>Kt.of (by rw[ao (ay e hD)];exact e)
 have mv0:∀b o,H b=some o->B≠some b->Kt Hc b o:=λb o e n=>J.keep b o (show upd H Da (.lst []) b=some o by rw[ao (ay e hD)];exact e) λhm=>by
  rcases KG.mp hm with z |z
  ·rw[z,hD] at e;cases e
  ·exact n (by simpa using z)
 have mv:gu B H Hc:=⟨mv0,λb o u e=>mv0 b _ e λz=>by rw[(I.box b z).1] at e;cases e⟩
 refine⟨⟨J.sub,I.old.trans J.old,λb h1 h2=>J.new b (up (I.thereM h1)) (I.new b h1 h2),λb o h1 h2=>vg (I.keep b o h1 h2) mv λz=>?_,λb hb=>J.thereM (up (I.pin b hb)),I.fix,λb e=>?_,I.len,λi s e=>?_,I.sep⟩,mv,J.new Da (Mx.lst (show upd H Da (.lst []) Da=some (.lst []) from aj)) q2⟩
 ·obtain⟨_,_,h3⟩:=I.box b z
  rcases h3 with h3 |h3
  ·exact h2 h3
  ·rw[h1] at h3;cases h3
 ·obtain⟨j1,j2,_⟩:=J.box b e
  exact⟨j1,j2,(I.box b e).2.2⟩
 ·have w:=I.slot i s e
  cases s with
  |no=>trivial
  |fz d=>obtain⟨v,h1,h2⟩:=w;exact⟨v,h1,h2.mono J.old⟩
  |bx=>exact w
  |ow d=>
   obtain⟨a,h1,h2,h3,h4,h5⟩:=w
   exact⟨a,h1,h2,J.new a (up h5.mx) h3,h4,h5.mono J.old λo q=>mv.1 a o q h4⟩
  |br d=>
   obtain⟨b1,a,h1,h4,hp,h5⟩:=w
   exact⟨b1,a,h1,h4,hp,h5.mono J.old λo q=>mv.1 a o q h4⟩
def SR.updD {ys:List V}(J:SR Γ B G H σ env β)(hp:Da∈Γ.par)(h0:Mx Γ.H0 Da)(g0:Γ.G0 Da=none)(hB:B≠some Da):SR Γ B G (upd H Da (.lst ys)) σ env β:=by
 have gD:=J.new Da h0 g0
 have ha:∀x y,H Da≠some (.aN x y):=λx y w=>(J.pin Da hp).2 _ w trivial
 refine⟨λb u q=>jI (J.sub b u q) (λz=>by rw[z,gD] at q;cases q) ha,J.old,J.new,λb u q n=>jI (J.keep b u q n) (λz=>n (by rw[z];exact hp)) ha,λb hb=>?_,J.fix,λb e=>?_,J.len,λi s e=>?_,J.sep⟩
 ·by_cases z:b=Da
  ·subst z;exact Mx.lst aj
  ·exact (J.pin b hb).same λo e=>Kt.of (by rw[ao z];exact e)
 ·obtain⟨h1,h2⟩:=J.box b e
  exact⟨by rw[ao (λz=>hB (by rw[<-z];exact e))];exact h1,h2⟩
 ·have w:=J.slot i s e
  cases s with
  |no=>trivial
  |fz d=>exact w
  |bx=>exact w
  |ow d=>
   obtain⟨a,h1,h2,h3,h4,h5⟩:=w
   have aD:a≠Da:=λz=>h0.1 (by rw[<-z];exact h2)
   exact⟨a,h1,h2,h3,h4,h5.mono (ai.refl _) λo q=>Kt.of (by rw[ao aD];exact q)⟩
  |br d=>
   obtain⟨b1,a,h1,h4,hpa,h5⟩:=w
   have aD:a≠Da:=λz=>hpa (by rw[z];exact hp)
   exact⟨b1,a,h1,h4,hpa,h5.mono (ai.refl _) λo q=>Kt.of (by rw[ao aD];exact q)⟩
end
def R.okb {α γ:Type}(r:R α)(k:α->Int->R γ):R γ:=match r with
 | .ok a β=>k a β
 |_=>.bad
def fm (t:Tg)(ft:VF Bool)(fe:VF D)(vs:List Nv):List D->Int->R (List D)
 | [],β=>.ok [] β
 |d :: ds,β=>match ki t d vs with
  |none=>.bad
  |some vs1=>(ft vs1 β).okb λc β1=>if c=true then (fe vs1 β1).okb λx β2=>(fm t ft fe vs ds β2).okb λxs β3=>.ok (x :: xs) β3 else fm t ft fe vs ds β1
def aF (own:Nat)(ixs:List Nat)(t:Tg)(fi:VF (List D))(ft:VF Bool)(fe:VF D):VF D:=λvs β=>(fi vs β).bnd λds β1=>if ds.length<=sizeLine then (fm t ft fe (dI own ixs vs) ds β1).okb λxs β2=>.ok (.list xs) β2 else .bad
def gy:VF Bool:=λ_ β=>.ok true β
def DH (own:Nat)(ixs Lc:List Nat)(j:Nat):Bool:=decide (j < own) || (match ixs[j - own]? with
 |some i=>Lc.contains i
 |none=>false)
theorem Cp {α γ:Type}{Γ:Fx}{E:XK}{r:R α}{k:α->Int->R γ}{P:γ->Int->Prop}(h:Out Γ E (r.okb k) P):∃a β,r=.ok a β/\Out Γ E (k a β) P:=by
 cases r with
 |ok a β=>exact⟨a,β,rfl,h⟩
 |exc c=>exact h.elim
 |bad=>exact h.elim
section
variable {X:Cx}{Γ:Fx}{E:XK}{tg iter elt:Expr}{ifs:List Expr}{scope:Scope}{NB:List Str}{own:Nat}{ixs Li Lc Lt Le:List Nat}{t:Tg}{fi:VF (List D)}{ft:VF Bool}{fe:VF D}{pos:Pos}
def bR {X:Cx}{Γ:Fx}{E:XK}:zE X [] (qT Γ E gy []):=λpins s σ H Q I ⟨env,G,B,β,J,o⟩=>qi pins s σ H Q I (o G H J (ai.refl _) (gu.refl _ _))
def mQ {X:Cx}{Γ:Fx}{E:XK}{c:Expr}{ta:VF Bool}{L:List Nat}(h:y6 X Γ E c ta L):zE X [c] (qT Γ E ta L):=wu h
def lb {NB:List Str}{scope:Scope}{C:Addr}{ex:List Addr}{s3:Shared}{H3:Hp}{pn:List (Addr×Obj)}{P:Program}{w:World}:Passes (kW P w) (hX X NB scope C ex s3 H3 pn) E0:=λpins σ H s e s' I h=>by
 obtain⟨_,_,_,_,_,_,_,_,_,q⟩:=h
 exact q.elim
abbrev gU (Γ:Fx)(t:Tg):TG:=λv σ H Q=>∃H0 G0 par br bx,gT (Γ.hX H0 G0 par br bx) t v σ H Q
abbrev tU (Γ:Fx)(own:Nat)(ixs Lc:List Nat)(ft:VF Bool)(Lt:List Nat):TT:=λσ H Q=>∃H0 G0 par br bx,(∀j,DH own ixs Lc j=true->br j=false)/\qT (Γ.hX H0 G0 par br bx) E0 ft Lt σ H Q
abbrev eU (Γ:Fx)(own:Nat)(ixs Lc:List Nat)(fe:VF D)(Le:List Nat):TE:=λσ H Q=>∃H0 G0 par br bx,(∀j,DH own ixs Lc j=true->br j=false)/\pT (Γ.hX H0 G0 par br bx) E0 fe Le .v σ H Q
def DW {σ:St}{H:Hp}{Q:VK}(hLc:∀i,i∈Lc->Γ.br i=false)(h:pT Γ E (aF own ixs t fi ft fe) (Li ++ Lc) .w σ H Q):uN own ixs (iT Γ E fi Li .b) (gU Γ t) (tU Γ own ixs Lc ft Lt) (eU Γ own ixs Lc fe Le) σ H Q:=by
 obtain⟨env,G,B,β,I,o⟩:=h
 refine⟨env,G,B,β,I,o.bnd.imp λds β1 h J G1 H1 I1 s1 m1 wk Da hD=>?_⟩
 have wk:Walk Γ.K B G1 H1 ds J:=wk
 by_cases hz:ds.length<=sizeLine
 case neg=>rw[KZ hz] at h;exact h.elim
 rw[KH hz] at h
 obtain⟨xs0,β0,e0,h⟩:=Cp h
 have h:∀v G' H',SR Γ B G' H' σ (aN (Li ++ Lc) env) β0->ai G G'->gu B H H'->VO Γ.K B H G' H' .w (.list xs0) v->Q v H':=h
 obtain⟨G2,I2,s2⟩:=I1.aN Lc hLc
 rw[<-bZ] at I2
 obtain⟨q1,q2,q3,q4⟩:=I2.fresh hD
 have Ib0:=I2.block own ixs hD
 generalize hbr:uV (benv own ixs (aN (Li ++ Lc) env))=br at Ib0
 have hbo:∀j,DH own ixs Lc j=true->br j=false:=by
  intro j hj
  rw[<-hbr]
  unfold uV
  split
  ·rename_i d e
   exfalso
   unfold benv at e
   by_cases hjo:j < own
   ·rw[Lz (by simpa using hjo),LU,KH hjo] at e;cases e
   ·rw[LG (by simpa using hjo),L4,KW] at e
    unfold DH at hj
    rw[K1 hjo,Bool.false_or] at hj
    cases ek:ixs[j - own]? with
    |none=>rw[ek] at hj;cases hj
    |some k=>
     rw[ek] at hj e
     have hk:k∈Lc:=by simpa using hj
     have e:Hr (aN (Li ++ Lc) env)[k]? =.br d:=Option.some.inj e
     cases q:(aN (Li ++ Lc) env)[k]? with
     |none=>rw[q] at e;cases e
     |some s=>
      rw[q] at e
      cases s with
      |no=>cases e
      |fz _=>cases e
      |bx=>cases e
      |br d'=>
       obtain⟨b1,_⟩:=I2.slot k _ q
       rw[hLc k hk] at b1;cases b1
      |ow d'=>
       rw[bZ] at q
       have key:∀(M:List Nat) (en:En),k∈M->∀d',(aN M en)[k]?≠some (.ow d'):=by
        intro M
        induction M with
        |nil=>intro en hm;cases hm
        |cons i M ih=>
         intro en hm d' z
         rcases KG.mp hm with y |y
         ·subst y
          have z1:(iz en k)[k]? =some (.ow d'):=jl (L:=M) z
          have z2:=wK z1
          unfold iz at z1
          rw[z2] at z1
          dsimp only at z1
          rw[KQ (KN.mp z2).1] at z1;cases z1
         ·exact ih (iz en i) y d' z
       exact key Lc _ hk d' q
  ·rfl
 have evb:vl (benv own ixs (aN (Li ++ Lc) env))=dI own ixs (vl env):=by rw[BZ,dQ]
 refine⟨λi n σ' H'=>n=ds.length - i/\i<=ds.length/\∃envb Gc β' acc accd,SR (Γ.hX (upd H1 Da (.lst [])) G2 (Da :: B.toList) br B) B Gc H' σ' envb β'/\(envb=benv own ixs (aN (Li ++ Lc) env)\/∃d,fY t d (benv own ixs (aN (Li ++ Lc) env))=some envb)/\
   H' Da=some (.lst acc)/\bH Γ.K Gc acc accd/\accd.length<=i/\∃xs,fm t ft fe (dI own ixs (vl env)) (ds.drop i) β'=.ok xs β0/\accd ++ xs=xs0,
  ⟨ds.length,by simp,LC _,_,G2,β1,[],[],Ib0,.inl rfl,aj,.nil,LC _,xs0,by rw[List.drop_zero];exact e0,rfl⟩,?_⟩
 rintro i n σ' H' ⟨rfl,hi',envb,Gc,β',acc,accd,Ib,eb,hacc,racc,lacc,xs,ec,exs⟩
 obtain⟨Io,mv,gD⟩:=I2.unblock hD Ib
 obtain⟨w1,w2⟩:=wk Gc H' i (s2.trans Ib.old) Ib.sub mv
 by_cases hlt:i < ds.length
 ·obtain⟨go,yl⟩:=w1 hlt
  refine .inr ⟨go,λσ' H'=>∃envb Gc β' acc accd,SR (Γ.hX (upd H1 Da (.lst [])) G2 (Da :: B.toList) br B) B Gc H' σ' envb β'/\(envb=benv own ixs (aN (Li ++ Lc) env)\/∃d,fY t d (benv own ixs (aN (Li ++ Lc) env))=some envb)/\
   H' Da=some (.lst acc)/\bH Γ.K Gc acc accd/\accd.length<=i + 1/\∃xs,fm t ft fe (dI own ixs (vl env)) (ds.drop (i + 1)) β'=.ok xs β0/\accd ++ xs=xs0,λσ2 H2 hh=>⟨ds.length - (i + 1),by omega,rfl,hlt,hh⟩,λx H2 y=>?_⟩
  obtain⟨G3,d,x3,ed,rd⟩:=yl x H2 y
  have I3:=Ib.ext x3
  have ed':ds[i]=d:=by rw[KR hlt] at ed;exact Option.some.inj ed
  rw[List.drop_eq_getElem_cons hlt,ed'] at ec
  unfold fm at ec
  cases ebv:ki t d (dI own ixs (vl env)) with
  |none=>rw[ebv] at ec;cases ec
  |some vs1=>
   rw[ebv] at ec
   dsimp only at ec
   obtain⟨env1,eb1,ev1⟩:∃env1,fY t d (benv own ixs (aN (Li ++ Lc) env))=some env1/\vl env1=vs1:=by
    have:=CZ t d (benv own ixs (aN (Li ++ Lc) env))
    rw[evb,ebv] at this
    cases q:fY t d (benv own ixs (aN (Li ++ Lc) env)) with
    |none=>rw[q] at this;cases this
    |some env1=>rw[q] at this;exact⟨env1,rfl,Option.some.inj this⟩
   have eb2:fY t d envb=some env1:=by
    rcases eb with rfl | ⟨d0,eb⟩
    ·exact eb1
    ·rw[yD eb];exact eb1
   have no1:vK env1:=yT (pW _ _ _) eb1
   have a2:H2 Da=some (.lst acc):=x3.hh _ _ hacc
   refine⟨_,_,_,_,_,envb,G3,B,β',d,env1,I3,rd,eb2,λσ3 I4=>?_⟩
   refine⟨_,_,_,_,_,hbo,env1,G3,B,β',I4,?_⟩
   rw[ev1]
   cases et:ft vs1 β' with
   |exc c=>rw[et] at ec;cases ec
   |bad=>rw[et] at ec;cases ec
   |ok c β2=>
    rw[et] at ec
    intro G4 H4 I5 s4 m4
    rw[sN no1] at I5
    have a4:H4 Da=some (.lst acc):=m4.1 _ _ a2 q3
    cases c with
    |false=>
     refine om ⟨env1,G4,β2,acc,accd,I5,.inr ⟨d,eb1⟩,a4,racc.mono (x3.gg.trans s4),by omega,xs,?_,exs⟩
     exact ec
    |true=>
     refine sL ⟨_,_,_,_,_,hbo,env1,G4,B,β2,I5,?_⟩
     rw[ev1]
     have ec:((fe vs1 β2).okb λx β3=>(fm t ft fe (dI own ixs (vl env)) (ds.drop (i + 1)) β3).okb λxs β4=>R.ok (x :: xs) β4)=R.ok xs β0:=ec
     cases ee:fe vs1 β2 with
     |exc c=>rw[ee] at ec;cases ec
     |bad=>rw[ee] at ec;cases ec
     |ok dx β3=>
      rw[ee] at ec
      intro v G5 H5 I6 s5 m5 vo
      rw[sN no1] at I6
      have a5:H5 Da=some (.lst acc):=m5.1 _ _ a4 q3
      have ec:((fm t ft fe (dI own ixs (vl env)) (ds.drop (i + 1)) β3).okb λxs β4=>R.ok (dx :: xs) β4)=R.ok xs β0:=ec
      cases er:fm t ft fe (dI own ixs (vl env)) (ds.drop (i + 1)) β3 with
      |exc c=>rw[er] at ec;cases ec
      |bad=>rw[er] at ec;cases ec
      |ok ys β4=>
       rw[er] at ec
       cases ec
       refine⟨acc,a5,by rw[racc.len];omega,env1,G5,β3,acc ++ [v],accd ++ [dx],?_,.inr ⟨d,eb1⟩,aj,(racc.mono ((x3.gg.trans s4).trans s5)).snoc vo,by rw[Ls];simp;omega,ys,er,by rw[<-exs,MU];rfl⟩
       refine I6.updD (KO ..) (Mx.lst (show upd H1 Da (.lst []) Da=some (.lst []) from aj)) (I2.sub.free hD) q3
 ·have e:i=ds.length:=by omega
  subst e
  rw[List.drop_length] at ec
  cases ec
  rw[MM] at exs
  subst exs
  refine .inl ⟨w2 (KI _),⟨acc,hacc⟩,h _ Gc H' Io ((s1.trans s2).trans Ib.old) (m1.trans mv) ⟨Da,rfl,eG m1 I1.boxThere hD,gD,acc,hacc,racc⟩⟩
def bU (hg:∀H0 G0 par br bx C ex s3 H3 pn,SG (hX X NB scope C ex s3 H3 pn) (Γ.hX H0 G0 par br bx) tg t)(C:Addr)(ex:List Addr)(s3:Shared)(H3:Hp)(pn:List (Addr×Obj)):PG (hX X NB scope C ex s3 H3 pn) tg (gU Γ t):=by
 rintro pins s σ H v u Q I r ⟨H0,G0,par,br,bx,q⟩
 exact hg H0 G0 par br bx C ex s3 H3 pn pins s σ H v u Q I r q
def bC (Lc:List Nat)(hc:X.calm=true)(S:cF X NB own ixs scope)(hLc:∀i,i∈Lc->Γ.br i=false)(hi:SI X Γ E tg iter fi Li .b)
  (hg:∀H0 G0 par br bx C ex s3 H3 pn,SG (hX X NB scope C ex s3 H3 pn) (Γ.hX H0 G0 par br bx) tg t)
  (ht:∀H0 G0 par br bx C ex s3 H3 pn,(∀j,DH own ixs Lc j=true->br j=false)->zE (hX X NB scope C ex s3 H3 pn) ifs (qT (Γ.hX H0 G0 par br bx) E0 ft Lt))
  (he:∀H0 G0 par br bx C ex s3 H3 pn,(∀j,DH own ixs Lc j=true->br j=false)->SE (hX X NB scope C ex s3 H3 pn) (Γ.hX H0 G0 par br bx) E0 elt fe Le .v)
  (hs:∀x,foldedSetIterable iter X.env x=pure x:=by intro _;rfl) :
  SE X Γ E (.ListComp elt [⟨tg,iter,ifs,0⟩] scope pos) (aF own ixs t fi ft fe) (Li ++ Lc) .w:=by
 refine PE.post' (uf (g:=gU Γ t) (tt:=tU Γ own ixs Lc ft Lt) (te:=eU Γ own ixs Lc fe Le) hc S hi (bU hg) (λC ex s3 H3 pn=>?_) (λC ex s3 H3 pn=>?_) hs) λσ H Q h=>DW hLc h
 ·rintro pins s σ H Q I ⟨H0,G0,par,br,bx,b,q⟩
  exact ht H0 G0 par br bx C ex s3 H3 pn b pins s σ H Q I q
 ·rintro pins s σ H Q I ⟨H0,G0,par,br,bx,b,q⟩
  exact he H0 G0 par br bx C ex s3 H3 pn b pins s σ H Q I q
def wU {i:Nat}{y:Str}{py spos:Pos}(Lc:List Nat)(hc:X.calm=true)(S:cF X NB own ixs scope)(hLc:∀i,i∈Lc->Γ.br i=false)(hi:SI X Γ E tg iter fi Li .b)
  (hg:∀H0 G0 par br bx C ex s3 H3 pn,SG (hX X NB scope C ex s3 H3 pn) (Γ.hX H0 G0 par br bx) tg t)
  (ht:∀H0 G0 par br bx C ex s3 H3 pn,(∀j,DH own ixs Lc j=true->br j=false)->zE (hX X NB scope C ex s3 H3 pn) ifs (qT (Γ.hX H0 G0 par br bx) E0 ft Lt))
  (he:∀H0 G0 par br bx C ex s3 H3 pn,(∀j,DH own ixs Lc j=true->br j=false)->SE (hX X NB scope C ex s3 H3 pn) (Γ.hX H0 G0 par br bx) E0 elt fe Le .v)
  (hN:X.N.Nodup) (hy:X.N[i]? =some y:=by rfl) (hl:X.env.scope.names.lookup y=some .local:=by rfl)
  (hsw:swapsWith (.ListComp elt [⟨tg,iter,ifs,0⟩] scope pos) (some (.Name y py)) spos.line X.env=pure true:=by rfl)
  (hs:∀x,foldedSetIterable iter X.env x=pure x:=by intro _;rfl) :
  SS X Γ E (.Assign [.Name y py] (.ListComp elt [⟨tg,iter,ifs,0⟩] scope pos) spos) (dk i (Li ++ Lc) (aF own ixs t fi ft fe)):=by
 refine PS.post (AX (g:=gU Γ t) (tt:=tU Γ own ixs Lc ft Lt) (te:=eU Γ own ixs Lc fe Le) hc S hi (bU hg) (λC ex s3 H3 pn=>?_) (λC ex s3 H3 pn=>?_) hN hy hl hsw hs) λN σ H ⟨env,G,B,β,I,o⟩=>?_
 ·rintro pins s σ H Q I ⟨H0,G0,par,br,bx,b,q⟩
  exact ht H0 G0 par br bx C ex s3 H3 pn b pins s σ H Q I q
 ·rintro pins s σ H Q I ⟨H0,G0,par,br,bx,b,q⟩
  exact he H0 G0 par br bx C ex s3 H3 pn b pins s σ H Q I q
 refine DW hLc ⟨env,G,B,β,I,b6 o λd β' k v G' H' I' s' m' vo=>?_⟩
 obtain⟨G2,I2,s2,r⟩:=I.letW I' vo
 exact k B G2 H' _ (I2.set' i r) (s'.trans s2)
end
def fin:SO->FR
 | .nx _ _=>.ok .none false
 | .rt d fr _=>.ok d fr
 | .exc c=>.exc c
 |_=>.bad
def ya (n:Nat)(ds:List D):En:=ds.map Sl.fz ++ List.replicate (n - ds.length) .no
def aY (n p:Nat)(m:SF):List D->FR:=λds=>if ds.length=p then fin (m (ya n ds) 0) else .bad
abbrev Fx.fn (K:Frag)(H G:Hp)(ca:Str->Addr):Fx:=⟨K,H,G,[],ca,λ_=>false,none⟩
def SR.start {K:Frag}{H G:Hp}{ca:Str->Addr}{N:List Str}{vs:List V}{ds:List D}(s:ai G H)(r:bH K G vs ds)(hn:ds.length<=N.length):SR (Fx.fn K H G ca) none G H (start N vs) (ya N.length ds) 0:=by
 have hl:=r.len
 refine⟨s,ai.refl _,λb _ h=>h,λb o h _=>Kt.of h,λb h=>(by cases h),λb h=>(by cases h),λb h=>(by cases h),?_,λi t e=>?_,λi j a d e h=>?_⟩
 ·unfold L2.start ya;simp;omega
 ·unfold ya at e
  by_cases hi:i < ds.length
  ·rw[Lz (by simpa using hi),KW,KR hi] at e
   cases e
   obtain⟨x,hx,rx⟩:=r.at (KR hi)
   refine⟨x,?_,rx⟩
   unfold L2.start
   rw[Lz (by simpa[hl] using hi),KW,hx];rfl
  ·rw[LG (by simpa using hi),LU] at e
   split at e
   ·cases e;trivial
   ·cases e
 ·unfold ya at h
  have hm:=K9 h
  rcases Lk.mp hm with z |z
  ·obtain⟨_,_,z⟩:=Lo.mp z;cases z
  ·have:=L8 z;cases this
section
variable {P:Program}{w:World}{K:Frag}{mg:Str->Option Value}{base:Heap}{ca:Str->Addr}
def aO {x qual:Str}{st:Stmt}{f:Addr}{fd:FuncData}{N ps:List Str}{k:Nat}{m:SF}(F:y7 K x qual st f fd)(S:aB N ps (ak st))
  (hbody:∀(cdv:Value) (A:Around) (outer:List Env) (s:Shared) (H G:Hp) (E:XK),di k (A.deeper (envOfC qual (ak st) s.heap.objs.size f cdv))->y1 (jG (kW P w) P w K mg base N qual (ak st) f cdv A outer s H E) (Fx.fn K H G ca) E (bJ st) m) :
  ff P w K mg base (kW P w) (k + 1) f fd ps (BO K ca ps.length (aY N.length ps.length m)):=by
 have hpn:ps.length<=N.length:=by have:=congrArg List.length S.pre;rw[LR] at this;omega
 refine F.D8 S (λvs H Q E h=>?_) (λcdv A outer s H vs Q E hr h=>?_)
 ·obtain⟨G,ds,sG,hl,r,_⟩:=h
  rw[r.len];exact hl
 ·obtain⟨G,ds,sG,hl,r,h⟩:=h
  refine⟨_,hbody cdv A outer s H G E hr,?_⟩
  have I:=SR.start (ca:=ca) (N:=N) sG r (by omega)
  refine⟨_,G,none,0,I,?_⟩
  unfold aY at h
  rw[KH hl] at h
  have fin':∀{B G' H' σ env β},SR (Fx.fn K H G ca) B G' H' σ env β->ai H H':=λJ b o e=>J.keep b o e (λz=>by cases z)
  cases q:m (ya N.length ds) 0 with
  |nx env β=>rw[q] at h;exact λB G' H' σ J s'=>h .non G' H' (fin' J) s' J.sub (λb h1 h2=>J.new b h1 h2) Rp.non
  |bk env β=>rw[q] at h;exact h.elim
  |ct env β=>rw[q] at h;exact h.elim
  |rt d fr β=>
   rw[q] at h
   refine λB G' H' σ env v J s' rv=>h v G' H' (fin' J) s' J.sub (λb h1 h2=>J.new b h1 h2) ?_
   cases fr with
   |true=>exact rv
   |false=>exact rv
  |exc c=>rw[q] at h;exact λH' kp=>h H' λb o e=>kp b o e (λz=>by cases z)
  |bad=>rw[q] at h;exact h.elim
def Cs {n:Nat}{F F':List D->FR}(h:∀ds,ds.length=n->F' ds≠.bad->F ds=F' ds){vs:List V}{H:Hp}{Q:VK}{E:XK}(q:BO K ca n F' vs H Q E):BO K ca n F vs H Q E:=by
 obtain⟨G,ds,s,hl,r,q⟩:=q
 refine⟨G,ds,s,hl,r,?_⟩
 by_cases hb:F' ds=.bad
 ·rw[hb] at q;exact q.elim
 ·rw[h ds hl hb];exact q
def cE.imp {x:Str}{ps:List Str}{k:Nat}{F F':List D->FR}(h:cE P w K mg base ca x ps k F)(i:∀ds,F' ds≠.bad->F ds=F' ds):cE P w K mg base ca x ps k F':=by
 obtain⟨f,fd,a,b,c,d⟩:=h.ex
 exact⟨⟨f,fd,a,b,c,d.imp λvs H Q E q=>Cs (λds _=>i ds) q⟩,λds hn=>h.len ds (by rw[i ds hn];exact hn)⟩
def aJ {n p:Nat}{m:SF}(ds:List D)(h:aY n p m ds≠.bad):ds.length=p:=by
 unfold aY at h
 by_cases hl:ds.length=p
 ·exact hl
 ·rw[KZ hl] at h;exact absurd rfl h
def oh {N:List Str}{qual:Str}{scope:Scope}{f:Addr}{cd:Value}{A:Around}{outer:List Env}{s0:Shared}{H0:Hp}{E:XK}{Γ:Fx}{x:Str}{C:Addr}{np cpos pos:Pos}{e0:Expr}{es:List Expr}{fr:VF (List D)}{L:List Nat}(q:PySem.W.excIn K C [.type "ValueError",.type "Exception",.type "BaseException",.type "object"] "ValueError.__new__"=true)(hca:Γ.ca x=C)
  (hg:Gl (jG (kW P w) P w K mg base N qual scope f cd A outer s0 H0 E) x) (hm:mg x=some (.ref C)) (ha:SA (jG (kW P w) P w K mg base N qual scope f cd A outer s0 H0 E) Γ E (e0 :: es) fr L)
  (he:starEach (e0 :: es) (envOfC qual scope s0.heap.objs.size f cd)=(false,eval e0 (envOfC qual scope s0.heap.objs.size f cd)) :: starEach es (envOfC qual scope s0.heap.objs.size f cd):=by rfl)
  (hpl:(backTo cpos (starEach es (envOfC qual scope s0.heap.objs.size f cd))).any (·.1)=false:=by rfl) (hdb:(x == ("__debug__":Str))=false:=by decide) :
  SS (jG (kW P w) P w K mg base N qual scope f cd A outer s0 H0 E) Γ E (.Raise (some (.Call (.Name x np) (e0 :: es) [] cpos)) none pos) (λenv β=>toS (fr (vl env) β) λds _=>if ds.length<=sizeLine then .exc x else .bad):=by
 refine PS.post (zx PySem.F.excBase_ValueError (by decide +kernel) q hg hm ha he hpl hdb) λD σ H ⟨env,G,B,β,I,o⟩=>?_
 refine⟨env,G,B,β,I,b6 o λds β' k vs G' H' I' s' m' r=>?_⟩
 by_cases hz:ds.length<=sizeLine
 ·rw[KH hz] at k
  refine⟨by rw[r.len];exact hz,?_⟩
  have:=k H' (I'.kp (ai.refl _))
  rw[hca] at this
  exact this
 ·rw[KZ hz] at k;exact k.elim
end
section
variable {X:Cx}{Γ:Fx}{E:XK}{e a b c:Expr}{f fa fb:VF D}{L La Lb:List Nat}{md ma mb:Md}{pos apos cpos np:Pos}
def rj:Option Sl->Bool
 |some (.ow (.list _))=>true
 |_=>false
theorem mM {o:Option Sl}(h:rj o=true):∃ds,o=some (.ow (.list ds)):=by
 cases o with
 |none=>cases h
 |some s=>
  cases s with
  |ow d=>cases d with
   |list ds=>exact⟨ds,rfl⟩
   |_=>cases h
  |_=>cases h
def ED (i:Nat)(env:En)(β:Int)(g:List D->Option (List D)):SO:=match env[i]? with
 |some (.ow (.list ds))=>(match g ds with
  |some es=>.nx (env.set i (.ow (.list es))) β
  |none=>.bad)
 |_=>.bad
def o3 (i:Nat)(L:List Nat)(f:VF D):SF:=λenv β=>if rj env[i]? =true then toS (f (vl env) β) λd β'=>ED i (aN L env) β' λds=>if ds.length < sizeLine then some (ds ++ [d]) else none else .bad
def qL {Γ:Fx}{E:XK}{G:Hp}{N:Ends}{i:Nat}{env:En}{β:Int}{g:List D->Option (List D)}(h:oQ Γ E G N (ED i env β g)):∃ds es,env[i]? =some (.ow (.list ds))/\g ds=some es/\oQ Γ E G N (.nx (env.set i (.ow (.list es))) β):=by
 unfold ED at h
 split at h
 ·rename_i ds q
  cases e:g ds with
  |none=>rw[e] at h;exact h.elim
  |some es=>rw[e] at h;exact⟨ds,es,q,e,h⟩
 ·exact h.elim
def mh (i:Nat){x:Str}(hb:∀j,Γ.br j=false)(he:SE X Γ E e f L .v)(hN:X.N[i]? =some x:=by rfl)(hv:vP X.env.scope x:=by first |exact Or.inl rfl |exact Or.inr (Or.inl rfl) |exact Or.inr (Or.inr rfl))(hd:(x == ("__debug__":Str))=false:=by decide)
  (hcd:(x == ("__classdict__":Str))=false:=by decide)
  (hbase:attributeBase (.Name x np) "append" X.env (eval (.Name x np) X.env)=eval (.Name x np) X.env:=by rfl)
  (hfew:((backTo cpos (starEach [e] X.env)).all (λx=> !x.1) && (backToKw cpos (keywordEach [] X.env)).all (λx=>x.1.isSome)
   && decide ([e].length + ([]:List Keyword).length + (if ([]:List Keyword).isEmpty then 0 else 1) < 30))=true:=by rfl)
  (hline:(apos.endLine == cpos.line)=true:=by rfl) (hs:starEach [e] X.env=(false,eval e X.env) :: starEach [] X.env:=by rfl)
  (hsw:swapsWith (.Call (.Attribute (.Name x np) "append" apos) [e] [] cpos) none pos.line X.env=pure false:=by rfl) :
  SS X Γ E (.Expr (.Call (.Attribute (.Name x np) "append" apos) [e] [] cpos) pos) (o3 i L f):=by
 refine PS.post (rB (um Mb PySem.F.slot_list_append PySem.F.type_list_append lR (gZ hN hv hd hcd) (ah he aH hs) hbase hfew hline hs rfl) hsw) λN σ H ⟨env,G,B,β,I,o⟩=>?_
 unfold o3 at o
 by_cases hO:rj env[i]? =true
 case neg=>rw[KZ hO] at o;exact o.elim
 rw[KH hO] at o
 obtain⟨ds0,q0⟩:=mM hO
 obtain⟨p,h1,_,_,_,xs,h5,_⟩:=I.slot i _ q0
 refine⟨_,h1,.inl ⟨rfl,xs,.inl (.inl h5)⟩,?_⟩
 refine⟨env,G,B,β,I,b6 o λd β' k v G' H' I' s' m' vo=>?_⟩
 obtain⟨ds,es,q,eg,k⟩:=qL k
 by_cases hz:ds.length < sizeLine
 case neg=>rw[KZ hz] at eg;cases eg
 rw[KH hz] at eg
 cases eg
 obtain⟨p',g1,_,_,_,ys,g5,g6⟩:=I'.slot i _ q
 rw[h1] at g1;cases g1
 refine⟨p,ys,v,rfl,rfl,g5,by rw[g6.len];exact hz,?_⟩
 exact k B G' _ σ (I'.write hb q h1 λH2 e2 s2=>⟨_,e2,g6.snoc vo⟩) s'
def Inv.lstR {pins:List (Addr×Obj)}{σ:St}{H:Hp}{s:Shared}{l:Addr}{xs:List V}(I:Inv X pins σ H s)(hH:Rd H l (.lst xs)):xs.length<=sizeLine/\∃(its:List Value) (n:Nat),Vals xs its/\xs.length=its.length/\s.heap.get? l=some {cls:=.type "list",data:=.seq its.toArray n}:=by
 obtain⟨z,its,n,r,e⟩:=hH.ok I.hok
 exact⟨z,its,n,r,r.length,e⟩
def tu (i:Nat)(Le Li:List Nat)(fe fi:VF D):SF:=λenv β=>toS (fe (vl env) β) λd β1=>if rj (aN Le env)[i]? =true then toS (fi (vl env) β1) λk β2=>ED i (aN (Le ++ Li) env) β2 λds=>match k with
 | .int j=>(ur ds.length j).map λn=>ds.set n d
 |_=>none else .bad
theorem CM (i:Nat){x:Str}{spos:Pos}(hb:∀j,Γ.br j=false)(he:SE X Γ E e f La .v)(hi:SE X Γ E a fa Lb mb)(hN:X.N[i]? =some x:=by rfl)(hv:vP X.env.scope x:=by first |exact Or.inl rfl |exact Or.inr (Or.inl rfl) |exact Or.inr (Or.inr rfl))(hd:(x == ("__debug__":Str))=false:=by decide)
  (hcd:(x == ("__classdict__":Str))=false:=by decide)
  (hA:∀v,assign (.Subscript (.Name x np) a spos) X.env v=(do
   let ov <-holding [v] (eval (.Name x np) X.env)
   let iv <-holding [v,ov] (eval a X.env)
   standAt spos
   holding [v,ov,iv] (setItem ov iv v)
   release [v,ov,iv] []):=by intro _;rfl)
  (hs:swapsWithSole [.Subscript (.Name x np) a spos] e pos.line X.env=pure false:=by rfl) (hw:swappedStores [.Subscript (.Name x np) a spos] e X.env=pure none:=by rfl)
  (h1:(assignEach [.Subscript (.Name x np) a spos] X.env).map (·.2)= [assign (.Subscript (.Name x np) a spos) X.env]:=by rfl) :
  SS X Γ E (.Assign [.Subscript (.Name x np) a spos] e pos) (tu i La Lb f fa):=by
 refine PS.post (nE he (qm (gZ hN hv hd hcd) hi set_list hA) hs hw h1) λN σ H ⟨env,G,B,β,I,o⟩=>?_
 refine⟨env,G,B,β,I,b6 o λd β1 o v G1 H1 I1 s1 m1 vo=>?_⟩
 by_cases hO:rj (aN La env)[i]? =true
 case neg=>rw[KZ hO] at o;exact o.elim
 rw[KH hO] at o
 obtain⟨ds0,q0⟩:=mM hO
 obtain⟨p,h1,_,_,_,xs,h5,_⟩:=I1.slot i _ q0
 refine⟨_,h1,aN La env,G1,B,β1,I1,?_⟩
 rw[dQ]
 refine b6 o λk β2 o w G2 H2 I2 s2 m2 vi=>?_
 rw[<-bZ] at I2
 obtain⟨ds,es,q,eg,o⟩:=qL o
 cases k with
 |int j=>
  dsimp only at eg
  obtain rfl:=(vi.brw I1.boxThere).int
  obtain⟨p',g1,_,_,_,ys,g5,g6⟩:=I2.slot i _ q
  rw[h1] at g1;cases g1
  cases en:ur ds.length j with
  |none=>rw[en] at eg;cases eg
  |some n=>
   rw[en] at eg
   cases eg
   have vo:Rp Γ.K G1 v d:=vo
   refine⟨p,ys,j,n,rfl,rfl,g5,by rw[g6.len];exact en,?_⟩
   exact o B G2 _ σ (I2.write hb q h1 λH3 e3 s3=>⟨_,e3,g6.set (vo.mono s2) n⟩) (s1.trans s2)
 |_=>cases eg
end
section
variable {K:Frag}{X:Cx}
def wx {g:Int->Int->V}{gd:D->D->Option D}(h:∀dx dy d,gd dx dy=some d->∃i j,dx=.int i/\dy=.int j/\∀G,Rp K G (g i j) d):mq K (Au g) gd .v:=by
 intro B G H x y dx dy d Q s hB bx by' e k
 obtain⟨i,j,rfl,rfl,r⟩:=h _ _ _ e
 obtain rfl:=bx.int
 obtain rfl:=by'.int
 exact⟨i,j,rfl,rfl,k _ G H (Ext.refl s) (r G)⟩
def wz {C:Int->Int->Prop}{g:Int->Int->V}{gd:D->D->Option D}(h:∀dx dy d,gd dx dy=some d->∃i j,dx=.int i/\dy=.int j/\C i j/\∀G,Rp K G (g i j) d):mq K (rI C g) gd .v:=by
 intro B G H x y dx dy d Q s hB bx by' e k
 obtain⟨i,j,rfl,rfl,c,r⟩:=h _ _ _ e
 obtain rfl:=bx.int
 obtain rfl:=by'.int
 exact⟨i,j,rfl,rfl,c,k _ G H (Ext.refl s) (r G)⟩
def gI (c:Int->Int->Bool)(g:Int->Int->D):D->D->Option D
 | .int i,.int j=>if c i j=true then some (g i j) else none
 |_,_=>none
def xg (g:Int->Int->D):D->D->Option D
 | .int i,.int j=>some (g i j)
 |_,_=>none
def xI {c:Int->Int->Bool}{g:Int->Int->D}{dx dy d:D}(h:gI c g dx dy=some d):∃i j,dx=.int i/\dy=.int j/\c i j=true/\d=g i j:=by
 unfold gI at h
 split at h
 ·split at h
  ·cases h;exact⟨_,_,rfl,rfl,by assumption,rfl⟩
  ·cases h
 ·cases h
def lW {g:Int->Int->D}{dx dy d:D}(h:xg g dx dy=some d):∃i j,dx=.int i/\dy=.int j/\d=g i j:=by
 unfold xg at h
 split at h
 ·cases h;exact⟨_,_,rfl,rfl,rfl⟩
 ·cases h
def y2:D->D->Option D:=gI (λ_ j=>decide (0 < j) && decide (j < 1073741824)) λi j=>.int (i / j)
def Cc:mq K (rI CT λi j=>.int (i / j)) y2 .v:=wz λdx dy d h=>by obtain⟨i,j,rfl,rfl,c,rfl⟩:=xI h;exact⟨i,j,rfl,rfl,by simpa[CT] using c,λ_=>.int _⟩
def kr:D->D->Option D:=gI (λ_ j=>decide (0 < j)) λi j=>.int (i % j)
def pH:mq K (rI (λ_ j=>0 < j) λi j=>.int (i % j)) kr .v:=wz λdx dy d h=>by obtain⟨i,j,rfl,rfl,c,rfl⟩:=xI h;exact⟨i,j,rfl,rfl,by simpa using c,λ_=>.int _⟩
def Fm (i j:Int):Bool:=decide (0<=j) && decide (j<=1000000) && decide (i.natAbs < 2 ^ 64)
def Bz:D->D->Option D:=gI Fm λi j=>.int (i ^ j.toNat)
def BU {i j:Int}(h:Fm i j=true):Fv i j:=by
 unfold Fm at h
 simp only[KP,K7] at h
 exact⟨h.1.1,h.1.2,h.2⟩
def Hl:mq K (rI Fv λi j=>.int (i ^ j.toNat)) Bz .v:=wz λdx dy d h=>by obtain⟨i,j,rfl,rfl,c,rfl⟩:=xI h;exact⟨i,j,rfl,rfl,BU c,λ_=>.int _⟩
def wG:D->D->Option D:=xg λi j=>.bool (decide (i < j))
def AE:D->D->Option D:=xg λi j=>.bool (decide (i<=j))
def Gv:D->D->Option D:=xg λi j=>.bool (decide (j < i))
def yJ:mq K (Au λi j=>.bl (decide (i < j))) wG .v:=wx λdx dy d h=>by obtain⟨i,j,rfl,rfl,rfl⟩:=lW h;exact⟨i,j,rfl,rfl,λ_=>.bl _⟩
def FJ:mq K (Au λi j=>.bl (decide (i<=j))) AE .v:=wx λdx dy d h=>by obtain⟨i,j,rfl,rfl,rfl⟩:=lW h;exact⟨i,j,rfl,rfl,λ_=>.bl _⟩
def II:mq K (Au λi j=>.bl (decide (j < i))) Gv .v:=wx λdx dy d h=>by obtain⟨i,j,rfl,rfl,rfl⟩:=lW h;exact⟨i,j,rfl,rfl,λ_=>.bl _⟩
mutual
theorem xl:∀d:D,d.canLay0=true->zb d=true
 | .none,_=>rfl
 | .bool _,_=>rfl
 | .int _,_=>rfl
 | .str _,_=>rfl
 | .list ds,h=>by simp only[PyData.canLay0] at h;simp only[zb];exact oI ds h
 | .tuple ds,h=>by simp only[PyData.canLay0] at h;simp only[zb];exact oI ds h
 | .dict _,h=>by simp[PyData.canLay0] at h
theorem oI:∀ds:List D,PyData.canLayAll0 ds=true->pj ds=true
 | [],_=>rfl
 |d :: ds,h=>by
  simp only[PyData.canLayAll0,KP] at h
  simp only[pj,KP]
  exact⟨xl d h.1,oI ds h.2⟩
end
def rl {d:D}(h:SeqAt.shaped d=true):zb d=true:=xl d (MD h)
theorem xu:∀{ds:List D},(ds.all SeqAt.shaped)=true->pj ds=true
 | [],_=>rfl
 |d :: ds,h=>by
  rw[Mk,KP] at h
  simp only[pj,KP]
  exact⟨rl h.1,xu h.2⟩
def dG (neg:Bool)(x y:D):Option D:=if (SeqAt.shaped x && SeqAt.shaped y)=true then some (.bool (if neg then !PyData.eqv x y else PyData.eqv x y)) else none
def gE {neg:Bool}:mq K (EJ K neg) (dG neg) .v:=by
 intro B G H x y dx dy d Q s hB bx by' e k
 unfold dG at e
 split at e
 ·rename_i h
  rw[KP] at h
  cases e
  exact⟨dx,dy,(bx.rpH s).rep (rl h.1),(by'.rpH s).rep (rl h.2),h.1,h.2,k _ G H (Ext.refl s) (.bl _)⟩
 ·cases e
def BM (neg:Bool)(x y:D):Option D:=match kn y with
 |some ds=>if (SeqAt.shaped x && ds.all SeqAt.shaped)=true then some (.bool (if neg then !(ds.any λe=>PyData.eqv e x) else ds.any λe=>PyData.eqv e x)) else none
 |none=>none
theorem ky.seq {B:Option Addr}{G H:Hp}{v:V}{d:D}{ds:List D}(h:ky K B G H v d)(e:kn d=some ds)(s:ai G H):∃a xs,v=.ref a/\(fx K H a xs\/fw K H a xs)/\bH K G xs ds:=by
 cases d with
 |list l=>cases e;obtain⟨a,xs,e,q,r⟩:=h.list s;exact⟨a,xs,e,.inl (.inl q),r⟩
 |tuple l=>cases e;obtain⟨a,xs,e,q,r⟩:=h.tuple s;exact⟨a,xs,e,.inr q,r⟩
 |_=>cases e
theorem HU {neg:Bool}:mq K (Hw K neg) (BM neg) .v:=by
 intro B G H x y dx dy d Q s hB bx by' e k
 unfold BM at e
 cases q:kn dy with
 |none=>rw[q] at e;cases e
 |some ds=>
  rw[q] at e
  dsimp only at e
  split at e
  ·rename_i h
   rw[KP] at h
   cases e
   obtain⟨a,xs,rfl,hq,r⟩:=by'.seq q s
   refine⟨a,xs,dx,ds,rfl,hq,(r.mono s).reps (xu h.2),(bx.rpH s).rep (rl h.1),h.1,λe he=>Lx.mp h.2 e he,k _ G H (Ext.refl s) (.bl _)⟩
  ·cases e
def Cr:D->Bool
 | .none=>true
 |_=>false
theorem bH.ints {G:Hp}:∀ns:List Int,bH K G (ns.map V.int) (ns.map int)
 | []=>.nil
 |n :: ns=>.cons (.int n) (bH.ints ns)
theorem xX.noNone {G:Hp}{kvs:List (Key×V)}{d:D}{r:List (D×D)}(h:xX K G kvs ((.none,d) :: r)):False:=by
 generalize e:(PyData.none,d) :: r=l at h
 cases h with
 |nil=>cases e
 | @cons k x xs d' ds _ _=>
  injection e with e1 _
  injection e1 with e2 _
  cases k <;> cases e2
theorem za.noNone {G:Hp}{kvs:List (List Key×V)}{d:D}{r:List (D×D)}(h:za K G kvs ((.none,d) :: r)):False:=by
 generalize e:(PyData.none,d) :: r=l at h
 cases h with
 |nil=>cases e
 | @cons k x xs d' ds _ _=>
  injection e with e1 _
  injection e1 with e2 _
  cases e2
def ky.scr {B:Option Addr}{G H:Hp}{v:V}{ds:List D}(h:ky K B G H v (.dict [(.none,.list ds)]))(s:ai G H):∃a xs,v=.ref a/\fx K H a xs/\bH K G xs ds:=by
 rcases h with h | ⟨a,rfl,n,h⟩
 ·cases h with
  | @scr a ns q=>exact⟨a,_,rfl,s.seq q,bH.ints ns⟩
  |dK _ r=>exact r.noNone.elim
  |dT _ r=>exact r.noNone.elim
 ·rcases h with⟨_,_,r⟩ | ⟨_,_,r⟩
  ·exact r.noNone.elim
  ·exact r.noNone.elim
def cA:D->D->Option D
 | .list ds,.int i=>kh ds i
 | .tuple ds,.int i=>kh ds i
 | .str z,.int i=>if z.length<=sizeLine then (kh z.cps.toList i).map λc=>.str ⟨#[c]⟩ else none
 | .dict [(.none,.list ds)],.int i=>kh ds i
 |_,_=>none
theorem rG {G:Hp}{xs:List V}{ds:List D}{i:Int}{d:D}(r:bH K G xs ds)(h:kh ds i=some d):∃x,kh xs i=some x/\Rp K G x d:=by
 unfold kh at h ⊢
 rw[r.len]
 cases e:ur ds.length i with
 |none=>rw[e] at h;cases h
 |some j=>rw[e] at h;exact r.at h
theorem cD:mq K (J9 K) cA .v:=by
 intro B G H x y dx dy d Q s hB bx by' e k
 cases dx with
 |list ds=>
  cases dy with
  |int i=>
   obtain rfl:=by'.int
   obtain⟨a,xs,rfl,q,r⟩:=bx.list s
   obtain⟨v,ev,rv⟩:=rG r e
   exact .inl ⟨a,xs,i,v,rfl,rfl,.inl q,ev,k _ G H (Ext.refl s) rv⟩
  |_=>cases e
 |tuple ds=>
  cases dy with
  |int i=>
   obtain rfl:=by'.int
   obtain⟨a,xs,rfl,q,r⟩:=bx.tuple s
   obtain⟨v,ev,rv⟩:=rG r e
   exact .inr (.inl ⟨a,xs,i,v,rfl,rfl,q,ev,k _ G H (Ext.refl s) rv⟩)
  |_=>cases e
 |str z=>
  cases dy with
  |int i=>
   obtain rfl:=by'.int
   obtain rfl:=bx.str
   simp only[cA] at e
   split at e
   ·rename_i hz
    cases q:kh z.cps.toList i with
    |none=>rw[q] at e;cases e
    |some c=>rw[q] at e;cases e;exact .inr (.inr ⟨z,i,c,rfl,rfl,hz,q,k _ G H (Ext.refl s) (.str _)⟩)
   ·cases e
  |_=>cases e
 |none=>cases dy <;> cases e
 |bool b=>cases dy <;> cases e
 |int b=>cases dy <;> cases e
 |dict b=>
  obtain⟨ds,i,rfl,rfl,e⟩:∃ds i,b= [(.none,.list ds)]/\dy=.int i/\kh ds i=some d:=by
   unfold cA at e
   split at e
   ·contradiction
   ·contradiction
   ·contradiction
   ·rename_i h;cases h;exact⟨_,_,rfl,rfl,e⟩
   ·cases e
  obtain rfl:=by'.int
  obtain⟨a,xs,rfl,q,r⟩:=bx.scr s
  obtain⟨v,ev,rv⟩:=rG r e
  exact .inl ⟨a,xs,i,v,rfl,rfl,q,ev,k _ G H (Ext.refl s) rv⟩
def eY:D->Option D
 | .list ds=>some (.int ds.length)
 | .tuple ds=>some (.int ds.length)
 | .str z=>if z.length<=sizeLine then some (.int z.length) else none
 | .dict [(.none,.list ds)]=>some (.int ds.length)
 |_=>none
def JC (K:Frag):List V->Hp->VK->Prop:=λxs H Q=>∃x n,xs= [x]/\Hi K x H n/\Q (.int n) H
def kT:zT K (λx=>JC K [x]) eY .v:=by
 intro B G H x dx d Q s hB bx e k
 unfold eY at e
 split at e
 ·cases e;obtain⟨a,xs,rfl,q,r⟩:=bx.list s;exact⟨_,_,rfl,.inl ⟨xs,.inl q,r.len.symm⟩,k _ G H (Ext.refl s) (.int _)⟩
 ·cases e;obtain⟨a,xs,rfl,q,r⟩:=bx.tuple s;exact⟨_,_,rfl,.inr ⟨xs,q,r.len.symm⟩,k _ G H (Ext.refl s) (.int _)⟩
 ·obtain rfl:=bx.str
  split at e
  ·rename_i hz;cases e;exact⟨_,_,rfl,⟨hz,rfl⟩,k _ G H (Ext.refl s) (.int _)⟩
  ·cases e
 ·cases e;obtain⟨a,xs,rfl,q,r⟩:=bx.scr s;exact⟨_,_,rfl,.inl ⟨xs,q,r.len.symm⟩,k _ G H (Ext.refl s) (.int _)⟩
 ·cases e
def bW:D->Option D
 | .list ds=>some (.tuple ds)
 | .tuple ds=>some (.tuple ds)
 |_=>none
theorem eO:zT K (λx H Q=>∃p ys,[x]= [.ref p]/\((fx K H p ys/\∀l,H l=none->Q (.ref l) (upd H l (.tup ys)))\/(fw K H p ys/\Q (.ref p) H))) bW .v:=by
 intro B G H x dx d Q s hB bx e k
 cases dx with
 |list ds=>
  cases e
  obtain⟨a,xs,rfl,q,r⟩:=bx.list s
  refine⟨a,xs,rfl,.inl ⟨.inl q,λl hl=>?_⟩⟩
  have x:=Ext.new s (o:=.tup xs) hl
  exact k _ _ _ x (.tup (.inl (.inl aj)) (r.mono x.gg))
 |tuple ds=>
  cases e
  rcases bx with bx | ⟨_,_,_,z⟩
  ·cases bx with
   | @tup a xs _ hq r=>exact⟨a,xs,rfl,.inr ⟨hq.grow s.grow,k _ G H (Ext.refl s) (.tup hq r)⟩⟩
  ·exact z.elim
 |_=>cases e
def jw:D->Option D
 | .list ds=>some (.list ds)
 | .tuple ds=>some (.list ds)
 |_=>none
def oa:zT K (λx H Q=>∃p ys,[x]= [.ref p]/\(fx K H p ys\/fw K H p ys)/\∀l,H l=none->Q (.ref l) (upd H l (.lst ys))) jw .w:=by
 intro B G H x dx d Q s hB bx e k
 obtain⟨ds,e1,rfl⟩:∃ds,kn dx=some ds/\d=.list ds:=by
  cases dx <;> cases e <;> exact⟨_,rfl,rfl⟩
 obtain⟨a,xs,rfl,hq,r⟩:=bx.seq e1 s
 refine⟨a,xs,rfl,hq,λl hl=>?_⟩
 exact k _ _ _ (Ext.own s (o:=.lst xs) hl) ⟨l,rfl,hl,s.free hl,xs,aj,r⟩
def jx:List D->Option (List Bool)
 | []=>some []
 | .bool b :: ds=>(jx ds).map (b :: ·)
 |_=>none
theorem qe {G:Hp}:∀{ds:List D} {bs:List Bool} {xs:List V},jx ds=some bs->bH K G xs ds->xs=bs.map V.bl
 | [],bs,xs,e,r=>by cases e;cases r;rfl
 | .bool b :: ds,bs,xs,e,r=>by
  cases r with
  |cons r1 r2=>
   cases r1
   simp only[jx] at e
   cases q:jx ds with
   |none=>rw[q] at e;cases e
   |some cs=>rw[q] at e;cases e;rw[qe q r2];rfl
 | .none :: _,_,_,e,_=>by cases e
 | .int _ :: _,_,_,e,_=>by cases e
 | .str _ :: _,_,_,e,_=>by cases e
 | .list _ :: _,_,_,e,_=>by cases e
 | .tuple _ :: _,_,_,e,_=>by cases e
 | .dict _ :: _,_,_,e,_=>by cases e
def cm (f:List Bool->Bool):D->Option D
 | .list ds=>(jx ds).map λbs=>.bool (f bs)
 |_=>none
theorem i7 {f:List Bool->Bool}:zT K (λx=>vj K f [x]) (cm f) .v:=by
 intro B G H x dx d Q s hB bx e k
 cases dx with
 |list ds=>
  simp only[cm] at e
  cases q:jx ds with
  |none=>rw[q] at e;cases e
  |some bs=>
   rw[q] at e
   cases e
   obtain⟨a,xs,rfl,hq,r⟩:=bx.list s
   obtain rfl:=qe q r
   exact⟨a,bs,rfl,.inl hq,k _ G H (Ext.refl s) (.bl _)⟩
 |_=>cases e
def DQ:R2:=λx y H Q=>∃l b xs zs,x=.ref l/\y=.ref b/\Rd H l (.lst xs)/\Rd H b (.lst zs)/\xs.length + zs.length<=sizeLine/\∀p,H p=none->Q (.ref p) (upd H p (.lst (xs ++ zs)))
def nj:lK X (binaryOp .Add) DQ:=by
 intro pins s σ H x y v u Q I rx ry h
 obtain⟨l,b,xs,zs,rfl,rfl,hH,hB,hz,q⟩:=h
 cases rx
 cases ry
 obtain⟨z,its,n,r,hl,e⟩:=I.lstR hH
 obtain⟨z2,its2,n2,r2,hl2,e2⟩:=I.lstR hB
 refine PySem.P.add_list e e2 ?_ (by rw[KU,KU];omega)
 have ea:its.toArray ++ its2.toArray=(its ++ its2).toArray:=by simp
 rw[ea]
 exact⟨.ref _,_,I.lnew (t':=s.toks) (r.append r2) (by rw[Ls];omega),rfl,q _ I.fresh⟩
def mC:D->D->Option D
 | .list a,.list b=>if a.length + b.length<=sizeLine then some (.list (a ++ b)) else none
 |_,_=>none
def wH:mq K DQ mC .w:=by
 intro B G H x y dx dy d Q s hB bx by' e k
 cases dx <;> cases dy <;> first | (cases e;done) |skip
 rename_i a b
 simp only[mC] at e
 split at e
 ·rename_i hz
  cases e
  obtain⟨p,xs,rfl,q1,r1⟩:=bx.list s
  obtain⟨p2,ys,rfl,q2,r2⟩:=by'.list s
  refine⟨p,p2,xs,ys,rfl,rfl,q1,q2,by rw[r1.len,r2.len];exact hz,λl hl=>?_⟩
  exact k _ _ _ (Ext.own s (o:=.lst (xs ++ ys)) hl) ⟨l,rfl,hl,s.free hl,_,aj,r1.append r2⟩
 ·cases e
def gQ:D->D->Option D:=xg λi j=>.int (i + j)
def l4:mq K (Au λi j=>.int (i + j)) gQ .v:=wx λdx dy d h=>by obtain⟨i,j,rfl,rfl,rfl⟩:=lW h;exact⟨i,j,rfl,rfl,λ_=>.int _⟩
def dH:D->D->Option D:=gI (λi j=>(decide (-(2 ^ 64) < i) && decide (i < 2 ^ 64)) || (decide (-(2 ^ 64) < j) && decide (j < 2 ^ 64))) λi j=>.int (i * j)
def kG:mq K (rI zN λi j=>.int (i * j)) dH .v:=wz λdx dy d h=>by obtain⟨i,j,rfl,rfl,c,rfl⟩:=xI h;exact⟨i,j,rfl,rfl,by simpa[zN] using c,λ_=>.int _⟩
def Bk:D->D->Option D
 | .list a,.int k=>if -(2 ^ 63)<=k/\k < 2 ^ 63/\a.length * k.toNat<=sizeLine then some (.list (List.replicate k.toNat a).flatten) else none
 |_,_=>none
def FD {a b:Expr}{fa fb:VF D}{La Lb:List Nat}{mb:Md}{Γ:Fx}{E:XK}{pos:Pos}(ha:SE X Γ E a fa La .w)(hb:SE X Γ E b fb Lb mb):SE X Γ E (.BinOp a .Mult b pos) (f2 fa fb Bk) (La ++ Lb) .w:=by
 refine PE.post' (mr AG ha hb) λσ H Q ⟨env,G,B,β,I,o⟩=>?_
 refine⟨env,G,B,β,I,o.bnd.imp λd1 β1 h x G1 H1 I1 s1 m1 vx=>⟨aN La env,G1,B,β1,I1,?_⟩⟩
 rw[dQ]
 refine h.bnd.imp λd2 β2 h y G2 H2 I2 s2 m2 vy=>?_
 obtain⟨d,e,k⟩:=h.of
 rw[<-bZ] at I2
 obtain⟨p,rfl,p1,p2,p3⟩:=vx
 have by':=vy.brw I1.boxThere
 cases d1 <;> cases d2 <;> first | (cases e;done) |skip
 rename_i l j
 obtain rfl:=by'.int
 simp only[Bk] at e
 split at e
 ·rename_i hz
  cases e
  obtain⟨xs,q,r⟩:=p3
  obtain⟨q1,q2,q3,q4⟩:=I.fresh p1
  have r2:=r.mono s2
  refine⟨p,j,xs,rfl,rfl,m2.1 _ _ q q3,hz.1,hz.2.1,by rw[r.len];exact hz.2.2,λl hl=>?_⟩
  have x:=Ext.own I2.sub (o:=.lst (List.replicate j.toNat xs).flatten) hl
  exact k _ _ _ (I2.ext x) ((s1.trans s2).trans x.gg) ((m1.trans m2).trans (x.hh.mov B)) ⟨l,rfl,eG (m1.trans m2) I2.boxThere hl,I2.sub.free hl,_,aj,r2.rep⟩
 ·cases e
def JM:D->Option D
 | .int i=>some (.int (-i))
 |_=>none
theorem Hb:zT K (rU λi=>.int (-i)) JM .v:=by
 intro B G H x dx d Q s hB bx e k
 cases dx with
 |int i=>cases e;obtain rfl:=bx.int;exact⟨i,rfl,k _ G H (Ext.refl s) (.int _)⟩
 |_=>cases e
def Hn:D->String
 | .none=>"NoneType"
 | .bool _=>"bool"
 | .int _=>"int"
 | .str _=>"str"
 | .list _=>"list"
 | .tuple _=>"tuple"
 | .dict _=>"dict"
def AV (d:D)(T:String):Bool:=Hn d == T || (T == "int" && Hn d == "bool")
def cq:D->Bool
 | .dict ((.none,_) :: _)=>true
 |_=>false
def gC (T:String)(d:D):Option D:=if cq d=true then none else some (.bool (AV d T))
def Kh (K:Frag)(H:Hp)(x:V)(t:String):Prop:=C9 K H x t\/(t="dict"/\∃a kvs,x=.ref a/\H a=some (.dT kvs))
def HI (K:Frag):List V->Hp->VK->Prop:=λxs H Q=>∃x T t b,xs= [x,.ty T]/\Kh K H x t/\PySem.W.kitOne K (.type t) (.type T)=some b/\Q (.bl b) H
def Az:cM X (.builtin "isinstance") (HI X.K):=by
 intro pins s σ H xs us Q I r h
 obtain⟨x,T,t,b,rfl,ty,e,q⟩:=h
 rcases ty with ty | ⟨rfl,a,kvs,rfl,hk⟩
 ·exact BG pins s σ H _ us Q I r ⟨x,T,t,b,rfl,ty,e,q⟩
 ·obtain⟨u,c,rfl,rx,rc⟩:=vals2 r
  cases rc
  cases rx
  obtain⟨_,_,_,_,o,_,_,e2,ex,_⟩:=I.hok a _ hk
  exact Lr PySem.W.kitx_dict I.kIn ⟨o,e2,ex.1⟩ e (λz=>nomatch z) λtk=>⟨.bl b,H,I.tok tk,rfl,q⟩
theorem ky.ty {B:Option Addr}{G H:Hp}{v:V}{d:D}(h:ky K B G H v d)(s:ai G H)(n:cq d=false):Kh K H v (Hn d):=by
 cases d with
 |none=>obtain rfl:=h.none;exact .inl .non
 |bool b=>obtain rfl:=h.bool;exact .inl (.bl b)
 |int b=>obtain rfl:=h.int;exact .inl (.int b)
 |str b=>obtain rfl:=h.str;exact .inl (.str b)
 |list b=>obtain⟨a,xs,rfl,q,_⟩:=h.list s;exact .inl (.lst (.inl q))
 |tuple b=>obtain⟨a,xs,rfl,q,_⟩:=h.tuple s;exact .inl (.tup q)
 |dict b=>
  rcases h with h | ⟨a,rfl,_,h⟩
  ·cases h with
   |scr _=>cases n
   |dK q _=>exact .inl (.dic (s _ _ q))
   |dT q _=>exact .inr ⟨rfl,_,_,rfl,s _ _ q⟩
  ·rcases h with⟨_,q,_⟩ | ⟨_,q,_⟩
   ·exact .inl (.dic q)
   ·exact .inr ⟨rfl,_,_,rfl,q⟩
theorem HW {d:D}{T:String}(hT:T∈ ["int","bool","str","list","tuple","dict"]):PySem.W.kitOne K (.type (Hn d)) (.type T)=some (AV d T):=by
 simp only[KG,K5,LF] at hT
 cases d with
 |dict l=>rcases hT with rfl |rfl |rfl |rfl |rfl |rfl <;> rfl
 |none=>rcases hT with rfl |rfl |rfl |rfl |rfl |rfl <;> rfl
 |bool _=>rcases hT with rfl |rfl |rfl |rfl |rfl |rfl <;> rfl
 |int _=>rcases hT with rfl |rfl |rfl |rfl |rfl |rfl <;> rfl
 |str _=>rcases hT with rfl |rfl |rfl |rfl |rfl |rfl <;> rfl
 |list _=>rcases hT with rfl |rfl |rfl |rfl |rfl |rfl <;> rfl
 |tuple _=>rcases hT with rfl |rfl |rfl |rfl |rfl |rfl <;> rfl
def jo {a:Expr}{fa:VF D}{La:List Nat}{ma:Md}{Γ:Fx}{E:XK}{pos p p2:Pos}(T:String){y:Str}(hT:T∈ ["int","bool","str","list","tuple","dict"])(hK:X.K=Γ.K)(hg:Gl X "isinstance")(hm:X.mg "isinstance"=none)(hgT:Gl X y)(hmT:X.mg y=none)(hvT:bootBuiltins y=some (.type T))(ha:SE X Γ E a fa La ma)
  (hnT:y≠"__name__":=by decide) (hdT:(y == ("__debug__":Str))=false:=by decide)
  (he:starEach [a,.Name y p2] X.env=(false,eval a X.env) :: starEach [.Name y p2] X.env:=by rfl) (he2:starEach [.Name y p2] X.env=(false,eval (.Name y p2) X.env) :: starEach [] X.env:=by rfl) (hpl:(backTo pos (starEach [.Name y p2] X.env)).any (·.1)=false:=by rfl) :
  SE X Γ E (.Call (.Name "isinstance" p) [a,.Name y p2] [] pos) (f1 fa (gC T)) La .v:=by
 refine PE.post' (bc Az hg hm (by decide +kernel) (ah ha (ah (xt hgT hmT hvT (show RelV (.ty T) _ from rfl) hnT hdT) aH he2) he) (by decide) (by decide) he hpl) λσ H Q ⟨env,G,B,β,I,o⟩=>?_
 refine iZ (r:=λx H1 Q=>HI X.K [x,.ty T] H1 Q) ?_ I o
 intro B G H x dx d Q s hB bx e k
 unfold gC at e
 split at e
 ·cases e
 ·rename_i hn
  cases e
  rw[hK]
  exact⟨x,T,Hn dx,AV dx T,rfl,bx.ty s (by simpa using hn),HW hT,k _ G H (Ext.refl s) (.bl _)⟩
def iR (fa fb fc:VF D)(g g':D->D->Option D):VF D:=λvs β=>(fa vs β).bnd λx β1=>(fb vs β1).bnd λy β2=>match g x y with
 |some (.bool true)=>(fc vs β2).bnd λz β3=>R.of (g' y z) β3
 |some (.bool false)=>.ok (.bool false) β2
 |_=>.bad
theorem sV {a b c:Expr}{fa fb fc:VF D}{ma mb mc:Md}{Γ:Fx}{E:XK}{pos:Pos}{op op':CmpOp}{r r':R2}{g g':D->D->Option D}(ho:lK X (compareOp op) r)(ho':lK X (compareOp op') r')(pr:mq Γ.K r g .v)(pr':mq Γ.K r' g' .v)(ha:SE X Γ E a fa [] ma)(hb:SE X Γ E b fb [] mb)(hc:SE X Γ E c fc [] mc)
  (hm:lastMarks [op,op'] [b,c]=false:=by with_unfolding_all rfl):SE X Γ E (.Compare a [op,op'] [b,c] pos) (iR fa fb fc g g') [] .v:=by
 refine PE.post' (BI ho ho' ha hb hc hm) λσ H Q ⟨env,G,B,β,I,o⟩=>?_
 refine two (W:=λx y H2=>r x y H2 λz H3=>∃k,z=.bl k/\(if k=true then pT Γ E fc [] mc σ H3 λw' H4=>r' y w' H4 Q else Q (.bl false) H3)) I (o.bnd.imp λd1 β1 h=>h.bnd.imp λd2 β2 h x y G2 H2 I2 s2 m2 bx by'=>?_)
 obtain⟨cb,ec,h⟩:∃cb,g d1 d2=some (.bool cb)/\Out Γ E (if cb=true then (fc (vl env) β2).bnd λz β3=>R.of (g' d2 z) β3 else .ok (.bool false) β2) λd β'=>∀v G' H',SR Γ B G' H' σ (aN [] env) β'->ai G G'->gu B H H'->VO Γ.K B H G' H' .v d v->Q v H':=by
  split at h
  ·rename_i q;exact⟨true,q,by rw[KH rfl];exact h⟩
  ·rename_i q;exact⟨false,q,by rw[KZ K2];exact h⟩
  ·exact h.elim
 refine pr B G2 H2 x y d1 d2 _ _ I2.sub I2.boxThere bx by' ec λv G' H' x' vo=>?_
 cases vo
 refine⟨cb,rfl,?_⟩
 have I3:=I2.ext x'
 cases cb with
 |false=>rw[KZ K2] at h;exact om (h _ G' H' I3 (s2.trans x'.gg) (m2.trans (x'.mov B)) (.bl false))
 |true=>
  rw[KH rfl] at h
  refine sL ⟨env,G',B,β2,I3,h.bnd.imp λd3 β3 h z G4 H4 I4 s4 m4 vz=>?_⟩
  obtain⟨d,e,k⟩:=h.of
  refine pr' B G4 H4 y z d2 d3 d Q I4.sub I4.boxThere (by'.mono (x'.gg.trans s4) ((x'.mov B).trans m4)) (vz.brw I3.boxThere) e λv G5 H5 x5 vo=>?_
  exact k v G5 H5 (I4.ext x5) (((s2.trans x'.gg).trans s4).trans x5.gg) (((m2.trans (x'.mov B)).trans m4).trans (x5.mov B)) vo
end
def di.u1 {k:Nat}{A:Around}(r:di k A):A.units + 100 < cLine:=by have:=r.un;omega
def JZ (N:List Str)(sc:Scope)(NB:List Str)(own:Nat)(ixs:List Nat)(scope:Scope):Bool:=
 decide (scope.kind=.function) && (scope.names.all λy=>decide (y.2≠.cell)) && (scope.names.all λy=>decide (scope.names.lookup y.1=some y.2)) &&
 (scope.names.all λy=>decide (y.2=.free->(sc.names.lookup y.1=some .cell\/sc.names.lookup y.1=some .free))) && decide NB.Nodup && decide (NB.length=own + ixs.length) &&
 ((List.range ixs.length).all λk=>decide (NB[own + k]? =N[ixs.getD k 0]?) && (match NB[own + k]? with |some x=>decide ((x,NameKind.free)∈scope.names) |none=>true))
def bX {X:Cx}{NB:List Str}{own:Nat}{ixs:List Nat}{scope:Scope}(h:JZ X.N X.env.scope NB own ixs scope=true):cF X NB own ixs scope:=by
 unfold JZ at h
 simp only[KP,Lx,K7,LM] at h
 obtain⟨⟨⟨⟨⟨⟨h1,h2⟩,h3⟩,h4⟩,h5⟩,h6⟩,h7⟩:=h
 refine⟨h1,h2,h3,h4,h5,h6,λk hk=>⟨(h7 k hk).1,λx hx=>?_⟩⟩
 have:=(h7 k hk).2
 rw[hx] at this
 simpa using this
section
variable {X:Cx}{Γ:Fx}{E:XK}{e a b c:Expr}{f fa fb fc:VF D}{L La Lb:List Nat}{md ma mb mc:Md}{pos:Pos}{K:Frag}
def tN (fa:VF D)(neg:Bool):VF Bool:=λvs β=>(fa vs β).bnd λx β1=>.ok (if neg then !Cr x else Cr x) β1
def oT (Γ:Fx)(E:XK)(f:VF (Option Int))(L:List Nat):TO:=λσ H Q=>∃env G B β,SR Γ B G H σ env β/\
 Out Γ E (f (vl env) β) λd β'=>∀G' H',SR Γ B G' H' σ (aN L env) β'->ai G G'->gu B H H'->Q d H'
def IC (X:Cx)(Γ:Fx)(E:XK)(e:Option Expr)(f:VF (Option Int))(L:List Nat):Prop:=PO X e (oT Γ E f L)
def mV:IC X Γ E none (λ_ β=>.ok none β) []:=λpins s σ H Q I ⟨env,G,B,β,J,o⟩=>DA pins s σ H Q I (o G H J (ai.refl _) (gu.refl _ _))
def yC (fa:VF D):VF (Option Int):=λvs β=>(fa vs β).bnd λx β1=>match x with
 | .int i=>.ok (some i) β1
 |_=>.bad
theorem mU (ha:SE X Γ E a fa La ma):IC X Γ E (some a) (yC fa) La:=λpins s σ H Q I ⟨env,G,B,β,J,o⟩=>by
 refine B4 ha pins s σ H Q I ⟨env,G,B,β,J,o.bnd.imp λd1 β1 h x G1 H1 I1 s1 m1 vx=>?_⟩
 cases d1 with
 |int i=>exact⟨i,(vx.brw J.boxThere).int,h G1 H1 I1 s1 m1⟩
 |_=>exact h.elim
def cutD (xs:List D)(lo hi:Option Int):List D:=(xs.drop (HT.pM xs.length 0 lo)).take (HT.pM xs.length xs.length hi - HT.pM xs.length 0 lo)
def BS {G:Hp}{xs:List V}{ds:List D}(r:bH K G xs ds)(lo hi:Option Int):bH K G (wb xs lo hi) (cutD ds lo hi):=by
 unfold wb cutD
 rw[r.len]
 exact (r.drop _).take _
def yZ (fa:VF D)(fl fh:VF (Option Int)):VF D:=λvs β=>(fa vs β).bnd λx β1=>(fl vs β1).bnd λl β2=>(fh vs β2).bnd λh β3=>match x with
 | .list ds=>.ok (.list (cutD ds l h)) β3
 |_=>.bad
theorem lC {lo hi:Option Expr}{fl fh:VF (Option Int)}{Ll Lh:List Nat}{p2:Pos}(hK:X.K=Γ.K)(ha:SE X Γ E a fa La ma)(hl:IC X Γ E lo fl Ll)(hh:IC X Γ E hi fh Lh):SE X Γ E (.Subscript a (.Slice lo hi none p2) pos) (yZ fa fl fh) (La ++ Ll ++ Lh) .w:=by
 refine PE.post' (A6 C0 ha hl hh) λσ H Q ⟨env,G,B,β,I,o⟩=>?_
 refine⟨env,G,B,β,I,o.bnd.imp λd1 β1 h x G1 H1 I1 s1 m1 vx=>⟨aN La env,G1,B,β1,I1,?_⟩⟩
 rw[dQ]
 refine h.bnd.imp λl β2 h G2 H2 I2 s2 m2=>⟨aN Ll (aN La env),G2,B,β2,I2,?_⟩
 rw[dQ,dQ]
 refine h.bnd.imp λu β3 h G3 H3 I3 s3 m3=>?_
 rw[<-bZ,<-bZ,<-MU] at I3
 have bx:=((vx.brw I.boxThere).mono s2 m2).mono s3 m3
 cases d1 with
 |list ds=>
  obtain⟨p,xs,rfl,hq,r⟩:=bx.list I3.sub
  rw[hK]
  refine⟨p,xs,rfl,.inl hq,λq hn=>?_⟩
  have x:=Ext.own I3.sub (o:=.lst (wb xs l u)) hn
  exact h _ _ _ (I3.ext x) ((s1.trans s2).trans s3) (((m1.trans m2).trans m3).trans (x.mov B)) ⟨q,rfl,eG ((m1.trans m2).trans m3) I3.boxThere hn,I3.sub.free hn,_,aj,BS r l u⟩
 |_=>exact h.elim
def FG:mq K (λx y H Q=>∃i j,[x,y]= [.int i,.int j]/\Q (.int (if j > i then j else i)) H) (xg λi j=>.int (if j > i then j else i)) .v:=by
 intro B G H x y dx dy d Q s hB bx by' e k
 obtain⟨i,j,rfl,rfl,rfl⟩:=lW e
 obtain rfl:=bx.int
 obtain rfl:=by'.int
 exact⟨i,j,rfl,k _ G H (Ext.refl s) (.int _)⟩
def Fb:mq K (λx y H Q=>∃i j,[x,y]= [.int i,.int j]/\Q (.int (if j < i then j else i)) H) (xg λi j=>.int (if j < i then j else i)) .v:=by
 intro B G H x y dx dy d Q s hB bx by' e k
 obtain⟨i,j,rfl,rfl,rfl⟩:=lW e
 obtain rfl:=bx.int
 obtain rfl:=by'.int
 exact⟨i,j,rfl,k _ G H (Ext.refl s) (.int _)⟩
end
structure ji (K:Frag)(mg:Str->Option Value)(x:Str)(st:Stmt)(ps:List Str)(f:Addr)(fd:FuncData):Prop where
 mg:mg x=some (.ref f)
 F:y7 K x x st f fd
 b:Binds K fd ps []
structure Exc (K:Frag)(mg:Str->Option Value)(ca:Str->Addr)(x:Str):Prop where
 mg:mg x=some (.ref (ca x))
 ex:PySem.W.excIn K (ca x) [.type "ValueError",.type "Exception",.type "BaseException",.type "object"] "ValueError.__new__"=true
def Exc.ca {K:Frag}{mg:Str->Option Value}{ca:Str->Addr}{x:Str}(h:Exc K mg ca x):ca x=ca x:=rfl
structure jj (mg:Str->Option Value):Prop where
 len:mg "len"=none
 range:mg "range"=none
 enumerate:mg "enumerate"=none
 zip:mg "zip"=none
 min:mg "min"=none
 max:mg "max"=none
 sum:mg "sum"=none
 abs:mg "abs"=none
 sorted:mg "sorted"=none
 reversed:mg "reversed"=none
 int:mg "int"=none
 str:mg "str"=none
 bool:mg "bool"=none
 list:mg "list"=none
 tuple:mg "tuple"=none
 dict:mg "dict"=none
 set:mg "set"=none
 isinstance:mg "isinstance"=none
 repr:mg "repr"=none
 any:mg "any"=none
 all:mg "all"=none
 divmod:mg "divmod"=none
inductive FB where
 |ok (d:D) (fresh:Bool) (β:Int)
 |bad
def Gx (K:Frag)(n:Nat)(F:List D->Int->FB):Sp:=λvs H Q _=>∃b rest G ds β,vs=.ref b :: rest/\H b=some (.lst [.int β])/\G b=none/\ai G H/\ds.length=n/\bH K G rest ds/\match F ds β with
 | .ok d fr β'=>∀v G' H',gu (some b) H H'->H' b=some (.lst [.int β'])->ai G G'->ai G' H'->(∀c,Mx H c->G c=none->G' c=none)->FV K H G' H' fr d v->Q v H'
 | .bad=>False
structure qt (P:Program)(w:World)(K:Frag)(mg:Str->Option Value)(base:Heap)(x:Str)(ps:List Str)(k:Nat)(F:List D->Int->FB):Prop where
 ex:∃f fd,mg x=some (.ref f)/\PySem.W.keepIn K (.ref f)=true/\Binds K fd ps []/\ff P w K mg base (kW P w) k f fd ps (Gx K (ps.length - 1) F)
 len:∀ds β,F ds β≠.bad->ds.length=ps.length - 1
def u7 (vs:List Nv)(i:Nat):Bool:=match vs[i]? with
 |some .bx=>true
 |_=>false
def ua (i:Nat)(F:List D->Int->FB)(fr:VF (List D)):VF D:=λvs β=>if u7 vs i=true then (fr vs β).bnd λds β1=>match F ds β1 with
 | .ok d _ β2=>.ok d β2
 | .bad=>.bad else .bad
def IS (i:Nat)(F:List D->Int->FB)(fr:VF (List D)):VF D:=λvs β=>if u7 vs i=true then (fr vs β).bnd λds β1=>match F ds β1 with
 | .ok d true β2=>.ok d β2
 |_=>.bad else .bad
section
variable {X:Cx}{Γ:Fx}{E:XK}{e a b c:Expr}{f fa fb fc:VF D}{L La Lb:List Nat}{md ma mb mc:Md}{pos:Pos}{K:Frag}{es:List Expr}{fr:VF (List D)}
def C8 {env:En}{i:Nat}(h:u7 (vl env) i=true):env[i]? =some .bx:=by
 unfold u7 at h
 split at h
 ·exact Hd (by assumption)
 ·cases h
def Dz {env:En}{i j:Nat}{d:D}(h:(iz env i)[j]? =some (.br d)):env[j]? =some (.br d):=by
 unfold iz at h
 split at h
 ·rename_i d' e
  by_cases z:i=j
  ·subst z
   rw[KQ (KN.mp e).1] at h;cases h
  ·rw[KS z] at h;exact h
 ·exact h
theorem Ed {L:List Nat}{env:En}{j:Nat}{d:D}(h:(aN L env)[j]? =some (.br d)):env[j]? =some (.br d):=by
 unfold aN at h
 induction L generalizing env with
 |nil=>exact h
 |cons i L ih=>exact Dz (ih h)
def SR.calledB {p:Addr}{β β':Int}{G1 H1 G2 H2:Hp}{σ:St}{env:En}(I1:SR Γ (some p) G1 H1 σ env β)(h:gu (some p) H1 H2)(hp:H2 p=some (.lst [.int β']))(g:ai G1 G2)(s:ai G2 H2)(n:∀b,Mx H1 b->G1 b=none->G2 b=none):SR Γ (some p) G2 H2 σ env β':=by
 obtain⟨b1,b2,b3⟩:=I1.box p rfl
 refine⟨s,I1.old.trans g,λb n1 n2=>n b (I1.thereM n1) (I1.new b n1 n2),λb o e np=>vg (I1.keep b o e np) h λz=>?_,λb hb=>?_,I1.fix,λb e=>?_,I1.len,λi t e=>?_,I1.sep⟩
 ·cases z
  rcases b3 with b3 |b3
  ·exact np b3
  ·rw[e] at b3;cases b3
 ·by_cases z:p=b
  ·subst z;exact Mx.lst hp
  ·exact (I1.pin b hb).same λo q=>h.1 b o q λy=>z (Option.some.inj y)
 ·cases e
  exact⟨hp,n p (Mx.lst b1) b2,b3⟩
 ·have q:=I1.slot i t e
  cases t with
  |no=>trivial
  |fz d=>obtain⟨v,h1,h2⟩:=q;exact⟨v,h1,h2.mono g⟩
  |ow d=>
   obtain⟨c,h1,h2,h3,h4,h5⟩:=q
   exact⟨c,h1,h2,n c h5.mx h3,h4,h5.mono g λo q=>h.1 c o q h4⟩
  |bx=>exact q
  |br d=>obtain⟨b1,c,h1,h4,hpp,h5⟩:=q;exact⟨b1,c,h1,h4,hpp,h5.mono g λo q=>h.1 c o q h4⟩
theorem CB {F:List D->Int->FB}{ps:List Str}{Q:VK}{B:Option Addr}{G H:Hp}{σ:St}{env:En}{β:Int}{i:Nat}{p:Addr}(I:SR Γ B G H σ env β)(hK:X.K=Γ.K)(hp:B=some p){wv:Bool}
  (h:Out Γ E (fr (vl env) β) λds β1=>Out Γ E (match F ds β1 with
   | .ok d true β2=>.ok d β2
   | .ok d false β2=>if wv=true then .bad else .ok d β2
   | .bad=>.bad) λd β'=>∀v G' H',SR Γ B G' H' σ (aN L env) β'->ai G G'->gu B H H'->VO Γ.K B H G' H' (if wv=true then .w else .v) d v->Q v H') (hl:∀ds β,F ds β≠.bad->ds.length=ps.length - 1) :
  aT Γ E fr L σ H λvs H1=>Gx X.K (ps.length - 1) F (.ref p :: vs) H1 Q E:=by
 subst hp
 refine⟨env,G,_,β,I,h.imp λds β1 k vs G1 H1 I1 s1 m1 r=>?_⟩
 obtain⟨b1,b2,b3⟩:=I1.box p rfl
 refine⟨p,vs,G1,ds,β1,rfl,b1,b2,I1.sub,hl ds β1 λz=>by rw[z] at k;exact k,by rw[hK];exact r,?_⟩
 cases q:F ds β1 with
 |bad=>rw[q] at k;exact k
 |ok d fr' β2=>
  rw[q] at k
  intro v G' H' hh hb hg hs hn fv
  have I2:=I1.calledB hh hb hg hs hn
  cases fr' with
  |true=>
   obtain⟨c,rfl,p1,p2,p3⟩:∃a,v=.ref a/\H1 a=none/\G' a=none/\Own X.K G' H' a d:=fv
   rw[hK] at p3
   have hp:=eG m1 I1.boxThere p1
   cases wv with
   |true=>exact k _ G' H' I2 (s1.trans hg) (m1.trans hh) ⟨c,rfl,hp,p2,p3⟩
   |false=>
    obtain⟨q1,q2,q3,q4⟩:=I1.fresh p1
    obtain⟨G3,I3,s3,r3⟩:=I2.letIn q1 p2 q3 q4 p3
    exact k _ G3 H' I3 ((s1.trans hg).trans s3) (m1.trans hh) r3
  |false=>
   cases wv with
   |true=>exact k.elim
   |false=>
    have fv:Rp X.K G' v d:=fv
    rw[hK] at fv
    exact k _ G' H' I2 (s1.trans hg) (m1.trans hh) fv
theorem EA {F:List D->Int->FB}{ps:List Str}{Q:VK}{i:Nat}{σ:St}{H:Hp}(hK:X.K=Γ.K){wv:Bool}(hl:∀ds β,F ds β≠.bad->ds.length=ps.length - 1)(h:pT Γ E (if wv=true then IS i F fr else ua i F fr) L (if wv=true then .w else .v) σ H Q) :
  CJ i σ H λx H1=>aT Γ E fr L σ H1 λvs H2=>Gx X.K (ps.length - 1) F (x :: vs) H2 Q E:=by
 obtain⟨env,G,B,β,I,o⟩:=h
 have hi:u7 (vl env) i=true:=by
  by_cases hi:u7 (vl env) i=true
  ·exact hi
  ·exfalso
   cases wv with
   |true=>simp only[Mi] at o;unfold IS at o;rw[KZ hi] at o;exact o
   |false=>simp only[LP,Mu] at o;unfold ua at o;rw[KZ hi] at o;exact o
 obtain⟨p,e1,e2⟩:=I.slot i _ (C8 hi)
 refine⟨.ref p,e1,CB (i:=i) (ps:=ps) I hK e2 (wv:=wv) ?_ hl⟩
 cases wv with
 |true=>
  simp only[Mi] at o ⊢
  unfold IS at o
  rw[KH hi] at o
  refine o.bnd.imp λds β1 h=>?_
  cases q:F ds β1 with
  |bad=>rw[q] at h;exact h
  |ok d b β2=>rw[q] at h;cases b <;> exact h
 |false=>
  simp only[LP,Mu] at o ⊢
  unfold ua at o
  rw[KH hi] at o
  refine o.bnd.imp λds β1 h=>?_
  cases q:F ds β1 with
  |bad=>rw[q] at h;exact h
  |ok d b β2=>rw[q] at h;cases b <;> exact h
def uh {x y:Str}{ps:List Str}{k:Nat}{F:List D->Int->FB}{p np:Pos}(i:Nat)(hf:qt X.prog X.w X.K X.mg X.base x ps k F)(hr:di k X.A)(hx:Passes (kW X.prog X.w) X E)(hK:X.K=Γ.K)(hg:Gl X x)(ha:SA X Γ E es fr L)(hN:X.N[i]? =some y:=by rfl)(hv:vP X.env.scope y:=by first |exact Or.inl rfl |exact Or.inr (Or.inl rfl) |exact Or.inr (Or.inr rfl))(hd:(y == ("__debug__":Str))=false:=by decide)
  (hcd:(y == ("__classdict__":Str))=false:=by decide) (hdb:(x == ("__debug__":Str))=false:=by decide)
  (he:starEach (.Name y np :: es) X.env=(false,eval (.Name y np) X.env) :: starEach es X.env:=by rfl) (hpl:(backTo pos (starEach es X.env)).any (·.1)=false:=by rfl):SE X Γ E (.Call (.Name x p) (.Name y np :: es) [] pos) (ua i F fr) L .v:=by
 obtain⟨f,fd,hm,hk,hb,hF⟩:=hf.ex
 refine PE.post' (mL (dvs:=[]) hF hr hg hm hk hb .nil hx (ah (gZ hN hv hd hcd) ha he) hdb he hpl) λσ H Q h=>?_
 have:=EA (Q:=Q) (wv:=false) (ps:=ps) hK hf.len (by simpa using h)
 show CJ i σ H λx H1=>aT Γ E fr L σ H1 λvs H2=>Gx X.K (ps.length - 1) F ((x :: vs) ++ []) H2 Q E
 simpa using this
def Bs:D->Option Int
 | .list [.int z]=>some z
 |_=>none
def CS {d:D}{z:Int}(h:Bs d=some z):d=.list [.int z]:=by
 unfold Bs at h
 split at h
 ·cases h;rfl
 ·cases h
def Kz (f0:VF D)(F:List D->Int->FB)(n:Int):VF D:=λvs β=>(f0 vs β).bnd λd0 β1=>match Bs d0 with
 |some z=>(match F [.int n] z with
  | .ok d _ _=>.ok d β1
  | .bad=>.bad)
 |none=>.bad
def pe (env:En):En:=env.map λs=>match s with
 | .bx=>.no
 |s=>s
theorem Aq {env:En}{i:Nat}{s:Sl}(h:(pe env)[i]? =some s)(n:s≠.no):env[i]? =some s/\s≠.bx:=by
 unfold pe at h
 rw[KW] at h
 cases e:env[i]? with
 |none=>rw[e] at h;cases h
 |some t=>
  rw[e] at h
  have h:=Option.some.inj h
  cases t with
  |bx=>exact absurd h.symm n
  |no=>exact absurd h.symm n
  |fz d=>subst h;exact⟨rfl,λz=>by cases z⟩
  |ow d=>subst h;exact⟨rfl,λz=>by cases z⟩
  |br d=>subst h;exact⟨rfl,λz=>by cases z⟩
def wI (i:Nat)(L:List Nat)(f:VF D):SF:=λenv β=>toS (f (vl env) β) λd _=>match Bs d with
 |some z=>.nx ((pe (aN L env)).set i .bx) z
 |none=>.bad
theorem C6 {i:Nat}{x:Str}{pos':Pos}(hbx:Γ.bx=none)(he:SE X Γ E e f L .w)(hN:X.N.Nodup)(hi:X.N[i]? =some x:=by rfl)(hx:Loc X.env.scope x:=by first |exact Or.inl rfl |exact Or.inr rfl)(hs:swapsWith e (some (.Name x pos')) pos.line X.env=pure false:=by rfl)(hf:X.fn x=true\/X.env.scope.names.lookup x=some .local:=by first |exact .inl rfl |exact .inr rfl |assumption) :
  SS X Γ E (.Assign [.Name x pos'] e pos) (wI i L f):=by
 refine PS.post (iG hN hi hx he hs hf) λN σ H ⟨env,G,B,β,I,o⟩=>?_
 refine⟨env,G,B,β,I,b6 o λd β' k v G' H' I' s' m' vo=>?_⟩
 cases q:Bs d with
 |none=>rw[q] at k;exact k.elim
 |some z=>
  rw[q] at k
  obtain rfl:=CS q
  obtain⟨p,rfl,h1,h2,xs,h3,r⟩:=vo
  have hx2:H' p=some (.lst [.int z]):=by
   cases r with
   |cons r1 r2=>
    cases r1
    cases r2
    exact h3
  obtain⟨q1,q2,q3,q4⟩:=I.fresh h1
  refine k (some p) G' H' _ ⟨I'.sub,I'.old,I'.new,I'.keep,I'.pin,λb e=>(by rw[hbx] at e;cases e),λb e=>?_,?_,λj t e=>?_,λj j' c d1 d2 e1 e2 e3 e4=>?_⟩ s'
  ·cases e;exact⟨hx2,h2,.inr q1⟩
  ·rw[LJ,LJ];unfold pe;rw[KD];exact I'.len
  ·by_cases hj:j=i
   ·subst hj
    by_cases hl:j < (pe (aN L env)).length
    ·rw[KQ hl] at e
     cases e
     refine⟨p,?_,rfl⟩
     rw[KQ]
     rw[I'.len];unfold pe at hl;simpa using hl
    ·rw[LO (by rw[LJ];omega)] at e;cases e
   ·rw[KS (Ne.symm hj)] at e ⊢
    by_cases hn:t=.no
    ·subst hn;trivial
    ·obtain⟨e1,nb⟩:=Aq e hn
     have w:=I'.slot j t e1
     cases t with
     |no=>trivial
     |fz d=>exact w
     |bx=>exact absurd rfl nb
     |ow d=>
      obtain⟨a',g1,g2,g3,g4,g5⟩:=w
      exact⟨a',g1,g2,g3,λy=>q4 j d (jl e1) (by cases y;exact g1),g5⟩
     |br d=>
      obtain⟨b1,a',g1,g4,hpp,g5⟩:=w
      have e0:env[j]? =some (.br d):=Ed e1
      obtain⟨_,a2,f1,_,_,f5⟩:=I.slot j _ e0
      rw[g1] at f1;cases f1
      obtain⟨o,ho⟩:=f5.obj
      exact⟨b1,a',g1,λy=>(by cases y;rw[h1] at ho;cases ho),hpp,g5⟩
  ·have back:∀{j:Nat} {d1:D},((pe (aN L env)).set i Sl.bx)[j]? =some (.ow d1)->j≠i/\(aN L env)[j]? =some (.ow d1):=λ{j d1} e=>by
    by_cases hj:j=i
    ·subst hj
     by_cases hl:j < (pe (aN L env)).length
     ·rw[KQ hl] at e;cases e
     ·rw[LO (by rw[LJ];omega)] at e;cases e
    ·rw[KS (Ne.symm hj)] at e
     exact⟨hj,(Aq e (λy=>by cases y)).1⟩
   obtain⟨n1,w1⟩:=back e1
   obtain⟨n2,w2⟩:=back e2
   rw[KS (Ne.symm n1)] at e3
   rw[KS (Ne.symm n2)] at e4
   exact I'.sep j j' c d1 d2 w1 w2 e3 e4
end
section
variable {P:Program}{w:World}{K:Frag}{mg:Str->Option Value}{base:Heap}{ca:Str->Addr}
def Ew:SO->FB
 | .nx _ β=>.ok .none false β
 | .rt d fr β=>.ok d fr β
 |_=>.bad
def vL (n:Nat)(ds:List D):En:=.bx :: ds.map Sl.fz ++ List.replicate (n - 1 - ds.length) .no
def sZ (n p:Nat)(m:SF):List D->Int->FB:=λds β=>if ds.length=p then Ew (m (vL n ds) β) else .bad
abbrev Fx.fb (K:Frag)(H G:Hp)(ca:Str->Addr)(b:Addr):Fx:=⟨K,H,G,[b],ca,λ_=>false,some b⟩
def SR.startB {H G:Hp}{N:List Str}{b:Addr}{vs:List V}{ds:List D}{β:Int}(s:ai G H)(hb:H b=some (.lst [.int β]))(gb:G b=none)(r:bH K G vs ds)(hn:ds.length + 1<=N.length):SR (Fx.fb K H G ca b) (some b) G H (L2.start N (.ref b :: vs)) (vL N.length ds) β:=by
 have hl:=r.len
 refine⟨s,ai.refl _,λc _ h=>h,λc o h _=>Kt.of h,λc h=>?_,λc h=>h,λc h=>?_,?_,λi t e=>?_,λi j a d e h=>?_⟩
 ·have:c=b:=by simpa using h
  subst this;exact Mx.lst hb
 ·cases h;exact⟨hb,gb,.inl (by simp)⟩
 ·unfold L2.start vL;simp;omega
 ·cases i with
  |zero=>
   unfold vL at e
   cases e
   exact⟨b,rfl,rfl⟩
  |succ i=>
   unfold vL at e
   have e:(ds.map Sl.fz ++ List.replicate (N.length - 1 - ds.length) Sl.no)[i]? =some t:=by simpa using e
   by_cases hi:i < ds.length
   ·rw[Lz (by simpa using hi),KW,KR hi] at e
    cases e
    obtain⟨x,hx,rx⟩:=r.at (KR hi)
    refine⟨x,?_,rx⟩
    unfold L2.start
    have hi':i < vs.length:=by rw[hl];exact hi
    rw[Lz (by simp;exact hi'),KW,List.getElem?_cons_succ,hx];rfl
   ·rw[LG (by simpa using hi),LU] at e
    split at e
    ·cases e;trivial
    ·cases e
 ·unfold vL at h
  have hm:=K9 h
  rcases KG.mp hm with z |hm
  ·cases z
  rcases Lk.mp hm with z |z
  ·obtain⟨_,_,z⟩:=Lo.mp z;cases z
  ·have:=L8 z;cases this
def rY {x qual:Str}{st:Stmt}{f:Addr}{fd:FuncData}{N:List Str}{ps:List Str}{k:Nat}{m:SF}(F:y7 K x qual st f fd)(S:aB N ps (ak st))(hp:1<=ps.length)
  (hbody:∀(cdv:Value) (A:Around) (outer:List Env) (s:Shared) (H G:Hp) (b:Addr) (E:XK),di k (A.deeper (envOfC qual (ak st) s.heap.objs.size f cdv))->y1 (jG (kW P w) P w K mg base N qual (ak st) f cdv A outer s H E) (Fx.fb K H G ca b) E (bJ st) m) :
  ff P w K mg base (kW P w) (k + 1) f fd ps (Gx K (ps.length - 1) (sZ N.length (ps.length - 1) m)):=by
 have hpn:ps.length<=N.length:=by have:=congrArg List.length S.pre;rw[LR] at this;omega
 refine F.D8 S (λvs H Q E h=>?_) (λcdv A outer s H vs Q E hr h=>?_)
 ·obtain⟨b,rest,G,ds,β,rfl,hb,gb,sG,hl,r,_⟩:=h
  rw[K4,r.len];omega
 ·obtain⟨b,rest,G,ds,β,rfl,hb,gb,sG,hl,r,h⟩:=h
  refine⟨_,hbody cdv A outer s H G b E hr,?_⟩
  have I:=SR.startB (ca:=ca) (N:=N) sG hb gb r (by omega)
  refine⟨_,G,some b,β,I,?_⟩
  unfold sZ at h
  rw[KH hl] at h
  have fin':∀{B G' H' σ env β},SR (Fx.fb K H G ca b) B G' H' σ env β->gu (some b) H H'/\H' b=some (.lst [.int β]):=λJ=>by
   have e:=J.fix b rfl
   have k:∀c o,H c=some o->some b≠some c->Kt _ c o:=λc o ec n=>J.keep c o ec λz=>n (show some b=some c by rw[show c=b by simpa using z])
   exact⟨⟨k,λc o u ec=>k c _ ec λz=>by cases z;rw[hb] at ec;cases ec⟩,(J.box b e).1⟩
  cases q:m (vL N.length ds) β with
  |nx env β'=>rw[q] at h;exact λB G' H' σ J s'=>h .non G' H' (fin' J).1 (fin' J).2 s' J.sub (λc h1 h2=>J.new c h1 h2) Rp.non
  |bk env β'=>rw[q] at h;exact h.elim
  |ct env β'=>rw[q] at h;exact h.elim
  |rt d fr β'=>
   rw[q] at h
   refine λB G' H' σ env v J s' rv=>h v G' H' (fin' J).1 (fin' J).2 s' J.sub (λc h1 h2=>J.new c h1 h2) ?_
   cases fr with
   |true=>exact rv
   |false=>exact rv
  |exc c=>rw[q] at h;exact h.elim
  |bad=>rw[q] at h;exact h.elim
def sP {n p:Nat}{m:SF}(ds:List D)(β:Int)(h:sZ n p m ds β≠.bad):ds.length=p:=by
 unfold sZ at h
 by_cases hl:ds.length=p
 ·exact hl
 ·rw[KZ hl] at h;exact absurd rfl h
end
def aG (p:Pr):D:=.tuple [.int p.1,.int p.2]
def nZ:D->Option Pr
 | .tuple [.int a,.int b]=>some (a,b)
 |_=>none
def uk {d:D}{p:Pr}(h:nZ d=some p):d=aG p:=by
 unfold nZ at h
 split at h
 ·cases h;rfl
 ·cases h
def yg (p:Pr):nZ (aG p)=some p:=rfl
def g8:List D->Option (List Pr)
 | []=>some []
 |d :: ds=>match nZ d,g8 ds with
  |some p,some ps=>some (p :: ps)
  |_,_=>none
theorem lV:∀{ds:List D} {ps:List Pr},g8 ds=some ps->ds=ps.map aG
 | [],ps,h=>by cases h;rfl
 |d :: ds,ps,h=>by
  unfold g8 at h
  split at h
  ·rename_i p qs h1 h2;cases h;rw[uk h1,lV h2];rfl
  ·cases h
theorem iS:∀ps:List Pr,g8 (ps.map aG)=some ps
 | []=>rfl
 |p :: ps=>by
  show (match nZ (aG p),g8 (ps.map aG) with
   |some p,some ps=>some (p :: ps)
   |_,_=>none)=_
  rw[yg,iS ps]
section
variable {K:Frag}{X:Cx}{G H:Hp}
theorem bH.pairs:∀{ps:List Pr} {xs:List V},bH K G xs (ps.map aG)->bg K G xs ps
 | [],_,.nil=>.nil
 |p :: ps,_,.cons r t=>by
  cases r with
  |tup hq r=>
   cases r with
   |cons r1 r=>
    cases r with
    |cons r2 r=>cases r;cases r1;cases r2;exact .cons ⟨_,rfl,hq⟩ (bH.pairs t)
theorem bg.rps:∀{ps:List Pr} {xs:List V},bg K G xs ps->bH K G xs (ps.map aG)
 | [],_,.nil=>.nil
 |p :: ps,_,.cons r t=>by
  obtain⟨a,rfl,q⟩:=r
  exact .cons (.tup q (.cons (.int _) (.cons (.int _) .nil))) (bg.rps t)
def Kn (p:Pr):Bool:=decide (0<=p.1) && decide (p.1 < 8) && decide (0<=p.2) && decide (p.2 < 8)
variable {Γ:Fx}{E:XK}{e a b c:Expr}{f fa fb fc:VF D}{L La Lb:List Nat}{md ma mb mc:Md}{pos:Pos}
end
section
variable {K:Frag}{X:Cx}{G H:Hp}{Γ:Fx}{E:XK}{e a b c:Expr}{f fa fb fc:VF D}{L La Lb:List Nat}{md ma mb mc:Md}{pos apos cpos np:Pos}
def ia:D->Option D
 | .int n=>if 0<=n/\n<=1000 then some (.list (cZ 0 n.toNat)) else none
 |_=>none
def yB (n:Nat):bH K G ((List.range n).map λ(i:Nat)=>V.int (i:Int)) (cZ 0 n):=by
 have key:∀l:List Nat,bH K G (l.map λ(i:Nat)=>V.int (i:Int)) (l.map λ(k:Nat)=>int (0 + k)):=by
  intro l
  induction l with
  |nil=>exact .nil
  |cons x l ih=>exact .cons (by show Rp K G (.int (x:Int)) (.int (0 + (x:Int)));rw[LZ];exact .int _) ih
 exact key _
theorem vZ {p1 p2 pos2:Pos}(hc:X.calm=true)(hg:Gl X "list")(hm:X.mg "list"=none)(hg2:Gl X "range")(hm2:X.mg "range"=none)(ha:SE X Γ E a fa La ma)
  (he:starEach [a] X.env=(false,eval a X.env) :: starEach [] X.env:=by rfl)
  (he2:starEach [.Call (.Name "range" p2) [a] [] pos2] X.env=(false,eval (.Call (.Name "range" p2) [a] [] pos2) X.env) :: starEach [] X.env:=by rfl) :
  SE X Γ E (.Call (.Name "list" p1) [.Call (.Name "range" p2) [a] [] pos2] [] pos) (f1 fa ia) La .w:=by
 refine PE.post' (ij (pd hc) hg hm (by decide +kernel) (ah (ij By hg2 hm2 (by decide +kernel) (ah ha aH he) (by decide) (by decide) he) aH he2) (by decide) (by decide) he2) λσ H Q ⟨env,G,B,β,I,o⟩=>?_
 refine iZ (r:=λx H1 Q=>∃n:Int,[x]= [.int n]/\∀p,H1 p=none->(λ(y:V) (H2:Hp)=>∃(p:Addr) (n:Int),[y]= [V.ref p]/\H2 p=some (.bu 0 n)/\0<=n/\n<=1000/\∀l,H2 l=none->Q (.ref l) (upd H2 l (.lst ((List.range n.toNat).map λ(i:Nat)=>V.int (i:Int))))) (V.ref p) (upd H1 p (.bu 0 n))) ?_ I o
 intro B G H x dx d Q s hB bx e k
 cases dx with
 |int n=>
  obtain rfl:=bx.int
  simp only[ia] at e
  split at e
  ·rename_i hh
   cases e
   refine⟨n,rfl,λp hp=>⟨p,n,rfl,aj,hh.1,hh.2,λl hl=>?_⟩⟩
   have hlp:l≠p:=λz=>by subst z;rw[aj] at hl;cases hl
   have hlH:H l=none:=by rw[ao hlp] at hl;exact hl
   have x1:=Ext.own s (o:=.bu 0 n) hp
   have x2:=Ext.own x1.gh (o:=.lst ((List.range n.toNat).map λ(i:Nat)=>V.int (i:Int))) hl
   exact k _ _ _ (x1.trans x2) ⟨l,rfl,hlH,s.free hlH,_,aj,yB _⟩
  ·cases e
 |_=>cases e
def Cq:D->Option D
 | .int i=>some (.int (if i < 0 then -i else i))
 |_=>none
theorem HP:zT K (λx H Q=>∃i,[x]= [.int i]/\Q (.int (if i < 0 then -i else i)) H) Cq .v:=by
 intro B G H x dx d Q s hB bx e k
 cases dx with
 |int i=>cases e;obtain rfl:=bx.int;exact⟨i,rfl,k _ G H (Ext.refl s) (.int _)⟩
 |_=>cases e
noncomputable def IU (d:D):Option D:=match d with
 | .list ds=>(match g8 ds with
  |some ps=>if ps.all Kn=true/\ps.Nodup/\ps.length < 64 then some (.list ((OM.j9 8 (OM.Mem ps)).map aG)) else none
  |none=>none)
 |_=>none
def yH (ds:List D)(k:D):Option (D×List D):=match k with
 | .int i=>if -(2 ^ 63)<=i/\i < 2 ^ 63 then (match seqIndex? i ds.length with
  |some n=>(match ds[n]? with
   |some d=>some (d,ds.eraseIdx n)
   |none=>none)
  |none=>none) else none
 |_=>none
def iF (i j:Nat)(L:List Nat)(f:VF D):SF:=λenv β=>if rj env[i]? =true/\rj env[j]? =true/\i≠j then toS (f (vl env) β) λk β'=>match (aN L env)[j]? with
 |some (.ow (.list es))=>(match yH es k with
  |some (d,es')=>ED i ((aN L env).set j (.ow (.list es'))) β' λds=>if ds.length < sizeLine then some (ds ++ [d]) else none
  |none=>.bad)
 |_=>.bad else .bad
theorem bH.eraseIdx:∀{xs:List V} {ds:List D} (i:Nat),bH K G xs ds->bH K G (xs.eraseIdx i) (ds.eraseIdx i)
 |_,_,_,.nil=>.nil
 |_,_,0,.cons _ t=>t
 |_,_,i + 1,.cons r t=>.cons r (bH.eraseIdx i t)
theorem yw (i j:Nat){x y:Str}{np2 apos2 cpos2:Pos}(hb:∀j,Γ.br j=false)(he:SE X Γ E e f L md)(hN:X.N[i]? =some x:=by rfl)(hv:vP X.env.scope x:=by first |exact Or.inl rfl |exact Or.inr (Or.inl rfl) |exact Or.inr (Or.inr rfl))(hd:(x == ("__debug__":Str))=false:=by decide)
  (hcd:(x == ("__classdict__":Str))=false:=by decide)
  (hN2:X.N[j]? =some y:=by rfl) (hv2:vP X.env.scope y:=by first |exact Or.inl rfl |exact Or.inr (Or.inl rfl) |exact Or.inr (Or.inr rfl)) (hd2:(y == ("__debug__":Str))=false:=by decide)
  (hcd2:(y == ("__classdict__":Str))=false:=by decide)
  (hbase:attributeBase (.Name x np) "append" X.env (eval (.Name x np) X.env)=eval (.Name x np) X.env:=by rfl)
  (hfew:((backTo cpos (starEach [.Call (.Attribute (.Name y np2) "pop" apos2) [e] [] cpos2] X.env)).all (λx=> !x.1) && (backToKw cpos (keywordEach [] X.env)).all (λx=>x.1.isSome)
   && decide ([Expr.Call (.Attribute (.Name y np2) "pop" apos2) [e] [] cpos2].length + ([]:List Keyword).length + (if ([]:List Keyword).isEmpty then 0 else 1) < 30))=true:=by rfl)
  (hline:(apos.endLine == cpos.line)=true:=by rfl) (hs:starEach [.Call (.Attribute (.Name y np2) "pop" apos2) [e] [] cpos2] X.env=(false,eval (.Call (.Attribute (.Name y np2) "pop" apos2) [e] [] cpos2) X.env) :: starEach [] X.env:=by rfl)
  (hbase2:attributeBase (.Name y np2) "pop" X.env (eval (.Name y np2) X.env)=eval (.Name y np2) X.env:=by rfl)
  (hfew2:((backTo cpos2 (starEach [e] X.env)).all (λx=> !x.1) && (backToKw cpos2 (keywordEach [] X.env)).all (λx=>x.1.isSome)
   && decide ([e].length + ([]:List Keyword).length + (if ([]:List Keyword).isEmpty then 0 else 1) < 30))=true:=by rfl)
  (hline2:(apos2.endLine == cpos2.line)=true:=by rfl) (hs2:starEach [e] X.env=(false,eval e X.env) :: starEach [] X.env:=by rfl)
  (hsw:swapsWith (.Call (.Attribute (.Name x np) "append" apos) [.Call (.Attribute (.Name y np2) "pop" apos2) [e] [] cpos2] [] cpos) none pos.line X.env=pure false:=by rfl) :
  SS X Γ E (.Expr (.Call (.Attribute (.Name x np) "append" apos) [.Call (.Attribute (.Name y np2) "pop" apos2) [e] [] cpos2] [] cpos) pos) (iF i j L f):=by
 refine PS.post (rB (um Mb PySem.F.slot_list_append PySem.F.type_list_append lR (gZ hN hv hd hcd)
  (ah (um Mb PySem.F.slot_list_pop PySem.F.type_list_pop Aj (gZ hN2 hv2 hd2 hcd2) (ah he aH hs2) hbase2 hfew2 hline2 hs2 rfl) aH hs) hbase hfew hline hs rfl) hsw) λN σ H ⟨env,G,B,β,I,o⟩=>?_
 unfold iF at o
 by_cases hO:rj env[i]? =true/\rj env[j]? =true/\i≠j
 case neg=>rw[KZ hO] at o;exact o.elim
 rw[KH hO] at o
 obtain⟨hO1,hO2,hij⟩:=hO
 obtain⟨ds0,q0⟩:=mM hO1
 obtain⟨es0,w0⟩:=mM hO2
 obtain⟨p,h1,_,_,_,xs,h5,_⟩:=I.slot i _ q0
 obtain⟨q,k1,_,_,_,ys,k5,_⟩:=I.slot j _ w0
 refine⟨_,h1,.inl ⟨rfl,xs,.inl (.inl h5)⟩,?_⟩
 refine⟨_,k1,.inl ⟨rfl,ys,.inl (.inl k5)⟩,?_⟩
 refine⟨env,G,B,β,I,b6 o λkd β' k v G' H' I' s' m' vo=>?_⟩
 cases ej:(aN L env)[j]? with
 |none=>rw[ej] at k;exact k.elim
 |some sj=>
  rw[ej] at k
  cases sj with
  |ow dj=>
   cases dj with
   |list es=>
    dsimp only at k
    cases ep:yH es kd with
    |none=>rw[ep] at k;exact k.elim
    |some pr=>
     obtain⟨d,es'⟩:=pr
     rw[ep] at k
     dsimp only at k
     unfold yH at ep
     cases kd <;> first | (cases ep;done) |skip
     rename_i ii
     dsimp only at ep
     split at ep
     ·rename_i hr
      cases eI:seqIndex? ii es.length with
      |none=>rw[eI] at ep;cases ep
      |some n=>
       rw[eI] at ep
       dsimp only at ep
       cases eD:es[n]? with
       |none=>rw[eD] at ep;cases ep
       |some d0=>
        rw[eD] at ep
        cases ep
        obtain rfl:=(vo.brw I.boxThere).int
        obtain⟨q',g1,_,_,_,zs,g5,g6⟩:=I'.slot j _ ej
        rw[k1] at g1;cases g1
        obtain⟨xv,ex,rx⟩:=g6.at eD
        refine⟨q,zs,ii,n,xv,rfl,rfl,g5,hr.1,hr.2,by rw[g6.len];exact eI,ex,?_⟩
        have I2:=I'.write hb ej k1 (o:=.lst (zs.eraseIdx n)) (d':=.list (es.eraseIdx n)) λH2 e2 s2=>⟨_,e2,g6.eraseIdx n⟩
        obtain⟨ds,fs,eq,eg,k⟩:=qL k
        by_cases hz:ds.length < sizeLine
        case neg=>rw[KZ hz] at eg;cases eg
        rw[KH hz] at eg
        cases eg
        obtain⟨p',f1,_,_,_,us,f5,f6⟩:=I2.slot i _ eq
        rw[h1] at f1;cases f1
        refine⟨p,us,xv,rfl,rfl,f5,by rw[f6.len];exact hz,?_⟩
        exact k B G' _ σ (I2.write hb eq h1 λH2 e2 s2=>⟨_,e2,f6.snoc rx⟩) s'
     ·cases ep
   |_=>exact k.elim
  |_=>exact k.elim
end
def fZ:List D->Int->FB
 | [.int m],β=>if 0 < m/\m < 1073741824 then .ok (.int (β % m)) false (β / m) else .bad
 |_,_=>.bad
def we {ds:List D}{β:Int}(h:fZ ds β≠.bad):∃m,ds= [.int m]/\0 < m/\m < 1073741824:=by
 unfold fZ at h
 split at h
 ·rename_i m
  by_cases hh:0 < m/\m < 1073741824
  ·exact⟨m,rfl,hh.1,hh.2⟩
  ·rw[KZ hh] at h;exact absurd rfl h
 ·exact absurd rfl h
def qS {m β:Int}(h0:0 < m)(h1:m < 1073741824):fZ [.int m] β=.ok (.int (β % m)) false (β / m):=KH ⟨h0,h1⟩
def constsOf:List Expr->Option (List Int)
 | []=>some []
 | .Constant (.int i) _ _ :: es=>(constsOf es).map λr=>i :: r
 |_=>none
def Ke (ns:List Int):VF (List D):=λ_ β=>.ok (ns.map int) β
theorem pN {X:Cx}{Γ:Fx}{E:XK}:∀{es:List Expr} {ns:List Int},constsOf es=some ns->SA X Γ E es (Ke ns) []
 | [],ns,h=>by
  have e:ns= []:=by unfold constsOf at h;exact (Option.some.inj h).symm
  subst e
  exact aq
 |e :: es,ns,h=>by
  unfold constsOf at h
  split at h
  ·cases ‹_ :: _= []›
  ·next i a b es' heq=>
   cases heq
   cases q:constsOf es with
   |none=>rw[q] at h;cases h
   |some r=>
    rw[q] at h
    have e2:i :: r=ns:=Option.some.inj h
    subst e2
    exact ae ar (pN q) rfl
  ·cases h
section
variable {P:Program}{w:World}{K:Frag}{mg:Str->Option Value}{base:Heap}
def Co {X:Cx}{i j:Nat}{x y:Str}{px py pos:Pos}{k:Nat}(hN:X.N.Nodup)(hi:X.N[i]? =some x)(hj:X.N[j]? =some y)(hx:X.env.scope.names.lookup x=some .local)(hy:X.env.scope.names.lookup y=some .local)(hc:X.calm=true) :
  PG X (.Tuple [.Name x px,.Name y py] k pos) (Ci X.K 2 (nN (kb i) (nN (kb j) CO))):=
 nW hc (cP (cy hN hi (Or.inl hx) (Or.inr hx)) (cP (cy hN hj (Or.inl hy) (Or.inr hy)) lA))
def Aw {b:Addr}{β m:Int}{H:Hp}{Q:VK}{G:Hp}(hb:H b=some (.lst [.int β]))(s:ai G H){p:Addr}(hp:H p=none)
  (kk:∀v G' H',gu (some b) H H'->H' b=some (.lst [.int (β / m)])->ai G G'->ai G' H'->(∀c,Mx H c->G c=none->G' c=none)->FV K H G' H' false (.int (β % m)) v->Q v H') (gb:G b=none) :
  Q (.int (β % m)) (upd (upd H p (.tup [.int (β / m),.int (β % m)])) b (.lst [.int (β / m)])):=by
 have hbp:b≠p:=ay hb hp
 refine kk _ G _ ⟨λc o e n=>Kt.of (by rw[ao (λz=>n (by rw[z])),ao (ay e hp)];exact e),λc o u e=>by rw[ao (λz=>by rw[z,hb] at e;cases e),ao (ay e hp)];exact e⟩ aj (ai.refl _) (λc o e=>?_) (λc _ h=>h) (.int _)
 obtain⟨u,eu,_⟩:=(s c o e).some
 exact jI (jI (s c o e) (ay eu hp) λx y w=>by rw[hp] at w;cases w) (λz=>by rw[z,gb] at e;cases e) λx y w=>by rw[ao hbp,hb] at w;cases w
end
end L2
namespace L2
open PySem PySem.SeqAt PySem.Spec PyProof.Rows
def qw {M:Model}{A:Around}{E:Value->Shared->Prop}{s:Shared}{β:Type}{b:Nat}(f:Nat->β->Sem (ForInStep β))(I:List Nat->β->Shared->Prop)(Q:β->Shared->Prop)
  (turn:∀x rest b s,I (x :: rest) b s->wpAny M A (f x b) (λr s'=>match r with | .yield b'=>I rest b' s' | .done b'=>Q b' s') E s)
  (fin:∀b s,I [] b s->Q b s) (c:β) (h:I (List.range' 0 b) c s):wpAny M A (forIn [0:b] c f) Q E s:=by
 rw[Std.Legacy.Range.forIn_eq_forIn_range']
 simp only[Std.Legacy.Range.size,Nat.sub_zero,Nat.add_sub_cancel,Nat.div_one]
 exact wpAny_forIn_list f I Q turn fin _ c h
def o6 (l:Addr)(items:Array Value)(n:Nat)(dd:Option Addr)(sl:Array (Option Value))(x:Value)(e:Value->Bool)(j:Nat)(hj:j < items.size)
  (hit:e items[j]=true) (hno:∀m (hm:m < items.size),m < j->e items[m]=false) :
  Meets (Builtin.«tuple.index» ⟨[.ref l,x],[]⟩)
   (λA R s=>s.heap.get? l=some {cls:=.type "tuple",dict:=dd,data:=.seq items n,slots:=sl}/\(∀y,y∈items->EqAt A.in1 s y x (e y))/\R (.ok (.ret (.int j s.toks))) {s with toks:=s.toks + 1}):=
 .of_wp λprog w A R s h=>by
  obtain⟨hp,g,d,tk,os⟩:=s;obtain⟨hl,he,h⟩:=h
  wp_walk using wpAny_loadPart' hl,qw _ (λrest b s'=>b.1=none/\s'=⟨hp,g,d,tk,os⟩/\∃i,i<=j/\rest=List.range' i (items.size - i)) _
  case turn=>
   rintro y rest b s' ⟨hb,rfl,i,hi,hr⟩
   obtain⟨m,hm⟩:∃m,items.size - i=m + 1:=⟨items.size - i - 1,by omega⟩
   rw[hm,List.range'_succ] at hr
   obtain⟨rfl,rfl⟩:=List.cons.inj hr
   have hlt:y < items.size:=by omega
   have e1:items[y]? =some items[y]:=by simp[hlt]
   simp only[e1]
   refine KA (he _ (Array.getElem_mem hlt) prog w _ _ ?_)
   by_cases z:y=j
   ·subst z
    rw[hit]
    wp_walk
    exact⟨_,rfl,h⟩
   ·rw[hno y hlt (by omega)]
    wp_walk
    exact⟨rfl,rfl,y + 1,by omega,by congr 1;omega⟩
  case fin=>
   rintro b s' ⟨hb,rfl,i,hi,hr⟩
   obtain⟨m,hm⟩:∃m,items.size - i=m + 1:=⟨items.size - i - 1,by omega⟩
   rw[hm,List.range'_succ] at hr
   cases hr
  case h=>
   exact⟨rfl,rfl,0,LC _,by rw[Nat.min_self];rfl⟩
section
variable {K:Frag}{X:Cx}{G H:Hp}{Γ:Fx}{E:XK}{e a b c:Expr}{f fa fb fc:VF D}{L La Lb:List Nat}{md ma mb mc:Md}{pos apos cpos np:Pos}
def uU (k:Int):Value->Bool
 | .int i _=>i == k
 |_=>false
theorem kA {k:Int}:∀{ns:List Int} {us:List Value} (i:Nat) (h:i < us.length) (h2:i < ns.length),Vals (ns.map V.int) us->uU k us[i]=(ns[i] == k)
 | [],_,_,_,h2,_=>absurd h2 (MN _)
 |n :: ns,_,0,_,_,.cons r _=>by obtain⟨t,rfl⟩:=r;rfl
 |n :: ns,_,i + 1,h,h2,.cons _ rs=>kA i (Nat.lt_of_succ_lt_succ h) (Nat.lt_of_succ_lt_succ h2) rs
theorem tW {k:Int}{t:Tok}(A:Around)(s:Shared):∀{ns:List Int} {us:List Value},Vals (ns.map V.int) us->∀y∈us,EqAt A s y (.int k t) (uU k y)
 | [],_,.nil,y,hy=>by cases hy
 |n :: ns,_,.cons r rs,y,hy=>by
  rcases KG.mp hy with z |z
  ·subst z;obtain⟨t',rfl⟩:=r;exact EqAt.int_int n t' k t
  ·exact tW A s rs y z
def B7 (K:Frag):V->List V->Hp->VK->Prop:=λx vs H Q=>∃(a:Addr) (ns:List Int) (k:Int),x=.ref a/\vs= [.int k]/\fw K H a (ns.map V.int)/\k∈ns/\Q (.int (ns.idxOf k:Nat)) H
def yU:Et X "tuple.index" (B7 X.K):=by
 intro pins s σ H x vs v us Q I rx rv h
 obtain⟨a,ns,k,rfl,rfl,hq,hk,q⟩:=h
 cases rx
 obtain⟨u,rfl,ru⟩:=vals1 rv
 obtain⟨t,rfl⟩:=ru
 obtain⟨its,rs,pl,hz⟩:=I.tuple hq
 obtain⟨⟨cls,dd,data,sl⟩,ho,hc,n,hd⟩:=id pl
 simp only at hc hd
 subst hc hd
 have hj:ns.idxOf k < ns.length:=Lu.mpr hk
 have hlen:its.length=ns.length:=by rw[<-rs.length,KD]
 refine MH PySem.F.slot_tuple_index ⟨_,ho,rfl⟩ PySem.F.entry_tuple_index (PySem.F.args_tuple_index_2 _ _)
  (o6 a its.toArray n dd sl (.int k t) (uU k) (ns.idxOf k) (by simpa[hlen] using hj) ?_ ?_) ⟨ho,λy hy=>tW _ _ rs y (by simpa using hy),?_⟩
 ·have:=kA (k:=k) (ns.idxOf k) (by omega) hj rs
  simpa[Mg hj] using this
 ·intro m hm hlt
  have hm':m < ns.length:=by simpa[hlen] using hm
  have hne:ns[m]≠k:=λz=>by
   have:=List.not_of_lt_findIdx (p:=(· == k)) hlt
   simp[z] at this
  have:=kA (k:=k) m (by omega) hm' rs
  rw[beq_eq_false_iff_ne.mpr hne] at this;simpa using this
 ·exact⟨.int (ns.idxOf k:Nat),H,I.tok _,⟨_,rfl⟩,q⟩
def Inv.tupleP {pins:List (Addr×Obj)}{σ:St}{s:Shared}{p:Addr}{xs:List V}(I:Inv X pins σ H s)(h:fw X.K H p xs):s.TypeIs (.ref p) "tuple"/\∀a,Value.ref p=.ref a->∃ob,s.heap.get? a=some ob/\ob.dict=none:=by
 rcases h with h | ⟨o,its,n,hk,hc,hs,hz,r,hd⟩
 ·obtain⟨_,_,_,o,e,c,n,d,hd⟩:=h.ok I.hok
  exact⟨⟨o,e,c⟩,λa z=>by cases z;exact⟨o,e,hd⟩⟩
 ·exact⟨⟨o,I.kIn p o hk,hc⟩,λa z=>by cases z;exact⟨o,I.kIn p o hk,hd⟩⟩
def Jd (K:Frag)(r:V->List V->Hp->VK->Prop)(to:TE)(t:TA):TE:=λσ H Q=>to σ H λx H1=>(∃p xs,x=.ref p/\fw K H1 p xs)/\t σ H1 λxs H2=>r x xs H2 Q
def EL {o e:Expr}{es:List Expr}{to:TE}{t:TA}{name:Str}{apos cpos:Pos}{id:String}{r:V->List V->Hp->VK->Prop}(slot:Slot "tuple" name id)(hty:typeOf (.builtin id)=pure (.type "method_descriptor"))(hm:Et X id r)(ho:PE X o to)(ha:PA X (e :: es) t)
  (hbase:attributeBase o name X.env (eval o X.env)=eval o X.env:=by rfl)
  (hfew:((backTo cpos (starEach (e :: es) X.env)).all (λx=> !x.1) && (backToKw cpos (keywordEach [] X.env)).all (λx=>x.1.isSome)
   && decide ((e :: es).length + ([]:List Keyword).length + (if ([]:List Keyword).isEmpty then 0 else 1) < 30))=true:=by rfl)
  (hline:(apos.endLine == cpos.line)=true:=by rfl) (hs:starEach (e :: es) X.env=(false,eval e X.env) :: starEach es X.env:=by rfl) (hplain:(backTo cpos (starEach es X.env)).any (·.1)=false:=by rfl) :
  PE X (.Call (.Attribute o name apos) (e :: es) [] cpos) (Jd X.K r to t):=by
 intro pins s σ H Q I h
 refine wpAny_Call_method_late hbase hfew hline rfl (b7 (ho pins s σ H _ I h) λv s1 ⟨x,H1,I1,r1,⟨p,ys,ex,hr⟩,q1⟩=>?_)
 subst ex
 cases r1
 obtain⟨h1,h2⟩:=I1.tupleP hr
 refine⟨"tuple",id,PySem.F.plainAttrs_tuple,slot,hty,h1,h2,?_⟩
 have hA:=ha cpos pins s1 σ H1 _ I1 q1
 rw[hs] at hA ⊢
 refine Calls.callWith_builtin (by show (false || (backTo cpos (starEach es X.env)).any (·.1))=false;rw[hplain] <;> rfl) (Calls.evalArgs_plain ?_)
 exact b7 hA λus s2 ⟨vs,H2,I2,r2,q2⟩=>hm pins s2 σ H2 (.ref p) vs (.ref p) us Q I2 rfl r2 q2
def ib:List D->Option (List Int)
 | []=>some []
 | .int i :: ds=>(ib ds).map (i :: ·)
 |_=>none
theorem nU:∀{ds:List D} {ns:List Int},ib ds=some ns->ds=ns.map int
 | [],ns,h=>by cases h;rfl
 | .int i :: ds,ns,h=>by
  unfold ib at h
  cases q:ib ds with
  |none=>rw[q] at h;cases h
  |some ms=>rw[q] at h;cases h;rw[nU q];rfl
 | .none :: _,_,h=>by cases h
 | .bool _ :: _,_,h=>by cases h
 | .str _ :: _,_,h=>by cases h
 | .list _ :: _,_,h=>by cases h
 | .tuple _ :: _,_,h=>by cases h
 | .dict _ :: _,_,h=>by cases h
theorem ic:∀ns:List Int,ib (ns.map int)=some ns
 | []=>rfl
 |n :: ns=>by show (ib (ns.map int)).map (n :: ·)=_;rw[ic ns];rfl
theorem oM:∀{ns:List Int} {xs:List V},bH K G xs (ns.map int)->xs=ns.map V.int
 | [],_,.nil=>rfl
 |n :: ns,_,.cons r t=>by cases r;rw[oM t];rfl
def CY (d y:D):Option D:=match d,y with
 | .tuple ds,.int k=>(match ib ds with
  |some ns=>if k∈ns then some (.int (ns.idxOf k:Nat)) else none
  |none=>none)
 |_,_=>none
def xm:D->Bool
 | .tuple _=>true
 |_=>false
def jr (fa fb:VF D):VF D:=λvs β=>(fa vs β).bnd λx β1=>if xm x=true then (fb vs β1).bnd λy β2=>R.of (CY x y) β2 else .bad
theorem lg (hK:X.K=Γ.K)(ha:SE X Γ E a fa La ma)(hb:SE X Γ E b fb Lb mb)
  (hbase:attributeBase a "index" X.env (eval a X.env)=eval a X.env:=by rfl)
  (hfew:((backTo cpos (starEach [b] X.env)).all (λx=> !x.1) && (backToKw cpos (keywordEach [] X.env)).all (λx=>x.1.isSome)
   && decide ([b].length + ([]:List Keyword).length + (if ([]:List Keyword).isEmpty then 0 else 1) < 30))=true:=by rfl)
  (hline:(apos.endLine == cpos.line)=true:=by rfl) (hs:starEach [b] X.env=(false,eval b X.env) :: starEach [] X.env:=by rfl) :
  SE X Γ E (.Call (.Attribute a "index" apos) [b] [] cpos) (jr fa fb) (La ++ Lb) .v:=by
 refine PE.post' (EL PySem.F.slot_tuple_index PySem.F.type_tuple_index yU ha (ah hb aH hs) hbase hfew hline hs rfl) λσ H Q ⟨env,G,B,β,I,o⟩=>?_
 refine⟨env,G,B,β,I,o.bnd.imp λd1 β1 h x G1 H1 I1 s1 m1 vx=>?_⟩
 have vx:=vx.brw I.boxThere
 cases d1 with
 |tuple ds=>
  rw[KH (show xm (.tuple ds)=true from rfl)] at h
  obtain⟨p,xs,rfl,hq,r⟩:=vx.tuple I1.sub
  refine⟨⟨p,xs,rfl,by rw[hK];exact hq⟩,?_⟩
  refine⟨aN La env,G1,B,β1,I1,?_⟩
  rw[dQ]
  refine h.bnd.imp λd2 β2 h y G2 H2 I2 s2 m2 vy=>?_
  obtain⟨d,e,k⟩:=h.of
  have vy:=vy.brw I1.boxThere
  cases d2 with
  |int kk=>
   obtain rfl:=vy.int
   simp only[CY] at e
   cases q:ib ds with
   |none=>rw[q] at e;cases e
   |some ns=>
    rw[q] at e
    dsimp only at e
    split at e
    ·rename_i hk
     cases e
     have eds:=nU q
     subst eds
     have exs:=oM r
     subst exs
     have hq2:fw X.K H2 p (ns.map V.int):=by
      rw[hK]
      rcases hq with hq |hq
      ·rcases vx with vx | ⟨_,_,_,vx⟩
       ·cases vx with
        |tup g1 r9=>have z9:=oM r9;subst z9;exact (g1.grow (s2.trans I2.sub).grow)
       ·exact vx.elim
      ·exact .inr hq
     exact⟨p,ns,kk,rfl,rfl,hq2,hk,k _ G2 H2 (by rw[bZ];exact I2) (s1.trans s2) (m1.trans m2) (.int _)⟩
    ·cases e
  |_=>simp only[CY] at e;cases e
 |_=>exact h.elim
abbrev Fx.at (Γ:Fx)(H0:Hp):Fx:=⟨Γ.K,H0,Γ.G0,Γ.par,Γ.ca,Γ.br,Γ.bx⟩
def B3 (i j:Nat)(La Lb:List Nat)(fa fb:VF D):SF:=λenv β=>toS (fa (vl env) β) λd1 β1=>toS (fb (vl env) β1) λd2 β2=>.nx (((aN (La ++ Lb) env).set i (.ow d1)).set j (.ow d2)) β2
def SR.hold {B:Option Addr}{G H:Hp}{σ:St}{env:En}{β:Int}{p:Addr}{o:HO}(I:SR Γ B G H σ env β)(h0:Γ.H0 p=none)(hg:G p=none)(hb:B≠some p)(hH:H p=some o)(hp:p∉Γ.par)(hn:∀(j:Nat) (d':D),env[j]? =some (.ow d')->σ[j]?≠some (some (.ref p))) :
  SR (Γ.at (upd Γ.H0 p o)) B G H σ env β:=by
 refine⟨I.sub,I.old,λb h1 h2=>?_,λb u h1 h2=>?_,I.pin,I.fix,λb e=>?_,I.len,λi s e=>?_,I.sep⟩
 ·by_cases z:b=p
  ·subst z;exact hg
  ·exact I.new b (h1.same λu e=>Kt.of (by have e:upd Γ.H0 p o b=some u:=e;rw[ao z] at e;exact e)) h2
 ·by_cases z:b=p
  ·subst z;have h1:upd Γ.H0 b o b=some u:=h1;rw[aj] at h1;cases h1;exact Kt.of hH
  ·have h1:upd Γ.H0 p o b=some u:=h1
   rw[ao z] at h1;exact I.keep b u h1 h2
 ·obtain⟨k1,k2,k3⟩:=I.box b e
  refine⟨k1,k2,k3.imp id λk3=>?_⟩
  show upd Γ.H0 p o b=none
  rw[ao (λz=>hb (by rw[<-z];exact e))];exact k3
 ·have w:=I.slot i s e
  cases s with
  |no=>trivial
  |fz d=>exact w
  |bx=>exact w
  |br d=>exact w
  |ow d=>
   obtain⟨c,w1,w2,w3,w4,w5⟩:=w
   exact⟨c,w1,by show upd Γ.H0 p o c=none;rw[ao (λz=>hn i d e (by rw[<-z];exact w1))];exact w2,w3,w4,w5⟩
def SR.unhold {B:Option Addr}{G H:Hp}{σ:St}{env:En}{β:Int}{p:Addr}{o:HO}(I:SR (Γ.at (upd Γ.H0 p o)) B G H σ env β)(h0:Γ.H0 p=none):SR Γ B G H σ env β:=by
 have up:∀{b:Addr} {u:HO},Γ.H0 b=some u->upd Γ.H0 p o b=some u:=λ{b u} e=>by rw[ao (ay e h0)];exact e
 have dn:∀{b:Addr},upd Γ.H0 p o b=none->Γ.H0 b=none:=λ{b} e=>by
  by_cases z:b=p
  ·subst z;exact h0
  ·rw[ao z] at e;exact e
 refine⟨I.sub,I.old,λb h1 h2=>I.new b (h1.same λu e=>Kt.of (up e)) h2,λb u h1 h2=>I.keep b u (up h1) h2,I.pin,I.fix,λb e=>?_,I.len,λi s e=>?_,I.sep⟩
 ·obtain⟨k1,k2,k3⟩:=I.box b e
  exact⟨k1,k2,k3.imp id dn⟩
 ·have w:=I.slot i s e
  cases s with
  |no=>trivial
  |fz d=>exact w
  |bx=>exact w
  |br d=>exact w
  |ow d=>obtain⟨c,w1,w2,w3⟩:=w;exact⟨c,w1,dn w2,w3⟩
def Fg {i j:Nat}{x y:Str}{px py pt:Pos}{kt k2 pt2}(hN:X.N.Nodup)(hij:i≠j)(ha:SE X Γ E a fa La .w)(hb:∀H0,SE X (Γ.at H0) E b fb Lb .w)(hc:X.calm=true:=by rfl)(hi:X.N[i]? =some x:=by rfl)(hj:X.N[j]? =some y:=by rfl)
  (hx:X.env.scope.names.lookup x=some .local:=by rfl) (hy:X.env.scope.names.lookup y=some .local:=by rfl)
  (hs1:starEach [a,b] X.env=(false,eval a X.env) :: starEach [b] X.env:=by rfl) (hs2:starEach [b] X.env=(false,eval b X.env) :: starEach [] X.env:=by rfl)
  (hw:swappedStores [.Tuple [.Name x px,.Name y py] kt pt] (.Tuple [a,b] k2 pt2) X.env=pure (some [x,y]):=by rfl)
  (hs:swapsWithSole [.Tuple [.Name x px,.Name y py] kt pt] (.Tuple [a,b] k2 pt2) pos.line X.env=pure false:=by rfl) :
  SS X Γ E (.Assign [.Tuple [.Name x px,.Name y py] kt pt] (.Tuple [a,b] k2 pt2) pos) (B3 i j La Lb fa fb):=by
 have hbU:PE X b (λσ H Q=>∃H0,pT (Γ.at H0) E fb Lb .w σ H Q):=λpins s σ H Q I ⟨H0,q⟩=>hb H0 pins s σ H Q I q
 refine PS.post (Fc hc hN hi hj hij hx hy (ah ha (ah hbU aH hs2) hs1) hw hs) λN σ H ⟨env,G,B,β,I,o⟩=>?_
 refine⟨env,G,B,β,I,b6 o λd1 β1 k v G1 H1 I1 s1 m1 vo=>?_⟩
 obtain⟨p,rfl,h1,h2,h3⟩:=vo
 obtain⟨q1,q2,q3,q4⟩:=I.fresh h1
 obtain⟨ob,hob⟩:=h3.obj
 have hp:p∉Γ.par:=λz=>(I.pin p z).1 h1
 have Ih:=I1.hold q1 h2 q3 hob hp (λj' d' e=>q4 j' d' (jl e))
 refine⟨upd Γ.H0 p ob,aN La env,G1,B,β1,Ih,?_⟩
 rw[dQ]
 have kk:Out (Γ.at (upd Γ.H0 p ob)) E (fb (vl env) β1) λd2 β2=>oQ Γ E G N (.nx (((aN (La ++ Lb) env).set i (.ow d1)).set j (.ow d2)) β2):=by
  cases q:fb (vl env) β1 with
  |ok d2 β2=>rw[q] at k;exact k
  |exc c=>
   rw[q] at k
   intro H' hk
   exact k H' λb o e n=>hk b o (by show upd Γ.H0 p ob b=some o;rw[ao (ay e q1)];exact e) n
  |bad=>rw[q] at k;exact k
 refine kk.imp λd2 β2 k w G2 H2 J s2 m2 vo2=>?_
 obtain⟨r,rfl,g1,g2,g3⟩:=vo2
 have J':=J.unhold q1
 have gp:G2 p=none:=J.new p (show Mx (upd Γ.H0 p ob) p from (h3.mx).same λo e=>Kt.of (by rw[hob] at e;cases e;exact aj)) (I.old.free q2)
 have hp2:Kt H2 p ob:=J.keep p ob aj hp
 obtain⟨r1,r2,r3,r4⟩:=I1.fresh g1
 have rp:r≠p:=λz=>by rw[z,hob] at g1;cases g1
 have own1:Own Γ.K G2 H2 p d1:=h3.mono s2 λo e=>by rw[hob] at e;cases e;exact hp2
 have J1:=J'.setOw' i q1 gp q3 own1 (λj' d' e=>q4 j' d' (jl (jl e)))
 refine⟨_,_,rfl,k B G2 H2 _ ?_ (s1.trans s2)⟩
 rw[bZ]
 refine J1.setOw' j r1 g2 r3 g3 λj' d' e z=>?_
 by_cases y:i=j'
 ·subst y
  by_cases hl:i < σ.length
  ·rw[KQ hl] at z
   cases z;exact rp rfl
  ·rw[LS (by omega)] at z
   rw[LO (by omega)] at z;cases z
 ·rw[KS y] at z e
  exact r4 j' d' (jl e) z
end
end L2
namespace L2
open PySem PySem.Spec PyProof.Rows
section
variable {K:Frag}{X:Cx}{G H:Hp}
def zt (neg:Bool):D->D->Option D
 | .str x,.str y=>some (.bool (if neg then !decide (x=y) else decide (x=y)))
 |_,_=>none
def Bo (x y:Str):decide (V.str x=V.str y)=decide (x=y):=by
 rw[Lq];simp
def DX:mq K Kd (zt true) .v:=by
 intro B G H x y dx dy d Q s hB bx by' e k
 cases dx <;> cases dy <;> first | (cases e;done) |skip
 cases e
 obtain rfl:=bx.str
 obtain rfl:=by'.str
 refine⟨rfl,?_⟩
 rw[Bo]
 exact k _ G H (Ext.refl s) (.bl _)
end
def GK (W:Addr->Str->Prop):Sp:=λvs H Q _=>∃(ea D:Addr) (x:Str),vs= [.ref ea]/\H ea=some (.ext (iw ea (.ref D)))/\W D x/\∀H',ai H H'->Q (.str x) H'
def kH:En->Bool
 | []=>true
 | .no :: env=>kH env
 | .fz _ :: env=>kH env
 |_=>false
theorem j0:∀{env:En} {i:Nat} {s:Sl},kH env=true->env[i]? =some s->s=.no\/∃d,s=.fz d
 | [],_,_,_,e=>by simp at e
 | .no :: env,0,_,_,e=>by simp at e;exact .inl e.symm
 | .fz d :: env,0,_,_,e=>by simp at e;exact .inr ⟨d,e.symm⟩
 | .no :: env,i + 1,s,h,e=>j0 (env:=env) h (by simpa using e)
 | .fz d :: env,i + 1,s,h,e=>j0 (env:=env) h (by simpa using e)
 | .ow _ :: _,_,_,h,_=>by cases h
 | .br _ :: _,_,_,h,_=>by cases h
 | .bx :: _,_,_,h,_=>by cases h
def yu (marks:Str->Option Str)(m:SF):SF:=λenv β=>if kH env=true then (match m env 0 with
 | .rt d fr _=>.rt d fr β
 | .exc c=>(match marks c with
  |some x=>.rt (.str x) false β
  |none=>.bad)
 |_=>.bad) else .bad
section
variable {X:Cx}{Γ:Fx}{E:XK}{m:SF}
def SR.drop {B:Option Addr}{G H:Hp}{σ:St}{env:En}{β:Int}(I:SR Γ B G H σ env β)(hf:kH env=true):SR (Fx.fn Γ.K H G Γ.ca) none G H σ env 0:=by
 refine⟨I.sub,ai.refl _,λb _ h=>h,λb o h _=>Kt.of h,λb h=>(by cases h),λb h=>(by cases h),λb h=>(by cases h),I.len,λi s e=>?_,λi j a d e h=>?_⟩
 ·rcases j0 hf e with rfl | ⟨d,rfl⟩
  ·trivial
  ·exact I.slot i _ e
 ·rcases j0 hf h with z | ⟨_,z⟩ <;> cases z
def SR.undrop {B B':Option Addr}{G H G' H':Hp}{σ σ':St}{env env':En}{β β':Int}(I:SR Γ B G H σ env β)(J:SR (Fx.fn Γ.K H G Γ.ca) B' G' H' σ' env' β'):SR Γ B G' H' σ (List.replicate env.length .no) β:=by
 have kp:∀b o,H b=some o->Kt H' b o:=λb o e=>J.keep b o e (by simp)
 have ks:ai H H':=kp
 refine⟨J.sub,I.old.trans J.old,λb h1 h2=>J.new b (I.thereM h1) (I.new b h1 h2),λb o h1 h2=>(I.keep b o h1 h2).step ks,λb hb=>(I.pin b hb).same (kp b),I.fix,λb e=>?_,by rw[L4];exact I.len,λi s e=>?_,λi j a d e h=>?_⟩
 ·obtain⟨h1,h2,h3⟩:=I.box b e
  exact⟨kp b _ h1,J.new b (Mx.lst h1) h2,h3⟩
 ·rw[L8 (K9 e)];trivial
 ·have:=L8 (K9 h);cases this
def SR.forget {B:Option Addr}{G H H':Hp}{σ:St}{env:En}{β:Int}(I:SR Γ B G H σ env β)(hh:ai H H'):SR Γ B G H' σ env β:=I.ext ⟨hh,ai.refl _,I.sub.trans hh,λ_ _=>rfl⟩
def FA {n x y:Str}{i k:Nat}{Dc gm:Addr}{dm:FuncData}{W:Addr->Str->Prop}{marks:Str->Option Str}{np hpos pos cp fp ap rp:Pos}{body:List Stmt}(hb:∀Eb Ex pn H G,Passes (kW X.prog X.w) (X.inTry Ex pn) Eb->y1 (X.inTry Ex pn) (Fx.fn Γ.K H G Γ.ca) Eb body m)
  (hM:pA X.prog X.w X.K X.mg X.base u5 k gm dm ["e"] (GK W)) (hr:∀e,kP k (X.inEx e).A) (hmg:X.mg y=some (.ref gm)) (hkp:PySem.W.keepIn X.K (.ref gm)=true) (hbi:Binds X.K dm ["e"] [])
  (hw:∀c z,marks c=some z->Mt X.K (.ref (Γ.ca c)) Dc/\W (Γ.ca c) z)
  (hm:X.mg x=some (.ref Dc)) (hN:X.N.Nodup) (hgy:∀e,Gl (X.inEx e) y:=by intro _;rfl) (hst:X.stack=X.env :: X.outer:=by rfl) (hfr:X.env.frame=some X.env.locals:=by rfl) (hex:X.ex= []:=by rfl) (hg:Gl X x:=by rfl) (hi:X.N[i]? =some n:=by rfl) (hk:X.env.scope.names.lookup n=some .local:=by rfl)
  (hd:(n == ("__debug__":Str))=false:=by decide) (hcd:(n == ("__classdict__":Str))=false:=by decide)
  (hdb:(x == ("__debug__":Str))=false:=by decide) (hdy:(y == ("__debug__":Str))=false:=by decide)
  (he:∀e,starEach [.Name n ap] (X.inEx e).env=(false,eval (.Name n ap) (X.inEx e).env) :: starEach [] (X.inEx e).env:=by intro _;rfl) :
  SS X Γ E (.Try body [.ExceptHandler (some (.Name x np)) (some n) [.Return (some (.Call (.Name y fp) [.Name n ap] [] cp)) rp] hpos] [] [] pos) (yu marks m):=by
 have hbU:∀Eb Ex pn,Passes (kW X.prog X.w) (X.inTry Ex pn) Eb->mH (X.inTry Ex pn) body (λD σ H=>∃H0 G0,sT (Fx.fn Γ.K H0 G0 Γ.ca) Eb m D σ H):=λEb Ex pn hp pins s σ H D I ⟨H0,G0,q⟩=>hb Eb Ex pn H0 G0 hp pins s σ H D I q
 have hsU:∀e,mH (X.inEx e) [.Return (some (.Call (.Name y fp) [.Name n ap] [] cp)) rp] _:=λe=>cT (hW (zF hM (hr e) (hgy e) hmg hkp hbi .nil DG (ah (gZ (i:=i) hi (Or.inl hk) hd hcd) aH (he e)) hdy (he e) rfl))
 refine PS.post (Eg (i:=i) hst hfr hex hbU hsU hg hm hN hi hk hdb) λN σ H ⟨env,G,B,β,I,o⟩=>?_
 unfold yu at o
 by_cases hf:kH env=true
 case neg=>rw[KZ hf] at o;exact o.elim
 rw[KH hf] at o
 refine⟨λcls _ H'=>∃c z,cls=.ref (Γ.ca c)/\marks c=some z/\ai H H'/\m env 0=.exc c,⟨H,G,env,G,none,0,I.drop hf,?_⟩,?_⟩
 ·cases q:m env 0 with
  |nx e b=>rw[q] at o;exact o.elim
  |bk e b=>rw[q] at o;exact o.elim
  |ct e b=>rw[q] at o;exact o.elim
  |bad=>rw[q] at o;exact o.elim
  |rt d fr b=>
   rw[q] at o
   intro B' G' H' σ' env' v J s rv
   refine o B G' H' σ _ v (I.undrop J) s ?_
   unfold RV at rv ⊢
   cases fr with
   |false=>exact rv
   |true=>
    rw[KH rfl] at rv ⊢
    obtain⟨a,rfl,h1,h2,h3⟩:=rv
    exact⟨a,rfl,(I.fresh h1).1,h2,h3⟩
  |exc c=>
   rw[q] at o
   intro H' kp
   cases q2:marks c with
   |none=>dsimp only at o;rw[q2] at o;exact o.elim
   |some z=>exact⟨c,z,rfl,q2,λb u e=>kp b u e (by simp),rfl⟩
 ·rintro cls d H' ⟨c,z,rfl,q2,s',q⟩
  rw[q] at o
  dsimp only at o
  rw[q2] at o
  obtain⟨w1,w2⟩:=hw c z q2
  refine⟨w1,λea σ' hea hlen=>?_⟩
  have hil:i < σ'.length:=by rw[hlen];exact (KN.mp hi).1
  refine⟨.ref ea,KQ hil,ea,_,z,rfl,aj,w2,λH2 s2=>?_⟩
  exact o B G H2 σ _ (.str z) (I.forget ((s'.trans (ai.new hea)).trans s2)) (ai.refl _) (Rp.str z)
end
structure Di (P:Program)(w:World)(K:Frag)(mg:Str->Option Value)(base:Heap)(ca:Str->Addr)(x y:Str)(marks:Str->Option Str):Prop where
 ex:∃(gm Dc:Addr) (dm:FuncData) (W:Addr->Str->Prop),pA P w K mg base u5 1 gm dm ["e"] (GK W)/\mg y=some (.ref gm)/\PySem.W.keepIn K (.ref gm)=true/\Binds K dm ["e"] []/\mg x=some (.ref Dc)/\∀c z,marks c=some z->Mt K (.ref (ca c)) Dc/\W (ca c) z
section
variable {X:Cx}{Γ:Fx}{E:XK}{m:SF}
def CW {n x y:Str}{i k:Nat}{marks:Str->Option Str}{np hpos pos cp fp ap rp:Pos}{body:List Stmt}(M:Di X.prog X.w X.K X.mg X.base Γ.ca x y marks)(hr:di (k + 1) X.A)(hb:∀Eb Ex pn H G,Passes (kW X.prog X.w) (X.inTry Ex pn) Eb->y1 (X.inTry Ex pn) (Fx.fn Γ.K H G Γ.ca) Eb body m)
  (hN:X.N.Nodup) (hgy:∀e,Gl (X.inEx e) y:=by intro _;rfl) (hst:X.stack=X.env :: X.outer:=by rfl) (hfr:X.env.frame=some X.env.locals:=by rfl) (hex:X.ex= []:=by rfl) (hg:Gl X x:=by rfl) (hi:X.N[i]? =some n:=by rfl) (hk:X.env.scope.names.lookup n=some .local:=by rfl)
  (hd:(n == ("__debug__":Str))=false:=by decide) (hcd:(n == ("__classdict__":Str))=false:=by decide)
  (hdb:(x == ("__debug__":Str))=false:=by decide) (hdy:(y == ("__debug__":Str))=false:=by decide)
  (he:∀e,starEach [.Name n ap] (X.inEx e).env=(false,eval (.Name n ap) (X.inEx e).env) :: starEach [] (X.inEx e).env:=by intro _;rfl) :
  SS X Γ E (.Try body [.ExceptHandler (some (.Name x np)) (some n) [.Return (some (.Call (.Name y fp) [.Name n ap] [] cp)) rp] hpos] [] [] pos) (yu marks m):=by
 obtain⟨gm,Dc,dm,W,h1,h2,h3,h4,h5,h6⟩:=M.ex
 exact FA (i:=i) hb h1 (λe=>((hr.mono (by omega)).mark _)) h2 h3 h4 h6 h5 hN hgy hst hfr hex hg hi hk hd hcd hdb hdy he
end
end L2
namespace L2
open PySem
section
variable {α γ:Type}
@[simp] theorem oG (a:α)(β:Int)(k:α->Int->R γ):(R.ok a β).bnd k=k a β:=rfl
@[simp] theorem IE (c:Str)(k:α->Int->R γ):(R.exc c:R α).bnd k=.exc c:=rfl
@[simp] theorem Im (k:α->Int->R γ):(R.bad:R α).bnd k=.bad:=rfl
@[simp] theorem JU (a:α)(β:Int)(k:α->Int->R γ):(R.ok a β).okb k=k a β:=rfl
@[simp] theorem rC (a:α)(β:Int):R.of (some a) β=.ok a β:=rfl
@[simp] theorem of_none (β:Int):(R.of none β:R α)=.bad:=rfl
@[simp] theorem JY (a:α)(β:Int)(k:α->Int->SO):toS (.ok a β) k=k a β:=rfl
@[simp] theorem HY (c:Str)(k:α->Int->SO):toS (.exc c:R α) k=.exc c:=rfl
@[simp] theorem Il (k:α->Int->SO):toS (.bad:R α) k=.bad:=rfl
end
section
variable (f fa fb fc:VF D)(t u:VF Bool)(m m':SF)(vs:List Nv)(β:Int)(env:En)(i j:Nat)(L:List Nat)
@[simp] theorem DM:gv i vs β=R.of (dat vs[i]?) β:=rfl
@[simp] theorem uF (d:D):dat (some (.da d))=some d:=rfl
@[simp] theorem Jp (d:D):cst d vs β=.ok d β:=rfl
@[simp] theorem J6 (g:D->Option D):f1 fa g vs β=(fa vs β).bnd λx β1=>R.of (g x) β1:=rfl
@[simp] theorem J5 (g:D->D->Option D):f2 fa fb g vs β=(fa vs β).bnd λx β1=>(fb vs β1).bnd λy β2=>R.of (g x y) β2:=rfl
@[simp] theorem xB:ag vs β=.ok [] β:=rfl
@[simp] theorem fo (fr:VF (List D)):aa fa fr vs β=(fa vs β).bnd λx β1=>(fr vs β1).bnd λxs β2=>.ok (x :: xs) β2:=rfl
@[simp] theorem qX:jZ fa vs β=(fa vs β).bnd λx β1=>R.of (EH x) β1:=rfl
@[simp] theorem qz:oR t vs β=(t vs β).bnd λc β1=>.ok (!c) β1:=rfl
@[simp] theorem v7:Aa t u vs β=(t vs β).bnd λc β1=>if c=true then u vs β1 else .ok false β1:=rfl
@[simp] theorem qN:lH t u vs β=(t vs β).bnd λc β1=>if c=true then .ok true β1 else u vs β1:=rfl
@[simp] theorem Kg (n:Bool):tN fa n vs β=(fa vs β).bnd λx β1=>.ok (if n then !Cr x else Cr x) β1:=rfl
@[simp] theorem Ju:Kj t fa fb vs β=(t vs β).bnd λc β1=>if c=true then fa vs β1 else fb vs β1:=rfl
@[simp] theorem fC (c:Bool){β1:Int}(h:fa vs β=.ok (.bool c) β1):fH fa vs β=.ok c β1:=by unfold fH;rw[h];rfl
@[simp] theorem vA:vl []= []:=rfl
@[simp] theorem qQ (s:Sl):vl (s :: env)=s.val :: vl env:=rfl
@[simp] theorem uH (d:D):(Sl.fz d).val=.da d:=rfl
@[simp] theorem JT (d:D):(Sl.ow d).val=.da d:=rfl
@[simp] theorem Jf:Sl.no.val=.no:=rfl
@[simp] theorem IQ:Sl.bx.val=.bx:=rfl
@[simp] theorem Iw:aN [] env=env:=rfl
@[simp] theorem Hj:aN (i :: L) env=aN L (iz env i):=rfl
@[simp] theorem Ip:aL m m' env β=(match m env β with
 | .nx env' β'=>m' env' β'
 |r=>r):=rfl
@[simp] theorem JS:jO L t m m' env β=toS (t (vl env) β) λc β'=>if c=true then m (aN L env) β' else m' (aN L env) β':=rfl
@[simp] theorem eS:bK f env β=toS (f (vl env) β) λd β'=>.rt d false β':=rfl
@[simp] theorem zu:fE f env β=toS (f (vl env) β) λd β'=>.rt d true β':=rfl
@[simp] theorem JG:lI env β=.nx env β:=rfl
@[simp] theorem gN:dk i L f env β=toS (f (vl env) β) λd β'=>.nx ((aN L env).set i (.fz d)) β':=rfl
@[simp] theorem tX:p5 i L f env β=toS (f (vl env) β) λd β'=>.nx ((aN L env).set i (.ow d)) β':=rfl
@[simp] theorem Bm:pI L f env β=toS (f (vl env) β) λ_ β'=>.nx (aN L env) β':=rfl
end
def aI {m m':SF}{env env':En}{β β':Int}(h:m env β=.nx env' β'):aL m m' env β=m' env' β':=by unfold aL;rw[h]
def cL {m m':SF}{env:En}{β β':Int}{d:D}{b:Bool}(h:m env β=.rt d b β'):aL m m' env β=.rt d b β':=by unfold aL;rw[h]
def gq {L:List Nat}{t:VF Bool}{m m':SF}{env:En}{β β':Int}(h:t (vl env) β=.ok true β'):jO L t m m' env β=m (aN L env) β':=by unfold jO;rw[h];rfl
def gW {L:List Nat}{t:VF Bool}{m m':SF}{env:En}{β β':Int}(h:t (vl env) β=.ok false β'):jO L t m m' env β=m' (aN L env) β':=by unfold jO;rw[h];rfl
def aw {F:List D->FR}{fr:VF (List D)}{vs:List Nv}{β β1:Int}{ds:List D}{d:D}{b:Bool}(h:fr vs β=.ok ds β1)(e:F ds=.ok d b):au F fr vs β=.ok d β1:=by unfold au;rw[h];dsimp only[R.bnd];rw[e]
def ir {F:List D->FR}{fr:VF (List D)}{vs:List Nv}{β β1:Int}{ds:List D}{d:D}(h:fr vs β=.ok ds β1)(e:F ds=.ok d true):fD F fr vs β=.ok d β1:=by unfold fD;rw[h];dsimp only[R.bnd];rw[e]
def bG {fa:VF D}{g:D->Option D}{vs:List Nv}{β β1:Int}{x d:D}(h:fa vs β=.ok x β1)(e:g x=some d):f1 fa g vs β=.ok d β1:=by unfold f1;rw[h];dsimp only[R.bnd];rw[e];rfl
def aE {fa fb:VF D}{g:D->D->Option D}{vs:List Nv}{β β1 β2:Int}{x y d:D}(h:fa vs β=.ok x β1)(h':fb vs β1=.ok y β2)(e:g x y=some d):f2 fa fb g vs β=.ok d β2:=by unfold f2;rw[h];dsimp only[R.bnd];rw[h'];dsimp only[R.bnd];rw[e];rfl
def oE {i:Nat}{F:List D->Int->FB}{fr:VF (List D)}{vs:List Nv}{β β1 β2:Int}{ds:List D}{d:D}{b:Bool}(hi:u7 vs i=true)(h:fr vs β=.ok ds β1)(e:F ds β1=.ok d b β2):ua i F fr vs β=.ok d β2:=by unfold ua;rw[KH hi,h];dsimp only[R.bnd];rw[e]
def sz (n:Nat)(h:n<=1000):n<=sizeLine:=by rw[Ld];omega
def HV (n:Nat)(h:n<=1000):n < sizeLine:=by rw[Ld];omega
def xf {fr:VF (List D)}{vs:List Nv}{β β1:Int}{ds:List D}(h:fr vs β=.ok ds β1)(hz:ds.length<=1000):bL fr vs β=.ok (.tuple ds) β1:=by unfold bL;rw[h];exact KH (sz _ hz)
def eN {fr:VF (List D)}{vs:List Nv}{β β1:Int}{ds:List D}(h:fr vs β=.ok ds β1)(hz:ds.length<=1000):bB fr vs β=.ok (.list ds) β1:=by unfold bB;rw[h];exact KH (sz _ hz)
def uO {i:Nat}{env:En}{β:Int}{g:List D->Option (List D)}{ds es:List D}(h:env[i]? =some (.ow (.list ds)))(e:g ds=some es):ED i env β g=.nx (env.set i (.ow (.list es))) β:=by unfold ED;rw[h];dsimp only;rw[e]
def xJ {i:Nat}{L:List Nat}{f:VF D}{env:En}{β β':Int}{ds:List D}{d:D}(hi:env[i]? =some (.ow (.list ds)))(hf:f (vl env) β=.ok d β')(hL:(aN L env)[i]? =some (.ow (.list ds)))(hz:ds.length<=1000):o3 i L f env β=.nx ((aN L env).set i (.ow (.list (ds ++ [d])))) β':=by
 unfold o3
 rw[KH (by rw[hi];rfl),hf]
 exact uO hL (KH (HV _ hz))
def v5 {i j:Nat}{L:List Nat}{f:VF D}{env:En}{β β':Int}{ds es es':List D}{k d:D}(hi:env[i]? =some (.ow (.list ds)))(hj:env[j]? =some (.ow (.list es)))(hij:i≠j)(hf:f (vl env) β=.ok k β')(hL:aN L env=env)(hp:yH es k=some (d,es'))(hz:ds.length<=1000):iF i j L f env β=.nx ((env.set j (.ow (.list es'))).set i (.ow (.list (ds ++ [d])))) β':=by
 unfold iF
 rw[KH ⟨by rw[hi];rfl,by rw[hj];rfl,hij⟩,hf,hL]
 dsimp only[toS]
 rw[hj]
 dsimp only
 rw[hp]
 exact uO (by rw[KS (Ne.symm hij)];exact hi) (KH (HV _ hz))
def Bq {i:Nat}{Le Li:List Nat}{fe fi:VF D}{env:En}{β β1 β2:Int}{ds:List D}{d:D}{k:Int}{n:Nat}(he:fe (vl env) β=.ok d β1)(h1:(aN Le env)[i]? =some (.ow (.list ds)))(hi:fi (vl env) β1=.ok (.int k) β2)(h2:(aN (Le ++ Li) env)[i]? =some (.ow (.list ds)))(hk:ur ds.length k=some n):tu i Le Li fe fi env β=.nx ((aN (Le ++ Li) env).set i (.ow (.list (ds.set n d)))) β2:=by
 unfold tu
 rw[he]
 dsimp only[toS]
 rw[KH (by rw[h1];rfl),hi]
 exact uO h2 (by dsimp only;rw[hk];rfl)
theorem oP {t:Tg}{ft:VF Bool}{fe:VF D}{vs:List Nv}(g:D->Bool)(h:D->D):∀{ds:List D} {β:Int},(∀d,d∈ds->∃vs1,ki t d vs=some vs1/\ft vs1 β=.ok (g d) β/\(g d=true->fe vs1 β=.ok (h d) β))->fm t ft fe vs ds β=.ok ((ds.filter g).map h) β
 | [],β,_=>rfl
 |d :: ds,β,hh=>by
  obtain⟨vs1,e1,e2,e3⟩:=hh d (KO ..)
  have ih:=oP (t:=t) (ft:=ft) (fe:=fe) (vs:=vs) g h (ds:=ds) (β:=β) λd' hd=>hh d' (KL _ hd)
  unfold fm
  rw[e1]
  dsimp only
  rw[e2]
  dsimp only[R.okb]
  cases q:g d with
  |true=>
   rw[KH rfl,e3 q]
   dsimp only
   rw[ih,List.filter_cons_of_pos q];rfl
  |false=>
   rw[KZ K2,ih,List.filter_cons_of_neg (by rw[q];exact K2)]
def uK {own:Nat}{ixs:List Nat}{t:Tg}{fi:VF (List D)}{ft:VF Bool}{fe:VF D}{vs:List Nv}{β β1:Int}{ds:List D}(g:D->Bool)(h:D->D)(hi:fi vs β=.ok ds β1)(hz:ds.length<=1000)
  (hh:∀d,d∈ds->∃vs1,ki t d (dI own ixs vs)=some vs1/\ft vs1 β1=.ok (g d) β1/\(g d=true->fe vs1 β1=.ok (h d) β1)):aF own ixs t fi ft fe vs β=.ok (.list ((ds.filter g).map h)) β1:=by
 unfold aF
 rw[hi]
 dsimp only[R.bnd]
 rw[KH (sz _ hz),oP g h hh];rfl
def l5 {own:Nat}{ixs:List Nat}{t:Tg}{fi:VF (List D)}{fe:VF D}{vs:List Nv}{β β1:Int}{ds:List D}(h:D->D)(hi:fi vs β=.ok ds β1)(hz:ds.length<=1000)
  (hh:∀d,d∈ds->∃vs1,ki t d (dI own ixs vs)=some vs1/\fe vs1 β1=.ok (h d) β1):aF own ixs t fi gy fe vs β=.ok (.list (ds.map h)) β1:=by
 rw[uK (ft:=gy) (λ_=>true) h hi hz λd hd=>let ⟨vs1,e1,e2⟩:=hh d hd;⟨vs1,e1,rfl,λ_=>e2⟩]
 rw[List.filter_eq_self.mpr (λ_ _=>rfl)]
def bj {α:Type}{own:Nat}{ixs:List Nat}{t:Tg}{fi:VF (List D)}{fe:VF D}{vs:List Nv}{β β1:Int}{l:List α}{e:α->D}(h:α->D)(hi:fi vs β=.ok (l.map e) β1)(hz:l.length<=1000)
  (hh:∀x,x∈l->∃vs1,ki t (e x) (dI own ixs vs)=some vs1/\fe vs1 β1=.ok (h x) β1):aF own ixs t fi gy fe vs β=.ok (.list (l.map h)) β1:=by
 unfold aF
 rw[hi]
 dsimp only[R.bnd]
 rw[KH (sz _ (by rw[KD];exact hz))]
 have key:∀m:List α,(∀x,x∈m->x∈l)->fm t gy fe (dI own ixs vs) (m.map e) β1=.ok (m.map h) β1:=by
  intro m
  induction m with
  |nil=>intro _;rfl
  |cons x m ih=>
   intro hm
   obtain⟨vs1,e1,e2⟩:=hh x (hm x (KO ..))
   rw[Ln]
   unfold fm
   rw[e1]
   dsimp only
   show (R.ok true β1).okb _=_
   dsimp only[R.okb]
   rw[KH rfl,e2]
   dsimp only
   rw[ih λy hy=>hm y (KL _ hy)];rfl
 rw[key l λ_ h=>h];rfl
def i5 {α:Type}{own:Nat}{ixs:List Nat}{t:Tg}{fi:VF (List D)}{ft:VF Bool}{fe:VF D}{vs:List Nv}{β β1:Int}{l:List α}{e:α->D}(g:α->Bool)(h:α->D)(hi:fi vs β=.ok (l.map e) β1)(hz:l.length<=1000)
  (hh:∀x,x∈l->∃vs1,ki t (e x) (dI own ixs vs)=some vs1/\ft vs1 β1=.ok (g x) β1/\(g x=true->fe vs1 β1=.ok (h x) β1)):aF own ixs t fi ft fe vs β=.ok (.list ((l.filter g).map h)) β1:=by
 unfold aF
 rw[hi]
 dsimp only[R.bnd]
 rw[KH (sz _ (by rw[KD];exact hz))]
 have key:∀m:List α,(∀x,x∈m->x∈l)->fm t ft fe (dI own ixs vs) (m.map e) β1=.ok ((m.filter g).map h) β1:=by
  intro m
  induction m with
  |nil=>intro _;rfl
  |cons x m ih=>
   intro hm
   obtain⟨vs1,e1,e2,e3⟩:=hh x (hm x (KO ..))
   have ih:=ih λy hy=>hm y (KL _ hy)
   rw[Ln]
   unfold fm
   rw[e1]
   dsimp only
   rw[e2]
   dsimp only[R.okb]
   cases q:g x with
   |true=>
    rw[KH rfl,e3 q]
    dsimp only
    rw[ih,List.filter_cons_of_pos q];rfl
   |false=>
    rw[KZ K2,ih,List.filter_cons_of_neg (by rw[q];exact K2)]
 rw[key l λ_ h=>h];rfl
theorem gi {t:Tg}{m:SF}(Pv:Nat->En->Int->Prop):∀{ds:List D} {k:Nat} {env:En} {β:Int},Pv k env β->
  (∀i d env β,ds[i]? =some d->Pv (k + i) env β->∃env1,fY t d env=some env1/\∃env2 β2,m env1 β=.nx env2 β2/\Pv (k + i + 1) env2 β2)->∃env' β',qj t m ds env β=.nx env' β'/\Pv (k + ds.length) env' β'
 | [],k,env,β,h0,_=>⟨env,β,rfl,h0⟩
 |d :: ds,k,env,β,h0,hs=>by
  obtain⟨env1,e1,env2,β2,e2,h1⟩:=hs 0 d env β rfl h0
  obtain⟨env',β',e3,h2⟩:=gi Pv (t:=t) (m:=m) (ds:=ds) (k:=k + 1) h1 λi d' en be hi hp=>by
   have:=hs (i + 1) d' en be (by simpa using hi) (by rw[show k + (i + 1)=k + 1 + i by omega];exact hp)
   rw[show k + (i + 1) + 1=k + 1 + i + 1 by omega] at this
   exact this
  refine⟨env',β',?_,by rw[K4,show k + (ds.length + 1)=k + 1 + ds.length by omega];exact h2⟩
  unfold qj
  rw[e1]
  dsimp only
  rw[e2]
  exact e3
theorem oF {L:List Nat}{t:VF Bool}{m:SF}(Pv:Nat->En->Int->Prop)(Dn:En->Int->Prop):∀{n k:Nat} {env:En} {β:Int},k < n->Pv k env β->
  (∀k env β,Pv k env β->∃c β1,t (vl env) β=.ok c β1/\((c=false/\Dn (aN L env) β1)\/(c=true/\∃env2 β2 k',m (aN L env) β1=.nx env2 β2/\k' < k/\Pv k' env2 β2)))->∃env' β',jL L t m n env β=.nx env' β'/\Dn env' β'
 | 0,k,env,β,hk,_,_=>by omega
 |n + 1,k,env,β,hk,h0,hs=>by
  obtain⟨c,β1,e1,hc⟩:=hs k env β h0
  unfold jL
  rw[e1]
  dsimp only[toS]
  rcases hc with⟨rfl,hd⟩ | ⟨rfl,env2,β2,k',e2,hl,h1⟩
  ·exact⟨_,_,rfl,hd⟩
  ·rw[KH rfl,e2]
   exact oF Pv Dn (n:=n) (k:=k') (by omega) h1 hs
end L2
namespace RM
open PySem L2
def oo:SF:=(bK (cV (f1 (gv 0) (gC "int")) (f1 (f1 (gv 0) (gC "bool")) zy)))
def nQ (bI:List D->FR):SF:=(bK (cV (au bI (aa (gv 0) ag)) (iR (cst (.int 0)) (gv 0) (gv 1) AE wG)))
def pS (bI:List D->FR):SF:=(bK (cV (au bI (aa (gv 0) ag)) (iR (cst (.int 1)) (gv 0) (cst (.int 8)) AE AE)))
def il (bA:List D->FR):SF:=(aL (jO ([] ++ ([] ++ [])) (lH (oR (jZ (f1 (gv 0) (gC "tuple")))) (fH (f2 (f1 (gv 0) eY) (cst (.int 2)) (dG true))))
 (bK (cst (.bool false)))
 lI)
 (bK (cV (au bA (aa (f2 (gv 0) (cst (.int 0)) cA) (aa (gv 1) ag))) (au bA (aa (f2 (gv 0) (cst (.int 1)) cA) (aa (gv 1) ag))))))
def fR:SF:=(fE (aF 1 [0] (.nm 0) (cB (f2 (gv 0) (gv 0) dH)) gy (bL (aa (f2 (gv 0) (gv 1) y2) (aa (f2 (gv 0) (gv 1) kr) ag)))))
def nM:SF:=(bK (f1 (aF 2 [] (.two 0 1) (bz (gv 0)) gy (f2 (gv 0) (gv 1) (dG false))) (cm λbs=>bs.any id)))
def gA (fW bN hZ dO:List D->FR):SF:=(aL (jO ([] ++ ([] ++ [])) (lH (oR (jZ (f1 (gv 0) (gC "tuple")))) (fH (f2 (f1 (gv 0) eY) (cst (.int 2)) (dG true))))
 (bK (cst (.bool false)))
 lI)
 (aL (dk 1 ([] ++ []) (f2 (gv 0) (cst (.int 0)) cA))
 (aL (dk 2 ([] ++ []) (f2 (gv 0) (cst (.int 1)) cA))
 (aL (jO (([1] ++ []) ++ []) (lH (oR (jZ (au fW (aa (gv 1) ag)))) (oR (jZ (f1 (gv 2) (gC "tuple")))))
 (bK (cst (.bool false)))
 lI)
 (aL (jO ([] ++ [1]) (oR (jZ (f1 (aF 1 [1] (.nm 0) (bz (gv 2)) gy (au bN (aa (gv 0) (aa (gv 1) ag)))) (cm λbs=>bs.all id))))
 (bK (cst (.bool false)))
 lI)
 (bK (cV (f2 (gv 2) (au hZ (aa (gv 1) (aa (gv 2) ag))) (dG false)) (f1 (au dO (aa (gv 2) ag)) zy))))))))
def fO (dP:List D->FR):SF:=(jO ([0] ++ []) (oR (jZ (au dP (aa (gv 0) ag))))
 (λenv β=>toS ((aa (cst (.str "this is no order")) ag) (vl env) β) λds _=>if ds.length<=sizeLine then .exc "NoOrder" else .bad)
 lI)
def sU:SF:=(bK (cV (f2 (gv 1) (gv 2) (dG true)) (cV (f2 (bL (aa (gv 1) (aa (gv 2) ag))) (f2 (gv 0) (cst (.int 1)) cA) (BM true)) (f2 (bL (aa (gv 2) (aa (gv 1) ag))) (f2 (gv 0) (cst (.int 1)) cA) (BM true)))))
def fu:SF:=(aL (jO ([] ++ []) (fH (f2 (gv 1) (f1 (gv 0) eY) wG))
 (bK (f2 (gv 0) (gv 1) cA))
 lI)
 (bK (cst (.int 0))))
def iN:SF:=(aL (dk 2 [] (bB (Ke [48271,69621,16807,39373,30269,40014,40692,50021,61687,71993,83869,95561,30307]))) (aL (dk 3 ((((([] ++ []) ++ []) ++ ([] ++ ([] ++ []))) ++ ([] ++ [])) ++ ([] ++ ([] ++ []))) (f2 (f2 (f2 (f2 (f2 (gv 0) (cst (.int 2147483647)) kr) (cst (.int 12345)) gQ) (f2 (gv 2) (f2 (gv 1) (cst (.int 13)) kr) cA) dH) (f2 (cst (.int 977)) (gv 1) dH) gQ) (f2 (cst (.int 7919)) (f2 (gv 1) (cst (.int 13)) y2) dH) gQ))
 (aL (dk 3 ([] ++ []) (f2 (gv 3) (cst (.int 1000000007)) kr))
 (bK (f2 (f2 (f2 (f2 (gv 3) (gv 3) dH) (f2 (cst (.int 48271)) (gv 1) dH) gQ) (cst (.int 1000000007)) kr) (cst (.int 7)) y2)))))
def i6 (de dR:List D->FR):SF:=(aL (dk 2 ([0] ++ ([1] ++ [])) (au de (aa (gv 0) (aa (gv 1) ag))))
 (aL (jO (([] ++ []) ++ []) (fH (f2 (f2 (gv 2) (cst (.int 2)) kr) (cst (.int 0)) (dG false)))
 (fE (bB (aa (f2 (f1 (gv 2) Cq) (cst (.int 2)) y2) ag)))
 lI)
 (aL (dk 3 [] (cst (.int 0)))
 (aL (gL (.nm 4) [] (cB (cst (.int 40)))
 (dk 3 (([] ++ []) ++ ([2] ++ ([4] ++ []))) (f2 (f2 (gv 3) (cst (.int 142857143)) dH) (au dR (aa (gv 2) (aa (gv 4) ag))) gQ)))
 (fE (bB (aa (gv 3) ag)))))))
def cR (aM:List D->Int->FB):SF:=(aL (p5 2 [] (f1 (gv 1) jw))
 (aL (p5 3 [] (bB ag))
 (aL (jL ([] ++ []) (fH (f2 (gv 2) (bB ag) (dG true)))
 (iF 3 2 ([] ++ []) (ua 0 aM (aa (f1 (gv 2) eY) ag))) 1000)
 (ui 3))))
def lB:SF:=(bK (cV (f2 (gv 1) (gv 2) (dG true)) (cV (f2 (bL (aa (gv 1) (aa (gv 2) ag))) (f2 (gv 0) (cst (.int 1)) cA) (BM true)) (f2 (bL (aa (gv 2) (aa (gv 1) ag))) (f2 (gv 0) (cst (.int 1)) cA) (BM true)))))
def Hy:D->Bool
 | .int _=>true
 |_=>false
def jz:List D->FR
 | [d]=>if cq d=true then .bad else .ok (.bool (Hy d)) false
 |_=>.bad
def qI {d:D}(h:cq d=false):jz [d]=.ok (.bool (Hy d)) false:=KZ (by rw[h];exact K2)
def Dq (ds:List D)(h:jz ds≠.bad):aY 1 1 oo ds=jz ds:=by
 unfold jz at h
 split at h
 ·rename_i d
  cases q:cq d with
  |true=>rw[q] at h;exact absurd rfl h
  |false=>
   rw[qI q]
   have e1:gC "int" d=some (.bool (AV d "int")):=by unfold gC;rw[q];rfl
   have e2:gC "bool" d=some (.bool (AV d "bool")):=by unfold gC;rw[q];rfl
   show fin (bK (cV (f1 (gv 0) (gC "int")) (f1 (f1 (gv 0) (gC "bool")) zy)) [.fz d] 0)=_
   unfold bK cV f1 gv
   simp only[qQ,vA,uH,List.getElem?_cons_zero,uF,rC,oG,e1,e2]
   cases d <;> rfl
 ·exact absurd rfl h
def fA (d:D)(n:Int):Bool:=match d with
 | .int i=>decide (0<=i/\i < n)
 |_=>false
def cN:List D->FR
 | [d,.int n]=>if cq d=true then .bad else .ok (.bool (fA d n)) false
 |_=>.bad
def mS {d:D}{n:Int}(h:cq d=false):cN [d,.int n]=.ok (.bool (fA d n)) false:=KZ (by rw[h];exact K2)
def rX {i lo n:Int}{vs:List Nv}{β:Int}{fa fb fc:VF D}{g':D->D->Option D}{q:Bool}(ha:fa vs β=.ok (.int lo) β)(hb:fb vs β=.ok (.int i) β)(hc:fc vs β=.ok (.int n) β)(hq:g' (.int i) (.int n)=some (.bool q)):iR fa fb fc AE g' vs β=.ok (.bool (decide (lo<=i) && q)) β:=by
 unfold iR
 rw[ha];dsimp only[R.bnd];rw[hb];dsimp only[R.bnd]
 show (match (some (PyData.bool (decide (lo<=i))):Option D) with
  |some (.bool true)=>_
  |some (.bool false)=>_
  |_=>_)=_
 by_cases h:lo<=i
 ·rw[KY h]
  dsimp only
  rw[hc]
  dsimp only[R.bnd]
  rw[hq];rfl
 ·rw[K1 h];rfl
def BQ (ds:List D)(h:cN ds≠.bad):aY 2 2 (nQ jz) ds=cN ds:=by
 unfold cN at h
 split at h
 ·rename_i d n
  cases q:cq d with
  |true=>rw[q] at h;exact absurd rfl h
  |false=>
   rw[mS q]
   show fin (bK (cV (au jz (aa (gv 0) ag)) (iR (cst (.int 0)) (gv 0) (gv 1) AE wG)) [.fz d,.fz (.int n)] 0)=_
   unfold bK cV au
   simp only[qQ,vA,uH,fo,xB,DM,List.getElem?_cons_zero,uF,rC,oG,qI q]
   cases d with
   |int i=>
    show fin (toS (iR (cst (.int 0)) (gv 0) (gv 1) AE wG [.da (.int i),.da (.int n)] 0) _)=_
    rw[rX (lo:=0) (i:=i) (n:=n) rfl rfl rfl rfl]
    show FR.ok (.bool (decide (0<=i) && decide (i < n))) false=.ok (.bool (decide (0<=i/\i < n))) false
    rw[Bool.decide_and]
   |_=>rfl
 ·exact absurd rfl h
def DV (d:D):Bool:=match d with
 | .int i=>decide (1<=i/\i<=8)
 |_=>false
def kf:List D->FR
 | [d]=>if cq d=true then .bad else .ok (.bool (DV d)) false
 |_=>.bad
def Ar {d:D}(h:cq d=false):kf [d]=.ok (.bool (DV d)) false:=KZ (by rw[h];exact K2)
def FI (ds:List D)(h:kf ds≠.bad):aY 1 1 (pS jz) ds=kf ds:=by
 unfold kf at h
 split at h
 ·rename_i d
  cases q:cq d with
  |true=>rw[q] at h;exact absurd rfl h
  |false=>
   rw[Ar q]
   show fin (bK (cV (au jz (aa (gv 0) ag)) (iR (cst (.int 1)) (gv 0) (cst (.int 8)) AE AE)) [.fz d] 0)=_
   unfold bK cV au
   simp only[qQ,vA,uH,fo,xB,DM,List.getElem?_cons_zero,uF,rC,oG,qI q]
   cases d with
   |int i=>
    show fin (toS (iR (cst (.int 1)) (gv 0) (cst (.int 8)) AE AE [.da (.int i)] 0) _)=_
    rw[rX (lo:=1) (i:=i) (n:=8) rfl rfl rfl rfl]
    show FR.ok (.bool (decide (1<=i) && decide (i<=8))) false=.ok (.bool (decide (1<=i/\i<=8))) false
    rw[Bool.decide_and]
   |_=>rfl
 ·exact absurd rfl h
def pairF:List D->FR
 | [d,.int n]=>(match nZ d with
  |some p=>.ok (.bool (decide ((0<=p.1/\p.1 < n)/\(0<=p.2/\p.2 < n)))) false
  |none=>.bad)
 |_=>.bad
def zf (p:Pr)(n:Int):pairF [aG p,.int n]=.ok (.bool (decide ((0<=p.1/\p.1 < n)/\(0<=p.2/\p.2 < n)))) false:=rfl
def EB (ds:List D)(h:pairF ds≠.bad):aY 2 2 (il cN) ds=pairF ds:=by
 unfold pairF at h
 split at h
 ·rename_i d n
  cases q:nZ d with
  |none=>rw[q] at h;exact absurd rfl h
  |some p=>
   obtain rfl:=uk q
   rw[zf]
   obtain⟨a,b⟩:=p
   show fin (toS (cV (au cN (aa (f2 (gv 0) (cst (.int 0)) cA) (aa (gv 1) ag))) (au cN (aa (f2 (gv 0) (cst (.int 1)) cA) (aa (gv 1) ag))) [.da (.tuple [.int a,.int b]),.da (.int n)] 0) λd β'=>.rt d false β')=_
   have e1:au cN (aa (f2 (gv 0) (cst (.int 0)) cA) (aa (gv 1) ag)) [.da (.tuple [.int a,.int b]),.da (.int n)] 0=.ok (.bool (decide (0<=a/\a < n))) 0:=rfl
   have e2:au cN (aa (f2 (gv 0) (cst (.int 1)) cA) (aa (gv 1) ag)) [.da (.tuple [.int a,.int b]),.da (.int n)] 0=.ok (.bool (decide (0<=b/\b < n))) 0:=rfl
   unfold cV
   rw[e1]
   dsimp only[R.bnd]
   by_cases c:0<=a/\a < n
   ·rw[KY c,e2]
    show FR.ok (.bool (decide (0<=b/\b < n))) false=.ok (.bool (decide ((0<=a/\a < n)/\(0<=b/\b < n)))) false
    simp[c]
   ·rw[K1 c]
    show FR.ok (.bool false) false=.ok (.bool (decide ((0<=a/\a < n)/\(0<=b/\b < n)))) false
    simp[c]
 ·exact absurd rfl h
def aA (n:Nat)(l:List Pr):D:=.tuple [.int n,.tuple (l.map aG)]
open Classical in
noncomputable def qc (f:Nat->List Pr->FR):D->FR:=λd=>if h:∃nl:Nat×List Pr,d=aA nl.1 nl.2/\OM.Ord nl.1 nl.2 then f (Classical.choose h).1 (Classical.choose h).2 else .bad
def Ct {p q:Pr}(h:aG p=aG q):p=q:=by
 obtain⟨a,b⟩:=p
 obtain⟨c,d⟩:=q
 unfold aG at h
 simp at h
 rw[h.1,h.2]
theorem gV:∀{l m:List Pr},l.map aG=m.map aG->l=m
 | [],[],_=>rfl
 | [],_ :: _,h=>by cases h
 |_ :: _,[],h=>by cases h
 |p :: l,q :: m,h=>by
  simp only[Ln,List.cons.injEq] at h
  rw[Ct h.1,gV h.2]
def zK {n m:Nat}{l k:List Pr}(h:aA n l=aA m k):n=m/\l=k:=by
 unfold aA at h
 simp only[PyData.tuple.injEq,List.cons.injEq,int.injEq,and_true] at h
 exact⟨by omega,gV h.2⟩
def sy {f:Nat->List Pr->FR}{n:Nat}{l:List Pr}(O:OM.Ord n l):qc f (aA n l)=f n l:=by
 unfold qc
 have h:∃nl:Nat×List Pr,aA n l=aA nl.1 nl.2/\OM.Ord nl.1 nl.2:=⟨(n,l),rfl,O⟩
 rw[dif_pos h]
 obtain⟨e,_⟩:=Classical.choose_spec h
 obtain⟨e1,e2⟩:=zK e
 rw[<-e1,<-e2]
def sg {f:Nat->List Pr->FR}{d:D}(h:qc f d≠.bad):∃n l,d=aA n l/\OM.Ord n l:=by
 unfold qc at h
 by_cases q:∃nl:Nat×List Pr,d=aA nl.1 nl.2/\OM.Ord nl.1 nl.2
 ·obtain⟨nl,e,O⟩:=q;exact⟨nl.1,nl.2,e,O⟩
 ·rw[dif_neg q] at h;exact absurd rfl h
noncomputable def cG:List D->FR
 | [.int n,d]=>(match kn d with
  |some ds=>(match g8 ds with
   |some ps=>(open Classical in if 1<=n/\n<=8/\OM.Wn n.toNat ps then .ok (.tuple ((OM.j9 n.toNat (OM.Tr (OM.Mem ps))).map aG)) false else .bad)
   |none=>.bad)
  |none=>.bad)
 |_=>.bad
def zD {n:Nat}{ps:List Pr}(h1:1<=n)(h8:n<=8)(w:OM.Wn n ps):cG [.int n,.tuple (ps.map aG)]=.ok (.tuple ((OM.j9 n (OM.Tr (OM.Mem ps))).map aG)) false:=by
 unfold cG
 simp only[kn,iS]
 rw[KH ⟨by omega,by omega,by rw[Lp];exact w⟩,Lp]
def jg:List D->FR
 | [.tuple ds]=>(match g8 ds with
  |some ps=>if ps.length<=1000 then .ok (.bool (ps.any λp=>decide (p.1=p.2))) false else .bad
  |none=>.bad)
 |_=>.bad
theorem fX {α:Type}(f:α->Bool):∀l:List α,jx (l.map λx=>PyData.bool (f x))=some (l.map f)
 | []=>rfl
 |x :: l=>by
  show (jx (l.map λx=>PyData.bool (f x))).map (f x :: ·)=_
  rw[fX f l];rfl
def FC (ds:List D)(h:jg ds≠.bad):aY 1 1 nM ds=jg ds:=by
 unfold jg at h
 split at h
 ·rename_i ds
  cases q:g8 ds with
  |none=>rw[q] at h;exact absurd rfl h
  |some ps=>
   rw[q] at h
   dsimp only at h
   by_cases hz:ps.length<=1000
   case neg=>rw[KZ hz] at h;exact absurd rfl h
   obtain rfl:=lV q
   have e:jg [.tuple (ps.map aG)]=.ok (.bool (ps.any λp=>decide (p.1=p.2))) false:=by
    unfold jg;simp only[iS];rw[KH hz]
   rw[e]
   have ec:aF 2 [] (.two 0 1) (bz (gv 0)) gy (f2 (gv 0) (gv 1) (dG false)) [.da (.tuple (ps.map aG))] 0=.ok (.list (ps.map λp=>PyData.bool (decide (p.1=p.2)))) 0:=by
    exact bj (l:=ps) (e:=aG) (λp=>PyData.bool (decide (p.1=p.2))) rfl hz λp hp=>⟨_,rfl,rfl⟩
   show fin (toS ((aF 2 [] (.two 0 1) (bz (gv 0)) gy (f2 (gv 0) (gv 1) (dG false)) [.da (.tuple (ps.map aG))] 0).bnd λx β1=>R.of (cm (λbs=>bs.any id) x) β1) λd β'=>.rt d false β')=_
   rw[ec]
   simp only[oG,cm]
   rw[fX]
   simp[fin,List.any_map]
 ·exact absurd rfl h
def pK (p:Pr):SeqAt.shaped (aG p)=true:=rfl
theorem rN:∀l:List Pr,PyData.canLayAll0 (l.map aG)=true
 | []=>rfl
 |p :: l=>by
  show ((aG p).canLay0 && PyData.canLayAll0 (l.map aG))=true
  rw[rN l];rfl
theorem qK:∀l:List Pr,PyData.depthAll (l.map aG)<=1
 | []=>by show (0:Nat)<=1;omega
 |p :: l=>by
  show max (aG p).depth (PyData.depthAll (l.map aG))<=1
  have h1:(aG p).depth=1:=by simp[aG,PyData.depth,PyData.depthAll]
  have h2:=qK l
  omega
def oq (l:List Pr):SeqAt.shaped (.tuple (l.map aG))=true:=by
 unfold SeqAt.shaped
 have h1:(PyData.tuple (l.map aG)).canLay0=true:=by simp only[PyData.canLay0];exact rN l
 have h2:(PyData.tuple (l.map aG)).depth<=64:=by simp only[PyData.depth];have:=qK l;omega
 rw[h1,KY h2];rfl
def nX (l:List Pr):SeqAt.shaped (.list (l.map aG))=true:=by
 unfold SeqAt.shaped
 have h1:(PyData.list (l.map aG)).canLay0=true:=by simp only[PyData.canLay0];exact rN l
 have h2:(PyData.list (l.map aG)).depth<=64:=by simp only[PyData.depth];have:=qK l;omega
 rw[h1,KY h2];rfl
def AD (p q:Pr):PyData.eqv (aG p) (aG q)=decide (p=q):=by
 obtain⟨a,b⟩:=p
 obtain⟨c,d⟩:=q
 simp only[aG,PyData.eqv,PyData.eqvAll,Bool.and_true]
 rw[Lq]
 simp
theorem rm:∀l m:List Pr,PyData.eqvAll (l.map aG) (m.map aG)=decide (l=m)
 | [],[]=>rfl
 | [],_ :: _=>rfl
 |_ :: _,[]=>rfl
 |p :: l,q :: m=>by
  show (PyData.eqv (aG p) (aG q) && PyData.eqvAll (l.map aG) (m.map aG))=_
  rw[AD,rm l m,Lq]
  simp
def rH {n:Nat}{l:List Pr}(O:OM.Ord n l):l.length < 64:=by
 have h8:=O.hi
 have e:=O.closed
 by_cases h:l.length < 64
 ·exact h
 ·exfalso
  have h1:l.length<=n * n:=by rw[<-e];exact OM.BD _ _
  have h2:n * n<=64:=LH h8 h8
  have hn:n=8:=by
   by_cases h7:n<=7
   ·have:n * n<=7 * 7:=LH h7 h7
    omega
   ·omega
  have hlen:l.length=n * n:=by subst hn;omega
  have hg:l=OM.ba n:=by
   refine OM.sub_eq O.ris (OM.gr n) (λx hx=>OM.aU.mpr (O.wn x hx)) ?_
   rw[hlen];unfold OM.ba;simp
  have:((0:Int),(0:Int))∈l:=by rw[hg];exact OM.aU.mpr ⟨⟨by omega,by omega⟩,by omega,by omega⟩
  exact O.irr 0 this
def A1 {n:Nat}(h1:1<=n)(h8:n<=8):kf [.int n]=.ok (.bool true) false:=by
 rw[Ar rfl]
 show FR.ok (.bool (decide (1<=(n:Int)/\(n:Int)<=8))) false=_
 rw[KY (by omega)]
def oK (neg:Bool)(l m:List Pr):dG neg (.tuple (l.map aG)) (.tuple (m.map aG))=some (.bool (if neg then !decide (l=m) else decide (l=m))):=by
 unfold dG
 rw[oq,oq]
 simp only[Bool.and_self,Mi,PyData.eqv,rm]
def AU (neg:Bool)(l m:List Pr):dG neg (.list (l.map aG)) (.list (m.map aG))=some (.bool (if neg then !decide (l=m) else decide (l=m))):=by
 unfold dG
 rw[nX,nX]
 simp only[Bool.and_self,Mi,PyData.eqv,rm]
def B6 {n:Nat}{l:List Pr}(O:OM.Ord n l):jg [.tuple (l.map aG)]=.ok (.bool false) false:=by
 have hl:=rH O
 unfold jg
 simp only[iS]
 rw[KH (by omega)]
 have:(l.any λp=>decide (p.1=p.2))=false:=by
  rw[List.any_eq_false]
  intro p hp
  simp only[K7]
  intro e
  obtain⟨a,b⟩:=p
  simp only at e
  subst e
  exact O.irr a hp
 rw[this]
def yo {n:Nat}{l:List Pr}(O:OM.Ord n l):aY 3 1 (gA kf pairF cG jg) [aA n l]=.ok (.bool true) false:=by
 have hl:=rH O
 show fin (gA kf pairF cG jg [.fz (aA n l),.no,.no] 0)=_
 unfold gA
 rw[aI (env':=[.fz (aA n l),.no,.no]) (β':=0) (by rfl)]
 rw[aI (env':=[.fz (aA n l),.fz (.int n),.no]) (β':=0) (by rfl)]
 rw[aI (env':=[.fz (aA n l),.fz (.int n),.fz (.tuple (l.map aG))]) (β':=0) (by rfl)]
 have e4:au kf (aa (gv 1) ag) [.da (aA n l),.da (.int n),.da (.tuple (l.map aG))] 0=.ok (.bool true) 0:=aw rfl (A1 O.lo O.hi)
 rw[aI (env':=[.fz (aA n l),.fz (.int n),.fz (.tuple (l.map aG))]) (β':=0) ?h4]
 case h4=>
  refine gW ?_
  show lH (oR (jZ (au kf (aa (gv 1) ag)))) _ [.da (aA n l),.da (.int n),.da (.tuple (l.map aG))] 0=_
  rw[qN,qz,qX,e4]
  rfl
 have e5:aF 1 [1] (.nm 0) (bz (gv 2)) gy (au pairF (aa (gv 0) (aa (gv 1) ag))) [.da (aA n l),.da (.int n),.da (.tuple (l.map aG))] 0=.ok (.list (l.map λ_=>PyData.bool true)) 0:=by
  refine bj (l:=l) (e:=aG) (λ_=>PyData.bool true) rfl (by omega) λp hp=>⟨_,rfl,?_⟩
  refine aw (b:=false) (ds:=[aG p,.int n]) rfl ?_
  rw[zf,KY (by have:=O.wn p hp;exact this)]
 rw[aI (env':=[.fz (aA n l),.fz (.int n),.fz (.tuple (l.map aG))]) (β':=0) ?h5]
 case h5=>
  refine gW ?_
  show oR (jZ (f1 (aF 1 [1] (.nm 0) (bz (gv 2)) gy (au pairF (aa (gv 0) (aa (gv 1) ag)))) (cm λbs=>bs.all id))) [.da (aA n l),.da (.int n),.da (.tuple (l.map aG))] 0=_
  rw[qz,qX,bG (d:=.bool true) e5 (by simp only[cm];rw[fX];simp)]
  rfl
 have e6:au cG (aa (gv 1) (aa (gv 2) ag)) [.da (aA n l),.da (.int n),.da (.tuple (l.map aG))] 0=.ok (.tuple (l.map aG)) 0:=aw rfl (by rw[zD O.lo O.hi O.wn,O.closed])
 have e7:au jg (aa (gv 2) ag) [.da (aA n l),.da (.int n),.da (.tuple (l.map aG))] 0=.ok (.bool false) 0:=aw rfl (B6 O)
 show fin (toS (cV (f2 (gv 2) (au cG (aa (gv 1) (aa (gv 2) ag))) (dG false)) (f1 (au jg (aa (gv 2) ag)) zy) [.da (aA n l),.da (.int n),.da (.tuple (l.map aG))] 0) _)=_
 unfold cV
 rw[aE (d:=.bool true) (x:=.tuple (l.map aG)) rfl e6 (by rw[oK];simp)]
 dsimp only[R.bnd]
 rw[bG (d:=.bool true) e7 rfl]
 rfl
noncomputable def dw:List D->FR
 | [d]=>qc (λ_ _=>.ok (.bool true) false) d
 |_=>.bad
def pw {n:Nat}{l:List Pr}(O:OM.Ord n l):dw [aA n l]=.ok (.bool true) false:=by simp only[dw];exact sy O
def vH (ds:List D)(h:dw ds≠.bad):aY 3 1 (gA kf pairF cG jg) ds=dw ds:=by
 unfold dw at h
 split at h
 ·obtain⟨n,l,rfl,O⟩:=sg h
  rw[yo O,pw O]
 ·exact absurd rfl h
noncomputable def kY:List D->FR
 | [d]=>qc (λ_ _=>.ok .none false) d
 |_=>.bad
def uB {n:Nat}{l:List Pr}(O:OM.Ord n l):kY [aA n l]=.ok .none false:=by simp only[kY];exact sy O
def B9 (ds:List D)(h:kY ds≠.bad):aY 1 1 (fO dw) ds=kY ds:=by
 unfold kY at h
 split at h
 ·obtain⟨n,l,rfl,O⟩:=sg h
  rw[uB O]
  have e:au dw (aa (gv 0) ag) [.da (aA n l)] 0=.ok (.bool true) 0:=aw (ds:=[aA n l]) rfl (pw O)
  show fin (fO dw [.fz (aA n l)] 0)=_
  unfold fO
  rw[gW (β':=0)]
  ·rfl
  ·show oR (jZ (au dw (aa (gv 0) ag))) [.da (aA n l)] 0=_
   rw[qz,qX,e];rfl
 ·exact absurd rfl h
abbrev cx (ns:List Int):D:=.dict [(.none,.list (ns.map int))]
def lL {i j:Int}(h: -(2 ^ 64) < i/\i < 2 ^ 64):dH (.int i) (.int j)=some (.int (i * j)):=KH (by dsimp only;rw[KY h.1,KY h.2];rfl)
def Fe {i j:Int}(h: -(2 ^ 64) < j/\j < 2 ^ 64):dH (.int i) (.int j)=some (.int (i * j)):=KH (by dsimp only;rw[KY h.1,KY h.2,Bool.and_self,Bool.or_true])
def l0 {i j:Int}(h:0 < j):kr (.int i) (.int j)=some (.int (i % j)):=KH (KY h)
def xw {i j:Int}(h:0 < j)(h2:j < 1073741824):y2 (.int i) (.int j)=some (.int (i / j)):=KH (by dsimp only;rw[KY h,KY h2];rfl)
theorem lF {α β:Type}(f:α->β)(l:List α)(i:Int):kh (l.map f) i=(kh l i).map f:=by
 unfold kh
 rw[KD]
 cases ur l.length i with
 |none=>rfl
 |some j=>simp
def va {α:Type}{l:List α}{k:Nat}(h:k < l.length):kh l (k:Int)=some l[k]:=mP (KR h)
def Fp {fa fb:VF D}{vs:List Nv}{β β1 β2:Int}{i j:Int}(h:fa vs β=.ok (.int i) β1)(h':fb vs β1=.ok (.int j) β2):fH (f2 fa fb wG) vs β=.ok (decide (i < j)) β2:=fC _ _ _ _ (aE h h' rfl)
def jW {neg:Bool}{fa fb:VF D}{vs:List Nv}{β β1 β2:Int}{i j:Int}(h:fa vs β=.ok (.int i) β1)(h':fb vs β1=.ok (.int j) β2):fH (f2 fa fb (dG neg)) vs β=.ok (if neg then !decide (i=j) else decide (i=j)) β2:=by
 refine fC _ _ _ _ (aE h h' ?_)
 cases neg <;> rfl
def Gi (ns:List Int)(k:Nat):∃z,aY 2 2 fu [cx ns,.int k]=.ok (.int z) false:=by
 show ∃z,fin (fu [.fz (cx ns),.fz (.int k)] 0)=.ok (.int z) false
 unfold fu
 have e:fH (f2 (gv 1) (f1 (gv 0) eY) wG) [.da (cx ns),.da (.int k)] 0=.ok (decide ((k:Int) < (ns.map int).length)) 0:=Fp rfl rfl
 by_cases h:k < ns.length
 ·refine⟨ns[k],?_⟩
  rw[KY (by simp;exact h)] at e
  rw[cL (d:=.int ns[k]) (b:=false) (β':=0)]
  ·rfl
  ·rw[gq e]
   show toS (f2 (gv 0) (gv 1) cA [.da (cx ns),.da (.int k)] 0) _=_
   rw[aE (x:=cx ns) (y:=.int k) (d:=.int ns[k]) (β1:=0) (β2:=0) rfl rfl]
   ·rfl
   ·show kh (ns.map int) (k:Int)=_
    rw[lF,va h];rfl
 ·refine⟨0,?_⟩
  rw[K1 (by simp;omega)] at e
  rw[aI (env':=[.fz (cx ns),.fz (.int k)]) (β':=0)]
  ·rfl
  ·rw[gW e];rfl
noncomputable def xH:List D->FR:=aY 2 2 fu
noncomputable def Bd:List D->FR:=aY 4 2 iN
abbrev vT:List Int:=[48271,69621,16807,39373,30269,40014,40692,50021,61687,71993,83869,95561,30307]
def HM (c k:Int):∃z,Bd [.int c,.int k]=.ok (.int z) false:=by
 show ∃z,fin (iN [.fz (.int c),.fz (.int k),.no,.no] 0)=.ok (.int z) false
 unfold iN
 rw[aI (env':=[.fz (.int c),.fz (.int k),.fz (.list (vT.map int)),.no]) (β':=0) (by rfl)]
 obtain⟨j,hj⟩:∃j:Nat,k % 13=j:=⟨(k % 13).toNat,by omega⟩
 have hj13:j < vT.length:=by show j < 13;omega
 have e1:f2 (f2 (f2 (f2 (f2 (gv 0) (cst (.int 2147483647)) kr) (cst (.int 12345)) gQ) (f2 (gv 2) (f2 (gv 1) (cst (.int 13)) kr) cA) dH) (f2 (cst (.int 977)) (gv 1) dH) gQ) (f2 (cst (.int 7919)) (f2 (gv 1) (cst (.int 13)) y2) dH) gQ [.da (.int c),.da (.int k),.da (.list (vT.map int)),.no] 0
   =.ok (.int ((c % 2147483647 + 12345) * vT[j] + 977 * k + 7919 * (k / 13))) 0:=by
  refine aE (aE (aE (aE (aE (x:=.int c) (y:=.int 2147483647) rfl rfl (l0 (by omega))) rfl rfl) (aE (x:=.list (vT.map int)) rfl (aE (x:=.int k) (y:=.int 13) rfl rfl (l0 (by omega))) (d:=.int vT[j]) ?_) (lL ⟨by omega,by omega⟩)) (aE (x:=.int 977) (y:=.int k) rfl rfl (lL ⟨by omega,by omega⟩)) rfl) (aE (x:=.int 7919) rfl (aE (x:=.int k) (y:=.int 13) rfl rfl (xw (by omega) (by omega))) (lL ⟨by omega,by omega⟩)) rfl
  show kh (vT.map int) (k % 13)=_
  rw[hj,lF,va hj13];rfl
 generalize ((c % 2147483647 + 12345) * vT[j] + 977 * k + 7919 * (k / 13))=st at e1
 rw[aI (env':=[.fz (.int c),.fz (.int k),.fz (.list (vT.map int)),.fz (.int st)]) (β':=0) ?h]
 case h=>
  show toS (f2 _ _ gQ [.da (.int c),.da (.int k),.da (.list (vT.map int)),.no] 0) _=_
  rw[e1];rfl
 have e2:f2 (gv 3) (cst (.int 1000000007)) kr [.da (.int c),.da (.int k),.da (.list (vT.map int)),.da (.int st)] 0=.ok (.int (st % 1000000007)) 0:=aE rfl rfl (l0 (by omega))
 rw[aI (env':=[.fz (.int c),.fz (.int k),.fz (.list (vT.map int)),.fz (.int (st % 1000000007))]) (β':=0) ?h2]
 case h2=>
  show toS (f2 (gv 3) (cst (.int 1000000007)) kr [.da (.int c),.da (.int k),.da (.list (vT.map int)),.da (.int st)] 0) _=_
  rw[e2];rfl
 have hb: -(2 ^ 64) < st % 1000000007/\st % 1000000007 < 2 ^ 64:=⟨by omega,by omega⟩
 generalize st % 1000000007=u at hb
 have e3:f2 (f2 (f2 (f2 (gv 3) (gv 3) dH) (f2 (cst (.int 48271)) (gv 1) dH) gQ) (cst (.int 1000000007)) kr) (cst (.int 7)) y2 [.da (.int c),.da (.int k),.da (.list (vT.map int)),.da (.int u)] 0=.ok (.int ((u * u + 48271 * k) % 1000000007 / 7)) 0:=
  aE (aE (aE (aE (x:=.int u) (y:=.int u) rfl rfl (lL hb)) (aE (x:=.int 48271) (y:=.int k) rfl rfl (lL ⟨by omega,by omega⟩)) rfl) rfl (l0 (by omega))) rfl (xw (by omega) (by omega))
 refine⟨(u * u + 48271 * k) % 1000000007 / 7,?_⟩
 show fin (toS (f2 _ (cst (.int 7)) y2 [.da (.int c),.da (.int k),.da (.list (vT.map int)),.da (.int u)] 0) _)=_
 rw[e3];rfl
noncomputable def FZ:List D->FR:=aY 5 2 (i6 xH Bd)
def HL (ns:List Int)(k:Nat):∃z,FZ [cx ns,.int k]=.ok (.list [.int z]) true:=by
 obtain⟨c,hc⟩:=Gi ns k
 show ∃z,fin (i6 xH Bd [.fz (cx ns),.fz (.int k),.no,.no,.no] 0)=.ok (.list [.int z]) true
 unfold i6
 have e0:au xH (aa (gv 0) (aa (gv 1) ag)) [.da (cx ns),.da (.int k),.no,.no,.no] 0=.ok (.int c) 0:=aw rfl hc
 rw[aI (env':=[.fz (cx ns),.fz (.int k),.fz (.int c),.no,.no]) (β':=0) ?h]
 case h=>
  show toS (au xH _ [.da (cx ns),.da (.int k),.no,.no,.no] 0) _=_
  rw[e0];rfl
 have e1:fH (f2 (f2 (gv 2) (cst (.int 2)) kr) (cst (.int 0)) (dG false)) [.da (cx ns),.da (.int k),.da (.int c),.no,.no] 0=.ok (decide (c % 2=0)) 0:=jW (neg:=false) (aE rfl rfl (l0 (by omega))) rfl
 by_cases h:c % 2=0
 ·rw[KY h] at e1
  refine⟨(if c < 0 then -c else c) / 2,?_⟩
  rw[cL (d:=.list [.int ((if c < 0 then -c else c) / 2)]) (b:=true) (β':=0)]
  ·rfl
  ·rw[gq e1]
   show toS (bB (aa (f2 (f1 (gv 2) Cq) (cst (.int 2)) y2) ag) [.da (cx ns),.da (.int k),.da (.int c),.no,.no] 0) _=_
   rw[eN (ds:=[.int ((if c < 0 then -c else c) / 2)]) (β1:=0)]
   ·rfl
   ·have e2:f2 (f1 (gv 2) Cq) (cst (.int 2)) y2 [.da (cx ns),.da (.int k),.da (.int c),.no,.no] 0=.ok (.int ((if c < 0 then -c else c) / 2)) 0:=aE (bG (x:=.int c) rfl rfl) rfl (xw (by omega) (by omega))
    rw[fo,e2];rfl
   ·simp
 ·rw[K1 h] at e1
  rw[aI (env':=[.fz (cx ns),.fz (.int k),.fz (.int c),.no,.no]) (β':=0) (by rw[gW e1];rfl)]
  rw[aI (env':=[.fz (cx ns),.fz (.int k),.fz (.int c),.fz (.int 0),.no]) (β':=0) (by rfl)]
  obtain⟨env',β',el,z,x,rfl,rfl⟩:=gi (t:=.nm 4) (m:=dk 3 (([] ++ []) ++ ([2] ++ ([4] ++ []))) (f2 (f2 (gv 3) (cst (.int 142857143)) dH) (au Bd (aa (gv 2) (aa (gv 4) ag))) gQ)) (ds:=cZ 0 40) (k:=0)
   (λ_ env β=>∃(z:Int) (x:Sl),env= [.fz (cx ns),.fz (.int k),.fz (.int c),.fz (.int z),x]/\β=0) (env:=[.fz (cx ns),.fz (.int k),.fz (.int c),.fz (.int 0),.no]) (β:=0) ⟨0,.no,rfl,rfl⟩ (by
    rintro i d env β hi ⟨z,x,rfl,rfl⟩
    obtain⟨j,rfl⟩:∃j:Int,d=.int j:=by
     unfold cZ at hi
     rw[KW] at hi
     cases q:(List.range 40)[i]? with
     |none=>rw[q] at hi;cases hi
     |some j=>rw[q] at hi;cases hi;exact⟨_,rfl⟩
    obtain⟨y,hy⟩:=HM c j
    refine⟨_,rfl,_,_,?_,z * 142857143 + y,.fz (.int j),rfl,rfl⟩
    show toS (f2 (f2 (gv 3) (cst (.int 142857143)) dH) (au Bd (aa (gv 2) (aa (gv 4) ag))) gQ [.da (cx ns),.da (.int k),.da (.int c),.da (.int z),.da (.int j)] 0) _=_
    rw[aE (d:=.int (z * 142857143 + y)) (aE (x:=.int z) (y:=.int 142857143) (β1:=0) (β2:=0) rfl rfl (Fe ⟨by omega,by omega⟩)) (aw (ds:=[.int c,.int j]) (β1:=0) rfl hy) rfl]
    rfl)
  refine⟨z,?_⟩
  rw[aI (env':=[.fz (cx ns),.fz (.int k),.fz (.int c),.fz (.int z),x]) (β':=0) ?h2]
  case h2=>exact el
  show fin (toS (bB (aa (gv 3) ag) [.da (cx ns),.da (.int k),.da (.int c),.da (.int z),x.val] 0) _)=_
  rw[eN (ds:=[.int z]) (β1:=0) rfl (by simp)]
  rfl
noncomputable def rK:List D->Int->FB:=sZ 4 1 (cR fZ)
theorem lay_ints:∀ns:List Int,PyData.canLayAll0 (ns.map int)=true
 | []=>rfl
 |n :: ns=>by
  show ((int n).canLay0 && PyData.canLayAll0 (ns.map int))=true
  rw[lay_ints ns];rfl
theorem tq:∀ns:List Int,PyData.depthAll (ns.map int)=0
 | []=>rfl
 |n :: ns=>by
  show max (int n).depth (PyData.depthAll (ns.map int))=0
  rw[tq ns];rfl
def shaped_ints (ns:List Int):SeqAt.shaped (.list (ns.map int))=true:=by
 unfold SeqAt.shaped
 have h1:(PyData.list (ns.map int)).canLay0=true:=by simp only[PyData.canLay0];exact lay_ints ns
 have h2:(PyData.list (ns.map int)).depth<=64:=by simp only[PyData.depth];rw[tq];omega
 rw[h1,KY h2];rfl
theorem tP:∀l m:List Int,PyData.eqvAll (l.map int) (m.map int)=decide (l=m)
 | [],[]=>rfl
 | [],_ :: _=>rfl
 |_ :: _,[]=>rfl
 |p :: l,q :: m=>by
  show ((p == q) && PyData.eqvAll (l.map int) (m.map int))=_
  rw[tP l m,Lq]
  simp
def sx (neg:Bool)(l m:List Int):dG neg (.list (l.map int)) (.list (m.map int))=some (.bool (if neg then !decide (l=m) else decide (l=m))):=by
 unfold dG
 rw[shaped_ints,shaped_ints]
 simp only[Bool.and_self,Mi,PyData.eqv,tP]
theorem ny {α:Type}:∀{l:List α} {k:Nat} {x:α},l[k]? =some x->(x :: l.eraseIdx k).Perm l
 | [],_,_,h=>by simp at h
 |y :: l,0,x,h=>by simp at h;subst h;exact List.Perm.refl _
 |y :: l,k + 1,x,h=>by
  have h:l[k]? =some x:=by simpa using h
  have ih:=ny h
  show (x :: y :: l.eraseIdx k).Perm (y :: l)
  exact (List.Perm.swap y x _).trans (ih.cons y)
theorem pY {α β:Type}(f:α->β):∀(l:List α) (k:Nat),(l.map f).eraseIdx k=(l.eraseIdx k).map f
 | [],_=>rfl
 |_ :: _,0=>rfl
 |x :: l,k + 1=>by simp[pY f l k]
def Dx (ns:List Int)(hz:ns.length<=100)(β:Int):∃(ms:List Int) (β':Int),rK [.list (ns.map int)] β=.ok (.list (ms.map int)) true β'/\ms.Perm ns:=by
 show ∃(ms:List Int) (β':Int),Ew (cR fZ [.bx,.fz (.list (ns.map int)),.no,.no] β)=.ok (.list (ms.map int)) true β'/\ms.Perm ns
 unfold cR
 rw[aI (env':=[.bx,.fz (.list (ns.map int)),.ow (.list (ns.map int)),.no]) (β':=β) (by rfl)]
 have ez:bB ag [Nv.bx,.da (.list (ns.map int)),.da (.list (ns.map int)),.no] β=.ok (.list []) β:=eN rfl (by simp)
 rw[aI (env':=[.bx,.fz (.list (ns.map int)),.ow (.list (ns.map int)),.ow (.list [])]) (β':=β) ?h]
 case h=>
  show toS (bB ag [Nv.bx,.da (.list (ns.map int)),.da (.list (ns.map int)),.no] β) _=_
  rw[ez];rfl
 obtain⟨env',β',ew,ms,rfl,hp⟩:=oF (L:=[] ++ []) (t:=fH (f2 (gv 2) (bB ag) (dG true))) (m:=iF 3 2 ([] ++ []) (ua 0 fZ (aa (f1 (gv 2) eY) ag)))
  (λk env β=>∃ls ms:List Int,env= [.bx,.fz (.list (ns.map int)),.ow (.list (ls.map int)),.ow (.list (ms.map int))]/\(ms ++ ls).Perm ns/\k=ls.length)
  (λenv β=>∃ms:List Int,env= [.bx,.fz (.list (ns.map int)),.ow (.list []),.ow (.list (ms.map int))]/\ms.Perm ns) (n:=1000) (k:=ns.length) (env:=[.bx,.fz (.list (ns.map int)),.ow (.list (ns.map int)),.ow (.list [])]) (β:=β) (by omega) ⟨ns,[],rfl,by simp,rfl⟩ (by
   rintro k env β ⟨ls,ms,rfl,hp,rfl⟩
   have e1:bB ag [Nv.bx,.da (.list (ns.map int)),.da (.list (ls.map int)),.da (.list (ms.map int))] β=.ok (.list (([]:List Int).map int)) β:=eN rfl (by simp)
   have et:fH (f2 (gv 2) (bB ag) (dG true)) [Nv.bx,.da (.list (ns.map int)),.da (.list (ls.map int)),.da (.list (ms.map int))] β=.ok (!decide (ls= [])) β:=
    fC _ _ _ _ (aE (x:=.list (ls.map int)) rfl e1 (by rw[sx];rfl))
   refine⟨_,_,et,?_⟩
   have hlen:=hp.length_eq
   rw[Ls] at hlen
   cases ls with
   |nil=>exact .inl ⟨rfl,ms,rfl,by simpa using hp⟩
   |cons y ys=>
    refine .inr ⟨rfl,?_⟩
    have hm:(0:Int) < ((y :: ys).length:Nat)/\(((y :: ys).length:Nat):Int) < 1073741824:=by
     have:(y :: ys).length<=100:=by omega
     constructor
     ·simp
     ·omega
    obtain⟨j,hj⟩:∃j:Nat,β % (((y :: ys).length:Nat):Int)=j:=⟨(β % (((y :: ys).length:Nat):Int)).toNat,by have:=Int.emod_nonneg β (b:=(((y :: ys).length:Nat):Int)) (by omega);omega⟩
    have hj2:j < (y :: ys).length:=by have:=Int.emod_lt_of_pos β hm.1;omega
    have ef:ua 0 fZ (aa (f1 (gv 2) eY) ag) [Nv.bx,.da (.list (ns.map int)),.da (.list ((y :: ys).map int)),.da (.list (ms.map int))] β=.ok (.int (j:Int)) (β / (((y :: ys).length:Nat):Int)):=by
     refine oE (ds:=[.int (((y :: ys).length:Nat):Int)]) (b:=false) (by rfl) ?_ (by rw[qS hm.1 hm.2,hj])
     show R.ok [int ((((y :: ys).map int).length:Nat):Int)] β=_
     rw[KD]
    have hpop:yH ((y :: ys).map int) (.int (j:Int))=some (.int (y :: ys)[j],((y :: ys).eraseIdx j).map int):=by
     unfold yH
     dsimp only
     rw[KH ⟨by omega,by omega⟩]
     have es:seqIndex? (j:Int) ((y :: ys).map int).length=some j:=by
      rw[KD]
      exact PySem.StrLaws.seqIndex_nonneg (by omega) (by omega)
     rw[es]
     dsimp only
     rw[KW,KR hj2,pY];rfl
    refine⟨[.bx,.fz (.list (ns.map int)),.ow (.list (((y :: ys).eraseIdx j).map int)),.ow (.list ((ms ++ [(y :: ys)[j]]).map int))],β / (((y :: ys).length:Nat):Int),((y :: ys).eraseIdx j).length,?_,?_,(y :: ys).eraseIdx j,ms ++ [(y :: ys)[j]],rfl,?_,rfl⟩
    ·show iF 3 2 ([] ++ []) (ua 0 fZ (aa (f1 (gv 2) eY) ag)) [.bx,.fz (.list (ns.map int)),.ow (.list ((y :: ys).map int)),.ow (.list (ms.map int))] β=_
     rw[v5 (ds:=ms.map int) (es:=(y :: ys).map int) (by rfl) (by rfl) (by decide) ef (by rfl) hpop (by rw[KD];omega),MC]
     rfl
    ·rw[List.length_eraseIdx]
     rw[KH hj2]
     show (y :: ys).length - 1 < (y :: ys).length
     simp
    ·rw[MU]
     exact (List.Perm.append_left ms (ny (KR hj2))).trans hp)
 refine⟨ms,β',?_,hp⟩
 rw[aI ew]
 rfl
def nh {a b:List D}(h:a.length + b.length<=10000):mC (.list a) (.list b)=some (.list (a ++ b)):=KH (by rw[Ld];omega)
def bu (n:Nat):List Int:=(List.range n).map λ(k:Nat)=>(k:Int)
def bt (n:Nat):(bu n).length=n:=by unfold bu;simp
def bh {n:Nat}{x:Int}:x∈bu n↔0<=x/\x < n:=by
 unfold bu
 rw[Lo]
 constructor
 ·rintro⟨k,hk,rfl⟩
  have:=LM.mp hk
  omega
 ·intro h
  exact⟨x.toNat,LM.mpr (by omega),by omega⟩
def iy (n:Nat):(bu n).Nodup:=by
 unfold bu
 rw[Mm,Mn]
 exact (Mm.mp List.nodup_range).imp λ{a b} h e=>h (by omega)
def jX (n:Nat):cZ 0 n=(bu n).map int:=by
 unfold cZ bu
 rw[Lm]
 refine LQ λk _=>?_
 show int (0 + (k:Int))=_
 rw[LZ];rfl
theorem kX {lo:Int}{n i:Nat}{d:D}(h:(cZ lo n)[i]? =some d):i < n/\d=.int (lo + i):=by
 unfold cZ at h
 rw[KW] at h
 cases q:(List.range n)[i]? with
 |none=>rw[q] at h;cases h
 |some j=>
  rw[q] at h
  cases h
  obtain⟨hi,ej⟩:=KN.mp q
  rw[Ma] at hi
  rw[List.getElem_range] at ej
  subst ej
  exact⟨hi,rfl⟩
def ud {n:Nat}(h:n<=1000):ia (.int n)=some (.list ((bu n).map int)):=by
 unfold ia
 dsimp only
 rw[KH ⟨by omega,by omega⟩,Lp,jX]
def eZ {fa:VF D}{vs:List Nv}{β β1:Int}{n:Nat}(h:fa vs β=.ok (.int n) β1)(hn:n<=1000):cB fa vs β=.ok (cZ 0 n) β1:=by
 unfold cB
 rw[h]
 simp only[oG]
 rw[KH (yO (by omega) (by omega)),Lp]
def jq {t:Tg}{L:List Nat}{fi:VF (List D)}{m:SF}{env:En}{β β1:Int}{ds:List D}(h:fi (vl env) β=.ok ds β1):gL t L fi m env β=qj t m ds (aN L env) β1:=by unfold gL;rw[h];rfl
def tR {m:Nat}(h:1<=m)(h2:m<=1000)(β:Int):∃j:Nat,j < m/\fZ [.int m] β=.ok (.int (j:Int)) false (β / m):=by
 refine⟨(β % m).toNat,?_,?_⟩
 ·have h0:=Int.emod_nonneg β (b:=(m:Int)) (by omega)
  have h3:=Int.emod_lt_of_pos β (b:=(m:Int)) (by omega)
  omega
 ·rw[qS (by omega) (by omega)]
  have h0:=Int.emod_nonneg β (b:=(m:Int)) (by omega)
  rw[show ((β % m).toNat:Int)=β % m by omega]
theorem wX (p:Pr):∀l:List Pr,((l.map aG).any λe=>PyData.eqv e (aG p))=decide (p∈l)
 | []=>rfl
 |q :: l=>by
  rw[Ln,Mz,wX p l,AD,Lq]
  simp only[MO,K7,KG]
  exact⟨λh=>h.imp Eq.symm id,λh=>h.imp Eq.symm id⟩
def C1 (l:List Pr):(l.map aG).all SeqAt.shaped=true:=by
 rw[Lx]
 intro d hd
 obtain⟨p,_,rfl⟩:=Lo.mp hd
 exact pK p
def wC (neg:Bool)(p:Pr)(l:List Pr):BM neg (aG p) (.tuple (l.map aG))=some (.bool (if neg then !decide (p∈l) else decide (p∈l))):=by
 unfold BM
 simp only[kn,pK,C1,Bool.and_self,Mi,wX]
def wW (neg:Bool)(i j:Int):dG neg (.int i) (.int j)=some (.bool (if neg then !decide (i=j) else decide (i=j))):=rfl
theorem mT {fa fb:VF D}{vs:List Nv}{β:Int}{a b:Bool}(h:fa vs β=.ok (.bool a) β)(h':fb vs β=.ok (.bool b) β):cV fa fb vs β=.ok (.bool (a && b)) β:=by
 unfold cV
 rw[h]
 dsimp only[R.bnd]
 cases a with
 |true=>exact h'
 |false=>rfl
def fq {fa fb:VF D}{vs:List Nv}{β:Int}{a b:Int}(h:fa vs β=.ok (.int a) β)(h':fb vs β=.ok (.int b) β):bL (aa fa (aa fb ag)) vs β=.ok (aG (a,b)) β:=by
 refine xf (ds:=[.int a,.int b]) ?_ (by simp)
 rw[fo,h]
 dsimp only[R.bnd]
 rw[fo,h'];rfl
def BN (l:List Pr)(p:Pr):Bool:= !decide (p.1=p.2) && (!decide ((p.1,p.2)∈l) && !decide ((p.2,p.1)∈l))
def Ij {n:Nat}{l:List Pr}{fa:VF D}{vs:List Nv}{β:Int}(h:fa vs β=.ok (aA n l) β):f2 fa (cst (.int 1)) cA vs β=.ok (.tuple (l.map aG)) β:=aE h rfl rfl
def Ic {n:Nat}{l:List Pr}{fa:VF D}{vs:List Nv}{β:Int}(h:fa vs β=.ok (aA n l) β):f2 fa (cst (.int 0)) cA vs β=.ok (.int n) β:=aE h rfl rfl
def Ks:List D->FR:=aY 3 3 sU
def vJ:List D->FR:=aY 3 3 lB
def Jz (n:Nat)(l:List Pr)(a b:Int):Ks [aA n l,.int a,.int b]=.ok (.bool (BN l (a,b))) false:=by
 show fin (toS (cV (f2 (gv 1) (gv 2) (dG true)) (cV (f2 (bL (aa (gv 1) (aa (gv 2) ag))) (f2 (gv 0) (cst (.int 1)) cA) (BM true)) (f2 (bL (aa (gv 2) (aa (gv 1) ag))) (f2 (gv 0) (cst (.int 1)) cA) (BM true))) [.da (aA n l),.da (.int a),.da (.int b)] 0) _)=_
 rw[mT (aE (x:=.int a) (y:=.int b) rfl rfl (wW true a b)) (mT (aE (fq (a:=a) (b:=b) rfl rfl) (Ij (n:=n) (l:=l) rfl) (wC true (a,b) l)) (aE (fq (a:=b) (b:=a) rfl rfl) (Ij (n:=n) (l:=l) rfl) (wC true (b,a) l)))]
 rfl
def HF (n:Nat)(l:List Pr)(a b:Int):vJ [aA n l,.int a,.int b]=.ok (.bool (BN l (a,b))) false:=Jz n l a b
def kJ:List D->FR:=aY 1 1 fR
def wA {n:Nat}(h1:1<=n)(h8:n<=8):kJ [.int n]=.ok (.list ((OM.ba n).map aG)) true:=by
 have hm:n * n<=64:=LH h8 h8
 have e:aF 1 [0] (.nm 0) (cB (f2 (gv 0) (gv 0) dH)) gy (bL (aa (f2 (gv 0) (gv 1) y2) (aa (f2 (gv 0) (gv 1) kr) ag))) [.da (.int n)] 0=.ok (.list ((OM.ba n).map aG)) 0:=by
  have hi:cB (f2 (gv 0) (gv 0) dH) [.da (.int n)] 0=.ok ((List.range (n * n)).map λ(k:Nat)=>int (0 + (k:Int))) 0:=by
   refine eZ (n:=n * n) (aE (x:=.int n) (y:=.int n) rfl rfl ?_) (by omega)
   rw[lL ⟨by omega,by omega⟩];rfl
  rw[bj (l:=List.range (n * n)) (e:=λ(k:Nat)=>int (0 + (k:Int))) (λk=>aG (((k / n:Nat):Int),((k % n:Nat):Int))) hi (by rw[Ma];omega) λk hk=>⟨_,rfl,?_⟩]
  ·unfold OM.ba;rw[Lm];rfl
  ·refine fq (aE (x:=.int (0 + (k:Int))) (y:=.int n) rfl rfl ?_) (aE (x:=.int (0 + (k:Int))) (y:=.int n) rfl rfl ?_)
   ·rw[xw (by omega) (by omega),LZ];rfl
   ·rw[l0 (by omega),LZ];rfl
 show fin (fR [.fz (.int n)] 0)=_
 unfold fR
 rw[zu,show vl [Sl.fz (.int n)]= [.da (.int n)] from rfl,e];rfl
def AQ (n:Nat)(l:List Pr):List Pr:=(OM.ba n).filter (BN l)
def dr (n:Nat):(OM.ba n).length=n * n:=by unfold OM.ba;simp
def CU {n:Nat}{l:List Pr}{p:Pr}:p∈AQ n l↔((0<=p.1/\p.1 < n)/\(0<=p.2/\p.2 < n))/\BN l p=true:=by
 unfold AQ;rw[K8,OM.aU]
def dg {fa:VF D}{vs:List Nv}{β:Int}{c:Bool}(h:fa vs β=.ok (.bool c) β):jZ fa vs β=.ok c β:=by rw[qX,h];rfl
theorem A3 {c:Nat}:∀(ts:List Str) (k:Nat) (acc:Str),(∀t∈ts,t.length + 2<=c)->(textFrom k acc ts).length<=acc.length + c * ts.length
 | [],k,acc,_=>by show acc.length<=_;omega
 |t :: r,k,acc,h=>by
  have ih:=A3 r (k + 1) (acc ++ (if k > 0 then ", " else "":String) ++ t) λu hu=>h u (KL _ hu)
  have e:(acc ++ (if k > 0 then ", " else "":String) ++ t).length=acc.length + (if k > 0 then 2 else 0) + t.length:=by
   rw[MA,MA]
   split <;> rfl
  rw[e] at ih
  have ht:=h t (KO ..)
  show (textFrom (k + 1) _ r).length<=_
  have e2:c * (t :: r).length=c * r.length + c:=by rw[K4,Nat.mul_succ]
  rw[e2]
  have:(if k > 0 then 2 else 0:Nat)<=2:=by split <;> omega
  omega
end RM
namespace L2
open PySem PySem.Spec PyProof.Rows
section
variable {X:Cx}{pins:List (Addr×Obj)}{σ:St}{H:Hp}{s:Shared}
def Inv.turnedL {t':Nat}{ch:List Addr}{h':Heap}(I:Inv X pins σ H s)(k:∀b o,b∉ch->s.heap.get? b=some o->h'.get? b=some o)(hf:∀b∈ch,kN X pins H b):Inv X pins σ H {s with heap:=h',toks:=t'}:=by
 have nit:∀b u,H b=some u->b∉ch:=λb u e z=>by rw[(hf b z).1] at e;cases e
 have nL:X.env.locals∉ch:=λz=>(hf _ z).2.1 rfl
 refine I.step (g':=s.gens) (d':=s.drawn) (ch:=ch) (λb hb=>?_) (λb o _ _ hc e _=>k b o hc e) (λb o _ _ hc e _=>⟨o.slots,k b o hc e⟩) (λ_ _ _ _ n=>n)
  (λb o hc e=>⟨o,k b o hc e⟩) (λ_ _ e=>e) (λ_ _ _ e=>e) (λb ps e=>⟨#[],by rw[e];simp⟩) (λm hm=>?_) (λb u e=>?_) I.bare
 ·obtain⟨f0,f1,f2,f3,f4,f5⟩:=hf b hb
  exact⟨f3,f1,f4,f5⟩
 ·obtain⟨o,es,ep,ho,r⟩:=hm
  exact⟨o,es,ep,k _ o nL ho,r⟩
 ·refine (I.hok b u e).stay (λc v hc q=>k c v ?_ q) (λ_ q=>q) λ_ _ q=>q
  rcases hc with z |z
  ·rw[z];exact nit b u e
  ·exact nit c _ z
end
abbrev EG (n:Nat):List Nat:=[n + 4,n + 2,n + 3,n,n + 1]
def Dd {H:Hp}{a:Addr}{u:HO}(h:Rd H a u):H a≠none:=by
 rcases h with h | ⟨o,h⟩ <;> rw[h] <;> simp
def uq {n:Nat}(i j:Nat)(h:(i == j)=false):(n + i:Nat)≠n + j:=by
 have:i≠j:=by simpa using h
 omega
def Fq {H:Hp}{n:Nat}{a b:Addr}{u v:HO}(hn:∀c∈EG n,H c=none)(ha:Rd H a u)(hb:Rd H b v):ZipApart (n + 4) (n + 2) (n + 3) n (n + 1) a b:=by
 have k:∀{p:Addr} {u:HO},Rd H p u->∀c∈EG n,p≠c:=λ{p u} h c hc e=>Dd h (by rw[e];exact hn c hc)
 have e0:n∈EG n:=by simp
 have e1:n + 1∈EG n:=by simp
 have e3:n + 3∈EG n:=by simp
 have e4:n + 4∈EG n:=by simp
 exact⟨uq 2 4 rfl,uq 3 4 rfl,uq 0 4 rfl,uq 1 4 rfl,uq 2 3 rfl,uq 2 0 rfl,uq 2 1 rfl,uq 3 0 rfl,uq 3 1 rfl,uq 0 1 rfl,k ha _ e4,k ha _ e3,k ha _ e0,k ha _ e1,k hb _ e4,k hb _ e3,k hb _ e0,k hb _ e1⟩
def boot_zip:bootBuiltins "zip"=some (.type "zip"):=by decide +kernel
section
variable {X:Cx}{Γ:Fx}{E:XK}{e a b c:Expr}{f fa fb:VF D}{L La Lb:List Nat}{md ma mb:Md}{pos:Pos}
def CI (ds es:List D):List D:=List.zipWith (λd e=>.tuple [d,e]) ds es
end
section
variable {κ:Type}[DecidableEq κ]
def Cj (kvs:List (κ×V))(k:κ):Option V:=(kvs.find? λkv=>decide (kv.1=k)).map (·.2)
def putK (kvs:List (κ×V))(k:κ)(v:V):List (κ×V):=
 if (kvs.any λkv=>decide (kv.1=k))=true then kvs.map (λkv=>if kv.1=k then (kv.1,v) else kv) else kvs ++ [(k,v)]
def ub (kvs:List (κ×V))(k:κ)(v:V):(putK kvs k v).length<=kvs.length + 1:=by
 unfold putK
 split
 ·rw[KD];omega
 ·rw[Ls,K4,List.length_nil];omega
theorem A9.getD {o:Option V}{u:Option Value}{d:V}{d':Value}(r:A9 o u)(rd:RelV d d'):RelV (o.getD d) (u.getD d'):=by
 cases o with
 |none=>cases u with
  |none=>exact rd
  |some _=>exact (show False from r).elim
 |some _=>cases u with
  |none=>exact (show False from r).elim
  |some _=>exact r
theorem KV.any {kvs:List (κ×V)}{vs:List (κ×Value)}(r:KV kvs vs)(k:κ):(kvs.any λkv=>decide (kv.1=k))=vs.any λkv=>decide (kv.1=k):=by
 unfold KV at r
 induction r with
 |nil=>rfl
 |cons h t ih=>rw[Mz,Mz,ih,h.1]
theorem KV.repl {kvs:List (κ×V)}{vs:List (κ×Value)}(r:KV kvs vs)(k:κ){y:V}{u:Value}(ry:RelV y u) :
  KV (kvs.map λkv=>if kv.1=k then (kv.1,y) else kv) (vs.map λkv=>if kv.1=k then (kv.1,u) else kv):=by
 unfold KV at r ⊢
 induction r with
 |nil=>exact .nil
 | @cons p q ps qs h t ih=>
  rw[Ln,Ln]
  refine .cons ?_ ih
  obtain⟨h1,h2⟩:=h
  by_cases e:p.1=k
  ·rw[KH e,KH (h1.symm.trans e)];exact⟨h1,ry⟩
  ·rw[KZ e,KZ (λz=>e (h1.trans z))];exact⟨h1,h2⟩
def KV.put {kvs:List (κ×V)}{vs:List (κ×Value)}(r:KV kvs vs)(k:κ){y:V}{u:Value}(ry:RelV y u):KV (putK kvs k y) (stored vs k u):=by
 unfold putK stored
 rw[r.any k]
 by_cases e:(vs.any λkv=>decide (kv.1=k))=true
 ·rw[KH e,KH e];exact r.repl k ry
 ·rw[KZ e,KZ e];exact Paired.snoc r ⟨rfl,ry⟩
end
theorem G7 {P:Program}{w:World}{k:Key}{u:Value}(r:RelV (kV k) u):(cQ P w).is k u=true:=by
 cases k with
 |inl i=>obtain⟨t,e⟩:=(show ∃t,u=Value.int i t from r);subst e;exact td P w i t
 |inr x=>obtain⟨t,e⟩:=(show ∃t,u=Value.str x t from r);subst e;exact sd P w x t
section
variable {P:Program}{w:World}{H:Hp}{h:Heap}{a:Addr}
def GJ {u:HO}(ok:jk P w H h)(e:Rd H a u):bM P w H h a u:=e.ok ok
def Hm {kvs:List (Key×V)}(ok:jk P w H h)(e:Rd H a (.dK kvs)):kvs.length<=sizeLine/\(a == sysModules)=false/\∃vs,KV kvs vs/\h.DictOf (cQ P w) a vs:=
 show bM P w H h a (.dK kvs) from GJ ok e
def DZ {kvs:List (Key×V)}(ok:jk P w H h)(e:H a=some (.dK kvs)):kvs.length<=sizeLine/\(a == sysModules)=false/\∃vs,KV kvs vs/\h.DictOf (cQ P w) a vs:=Hm ok (.inl e)
end
def CG (H:Hp)(a:Addr)(y:V)(r:Option V):Prop:=
 (∃kvs k,Rd H a (.dK kvs)/\y=kV k/\r=Cj kvs k)\/∃kvs k b,Rd H a (.dT kvs)/\y=.ref b/\Rd H b (.tup (k.map kV))/\r=Cj kvs k
def CC (H:Hp)(a:Addr)(y v:V)(H':Hp):Prop:=
 (∃kvs k,H a=some (.dK kvs)/\y=kV k/\kvs.length < sizeLine/\H'=upd H a (.dK (putK kvs k v)))\/
 ∃kvs k b,H a=some (.dT kvs)/\y=.ref b/\Rd H b (.tup (k.map kV))/\kvs.length < sizeLine/\H'=upd H a (.dT (putK kvs k v))
def CG.k {H:Hp}{a:Addr}{kvs:List (Key×V)}{k:Key}(e:H a=some (.dK kvs)):CG H a (kV k) (Cj kvs k):=.inl ⟨kvs,k,.inl e,rfl,rfl⟩
def CG.t {H:Hp}{a b:Addr}{kvs:List (List Key×V)}{k:List Key}(e:H a=some (.dT kvs))(eb:Rd H b (.tup (k.map kV))):CG H a (.ref b) (Cj kvs k):=.inr ⟨kvs,k,b,.inl e,rfl,eb,rfl⟩
def CC.k {H:Hp}{a:Addr}{kvs:List (Key×V)}{k:Key}{v:V}(e:H a=some (.dK kvs))(hl:kvs.length < sizeLine):CC H a (kV k) v (upd H a (.dK (putK kvs k v))):=.inl ⟨kvs,k,e,rfl,hl,rfl⟩
def CC.t {H:Hp}{a b:Addr}{kvs:List (List Key×V)}{k:List Key}{v:V}(e:H a=some (.dT kvs))(eb:Rd H b (.tup (k.map kV)))(hl:kvs.length < sizeLine) :
  CC H a (.ref b) v (upd H a (.dT (putK kvs k v))):=.inr ⟨kvs,k,b,e,rfl,eb,hl,rfl⟩
section
variable {X:Cx}{pins:List (Addr×Obj)}{σ:St}{H:Hp}{s:Shared}{a:Addr}{y v:V}{u r:Value}{o:Option V}{A:Around}{E:Value->Shared->Prop}
def Inv.big (I:Inv X pins σ H s):sysModules < s.heap.objs.size:=by
 have h:mainGlobals < s.heap.objs.size:=(I.mod.glob.keeps I.bk).lt
 exact Nat.lt_trans (by decide) h
def Dw {h':Heap}{t':Nat}{ob:HO}(I:Inv X pins σ H s)(mu:Ht (H a))(hs:Heap.SameBut a s.heap h')(he:∃q,h'.get? a=some q)(new:bM X.prog X.w (upd H a ob) h' a ob) :
  Inv X pins σ (upd H a ob) {s with heap:=h',toks:=t'}:=
 I.write (x:=a) (e:=a) mu (.inl rfl) (λb q hb z=>(hs.2 b hb).trans z) he new
def Fd {P:Program}{w:World}{H':Hp}{h':Heap}{kvs:List (Key×V)}{vs:List (Key×Value)}(z:kvs.length<=sizeLine)(hd:(a == sysModules)=false)(rel:KV kvs vs)(dd:h'.DictOf (cQ P w) a vs) :
  bM P w H' h' a (.dK kvs):=⟨z,hd,vs,rel,dd⟩
end
def tJ {P:Program}{w:World}{H:Hp}(h:Heap)(hb:sysModules < h.objs.size):bM P w H (h.push {cls:=.type "dict",data:=.dict #[]}) h.objs.size (.dK []):=
 ⟨LC _,beq_eq_false_iff_ne.mpr (Ne.symm (Lf hb)),[],.nil,Heap.DictOf.new h⟩
def FQ:TE:=λ_ H Q=>∀p,H p=none->Q (.ref p) (upd H p (.dK []))
section
variable {X:Cx}{pos:Pos}
def zv:PE X (.Dict [] [] pos) FQ:=λpins s σ H Q I h=>
 wpAny_Dict_empty ⟨.ref s.heap.objs.size,_,I.laid (a:=s.heap.objs.size) (o:=.dK []) (t':=s.toks) (λ_ _ q=>KC _ q) (KI _) (tJ s.heap I.big),rfl,h _ (I.hok.fresh (KI _))⟩
end
def vf:List (TE×TE)->St->Hp->(List (V×V)->Hp->Prop)->Prop
 | [],_,H,Q=>Q [] H
 | (tk,tv) :: r,σ,H,Q=>tk σ H λx H1=>tv σ H1 λy H2=>vf r σ H2 λps H3=>Q ((x,y) :: ps) H3
abbrev VV:List (V×V)->List (Value×Value)->Prop:=Paired λp q=>RelV p.1 q.1/\RelV p.2 q.2
def IB (X:Cx)(pos:Pos)(keys:List (Option Expr))(values:List Expr)(trs:List (TE×TE)):Prop:=
 ∀(pins:List (Addr×Obj)) (s:Shared) (σ:St) (H:Hp) (Q:List (V×V)->Hp->Prop),Inv X pins σ H s->vf trs σ H Q->
  wpAny (model X.prog X.w) X.A (evalPairs (pairTrees keys values X.env pos)) (λvs s'=>∃ps H',Inv X pins σ H' s'/\VV ps vs/\Q ps H') X.xe s
def BP {X:Cx}{pos:Pos}:IB X pos [] [] []:=λpins s σ H Q I h=>pairTrees_nil_walk ⟨[],H,I,.nil,h⟩
def zr {X:Cx}{pos:Pos}{k v:Expr}{ks:List (Option Expr)}{vs:List Expr}{tk tv:TE}{trs:List (TE×TE)}(hk:PE X k tk)(hv:PE X v tv)(hr:IB X pos ks vs trs) :
  IB X pos (some k :: ks) (v :: vs) ((tk,tv) :: trs):=λpins s σ H Q I h=>
 pairTrees_cons_walk (b7 (hk pins s σ H _ I h) λu s1 ⟨x,H1,I1,rx,q1⟩=>b7 (hv pins s1 σ H1 _ I1 q1) λw2 s2 ⟨y,H2,I2,ry,q2⟩=>
  b7 (hr pins s2 σ H2 _ I2 q2) λws s3 ⟨ps,H3,I3,rel,q3⟩=>⟨(x,y) :: ps,H3,I3,.cons ⟨rx,ry⟩ rel,q3⟩)
def nK (kvs more:List (Key×V)):List (Key×V):=more.foldl (λacc kv=>putK acc kv.1 kv.2) kvs
theorem KV.merge:∀{more:List (Key×V)} {rs:List (Key×Value)} {kvs:List (Key×V)} {vs:List (Key×Value)},KV more rs->KV kvs vs->KV (nK kvs more) (merged vs rs):=by
 intro more rs kvs vs r
 unfold KV at r
 induction r generalizing kvs vs with
 |nil=>intro q;exact q
 | @cons p q ps qs h t ih=>
  intro r0
  have e:KV (putK kvs p.1 p.2) (stored vs q.1 q.2):=by
   have:=r0.put p.1 h.2
   rw[<-h.1];exact this
  exact ih e
theorem kl:∀(more kvs:List (Key×V)),(nK kvs more).length<=kvs.length + more.length
 | [],kvs=>by show kvs.length<=kvs.length + 0;omega
 |p :: r,kvs=>by
  have h1:=kl r (putK kvs p.1 p.2)
  have h2:=ub kvs p.1 p.2
  show (nK (putK kvs p.1 p.2) r).length<=_
  rw[K4];omega
theorem oA {P:Program}{w:World}:∀{kvs:List (Key×V)} {ws:List (Value×Value)},VV (kvs.map λkv=>(kV kv.1,kv.2)) ws->∃rs,Carries (cQ P w) ws rs/\KV kvs rs
 | [],_,r=>by rw[map_nil] at r;cases r;exact⟨[],True.intro,.nil⟩
 |p :: kvs,_,r=>by
  rw[Ln] at r
  cases r with
  | @cons a b as bs h t=>
   obtain⟨rs,c,q⟩:=oA (P:=P) (w:=w) t
   obtain⟨b1,b2⟩:=b
   exact⟨(p.1,b2) :: rs,⟨G7 h.1,rfl,c⟩,.cons ⟨rfl,h.2⟩ q⟩
def He (trs:List (TE×TE)):TE:=λσ H Q=>∀p,H p=none->vf trs σ (upd H p (.dK [])) λps H2=>H2 p=some (.dK [])/\∃kvs:List (Key×V),ps=kvs.map (λkv=>(kV kv.1,kv.2))/\kvs.length<=15/\Q (.ref p) (upd H2 p (.dK (nK [] kvs)))
def Dk {X:Cx}{pos:Pos}{keys:List (Option Expr)}{values:List Expr}{trs:List (TE×TE)}(h:IB X pos keys values trs)(hall:keys.all (·.isSome)=true)(hl:keys.length=values.length)(h0:keys≠ [])
  (h15:keys.length<=15):PE X (.Dict keys values pos) (He trs):=by
 intro pins s σ H Q I q
 have hn:=I.hok.fresh (KI s.heap.objs.size)
 have I1:=I.laid (a:=s.heap.objs.size) (o:=.dK []) (h':=s.heap.push {cls:=.type "dict",data:=.dict #[]}) (t':=s.toks) (λ_ _ q=>KC _ q) (KI _) (tJ s.heap I.big)
 refine wpAny_Dict_walk (knd:=cQ X.prog X.w) hall hl h0 h15 (b7 (h pins _ σ _ _ I1 (q _ hn)) λws s2 ⟨ps,H2,I2,rel,e,kvs,ep,lk,q2⟩=>?_)
 subst ep
 obtain⟨rs,c,rk⟩:=oA (P:=X.prog) (w:=X.w) rel
 obtain⟨z,hd,vs0,r0,dd⟩:=DZ I2.hok e
 cases r0
 refine⟨rs,c,dd,λh' dd' hs=>⟨.ref s.heap.objs.size,_,?_,rfl,q2⟩⟩
 have hz:(nK [] kvs).length<=sizeLine:=by
  have h1:=kl kvs []
  rw[List.length_nil] at h1
  rw[Ld];omega
 have he:∃q,h'.get? s.heap.objs.size=some q:=let ⟨q,_,_,hq,_⟩:=dd';⟨q,hq⟩
 exact Dw I2 (by rw[e];exact True.intro) hs he (Fd hz hd (rk.merge .nil) dd')
section
variable {X:Cx}{Γ:Fx}{E:XK}{pos:Pos}
def CQ {k:Str}{i:Int}{j j'}{p p':Pos}:SE X Γ E (.Dict [some (.Constant (.str k) j p)] [.Constant (.int i) j' p'] pos) (cst (.dict [(.str k,.int i)])) [] .v:=by
 refine PE.post' (Dk (zr og nH BP) rfl rfl (by simp) (by simp)) ?_
 rintro σ H Q ⟨env,G,B,β,I,o⟩ p hp
 have o:∀v G' H',SR Γ B G' H' σ (aN [] env) β->ai G G'->gu B H H'->Rp Γ.K G' v (.dict [(.str k,.int i)])->Q v H':=o
 refine⟨aj,[(.inr k,.int i)],rfl,by simp,?_⟩
 rw[C5]
 have xn:=Ext.new I.sub (o:=.dK [((.inr k:Key),V.int i)]) hp
 exact o _ _ _ (I.ext xn) xn.gg (xn.hh.mov B) (.dK (kvs:=[((.inr k:Key),V.int i)]) aj (.cons (.int i) .nil))
end
mutual
def x8:D->Bool
 | .list ds=>wa ds
 | .tuple ds=>wa ds
 | .dict kvs=> !kvs.isEmpty && kvs.all λkv=>match kv.1,kv.2 with
  | .str _,.int _=>true
  |_,_=>false
 |_=>true
def wa:List D->Bool
 | []=>true
 |d :: ds=>x8 d && wa ds
end
section
variable {X:Cx}{pins:List (Addr×Obj)}{σ:St}{H:Hp}{s:Shared}
theorem rT {P:Program}{w:World}{K:Frag}{h:Heap}:∀{kvs:List (Key×V)} {ds:List (D×D)} {vs:List (Key×Value)} {es:List DictEntry},xX K H kvs ds->KV kvs vs->Pairs (cQ P w) es vs->
  (ds.all λkv=>match kv.1,kv.2 with
   | .str _,.int _=>true
   |_,_=>false)=true->ReadsAll h (es.map (·.key)) (ds.map (·.1)) []/\ReadsAll h (es.map (·.val)) (ds.map (·.2)) []
 | [],_,_,_,.nil,kv,ps,_=>by
  cases kv
  cases ps
  exact⟨.nil,.nil⟩
 | (k,x) :: kvs,_,_,_,.cons r rk,kv,ps,hd=>by
  cases kv with
  |cons h1 h2=>
   cases ps with
   |cons q1 q2 q3=>
    rw[Mk,KP] at hd
    obtain⟨i1,i2⟩:=rT (P:=P) (w:=w) (h:=h) rk h2 q3 hd.2
    obtain⟨hd1,_⟩:=hd
    obtain⟨e1,rv⟩:=h1
    cases k with
    |inl i=>cases hd1
    |inr y=>
     rw[<-e1] at q1
     have q1:oH (Sum.inr y) _=true:=q1
     rcases bD q1 with⟨i,t,e,_⟩ | ⟨z,t,e,ek⟩
     ·cases e
     ·cases e
      cases r with
      |int i=>
       obtain⟨t',ev⟩:=rv
       refine⟨?_,?_⟩
       ·show ReadsAll h (_ :: _) (PyData.str y :: _) ([] ++ [])
        dsimp only
        rw[ek]
        exact .cons (.str y t) i1
       ·show ReadsAll h (_ :: _) (int i :: _) ([] ++ [])
        dsimp only
        rw[q2,ev]
        exact .cons (.int i t') i2
      |_=>cases hd1
def Inv.notSys (I:Inv X pins σ H s){a:Addr}{u:HO}(h:Rd H a u):a≠sysModules:=λe=>by
 obtain⟨mm,o,es,ep,ho,_⟩:=I.mod.sys
 have:=(I.bs _ o ho).2
 rw[<-e] at this
 rcases h with h | ⟨_,h⟩ <;> (rw[h] at this;cases this)
mutual
theorem Rp.readsL (I:Inv X pins σ H s):∀{x:V} {d:D} {u:Value},Rp X.K H x d->RelV x u->x8 d=true->∃as,Reads s.heap u d as/\sysModules∉as
 |_,_,_,.non,r,_=>by cases r;exact⟨_,.none,by simp⟩
 |_,_,_,.bl b,r,_=>by cases r;exact⟨_,.bool b,by simp⟩
 |_,_,_,.int i,r,_=>by obtain⟨t,rfl⟩:=r;exact⟨_,.int i t,by simp⟩
 |_,_,_,.str x,r,_=>by obtain⟨t,rfl⟩:=r;exact⟨_,.str x t,by simp⟩
 |_,_,_,.tup h hs,r,n=>by
  cases r
  obtain⟨its,rv,⟨o,ho,hc,k,hd⟩,_⟩:=I.tuple h
  obtain⟨as,q,m⟩:=bH.readsL I hs rv n
  exact⟨_,.tuple ho hc hd (by simpa using q),m⟩
 |_,_,_,.lst (a:=a) h hs,r,n=>by
  cases r
  obtain⟨_,its,k,rv,_,ho⟩:=I.lstR (.inl h)
  obtain⟨as,q,m⟩:=bH.readsL I hs rv n
  refine⟨_,.list ho rfl rfl (by simpa using q),λz=>?_⟩
  rcases KG.mp z with e |z
  ·exact I.notSys (.inl h) e.symm
  ·exact m z
 |_,_,_,.scr h,r,n=>by cases n
 |_,_,_,.dK (a:=a) h hs,r,n=>by
  cases r
  obtain⟨_,hsy,vs,kv,o,es,ep,ho,hex,hdt,_,hp,_⟩:=DZ I.hok h
  obtain⟨q1,q2⟩:=rT (h:=s.heap) hs kv hp (by
   have n:(!_ && _)=true:=n
   rw[KP] at n
   exact n.2)
  refine⟨_,.dict ho hex.1 hdt q1 q2,?_⟩
  have:a≠sysModules:=λz=>by rw[z] at hsy;simp at hsy
  simp only[MM,Lv]
  exact λz=>this z.symm
 |_,_,_,.dT h hs,r,n=>by
  cases hs with
  |nil=>cases n
  |cons _ _=>
   simp[x8] at n
theorem bH.readsL (I:Inv X pins σ H s):∀{xs:List V} {ds:List D} {us:List Value},bH X.K H xs ds->Vals xs us->wa ds=true->∃as,ReadsAll s.heap us ds as/\sysModules∉as
 |_,_,_,.nil,r,_=>by cases r;exact⟨_,.nil,by simp⟩
 |_,_,_,.cons h hs,r,n=>by
  have n:(x8 _ && wa _)=true:=n
  rw[KP] at n
  cases r with
  |cons r1 r2=>
   obtain⟨as,q,m⟩:=Rp.readsL I h r1 n.1
   obtain⟨bs,q',m'⟩:=bH.readsL I hs r2 n.2
   exact⟨_,.cons q q',λz=>(Lk.mp z).elim m m'⟩
end
end
def zi (d:D):Bool:=d.showable && decide (d.depth<=64) && decide (d.shown.length<=sizeLine) && ((zb d && !d.hasDict) || x8 d)
def kF (d:D):Option D:=if zi d=true then some (.str d.shown) else none
def Af (K:Frag):List V->Hp->VK->Prop:=λxs H Q=>∃x d,xs= [x]/\Rp K H x d/\zi d=true/\Q (.str d.shown) H
section
variable {X:Cx}
theorem iY (hg:X.A.guards=some [])(hu:X.A.units + 100 < cLine):cM X (.builtin "repr") (Af X.K):=by
 intro pins s σ H xs us Q I r h
 obtain⟨x,d,rfl,hd,ok,q⟩:=h
 obtain⟨u,rfl,rx⟩:=vals1 r
 unfold zi at ok
 simp only[KP,MO,K7] at ok
 obtain⟨⟨⟨h1,h2⟩,h3⟩,h4⟩:=ok
 have key:∀{a:Addr},u=.ref a->wpAny (model X.prog X.w) X.A (call (.builtin "repr") [u]) (EP X pins σ Q) X.xe s:=λ{a} e=>by
  subst e
  rcases h4 with h4 |h4
  ·obtain⟨as,rd⟩:=(hd.rep h4.1).reads I rx
   exact repr_of_reads' rd h1 (PyData.noDict_hsm (by simpa using h4.2)) hg (by omega) (λb o e=>e) (λh' u tk k=>⟨.str _,H,I.kept (t':=tk) k,⟨u,rfl⟩,q⟩) h3
  ·obtain⟨as,rd,m⟩:=hd.readsL I rx h4
   exact repr_of_reads' rd h1 (λ_=>m) hg (by omega) (λb o e=>e) (λh' u tk k=>⟨.str _,H,I.kept (t':=tk) k,⟨u,rfl⟩,q⟩) h3
 cases hd with
 |non=>cases rx;exact P.repr_of_none ⟨.str _,H,I.tok _,⟨_,rfl⟩,q⟩
 |bl b=>cases rx;exact P.repr_of_bool ⟨.str _,H,I.tok _,⟨_,rfl⟩,q⟩
 |int i=>obtain⟨t,rfl⟩:=rx;exact P.repr_of_int (by simpa[PyData.showable] using h1) ⟨.str _,H,I.tok _,⟨_,rfl⟩,q⟩
 |str y=>obtain⟨t,rfl⟩:=rx;exact P.repr_of_str ⟨.str _,H,I.tok _,⟨_,rfl⟩,q⟩ h3
 |tup _ _=>cases rx;exact key rfl
 |lst _ _=>cases rx;exact key rfl
 |scr _=>cases rx;exact key rfl
 |dK _ _=>cases rx;exact key rfl
 |dT _ _=>cases rx;exact key rfl
end
def nc {K:Frag}:zT K (λx=>Af K [x]) kF .v:=by
 intro B G H x dx d Q s hB bx e k
 unfold kF at e
 split at e
 ·rename_i hh
  cases e
  exact⟨x,dx,rfl,bx.rpH s,hh,k _ G H (Ext.refl s) (.str _)⟩
 ·cases e
section
variable {prog:Program}{w:World}{A:Around}{E:Value->Shared->Prop}{s:Shared}{it t:Addr}{i:Nat}{xs:Array Value}{Q:Value->Shared->Prop}
theorem I0 (hi:s.heap.IsTupleIter it t i)(ht:s.heap.IsTuple t xs)
  (k1:∀x,xs[i]? =some x->∀h',h'.IsTupleIter it t (i + 1)->Heap.SameBut it s.heap h'->Q x {s with heap:=h'})
  (k2:xs[i]? =none->A.handled=none/\∀h' e,Heap.ExtBut it s.heap h'->(∃o,h'.get? e=some o/\o.cls=.type "StopIteration")->E (.ref e) {s with heap:=h'}) :
  wpAny (model prog w) A (Builtin.SmallTypes.nextOf (.ref it)) Q E s:=by
 obtain⟨o,ho,hc,hd⟩:=id hi
 obtain⟨ol,hol, -,nl,hdl⟩:=ht
 refine KA (wpAny_callSpecial?_slot (name:=Str.ofString "__next__") hi.typeIs F.slot_tuple_iterator_next (wpAny_call_entry F.slot_tuple_iterator_next hi.typeIs F.entry_tuple_iterator_next ?_ (F.args_tuple_iterator_next_1 _)))
 refine (show wpAny _ _ (field (.ref it) 0 >>= _) _ _ s from KA (LY ho hd (x:=.ref t) rfl ?_))
 refine (show wpAny _ _ (if (Value.ref t == Value.none)=true then _ else _) _ _ s from ?_)
 rw[KZ (by exact K2)]
 refine (show wpAny _ _ (field (.ref it) 1 >>= _) _ _ s from KA (LY ho hd (x:=.int i 0) rfl ?_))
 refine (show wpAny _ _ (seqItems? (.ref t) >>= _) _ _ s from KA (wpAny_seqItems hol hdl ?_))
 cases hx:xs[i]? with
 |some x=>
  simp only[Lp,hx]
  refine KA (MS ho hd (by simp) (K3 ⟨x,rfl,K3 (k1 x hx _ ?_ (Heap.SameBut.update ..))⟩))
  refine⟨_,LN _ ho (Obj.isFreed_of_fields (MQ hd _)),(Obj.cls_mapFields ..).trans hc,?_⟩
  rw[MQ hd]
  simp[rawInt]
 |none=>
  obtain⟨hh,hE⟩:=k2 hx
  simp only[Lp,hx]
  refine KA (wpAny_rule (KA (MS ho hd (by simp) (show wpAny _ _ (newExc (.type "StopIteration") [] >>= _) _ _ _ from KA ?_))))
  simp only[newExc,newTuple]
  refine KA (MT (KA (m:=firstArgMember _ _) (wpAny_of_eq (a:=Value.none) (by first |rfl | (simp only[firstArgMember];rfl)) (MT ?_ (by size_fits)))) (by size_fits))
  simp only[raiseNew]
  refine KA (wpAny_handled ?_)
  have hh':A.in1.handled=none:=hh
  first |rw[hh'] |rw[hh]
  exact KA (K3 (wpAny_throw (hE _ _ (((Heap.SameBut.update ..).extBut.push _).push _) ⟨_,K0 _ rfl,rfl⟩)))
def Es (hh:A.handled=none)(hne:t≠it)(xs:Array Value):Draws prog w A it [it,t] xs.size (λi v=>xs[i]? =some v) (λi h=>h.IsTupleIter it t i/\h.IsTuple t xs) where
 live:=λ_ _ st=>let ⟨o,ho,_⟩:=st.1;⟨o,ho⟩
 frame:=λ_ _ _ st hk=>⟨st.1.at λo e=>hk it (by simp) o e,st.2.at λo e=>hk t (by simp) o e⟩
 item:=λi s Q E hi st k=>I0 st.1 st.2 (λx hx h' q1 q2=>k x h' s.toks hx ⟨q1,st.2.extBut q2.extBut hne⟩ q2) λz=>by simp at z;omega
 done:=λs Q E st k=>I0 st.1 st.2 (λx hx=>by simp at hx) λ_=>⟨hh,k⟩
end
abbrev Ft (t:Addr):Obj:={cls:=.type "tuple_iterator",data:=.fields #[.ref t,.int 0 0]}
abbrev IH (it:Addr):Obj:={cls:=.type "enumerate",data:=.fields #[.none,.bool false,.ref it,rawInt 0,.none,.none]}
def Ax (t:Addr)(xs:Array Value)(n:Nat)(dc:Option Addr)(sl:Array (Option Value)) :
  Meets (Builtin.«enumerate.__new__» ⟨[.type "enumerate",.ref t],[]⟩) (λ_ R s=>s.heap.get? t=some ⟨.type "tuple",dc,.seq xs n,sl⟩/\
   R (.ok (.ret (.ref (s.heap.push (Ft t)).objs.size))) {s with heap:=(s.heap.push (Ft t)).push (IH s.heap.objs.size)}):=by
 refine .of_wp λprog w A R s h=>?_
 obtain⟨hp,g,d,tk,os⟩:=s
 obtain⟨hl,h⟩:=h
 have sb:=sub_enumerate
 have hT:Heap.IsTuple (Shared.heap ⟨hp,g,d,tk,os⟩) t xs:=⟨_,hl,rfl,n,rfl⟩
 wp_walk using MR hl
 refine wpAny_stack_any λst=>K3 ?_
 split
 ·rename_i c _ _ _ _ _
  cases (c == Value.type "enumerate") <;> (wp_walk using MR hl,MB hT;exact⟨_,rfl,h⟩)
 ·wp_walk using MR hl,MB hT
  exact⟨_,rfl,h⟩
section
variable {prog:Program}{w:World}{A:Around}{E:Value->Shared->Prop}{s:Shared}
def vp {t:Addr}{xs:Array Value}{Q:Value->Shared->Prop}(hT:s.heap.IsTuple t xs)
  (k:∀h',IsEnum h' (s.heap.objs.size + 1) s.heap.objs.size 0 .none->h'.IsTupleIter s.heap.objs.size t 0->(∀b o,s.heap.get? b=some o->h'.get? b=some o)->Q (.ref (s.heap.objs.size + 1)) {s with heap:=h'}) :
  wpAny (model prog w) A (call (.type "enumerate") [.ref t]) Q E s:=by
 obtain⟨⟨c,dc,dt,sl⟩,hl,hc,n,hd⟩:=hT
 have hc:c=.type "tuple":=hc
 have hd:dt=.seq xs n:=hd
 subst hc hd
 refine callType_new F.called_enumerate (by decide) (F.typeCall_enumerate_1 _) (F.newCall_enumerate_1 _) (λob=>F.args_object_init_2 ob _) F.entry_enumerate_new (Ax t xs n dc sl) ⟨hl,?_⟩
 have hz:(s.heap.push (Ft t)).objs.size=s.heap.objs.size + 1:=Mr ..
 have g2:((s.heap.push (Ft t)).push (IH s.heap.objs.size)).get? (s.heap.push (Ft t)).objs.size=some (IH s.heap.objs.size):=K0 _ rfl
 have g1:((s.heap.push (Ft t)).push (IH s.heap.objs.size)).get? s.heap.objs.size=some (Ft t):=KC _ (K0 _ rfl)
 rw[hz] at g2
 show _/\_
 rw[hz]
 exact⟨⟨_,g2,rfl⟩,k _ g2 ⟨_,g1,rfl,rfl⟩ λb o e=>KC _ (KC _ e)⟩
end
def FU {prog:Program}{w:World}{A:Around}{it t:Addr}{xs:Array Value}(hh:A.handled=none)(i:Nat)(hx:xs[i]? =none):Draws prog w A it [it,t] i (λ_ _=>False) (λj h=>j=i/\h.IsTupleIter it t i/\h.IsTuple t xs) where
 live:=λ_ _ st=>let ⟨o,ho,_⟩:=st.2.1;⟨o,ho⟩
 frame:=λ_ _ _ st hk=>⟨st.1,st.2.1.at λo e=>hk it (by simp) o e,st.2.2.at λo e=>hk t (by simp) o e⟩
 item:=λj s Q E hi st k=>absurd st.1 (by omega)
 done:=λs Q E st k=>I0 st.2.1 st.2.2 (λx h=>by rw[hx] at h;cases h) λ_=>⟨hh,k⟩
def IX (K:Frag)(a:Addr):It:=
 ⟨λi H=>∃xs x,fw K H a xs/\xs[i]? =some x,
  λi H v H'=>∃x t,H t=none/\(∀xs,fw K H a xs->xs[i]? =some x)/\v=.ref t/\H'=upd H t (.tup [.int i,x]),
  λi H=>∃xs,fw K H a xs/\xs.length<=i⟩
abbrev qh (n:Nat):List Nat:=[n + 1,n]
def yK {h:Heap}{a n:Addr}{i:Nat}{its:Array Value}{b:Addr}(p:h.IsTuple a its)(q:h.IsTupleIter n b i):a≠n:=λz=>by
 subst z
 obtain⟨o,e,c,_⟩:=p
 obtain⟨o',e',c',_⟩:=q
 rw[e] at e';cases e'
 rw[c] at c'
 simp at c'
def yp {h:Heap}{a n it:Addr}{i:Int}{its:Array Value}{old:Value}(p:h.IsTuple a its)(q:IsEnum h n it i old):n≠a:=λz=>by
 subst z
 obtain⟨o,e,c,_⟩:=p
 rw[q] at e;cases e
 simp at c
def vS {P:Program}{w:World}{K:Frag}{elts:List Expr}{x1}{pos:Pos}(a:Addr)(n:Nat):Turn P w K (.Tuple elts x1 pos) (IX K a) (qh n) (n + 1)
  (λi h=>(∃old,IsEnum h (n + 1) n i old)/\h.IsTupleIter n a i) where
 mem:=by simp
 obj:=λi h st c hc=>by
  obtain⟨⟨old,z1⟩,⟨o2,z2,_,d2⟩⟩:=st
  simp only[qh,KG,K5,LF] at hc
  rcases hc with rfl |rfl
  ·exact⟨_,z1,λv z=>by
    have z':Data.fields _=Data.cell v:=z
    cases z'⟩
  ·exact⟨o2,z2,λv z=>by rw[d2] at z;cases z⟩
 keep:=λi h h' st k=>by
  obtain⟨⟨old,z1⟩,z2⟩:=st
  exact⟨⟨old,k _ (by simp) _ z1⟩,z2.at λo e=>k _ (by simp) o e⟩
 item:=by
  intro X hP hw hK hc i pins s σ H E I hf st hg
  subst hP hw hK
  obtain⟨xs,x,ha,hx⟩:=hg
  obtain⟨its,rv,p,hz⟩:=I.tuple ha
  have p:s.heap.IsTuple a its.toArray:=p
  obtain⟨u0,hu0,ru0⟩:=rv.get hx
  obtain⟨⟨old,z1⟩,z2⟩:=st
  have hh:X.A.in1.handled=none:=I.ok.hd hc
  have hlt:i < its.toArray.size:=by
   have:=KN.mp hu0
   simpa using this.1
  refine wpAny_pyNext_enum_itemD (Es hh (yK p z2) its.toArray) z1 ⟨z2,p⟩ hlt (uq 1 0 rfl) (by
   simp only[KG,K5,LF,not_or]
   exact⟨uq 1 0 rfl,yp p z1⟩) λu h' tk hu q1 q2 q3 q4 q5=>?_
  have eu:u0=u:=by
   have hu:its.toArray[i]? =some u:=hu
   rw[List.getElem?_toArray,hu0] at hu
   exact Option.some.inj hu
  subst eu
  refine⟨_,rfl,wpAny_letOwnedTupleGo_enum (s:={s with heap:=h',toks:=tk + 1}) q1 λh2 r1 r2=>?_⟩
  have r2:∀c,c≠n + 1->h2.get? c=h'.get? c:=r2.2
  have lz:n + 1 < s.heap.objs.size:=KJ z1
  have hT:H s.heap.objs.size=none:=I.hok.fresh (KI _)
  have I1:Inv X pins σ (upd H s.heap.objs.size (.tup [.int i,x])) {s with heap:=s.heap.push {cls:=.type "tuple",data:=.seq #[.int i tk,u0]},toks:=s.toks}:=
   I.laid (λb o e=>KC _ e) (KI _) ⟨by show 2<=sizeLine;rw[Ld];omega,[.int i tk,u0],.cons ⟨tk,rfl⟩ (.cons ru0 .nil),qq.new _ _⟩
  have hf':∀c∈qh n,kN X pins (upd H s.heap.objs.size (.tup [.int i,x])) c:=λc hc=>⟨by
   rw[ao (λz=>?_)]
   ·exact (hf c hc).1
   ·subst z
    simp only[qh,KG,K5,LF] at hc
    omega,(hf c hc).2⟩
  have I2:Inv X pins σ (upd H s.heap.objs.size (.tup [.int i,x])) {s with heap:=h2,toks:=tk + 1}:=by
   refine I1.turnedL (ch:=qh n) (λc o hc e=>?_) hf'
   have e:(s.heap.push {cls:=.type "tuple",data:=.seq #[.int i tk,u0]}).get? c=some o:=e
   simp only[qh,KG,K5,LF,not_or] at hc
   rw[r2 c hc.1]
   by_cases z:c=s.heap.objs.size
   ·subst z
    rw[K0 _ rfl] at e
    rw[<-e];exact q3
   ·refine q5 c o hc.1 hc.2 ?_
    rw[Heap.get?_push_ne _ _ _ z] at e
    exact e
  refine⟨.ref s.heap.objs.size,_,I2,rfl,⟨x,_,hT,λxs' h'=>?_,rfl,rfl⟩,⟨⟨u0,r1⟩,q2.1.at λo e=>(r2 _ (uq 0 1 rfl)).trans e⟩,λc hc=>(hf' c hc).1⟩
  rw[I.tuple_inj h' ha];exact hx
 done:=by
  intro X hP hw hK hc i pins s σ H E I hf st hg
  subst hP hw hK
  obtain⟨xs,ha,hl⟩:=hg
  obtain⟨its,rv,p,hz⟩:=I.tuple ha
  obtain⟨⟨old,z1⟩,z2⟩:=st
  have hh:X.A.in1.handled=none:=I.ok.hd hc
  have l1:=rv.length
  refine wpAny_pyNext_enum_endD (FU hh i (xs:=its.toArray) (by simp;omega)) z1 ⟨rfl,z2,p⟩ λh' q=>⟨rfl,?_⟩
  refine I.turnedL (t':=s.toks) (ch:=qh n) (λc o hc e=>?_) hf
  simp only[qh,KG,K5,LF,not_or] at hc
  exact q c o hc.2 e
 self:=λ_ _ _ _ _ st h=>by
  obtain⟨⟨old,z1⟩,_⟩:=st
  exact MV z1 h
def yX:bootBuiltins "enumerate"=some (.type "enumerate"):=by decide +kernel
section
variable {X:Cx}{Γ:Fx}{E:XK}{e a b c:Expr}{f fa fb:VF D}{L La Lb:List Nat}{md ma mb:Md}{pos:Pos}
def gx (ds:List D):List D:=ds.mapIdx λi d=>.tuple [.int i,d]
def Av {K:Frag}{B:Option Addr}{G H1:Hp}{p:Addr}{xs:List V}{ds:List D}(hp:fw K G p xs)(r:bH K G xs ds):Walk K B G H1 (gx ds) (IX K p):=λGc H i s1 s2 m=>by
 have hp':=hp.grow (s1.trans s2).grow
 have l1:=r.len
 have lz:(gx ds).length=ds.length:=by unfold gx;rw[List.length_mapIdx]
 refine⟨λhi=>⟨?_,λx H' y=>?_⟩,λhi=>⟨xs,hp',by omega⟩⟩
 ·have h1:i < xs.length:=by omega
  exact⟨xs,xs[i],hp',by simp[h1]⟩
 ·obtain⟨x,t,ht,hx,rfl,rfl⟩:=y
  obtain⟨d,ed,rd⟩:=r.at' (hx xs hp')
  have xn:=Ext.new s2 (o:=.tup [.int i,x]) ht
  refine⟨upd Gc t (.tup [.int i,x]),.tuple [.int i,d],xn,?_,.tup (.inl (.inl aj)) (.cons (.int i) (.cons (rd.mono (s1.trans xn.gg)) .nil))⟩
  unfold gx
  rw[List.getElem?_mapIdx,ed];rfl
end
def isStar:Expr->Bool
 | .Starred _ _=>true
 |_=>false
def yP {a:Expr}{es:List Expr}{env:Env}(h:isStar a=false):starEach (a :: es) env=(false,eval a env) :: starEach es env:=by
 cases a <;> first |rfl |cases h
def Ey (sc:Scope)(x:Str):Bool:=match sc.names.lookup x with
 |some .local=>true
 |some .cell=>true
 |some .free=>true
 |_=>false
def CH {sc:Scope}{x:Str}(h:Ey sc x=true):vP sc x:=by
 unfold Ey at h
 unfold vP
 split at h
 ·exact .inl (by assumption)
 ·exact .inr (.inl (by assumption))
 ·exact .inr (.inr (by assumption))
 ·cases h
def vm (N:List Str)(sc:Scope):List (Str×Nat)->Bool
 | []=>true
 | (x,i) :: r=>decide (N[i]? =some x) && (Ey sc x && ((!(x == ("__debug__":Str))) && ((!(x == ("__classdict__":Str))) && vm N sc r)))
theorem wZ {N:List Str}{sc:Scope}:∀{l:List (Str×Nat)} {x:Str} {i:Nat},vm N sc l=true->l.lookup x=some i->N[i]? =some x/\vP sc x/\(x == ("__debug__":Str))=false/\(x == ("__classdict__":Str))=false
 | [],_,_,_,h=>by cases h
 | (y,j) :: r,x,i,h,e=>by
  simp only[vm,KP,K7,Mo] at h
  obtain⟨h1,h2,h3,h4,h5⟩:=h
  rw[Mv] at e
  split at e
  ·rename_i q
   have q:x=y:=by simpa using q
   subst q
   cases e
   exact⟨h1,CH h2,h3,h4⟩
  ·exact wZ h5 e
def yI:Expr->Option Int
 | .Constant (.int i) _ _=>some i
 |_=>none
theorem ng {e:Expr}{i:Int}(h:yI e=some i):∃j p,e=.Constant (.int i) j p:=by
 cases e with
 |Constant c j p=>cases c <;> first | (cases h;exact⟨_,_,rfl⟩) |cases h
 |_=>cases h
def IP (op:UnaryOp)(e:Expr):Option Int:=match op with
 | .USub=>yI e
 |_=>none
def Ec:Operator->Bool
 | .Pow=>true
 |_=>false
def zZ {o:Operator}(h:Ec o=true):o=.Pow:=by cases o <;> first |rfl |cases h
def FX (ks:List (Option Expr))(vs:List Expr):Option (Str×Int):=match ks,vs with
 | [some (.Constant (.str k) _ _)],[v]=>(yI v).map λi=>(k,i)
 |_,_=>none
def Cn {ks:List (Option Expr)}{vs:List Expr}{r:Str×Int}(h:FX ks vs=some r):∃j p j' p',ks= [some (.Constant (.str r.1) j p)]/\vs= [.Constant (.int r.2) j' p']:=by
 unfold FX at h
 split at h
 ·rename_i k j p v
  cases q:yI v with
  |none=>rw[q] at h;cases h
  |some i=>
   rw[q] at h
   cases h
   obtain⟨j',p',rfl⟩:=ng q
   exact⟨_,_,_,_,rfl,rfl⟩
 ·cases h
def Jw:Const->Option D
 | .int i=>some (.int i)
 | .bool b=>some (.bool b)
 | .none=>some .none
 | .str x=>some (.str x)
 |_=>none
mutual
def rD (nm:List (Str×Nat)):Expr->Option (VF D×List Nat)
 | .Name x _=>(nm.lookup x).map λi=>(gv i,[i])
 | .Constant c _ _=>(Jw c).map λd=>(cst d,[])
 | .UnaryOp op a _=>(IP op a).map λi=>(cst (.int (-i)),[])
 | .BinOp a o b _=>if Ec o=true then (yI a).bind λi=>(yI b).map λj=>(f2 (cst (.int i)) (cst (.int j)) Bz,[]) else none
 | .Dict ks vs _=>(FX ks vs).map λr=>(cst (.dict [(.str r.1,.int r.2)]),[])
 | .Tuple es _ _=>(DE nm es).map λr=>(bL r.1,r.2)
 | .List es _=>(DE nm es).map λr=>(bB r.1,r.2)
 | .BoolOp ..=>none
 | .NamedExpr ..=>none
 | .Lambda ..=>none
 | .IfExp ..=>none
 | .Set ..=>none
 | .ListComp ..=>none
 | .SetComp ..=>none
 | .DictComp ..=>none
 | .GeneratorExp ..=>none
 | .Await ..=>none
 | .Yield ..=>none
 | .YieldFrom ..=>none
 | .Compare ..=>none
 | .Call ..=>none
 | .FormattedValue ..=>none
 | .JoinedStr ..=>none
 | .Attribute ..=>none
 | .Subscript ..=>none
 | .Starred ..=>none
 | .Slice ..=>none
def DE (nm:List (Str×Nat)):List Expr->Option (VF (List D)×List Nat)
 | []=>some (ag,[])
 |e :: es=>(rD nm e).bind λr=>(DE nm es).map λq=>(aa r.1 q.1,r.2 ++ q.2)
end
section
variable {X:Cx}{Γ:Fx}{E:XK}{nm:List (Str×Nat)}
theorem ju {α β:Type}{o:Option α}{f:α->β}{b:β}(h:o.map f=some b):∃a,o=some a/\f a=b:=by
 cases o with
 |none=>cases h
 |some a=>exact⟨a,rfl,Option.some.inj h⟩
theorem wq {α β:Type}{o:Option α}{f:α->Option β}{b:β}(h:o.bind f=some b):∃a,o=some a/\f a=some b:=by
 cases o with
 |none=>cases h
 |some a=>exact⟨a,rfl,h⟩
mutual
theorem GD (hc:vm X.N X.env.scope nm=true)(hb:∀i,Γ.br i=false):∀{e:Expr} {f:VF D} {L:List Nat},rD nm e=some (f,L)->SE X Γ E e f L .v/\isStar e=false
 | .Name x p,f,L,h=>by
  rw[rD] at h
  obtain⟨i,q,e⟩:=ju h
  cases e
  obtain⟨h1,h2,h3,h4⟩:=wZ hc q
  exact⟨ax i (hb i) h1 h2 h3 h4,rfl⟩
 | .Constant c j p,f,L,h=>by
  rw[rD] at h
  obtain⟨d,q,e⟩:=ju h
  cases e
  cases c <;> first | (cases q;first |exact⟨ar,rfl⟩ |exact⟨fF,rfl⟩ |exact⟨vW,rfl⟩ |exact⟨js,rfl⟩) |cases q
 | .UnaryOp op a p,f,L,h=>by
  rw[rD] at h
  obtain⟨i,q,e⟩:=ju h
  cases e
  cases op <;> first | (cases q;done) |skip
  obtain⟨j,p,rfl⟩:=ng q
  exact⟨HJ Fh Hb ar,rfl⟩
 | .BinOp a op b p,f,L,h=>by
  rw[rD] at h
  split at h
  ·rename_i ho
   obtain rfl:=zZ ho
   obtain⟨i,q,h⟩:=wq h
   obtain⟨j,q2,e⟩:=ju h
   cases e
   obtain⟨j1,p1,rfl⟩:=ng q
   obtain⟨j2,p2,rfl⟩:=ng q2
   exact⟨bY Gb Hl ar ar,rfl⟩
  ·cases h
 | .Dict ks vs p,f,L,h=>by
  rw[rD] at h
  obtain⟨r,q,e⟩:=ju h
  cases e
  obtain⟨_,_,_,_,rfl,rfl⟩:=Cn q
  exact⟨CQ,rfl⟩
 | .Tuple es c p,f,L,h=>by
  rw[rD] at h
  obtain⟨r,q,e⟩:=ju h
  cases e
  exact⟨gf (qk hc hb q),rfl⟩
 | .List es p,f,L,h=>by
  rw[rD] at h
  obtain⟨r,q,e⟩:=ju h
  cases e
  exact⟨SE.wv (cn (qk hc hb q)),rfl⟩
 | .BoolOp ..,_,_,h=>by rw[rD] at h;cases h
 | .NamedExpr ..,_,_,h=>by rw[rD] at h;cases h
 | .Lambda ..,_,_,h=>by rw[rD] at h;cases h
 | .IfExp ..,_,_,h=>by rw[rD] at h;cases h
 | .Set ..,_,_,h=>by rw[rD] at h;cases h
 | .ListComp ..,_,_,h=>by rw[rD] at h;cases h
 | .SetComp ..,_,_,h=>by rw[rD] at h;cases h
 | .DictComp ..,_,_,h=>by rw[rD] at h;cases h
 | .GeneratorExp ..,_,_,h=>by rw[rD] at h;cases h
 | .Await ..,_,_,h=>by rw[rD] at h;cases h
 | .Yield ..,_,_,h=>by rw[rD] at h;cases h
 | .YieldFrom ..,_,_,h=>by rw[rD] at h;cases h
 | .Compare ..,_,_,h=>by rw[rD] at h;cases h
 | .Call ..,_,_,h=>by rw[rD] at h;cases h
 | .FormattedValue ..,_,_,h=>by rw[rD] at h;cases h
 | .JoinedStr ..,_,_,h=>by rw[rD] at h;cases h
 | .Attribute ..,_,_,h=>by rw[rD] at h;cases h
 | .Subscript ..,_,_,h=>by rw[rD] at h;cases h
 | .Starred ..,_,_,h=>by rw[rD] at h;cases h
 | .Slice ..,_,_,h=>by rw[rD] at h;cases h
theorem qk (hc:vm X.N X.env.scope nm=true)(hb:∀i,Γ.br i=false):∀{es:List Expr} {f:VF (List D)} {L:List Nat},DE nm es=some (f,L)->SA X Γ E es f L
 | [],f,L,h=>by rw[DE] at h;cases h;exact aq
 |e :: es,f,L,h=>by
  rw[DE] at h
  obtain⟨r,q,h⟩:=wq h
  obtain⟨r2,q2,e⟩:=ju h
  cases e
  obtain⟨a,b⟩:=GD hc hb q
  exact ae a (qk hc hb q2) (yP b)
end
def Cy {es:List Expr}{p:Pos}{t:Option Expr}{l:Nat}{env:Env}:swapsWith (.List es p) t l env=pure false:=rfl
def DN {es:List Expr}{f:VF (List D)}{L:List Nat}{pos:Pos}(nm:List (Str×Nat))(hc:vm X.N X.env.scope nm=true)(hb:∀i,Γ.br i=false)(h:DE nm es=some (f,L)):SE X Γ E (.List es pos) (bB f) L .w:=cn (qk hc hb h)
def Hs {i:Nat}{x:Str}{es:List Expr}{f:VF (List D)}{L:List Nat}{pos' p pos:Pos}(nm:List (Str×Nat))(hc:vm X.N X.env.scope nm=true)(hb:∀i,Γ.br i=false)(h:DE nm es=some (f,L))(hN:X.N.Nodup)(hi:X.N[i]? =some x)(hx:Loc X.env.scope x)(hf:X.fn x=true\/X.env.scope.names.lookup x=some .local) :
  SS X Γ E (.Assign [.Name x pos'] (.List es p) pos) (dk i L (bB f)):=cv (SE.wv (DN nm hc hb h)) hN hi hx Cy hf
end
end L2
namespace L2.ST
open PySem PySem.SetTable
section
variable {prog:Program}{w:World}{A:Around}{E:Value->Shared->Prop}{s:Shared}
set_option maxHeartbeats 3200000 in
theorem o4 {l:Addr}{vs:List Value}{ns:List Int}{T:String}{itO:Obj}{St:Addr->Nat->Heap->Prop}{Q:Value->Shared->Prop}(X:Src prog w s.heap l vs T itO St)(hh:A.handled=none)(hi:PyProof.Rows.IntsAre vs ns)(hb:vs.length + 1 < scanBound)
  (h:∀(h':Heap) (tk:Nat),h'.SetOf (intKind prog w) s.heap.objs.size (λk'=>(PyProof.Rows.firstMet (λi=>ns.getD i 0) vs.length).any (· == k')) (PyProof.Rows.firstMet (λi=>ns.getD i 0) vs.length).length->(∀b o,s.heap.get? b=some o->h'.get? b=some o)->Q (.ref s.heap.objs.size) {s with heap:=h',toks:=tk}) :
  wpAny (model prog w) A (call (.type "set") [.ref l]) Q E s:=by
 obtain⟨c0,tl0,hmro0⟩:=Mw.mro
 have hmade0:=Mw.made
 have hsub0:=Mw.sub
 refine wpAny_call (codeAny_of_tree ?_)
 show wpAny _ _ (callAny (.type "set") ⟨[.ref l],[]⟩) _ _ _
 refine K3 ⟨Code.quiet_builtin _ (by decide +kernel),codeAny_builtin F.entry_type_call ?_⟩
 (rw[Around.under_plain (weight_type_call_type "set" [.ref l] []) rfl])
 have g1:=Mw.notType
 have g2:=Mw.canCreate
 have g3:=F.typeCall_set_1 (.ref l)
 repeat (any_goals (first |assumption |wp_step))
 refine MF (tH (.ref l) (E:=E) (Q1:=λobj s1=>obj=.ref s.heap.objs.size/\s1={s with heap:=s.heap.push {cls:=.type "set",dict:=none,data:=.set #[] 0 (.fresh 0 0 (si w))}}) ⟨rfl,rfl⟩) λr s1 hr=>?_
 cases r with
 |error e=>exact hr
 |ok fl=>
  cases fl with
  |ret obj=>
   obtain⟨rfl,rfl⟩:=hr
   generalize hO:({cls:=.type "set",dict:=none,data:=.set #[] 0 (.fresh 0 0 (si w))}:Obj)=O
   have hS0:(s.heap.push O).get? s.heap.objs.size=some O:=K0 _ (by rw[<-hO];rfl)
   have hT0:Shared.TypeIs {s with heap:=s.heap.push O} (.ref s.heap.objs.size) "set":=⟨_,hS0,by rw[<-hO]⟩
   have g4:=Mw.init.lookup
   have g5:=Mw.init.bind (.ref s.heap.objs.size)
   repeat (any_goals (first |assumption |wp_step))
   refine MF (codeAny_call_builtin (R:=wants (λr s2=>r=.none/\∃h' tk,s2={s with heap:=h',toks:=tk}/\h'.SetOf (intKind prog w) s.heap.objs.size (λk'=>(PyProof.Rows.firstMet (λi=>ns.getD i 0) vs.length).any (· == k')) (PyProof.Rows.firstMet (λi=>ns.getD i 0) vs.length).length/\(∀b o,s.heap.get? b=some o->h'.get? b=some o)) E)
    Mw.init.plain F.entry_set_init (check_set_init_1 hT0 ?_)) λr2 s2 hr2=>?_
   ·obtain⟨ol,hol,hcl⟩:=X.ty
    have hol':(s.heap.push O).get? l=some ol:=KC _ hol
    have e1:=X.ns
    have e2:=X.nf
    have e3:=X.nd
    have hTl:Shared.TypeIs {s with heap:=s.heap.push O} (.ref l) T:=⟨ol,hol',hcl⟩
    have hdat:O.data=.set #[] 0 (.fresh 0 0 (si w)):=by rw[<-hO]
    (unfold Builtin.«set.__init__» noKeywords Builtin.Frozenset.updateFrom)
    subst hO
    obtain⟨oc,od,odt,osl⟩:=ol
    simp only at hcl
    subst hcl
    (generalize hPI0:pyIter=PI0)
    wp_walk
    subst hPI0
    have kp:∀b o,s.heap.get? b=some o->(s.heap.push {cls:=.type "set",dict:=none,data:=.set #[] 0 (.fresh 0 0 (si w))}).get? b=some o:=λb o e=>KC _ e
    refine X.it _ _ _ _ kp ?_
    refine KA (wpAny_runValue ?_)
    have hlS:l < s.heap.objs.size:=KJ hol
    have hh3:A.in1.in1.in1.handled=none:=by simp[hh]
    have hneI:l≠(s.heap.push {cls:=.type "set",dict:=none,data:=.set #[] 0 (.fresh 0 0 (si w))}).objs.size:=by
     rw[Mr];exact Lf (Mp hlS)
    have hSf:s.heap.objs.size∉ [(s.heap.push {cls:=.type "set",dict:=none,data:=.set #[] 0 (.fresh 0 0 (si w))}).objs.size,l]:=by
     rw[Mr]
     intro z
     rcases KG.mp z with e |z
     ·exact absurd e (Lf (Nat.lt_succ_self _))
     ·exact absurd (Lv.mp z) (L7 hlS)
    refine PyProof.Rows.codeAny_set_update_loopS ((X.wk _ _ hh3 hneI).toS) s.heap.objs.size hSf (λi=>ns.getD i 0) (λi v e=>PyProof.Rows.IntsAre.int_at hi i v e) hb (vs.length - 0) 0 _ (by omega) (LC _) (X.st _ kp) ?_ ?_
    ·exact PyProof.Rows.SetOf_congr ((PyProof.Rows.setObjOf_fresh (knd:=intKind prog w) (si w)).setOf (KC _ hS0) (by unfold scanBound;omega)) (λ_=>rfl) rfl
    ·intro s' hm F'
     obtain⟨h',g',d',tk,os'⟩:=s'
     have eg:g'=s.gens:=hm.gens
     have ed:d'=s.drawn:=hm.drawn
     have eo:os'=s.os:=hm.os
     subst eg;subst ed;subst eo
     show wpAny _ _ _ _ _ _
     refine K3 ?_
     show wpAny _ _ (ret Value.none) _ _ _
     refine K3 ⟨rfl,h',tk,rfl,F',λb o e=>hm.heap b o (λz=>?_) (KC _ (kp b o e))⟩
     have hlt:=KJ e
     rw[Mr] at z
     rcases KG.mp z with z |z
     ·exact absurd hlt (by rw[z];exact LL _)
     ·rw[Lv.mp z] at hlt
      exact absurd hlt (Nat.not_lt.mpr (Nat.le_succ _))
   ·cases r2 with
    |error e=>exact hr2
    |ok fl2=>
     cases fl2 with
     |ret r=>
      obtain⟨rfl,h',tk,rfl,hF,hk⟩:=hr2
      repeat (any_goals (first |assumption |wp_step))
      exact h _ _ hF hk
     |_=>exact hr2.elim
  |_=>exact hr.elim
end
end L2.ST
namespace L2
open PySem PyProof.Rows
section
variable {X:Cx}{K:Frag}{pins:List V}{σ:St}{H:Hp}{s:Shared}{E:XK}
def HK (ns:List Int)(k:Int):Bool:=(firstMet (λi=>ns.getD i 0) ns.length).any (· == k)
def o7 (ns:List Int):Nat:=(firstMet (λi=>ns.getD i 0) ns.length).length
def DS (K:Frag):List V->Hp->VK->Prop:=λxs H Q=>∃a ns,xs= [.ref a]/\(fx K H a (ns.map V.int)\/fw K H a (ns.map V.int))/\ns.length<=1000/\∀S,H S=none->Q (.ref S) (upd H S (.set (HK ns) (o7 ns)))
def xW (hc:X.calm=true):cM X (.type "set") (DS X.K):=by
 intro pins s σ H xs us Q I r h
 obtain⟨a,ns,rfl,hq,hz,q⟩:=h
 obtain⟨u,rfl,rx⟩:=vals1 r
 cases rx
 have hh:=I.ok.hd hc
 have core:∀{its:List Value} {T:String} {itO:Obj} {St:Addr->Nat->Heap->Prop},Vals (ns.map V.int) its->L2.ST.Src X.prog X.w s.heap a its T itO St->wpAny (model X.prog X.w) X.A (call (.type "set") [.ref a]) (EP X pins σ Q) X.xe s:=λ{its T itO St} rv src=>by
  have hl:its.length=ns.length:=by rw[<-rv.length,KD]
  refine L2.ST.o4 src hh (intsAre_of rv) (by unfold scanBound;omega) λh' tk F k=>?_
  rw[hl] at F
  exact⟨.ref _,_,I.laid (t':=tk) (o:=.set (HK ns) (o7 ns)) k (KI _) F,rfl,q _ (I.hok.fresh (KI _))⟩
 rcases hq with hq |hq
 ·obtain⟨its,rv,pl,hz⟩:=I.list hq
  exact core rv (L2.ST.Src.list pl.isList)
 ·obtain⟨its,rv,pl,hz⟩:=I.tuple hq
  exact core rv (L2.ST.Src.tuple pl)
def yh:cM X (.builtin "len") (λxs H Q=>∃S f n,xs= [.ref S]/\H S=some (.set f n)/\Q (.int n) H):=by
 intro pins s σ H xs us Q I r h
 obtain⟨S,f,n,rfl,hS,q⟩:=h
 obtain⟨u,rfl,rx⟩:=vals1 r
 cases rx
 obtain⟨o,es,ep,t,ho,hex,hd,_,_,hb,hf,e⟩:s.heap.SetOf (intKind X.prog X.w) S f n:=I.hok _ _ hS
 refine call_len_set ho hex hd hf (by unfold scanBound at hb;omega) ⟨.int n,H,I.tok _,⟨_,by rw[e]⟩,q⟩
def mY (d:D):Option D:=match kn d with
 |some ds=>(match ib ds with
  |some ns=>if ns.length<=1000 then some (.int (o7 ns)) else none
  |none=>none)
 |none=>none
theorem bH.intsB {G:Hp}:∀{ns:List Int} {xs:List V},bH K G xs (ns.map int)->xs=ns.map V.int
 | [],_,.nil=>rfl
 |n :: ns,_,.cons r t=>by cases r;rw[bH.intsB t];rfl
variable {Γ:Fx}{e a b c:Expr}{f fa fb fc:VF D}{L La Lb:List Nat}{md ma mb mc:Md}{pos:Pos}
theorem yE {p1 p2 pos2:Pos}(hc:X.calm=true)(hK:X.K=Γ.K)(hg:Gl X "len")(hm:X.mg "len"=none)(hg2:Gl X "set")(hm2:X.mg "set"=none)(ha:SE X Γ E a fa La ma)
  (he:starEach [a] X.env=(false,eval a X.env) :: starEach [] X.env:=by rfl)
  (he2:starEach [.Call (.Name "set" p2) [a] [] pos2] X.env=(false,eval (.Call (.Name "set" p2) [a] [] pos2) X.env) :: starEach [] X.env:=by rfl) :
  SE X Γ E (.Call (.Name "len" p1) [.Call (.Name "set" p2) [a] [] pos2] [] pos) (f1 fa mY) La .v:=by
 refine PE.post' (bc yh hg hm (by decide +kernel) (ah (ij (xW hc) hg2 hm2 (by decide +kernel) (ah ha aH he) (by decide) (by decide) he) aH he2) (by decide) (by decide) he2) λσ H Q ⟨env,G,B,β,I,o⟩=>?_
 refine iZ (r:=λx H1 Q=>DS X.K [x] H1 λy H2=>∃S f n,[y]= [V.ref S]/\H2 S=some (.set f n)/\Q (.int n) H2) ?_ I o
 intro B G H x dx d Q s hB bx e k
 rw[hK]
 unfold mY at e
 cases q:kn dx with
 |none=>rw[q] at e;cases e
 |some ds=>
  rw[q] at e
  dsimp only at e
  cases q2:ib ds with
  |none=>rw[q2] at e;cases e
  |some ns=>
   rw[q2] at e
   dsimp only at e
   split at e
   ·rename_i hz
    cases e
    obtain⟨p,xs,rfl,hq,r⟩:=bx.seq q s
    rw[nU q2] at r
    have r:=r.intsB
    subst r
    exact⟨p,ns,rfl,hq,hz,λS hS=>⟨S,_,_,rfl,aj,k _ _ _ (Ext.own s hS) (.int _)⟩⟩
   ·cases e
end
end L2
namespace L2
open PySem
section
variable {K:Frag}{h:Heap}{mg:Str->Option Value}
theorem zd {α:Type}{P:List α->Prop}(q:∀a,P [a]):∀us:List α,us.length=1->P us
 | [a],_=>q a
theorem ln2 {α:Type}{P:List α->Prop}(q:∀a b,P [a,b]):∀us:List α,us.length=2->P us
 | [a,b],_=>q a b
theorem JI {α:Type}{P:List α->Prop}(q:∀a b c,P [a,b,c]):∀us:List α,us.length=3->P us
 | [a,b,c],_=>q a b c
def aV (x:Str)(st:Stmt)(ps:List Str):Prop:=∀(kV doc pm:Value) (an:Option Addr) (cdv ct:Value) (us:List Value),us.length=ps.length->bindArgs (PySem.W.fnOf x x (gS st) (bJ st) (ak st) .none kV doc pm an cdv ct) ⟨us,[]⟩=pure (ps.zip us)
structure Fo (K:Frag)(mg:Str->Option Value)(x:Str)(st:Stmt)(ps:List Str):Prop where
 ex:∃f fd,ji K mg x st ps f fd
def bE {x:Str}{st:Stmt}{ps:List Str}{f:Addr}{oc:Value}{od an:Option Addr}{sl:Array (Option Value)}{kV doc pm cdv ct:Value}(X:K.In h)(G:h.Ns mainGlobals mg)(b:aV x st ps)(a:PySem.W.nsIn K mainGlobals x=some (some (.ref f)))
  (l:K.lookup f=some ⟨oc,od,.func (PySem.W.fnOf x x (gS st) (bJ st) (ak st) .none kV doc pm an cdv ct),sl⟩) (c:PySem.W.codeIn K cdv x=true) (k:PySem.W.keepIn K (.ref f)=true):Fo K mg x st ps:=
 ⟨⟨f,_,Lj X G a,vc l c k,(vc l c k).binds b⟩⟩
def Jv:List Str:=["len","range","enumerate","zip","min","max","sum","abs","sorted","reversed","int","str","bool","list","tuple","dict","set","isinstance","repr","any","all","divmod"]
def JR (K:Frag):Bool:=Jv.all λx=>match PySem.W.nsIn K mainGlobals x with
 |some none=>true
 |_=>false
def FP (q:JR K=true){x:Str}(hx:x∈Jv):PySem.W.nsIn K mainGlobals x=some none:=by
 have:=Lx.mp q x hx
 split at this
 ·assumption
 ·cases this
def HR (X:K.In h)(G:h.Ns mainGlobals mg)(q:JR K=true):jj mg:=by
 have key:∀{x:Str},x∈Jv->mg x=none:=λhx=>PySem.W.mg_none_of X G (FP q hx)
 constructor <;> exact key (by decide)
end
end L2
namespace L2
open PySem PySem.Spec PyProof.Rows
def Cd {prog:Program}{w:World}{A:Around}{it t:Addr}{xs:Array Value}(hh:A.handled=none)(i:Nat)(hx:xs[i]? =none):Draws prog w A it [it,t] i (λ_ _=>False) (λj h=>j=i/\h.IsListIter it t i/\h.IsList t xs) where
 live:=λ_ _ st=>let ⟨o,ho,_⟩:=st.2.1;⟨o,ho⟩
 frame:=λ_ _ _ st hk=>⟨st.1,st.2.1.at λo e=>hk it (by simp) o e,st.2.2.at λo e=>hk t (by simp) o e⟩
 item:=λj s Q E hi st k=>absurd st.1 (by omega)
 done:=λs Q E st k=>wpAny_nextOf_list_end hh st.2.1 st.2.2 hx k
def Ga (K:Frag)(a:Addr):It:=
 ⟨λi H=>∃xs x,fx K H a xs/\xs[i]? =some x,
  λi H v H'=>∃x t,H t=none/\(∀xs,fx K H a xs->xs[i]? =some x)/\v=.ref t/\H'=upd H t (.tup [.int i,x]),
  λi H=>∃xs,fx K H a xs/\xs.length<=i⟩
def ym {h:Heap}{a n:Addr}{i:Nat}{its:Array Value}{b:Addr}(p:h.IsList a its)(q:h.IsListIter n b i):a≠n:=λz=>by
 subst z
 obtain⟨o,e,c,_⟩:=p
 obtain⟨o',e',c',_⟩:=q
 rw[e] at e';cases e'
 rw[c] at c'
 simp at c'
def yW {h:Heap}{a n it:Addr}{i:Int}{its:Array Value}{old:Value}(p:h.IsList a its)(q:IsEnum h n it i old):n≠a:=λz=>by
 subst z
 obtain⟨o,e,c,_⟩:=p
 rw[q] at e;cases e
 simp at c
def uv {P:Program}{w:World}{K:Frag}{elts:List Expr}{x1}{pos:Pos}(a:Addr)(n:Nat):Turn P w K (.Tuple elts x1 pos) (Ga K a) (qh n) (n + 1)
  (λi h=>(∃old,IsEnum h (n + 1) n i old)/\h.IsListIter n a i) where
 mem:=by simp
 obj:=λi h st c hc=>by
  obtain⟨⟨old,z1⟩,⟨o2,z2,_,d2⟩⟩:=st
  simp only[qh,KG,K5,LF] at hc
  rcases hc with rfl |rfl
  ·exact⟨_,z1,λv z=>by
    have z':Data.fields _=Data.cell v:=z
    cases z'⟩
  ·exact⟨o2,z2,λv z=>by rw[d2] at z;cases z⟩
 keep:=λi h h' st k=>by
  obtain⟨⟨old,z1⟩,z2⟩:=st
  exact⟨⟨old,k _ (by simp) _ z1⟩,z2.at λo e=>k _ (by simp) o e⟩
 item:=by
  intro X hP hw hK hc i pins s σ H E I hf st hg
  subst hP hw hK
  obtain⟨xs,x,ha,hx⟩:=hg
  obtain⟨its,rv,p,hz⟩:=I.list ha
  have p:s.heap.IsList a its.toArray:=p.isList
  obtain⟨u0,hu0,ru0⟩:=rv.get hx
  obtain⟨⟨old,z1⟩,z2⟩:=st
  have hh:X.A.in1.handled=none:=I.ok.hd hc
  have hlt:i < its.toArray.size:=by
   have:=KN.mp hu0
   simpa using this.1
  refine wpAny_pyNext_enum_itemD (Draws.list hh n a (ym p z2) its.toArray) z1 ⟨z2,p⟩ hlt (uq 1 0 rfl) (by
   simp only[KG,K5,LF,not_or]
   exact⟨uq 1 0 rfl,yW p z1⟩) λu h' tk hu q1 q2 q3 q4 q5=>?_
  have eu:u0=u:=by
   have hu:its.toArray[i]? =some u:=hu
   rw[List.getElem?_toArray,hu0] at hu
   exact Option.some.inj hu
  subst eu
  refine⟨_,rfl,wpAny_letOwnedTupleGo_enum (s:={s with heap:=h',toks:=tk + 1}) q1 λh2 r1 r2=>?_⟩
  have r2:∀c,c≠n + 1->h2.get? c=h'.get? c:=r2.2
  have lz:n + 1 < s.heap.objs.size:=KJ z1
  have hT:H s.heap.objs.size=none:=I.hok.fresh (KI _)
  have I1:Inv X pins σ (upd H s.heap.objs.size (.tup [.int i,x])) {s with heap:=s.heap.push {cls:=.type "tuple",data:=.seq #[.int i tk,u0]},toks:=s.toks}:=
   I.laid (λb o e=>KC _ e) (KI _) ⟨by show 2<=sizeLine;rw[Ld];omega,[.int i tk,u0],.cons ⟨tk,rfl⟩ (.cons ru0 .nil),qq.new _ _⟩
  have hf':∀c∈qh n,kN X pins (upd H s.heap.objs.size (.tup [.int i,x])) c:=λc hc=>⟨by
   rw[ao (λz=>?_)]
   ·exact (hf c hc).1
   ·subst z
    simp only[qh,KG,K5,LF] at hc
    omega,(hf c hc).2⟩
  have I2:Inv X pins σ (upd H s.heap.objs.size (.tup [.int i,x])) {s with heap:=h2,toks:=tk + 1}:=by
   refine I1.turnedL (ch:=qh n) (λc o hc e=>?_) hf'
   have e:(s.heap.push {cls:=.type "tuple",data:=.seq #[.int i tk,u0]}).get? c=some o:=e
   simp only[qh,KG,K5,LF,not_or] at hc
   rw[r2 c hc.1]
   by_cases z:c=s.heap.objs.size
   ·subst z
    rw[K0 _ rfl] at e
    rw[<-e];exact q3
   ·refine q5 c o hc.1 hc.2 ?_
    rw[Heap.get?_push_ne _ _ _ z] at e
    exact e
  refine⟨.ref s.heap.objs.size,_,I2,rfl,⟨x,_,hT,λxs' h'=>?_,rfl,rfl⟩,⟨⟨u0,r1⟩,q2.1.at λo e=>(r2 _ (uq 0 1 rfl)).trans e⟩,λc hc=>(hf' c hc).1⟩
  rw[I.list_inj h' ha];exact hx
 done:=by
  intro X hP hw hK hc i pins s σ H E I hf st hg
  subst hP hw hK
  obtain⟨xs,ha,hl⟩:=hg
  obtain⟨its,rv,p,hz⟩:=I.list ha
  obtain⟨⟨old,z1⟩,z2⟩:=st
  have hh:X.A.in1.handled=none:=I.ok.hd hc
  have l1:=rv.length
  refine wpAny_pyNext_enum_endD (Cd hh i (xs:=its.toArray) (by simp;omega)) z1 ⟨rfl,z2,p.isList⟩ λh' q=>⟨rfl,?_⟩
  refine I.turnedL (t':=s.toks) (ch:=qh n) (λc o hc e=>?_) hf
  simp only[qh,KG,K5,LF,not_or] at hc
  exact q c o hc.2 e
 self:=λ_ _ _ _ _ st h=>by
  obtain⟨⟨old,z1⟩,_⟩:=st
  exact MV z1 h
section
variable {X:Cx}{Γ:Fx}{E:XK}{e a b c:Expr}{f fa fb:VF D}{L La Lb:List Nat}{md ma mb:Md}{pos:Pos}
def zl {K:Frag}{B:Option Addr}{G H1:Hp}{p:Addr}{xs:List V}{ds:List D}(hp:∀Gc H,ai G Gc->ai Gc H->gu B H1 H->fx K H p xs)(r:bH K G xs ds):Walk K B G H1 (gx ds) (Ga K p):=λGc H i s1 s2 m=>by
 have hp':=hp Gc H s1 s2 m
 have l1:=r.len
 have lz:(gx ds).length=ds.length:=by unfold gx;rw[List.length_mapIdx]
 refine⟨λhi=>⟨?_,λx H' y=>?_⟩,λhi=>⟨xs,hp',by omega⟩⟩
 ·have h1:i < xs.length:=by omega
  exact⟨xs,xs[i],hp',by simp[h1]⟩
 ·obtain⟨x,t,ht,hx,rfl,rfl⟩:=y
  obtain⟨d,ed,rd⟩:=r.at' (hx xs hp')
  have xn:=Ext.new s2 (o:=.tup [.int i,x]) ht
  refine⟨upd Gc t (.tup [.int i,x]),.tuple [.int i,d],xn,?_,.tup (.inl (.inl aj)) (.cons (.int i) (.cons (rd.mono (s1.trans xn.gg)) .nil))⟩
  unfold gx
  rw[List.getElem?_mapIdx,ed];rfl
end
end L2
namespace L2
open PySem PyProof.Rows
section
variable {X:Cx}{Γ:Fx}{E:XK}{pos:Pos}
def B0:SE X Γ E (.Dict [] [] pos) (cst (.dict [])) [] .v:=by
 refine PE.post' zv ?_
 rintro σ H Q ⟨env,G,B,β,I,o⟩ p hp
 have o:∀v G' H',SR Γ B G' H' σ (aN [] env) β->ai G G'->gu B H H'->Rp Γ.K G' v (.dict [])->Q v H':=o
 have xn:=Ext.new I.sub (o:=.dK []) hp
 exact o _ _ _ (I.ext xn) xn.gg (xn.hh.mov B) (.dK (kvs:=[]) aj .nil)
end
end L2
namespace L2
open PySem PySem.Spec PyProof.Rows
def IZ (K:Frag)(ta:TA):TI:=λσ H R=>ta σ H λvs H2=>(∃a xs,vs= [.ref a]/\fw K H2 a xs/\R (IX K a) H2)\/∃a xs,vs= [.ref a]/\fx K H2 a xs/\R (Ga K a) H2
section
variable {X:Cx}
def Ej {a:Expr}{ta:TA}{p pos pt:Pos}{elts:List Expr}{x1}(hg:Gl X "enumerate")(hm:X.mg "enumerate"=none)(ha:PA X [a] ta)(hs:starEach [a] X.env= [(false,eval a X.env)]:=by rfl) :
  PI X (.Tuple elts x1 pt) (.Call (.Name "enumerate" p) [a] [] pos) (IZ X.K ta):=by
 intro pins s σ H R I h
 refine Call_ (kz I hg hm yX (LW (b7 (ha pos pins s σ H _ I h) λus s1 ⟨vs,H1,I1,r1,q1⟩=>?_) hs rfl))
 have fp:∀c∈qh s1.heap.objs.size,kN X pins H1 c:=λc hc=>by
  have:s1.heap.objs.size<=c:=by
   simp only[qh,KG,K5,LF] at hc
   rcases hc with rfl |rfl <;> first |exact KI _ |exact Nat.le_add_right _ _
  exact I1.fpOk this (I1.hok.fresh this)
 rcases q1 with⟨a,xs,e,h1,q⟩ | ⟨a,xs,e,h1,q⟩
 ·subst e
  cases r1 with
  |cons r rr=>
   cases rr
   cases r
   obtain⟨its,rv,p1,hz⟩:=I1.tuple h1
   exact vp (show s1.heap.IsTuple a its.toArray from p1) λh' z1 z2 z3=>MV z1 ⟨_,qh s1.heap.objs.size,_,_,H1,rfl,I1.kept (t':=s1.toks) z3,vS a s1.heap.objs.size,⟨⟨_,z1⟩,z2⟩,fp,q⟩
 ·subst e
  cases r1 with
  |cons r rr=>
   cases rr
   cases r
   obtain⟨its,rv,p1,hz⟩:=I1.list h1
   exact call_enumerate_list p1.isList λh' z1 z2 _ z3=>MV z1 ⟨_,qh s1.heap.objs.size,_,_,H1,rfl,I1.kept (t':=s1.toks) z3,uv a s1.heap.objs.size,⟨⟨_,z1⟩,z2⟩,fp,q⟩
end
section
variable {X:Cx}{Γ:Fx}{E:XK}{e a b c:Expr}{f fa fb:VF D}{L La Lb:List Nat}{md ma mb:Md}{pos:Pos}
def FW (fa:VF D):VF (List D):=λvs β=>(fa vs β).bnd λx β1=>match kn x with
 |some ds=>.ok (gx ds) β1
 |none=>.bad
theorem E3 {p pt:Pos}{elts:List Expr}{x1}(hK:X.K=Γ.K)(hg:Gl X "enumerate")(hm:X.mg "enumerate"=none)(ha:SE X Γ E a fa La .v)(hs:starEach [a] X.env= [(false,eval a X.env)]:=by rfl)(hs':starEach [a] X.env=(false,eval a X.env) :: starEach [] X.env:=by rfl) :
  SI X Γ E (.Tuple elts x1 pt) (.Call (.Name "enumerate" p) [a] [] pos) (FW fa) La .v:=by
 refine PI.post (Ej hg hm (ah ha aH hs') hs) ?_
 rintro σ H Q ⟨env,G,B,β,I,o⟩
 refine⟨env,G,B,β,I,o.bnd.imp λd1 β1 h x G1 H1 I1 s1 m1 vx=>?_⟩
 have vx:Rp Γ.K G1 x d1:=vx
 rw[hK]
 cases d1 with
 |list ds=>
  cases vx with
  | @lst p xs _ hq r=>exact .inr ⟨p,xs,rfl,.inl (Rd.mono (.inl hq) I1.sub),h _ G1 H1 I1 s1 m1 (zl (λGc H t1 t2 _=>.inl (Rd.mono (.inl hq) (t1.trans t2))) r)⟩
 |tuple ds=>
  cases vx with
  | @tup p xs _ hq r=>exact .inl ⟨p,xs,rfl,hq.grow I1.sub.grow,h _ G1 H1 I1 s1 m1 (Av hq r)⟩
 |_=>exact h.elim
end
end L2
namespace RM
open PySem L2
def iQ (aM:List D->Int->FB):SF:=(aL (dk 1 ([] ++ ([] ++ ([] ++ ([] ++ ([] ++ ([] ++ ([] ++ ([] ++ ([] ++ ([] ++ (([] ++ []) ++ (([] ++ ([] ++ [])) ++ (([] ++ []) ++ []))))))))))))) (bB (aa (cst .none) (aa (cst (.bool true)) (aa (cst (.bool false)) (aa (cst (.int (-1))) (aa (cst (.int 0)) (aa (cst (.int 1)) (aa (cst (.str "")) (aa (cst (.str "1")) (aa (bL ag) (aa (bB ag) (aa (bL (aa (cst (.int 0)) ag)) (aa (bL (aa (cst (.int 1)) (aa (bL ag) ag))) (aa (bB (aa (cst (.int 0)) ag)) ag)))))))))))))))
 (aL (dk 1 ([] ++ ([] ++ (([] ++ ([] ++ [])) ++ ([] ++ ((([] ++ ([] ++ [])) ++ []) ++ ([] ++ [])))))) (f2 (gv 1) (bB (aa (cst (.dict [(.str "a",.int 1)])) (aa (bL (aa (cst (.int 0)) (aa (cst (.int 1)) ag))) (aa (f2 (cst (.int 10)) (cst (.int 39)) Bz) (aa (bL (aa (bL (aa (cst (.int 0)) (aa (cst (.int 1)) ag))) ag)) (aa (cst (.str "a")) ag)))))) mC))
 (bK (f2 (gv 1) (ua 0 aM (aa (cst (.int 18)) ag)) cA))))
def j3 (bA:List D->FR):SF:=(aL (jO ([] ++ ([] ++ [])) (lH (oR (jZ (f1 (gv 0) (gC "tuple")))) (fH (f2 (f1 (gv 0) eY) (gv 1) (dG true))))
 (bK (cst (.bool false)))
 lI)
 (bK (cV (f1 (aF 1 [1] (.nm 0) (bz (gv 0)) gy (au bA (aa (gv 0) (aa (gv 1) ag)))) (cm λbs=>bs.all id)) (f2 (f1 (gv 0) mY) (gv 1) (dG false)))))
def lJ:SF:=(aL (p5 1 (([] ++ []) ++ []) (f2 (bB (aa (cst (.int 0)) ag)) (f1 (gv 0) eY) Bk))
 (aL (gL (.two 2 3) [0] (FW (gv 0))
 (tu 1 [2] [] (gv 2) (gv 3)))
 (ui 1)))
def eM (bO aS:List D->FR):SF:=(aL (jO ([0] ++ (([] ++ []) ++ [])) (oR (jZ (au bO (aa (gv 0) (aa (f2 (gv 1) (cst (.int 0)) cA) ag)))))
 (bK (cst (.bool false)))
 lI)
 (aL (dk 2 ([0] ++ []) (au aS (aa (gv 0) ag)))
 (bK (f1 (aF 2 [2] (.two 0 1) (bz (f2 (gv 1) (cst (.int 1)) cA)) gy (f2 (f2 (gv 2) (gv 0) cA) (f2 (gv 2) (gv 1) cA) wG)) (cm λbs=>bs.all id)))))
def du:SF:=(bK (f1 (aF 1 [1,2] (.nm 0) (bz (gv 0)) gy (f2 (f2 (gv 0) (gv 1) cA) (f2 (gv 0) (gv 2) cA) wG)) (cm λbs=>bs.all id)))
def dC (aS aZ cc:List D->FR):SF:=(aL (dk 2 ([] ++ []) (aF 1 [] (.nm 0) (bz (gv 1)) gy (au aS (aa (gv 0) ag))))
 (bK (f1 (aF 2 [2] (.two 0 1) (bz (au aZ (aa (gv 0) ag))) (jZ (au cc (aa (gv 2) (aa (gv 0) (aa (gv 1) ag))))) (bL (aa (gv 0) (aa (gv 1) ag)))) bW)))
def iX (cu:List D->FR):SF:=(aL (jO ([] ++ ([] ++ [])) (lH (oR (jZ (f1 (gv 0) (gC "list")))) (fH (f2 (f1 (gv 0) eY) (cst (.int 0)) (dG false))))
 (bK (cst (.bool false)))
 lI)
 (bK (f1 (aF 1 [1] (.nm 0) (bz (gv 0)) gy (au cu (aa (gv 0) (aa (gv 1) ag)))) (cm λbs=>bs.all id))))
def fL (cK:List D->FR):SF:=(aL (dk 1 [] (bB ag))
 (aL (gL (.nm 2) ([] ++ []) (cB (f2 (gv 0) (cst (.int 0)) cA))
 (dk 1 ([] ++ (([] ++ []) ++ [0,2])) (f2 (gv 1) (aF 1 [0,2] (.nm 0) (cB (f2 (gv 0) (cst (.int 0)) cA)) (jZ (au cK (aa (gv 1) (aa (gv 2) (aa (gv 0) ag))))) (bL (aa (gv 2) (aa (gv 0) ag)))) mC)))
 (ui 1)))
def vV (bb dW cf:List D->FR):SF:=(aL (pI ([1] ++ []) (au bb (aa (gv 1) ag)))
 (bK (cV (au dW (aa (gv 0) (aa (gv 1) ag))) (f2 (au cf (aa (f2 (gv 1) (cst (.int 0)) cA) (aa (gv 0) ag))) (f2 (gv 1) (cst (.int 1)) cA) (dG false)))))
def eJ:SF:=(aL (p5 2 [] (bB ag))
 (aL (gL (.nm 3) [] (cB (gv 0))
 (gL (.nm 4) [] (cB (gv 0))
 (aL (dk 5 ([] ++ []) (aF 1 [3,4] (.nm 0) (bz (gv 1)) (fH (f2 (jr (gv 0) (gv 1)) (jr (gv 0) (gv 2)) Gv)) (cst (.int 1))))
 (jO (([] ++ []) ++ ([] ++ [])) (Aa (fH (f2 (gv 3) (gv 4) (dG true))) (fH (f2 (gv 5) (bB ag) (dG false))))
 (o3 2 ([3] ++ ([4] ++ [])) (bL (aa (gv 3) (aa (gv 4) ag))))
 lI))))
 (bK (f1 (gv 2) bW))))
end RM
namespace L2
open PySem PySem.Spec PyProof.Rows
abbrev qp (h:Heap)(z TI TO:Addr)(f0:Value)(b:Bool):Prop:=h.get? z=some {cls:=.type "zip",dict:=none,data:=.fields #[f0,.bool b,.bool false,.ref TI,.ref TO],slots:=#[]}
section
variable {prog:Program}{w:World}{A:Around}{E:Value->Shared->Prop}{s:Shared}{z TI TO i1 i2 l1 l2:Addr}{k:Nat}{xs ys:Array Value}{x y a b:Value}
def xS {a:Addr}{Q:Option Obj->Shared->Prop}(h:Q (s.heap.get? a) s):wpAny (model prog w) A (loadIfAlive a) Q E s:=λΓ p hc=>h
theorem DB {T:Nat}{ob:Obj}{c:Bool}{Q:Bool->Shared->Prop}(hz:qp s.heap z TI TO (rawInt T) c)(hT:s.heap.get? T=some ob)
  (hQ:∀h',qp h' z TI TO (rawInt T) true->Heap.SameBut z s.heap h'->Q false {s with heap:=h'}):wpAny (model prog w) A (Builtin.SmallTypes.ownedTupleIsFree (.ref z)) Q E s:=by
 unfold Builtin.SmallTypes.ownedTupleIsFree
 refine KA (LY hz rfl (x:=.int T 0) rfl ?_)
 show wpAny _ _ (loadIfAlive (T:Int).toNat >>= _) _ _ _
 rw[Lp]
 refine KA (xS ?_)
 rw[hT]
 simp only[Option.isNone_some,LP,Mu]
 refine KA (LY hz rfl (x:=.bool c) rfl ?_)
 cases c with
 |true=>exact wpAny_ite_split (λh=>absurd h (by decide)) λ_=>K3 (hQ _ hz ⟨rfl,λ_ _=>rfl⟩)
 |false=>exact wpAny_ite_split (λ_=>KA (wpAny_setField_rec hz (by simp) λh' (z':qp h' z TI TO (rawInt T) true) e'=>K3 (hQ h' z' e'))) λh=>absurd (by decide) h
def yN {T:Nat}{ob:Obj}{c:Bool}{Q:Value->Shared->Prop}(D:ZipApart z TI TO i1 i2 l1 l2)(hz:qp s.heap z TI TO (rawInt T) c)(hT:s.heap.get? T=some ob)(hTI:IsPair s.heap TI (.ref i1) (.ref i2))
  (h1:s.heap.IsListIter i1 l1 k) (h2:s.heap.IsListIter i2 l2 k) (hl1:s.heap.IsList l1 xs) (hl2:s.heap.IsList l2 ys) (hx:xs[k]? =some x) (hy:ys[k]? =some y)
  (hQ:∀h',qp h' z TI TO (rawInt T) true->h'.IsListIter i1 l1 (k + 1)->h'.IsListIter i2 l2 (k + 1)->IsPair h' s.heap.objs.size x y->h'.objs.size=s.heap.objs.size + 1->
   (∀c o,c≠z->c≠i1->c≠i2->s.heap.get? c=some o->h'.get? c=some o)->Q (.ref s.heap.objs.size) {s with heap:=h'}) :
  wpAny (model prog w) A (Builtin.«zip.__next__» ⟨[.ref z],[]⟩) (λfin s'=>∃v,fin=.done (.ret v)/\Q v s') E s:=by
 show wpAny _ _ (field (.ref z) 2 >>= _) _ _ _
 refine KA (LY hz rfl (x:=.bool false) rfl ?_)
 show wpAny _ _ (field (.ref z) 3 >>= _) _ _ _
 refine KA (LY hz rfl (x:=.ref TI) rfl (KA (wpAny_seqItems hTI rfl ?_)))
 show wpAny _ _ (Builtin.SmallTypes.ownedTupleIsFree (.ref z) >>= _) _ _ _
 refine KA (DB hz hT λq1 z1 e1=>?_)
 simp only[LP,Mu]
 refine KA ?_
 rw[<-Array.forIn_toList]
 simp only[List.forIn_cons,List.forIn_nil]
 refine KA (KA (My ?_))
 show wpAny _ _ (Builtin.SmallTypes.nextOf (.ref i1) >>= _) _ _ _
 refine KA (wpAny_nextOf_list_item (h1.extBut e1.extBut D.i1z) (hl1.extBut e1.extBut D.l1z) hx λq2 j1 e2=>K3 (K3 ?_))
 refine KA (KA (My ?_))
 show wpAny _ _ (Builtin.SmallTypes.nextOf (.ref i2) >>= _) _ _ _
 refine KA (wpAny_nextOf_list_item ((h2.extBut e1.extBut D.i2z).extBut e2.extBut D.i12.symm) ((hl2.extBut e1.extBut D.l2z).extBut e2.extBut D.l2i1) hy λq4 j2 e4=>K3 (K3 (K3 ?_)))
 refine KA (wpAny_newTuple (hsz:=by show 2<=sizeLine;rw[Ld];omega) ?_)
 have hsz:q4.objs.size=s.heap.objs.size:=by rw[e4.1,e2.1,e1.1]
 refine K3 ⟨_,rfl,?_⟩
 show Q (.ref q4.objs.size) _
 rw[hsz]
 have z4:qp q4 z TI TO (rawInt T) true:=e4.extBut _ _ D.i2z.symm (e2.extBut _ _ D.i1z.symm z1)
 refine hQ _ (KC _ z4) ((j1.extBut e4.extBut D.i12).at λo e=>KC _ e) (j2.at λo e=>KC _ e) ?_ (by rw[Mr,hsz]) λc o c1 c3 c4 e=>KC _ (e4.extBut _ _ c4 (e2.extBut _ _ c3 (e1.extBut _ _ c1 e)))
 have:=K0 q4 (o:={cls:=.type "tuple",data:=.seq #[x,y]}) rfl
 rw[hsz] at this;exact this
def Ay {T:Nat}{ob:Obj}{c:Bool}{Q:Fin->Shared->Prop}(hh:A.handled=none)(D:ZipApart z TI TO i1 i2 l1 l2)(hz:qp s.heap z TI TO (rawInt T) c)(hT:s.heap.get? T=some ob)(hTI:IsPair s.heap TI (.ref i1) (.ref i2))
  (h1:s.heap.IsListIter i1 l1 k) (h2:s.heap.IsListIter i2 l2 k) (hl1:s.heap.IsList l1 xs) (hl2:s.heap.IsList l2 ys) (hx:xs[k]? =none)
  (hE:∀h' e,(∀c o,c≠z->c≠i1->s.heap.get? c=some o->h'.get? c=some o)->(∃o,h'.get? e=some o/\o.cls=.type "StopIteration")->E (.ref e) {s with heap:=h'}) :
  wpAny (model prog w) A (Builtin.«zip.__next__» ⟨[.ref z],[]⟩) Q E s:=by
 show wpAny _ _ (field (.ref z) 2 >>= _) _ _ _
 refine KA (LY hz rfl (x:=.bool false) rfl ?_)
 show wpAny _ _ (field (.ref z) 3 >>= _) _ _ _
 refine KA (LY hz rfl (x:=.ref TI) rfl (KA (wpAny_seqItems hTI rfl ?_)))
 show wpAny _ _ (Builtin.SmallTypes.ownedTupleIsFree (.ref z) >>= _) _ _ _
 refine KA (DB hz hT λq1 z1 e1=>?_)
 simp only[LP,Mu]
 refine KA ?_
 rw[<-Array.forIn_toList]
 simp only[List.forIn_cons,List.forIn_nil]
 refine KA (KA (My ?_))
 show wpAny _ _ (Builtin.SmallTypes.nextOf (.ref i1) >>= _) _ _ _
 exact KA (wpAny_nextOf_list_end hh (h1.extBut e1.extBut D.i1z) (hl1.extBut e1.extBut D.l1z) hx λq2 e e2 he=>hE q2 e (λc o c1 c3 x=>e2 _ _ c3 (e1.extBut _ _ c1 x)) he)
end
structure Zs (z TI TO i1 i2 l1 l2 N:Nat)(xs ys:Array Value)(i:Nat)(h:Heap):Prop where
 zp:(i=0/\IsZip h z TI TO .none)\/∃(T:Nat) (ob:Obj) (c:Bool),qp h z TI TO (rawInt T) c/\h.get? T=some ob
 ti:IsPair h TI (.ref i1) (.ref i2)
 to:∃a b,IsPair h TO a b
 p1:h.IsListIter i1 l1 i
 p2:h.IsListIter i2 l2 i
 q1:h.IsList l1 xs
 q2:h.IsList l2 ys
 sz:h.objs.size=N + i
 tp:∀j,j < i->∃x y,xs[j]? =some x/\ys[j]? =some y/\IsPair h (N + j) x y
structure Zl (z TI TO i1 i2 l1 l2 N S:Nat):Prop where
 d:ZipApart z TI TO i1 i2 l1 l2
 lz:z < N
 ti:TI < N
 to:TO < N
 p1:i1 < N
 p2:i2 < N
 s:S < N
 sz:S≠z
 sti:S≠TI
 sto:S≠TO
 s1:S≠i1
 s2:S≠i2
 s3:S≠l1
 s4:S≠l2
section
variable {prog:Program}{w:World}{A:Around}{E:Value->Shared->Prop}{s:Shared}{z TI TO i1 i2 l1 l2 N S:Nat}{xs ys:Array Value}{i:Nat}
def Zs.step (L:Zl z TI TO i1 i2 l1 l2 N S){h h':Heap}{x y:Value}(Z:Zs z TI TO i1 i2 l1 l2 N xs ys i h)(hx:xs[i]? =some x)(hy:ys[i]? =some y)(zp:∃(T:Nat) (ob:Obj) (c:Bool),qp h' z TI TO (rawInt T) c/\h'.get? T=some ob)(to:∃a b,IsPair h' TO a b)
  (p1:h'.IsListIter i1 l1 (i + 1)) (p2:h'.IsListIter i2 l2 (i + 1)) (tp:IsPair h' (N + i) x y) (sz:h'.objs.size=N + i + 1) (k:∀c o,c≠z->c≠TO->c≠i1->c≠i2->h.get? c=some o->h'.get? c=some o):Zs z TI TO i1 i2 l1 l2 N xs ys (i + 1) h' where
 zp:=.inr zp
 ti:=k _ _ L.d.TIz L.d.TITO L.d.TIi1 L.d.TIi2 Z.ti
 to:=to
 p1:=p1
 p2:=p2
 q1:=Z.q1.at λo e=>k _ o L.d.l1z L.d.l1TO L.d.l1i1 L.d.l1i2 e
 q2:=Z.q2.at λo e=>k _ o L.d.l2z L.d.l2TO L.d.l2i1 L.d.l2i2 e
 sz:=sz
 tp:=λj hj=>by
  by_cases c:j=i
  ·subst c;exact⟨x,y,hx,hy,tp⟩
  ·obtain⟨x',y',e1,e2,e3⟩:=Z.tp j (by omega)
   have a1:=L.lz
   have a2:=L.to
   have a3:=L.p1
   have a4:=L.p2
   exact⟨x',y',e1,e2,k _ _ (by omega) (by omega) (by omega) (by omega) e3⟩
def Zs.item (L:Zl z TI TO i1 i2 l1 l2 N S)(Z:Zs z TI TO i1 i2 l1 l2 N xs ys i s.heap)(hi:i < xs.size)(hl:xs.size=ys.size){Q:Option Value->Shared->Prop}
  (hQ:∀h',Zs z TI TO i1 i2 l1 l2 N xs ys (i + 1) h'->(∀c o,c≠z->c≠TO->c≠i1->c≠i2->s.heap.get? c=some o->h'.get? c=some o)->Q (some (.ref (N + i))) {s with heap:=h'}):wpAny (model prog w) A (pyNext (.ref z)) Q E s:=by
 have hx:xs[i]? =some xs[i]:=Array.getElem?_eq_getElem hi
 have hy:ys[i]? =some (ys[i]'(by omega)):=Array.getElem?_eq_getElem (by omega)
 have ez:=Z.sz
 rcases Z.zp with⟨_,hz⟩ | ⟨T,ob,c,hz,hT⟩
 ·obtain⟨a,b,hTO⟩:=Z.to
  refine wpAny_pyNext_zip_item L.d hz Z.ti hTO Z.p1 Z.p2 Z.q1 Z.q2 hx hy λh' a1 a2 a3 a4 a5 a6 a7=>?_
  rw[ez] at a1 a5 a6 ⊢
  exact hQ h' (Z.step L hx hy ⟨N + i,_,false,a1,a5⟩ ⟨_,_,a2⟩ a3 a4 a5 a6 a7) a7
 ·have hTy:s.TypeIs (.ref z) "zip":=⟨_,hz,rfl⟩
  unfold pyNext
  refine KA (wpAny_attempt (wpAny_callSpecial?_slot (name:=Str.ofString "__next__") hTy F.slot_zip_next (wpAny_call_entry F.slot_zip_next hTy F.entry_zip_next
   (yN L.d hz hT Z.ti Z.p1 Z.p2 Z.q1 Z.q2 hx hy λh' a1 a3 a4 a5 a6 a7=>K3 ?_) (F.args_zip_next_1 _))))
  rw[ez] at a5 a6 ⊢
  have hT2:∃ob,h'.get? T=some ob:=by
   by_cases c1:T=z
   ·rw[c1];exact⟨_,a1⟩
   by_cases c2:T=i1
   ·rw[c2];obtain⟨o,e,_⟩:=a3;exact⟨o,e⟩
   by_cases c3:T=i2
   ·rw[c3];obtain⟨o,e,_⟩:=a4;exact⟨o,e⟩
   exact⟨ob,a7 _ _ c1 c2 c3 hT⟩
  obtain⟨ob2,hT2⟩:=hT2
  obtain⟨a,b,hTO⟩:=Z.to
  exact hQ h' (Z.step L hx hy ⟨T,ob2,true,a1,hT2⟩ ⟨a,b,a7 _ _ L.d.TOz L.d.TOi1 L.d.TOi2 hTO⟩ a3 a4 a5 a6 λc o c1 _ c3 c4 e=>a7 c o c1 c3 c4 e) λc o c1 _ c3 c4 e=>a7 c o c1 c3 c4 e
def Zs.done (hh:A.handled=none)(L:Zl z TI TO i1 i2 l1 l2 N S)(Z:Zs z TI TO i1 i2 l1 l2 N xs ys i s.heap)(h0:0 < i)(hi:xs.size<=i){Q:Option Value->Shared->Prop}
  (hQ:∀h',(∀c o,c≠z->c≠i1->s.heap.get? c=some o->h'.get? c=some o)->Q none {s with heap:=h'}):wpAny (model prog w) A (pyNext (.ref z)) Q E s:=by
 rcases Z.zp with⟨h,_⟩ | ⟨T,ob,c,hz,hT⟩
 ·omega
 have hTy:s.TypeIs (.ref z) "zip":=⟨_,hz,rfl⟩
 unfold pyNext
 refine KA (wpAny_attempt (wpAny_callSpecial?_slot (name:=Str.ofString "__next__") hTy F.slot_zip_next (wpAny_call_entry F.slot_zip_next hTy F.entry_zip_next
  (Ay hh L.d hz hT Z.ti Z.p1 Z.p2 Z.q1 Z.q2 (Array.getElem?_eq_none hi) λh' e hk he=>?_) (F.args_zip_next_1 _))))
 obtain⟨o,ho,hc⟩:=he
 exact KA (wpAny_isInstance (T:="StopIteration") (b:=true) ⟨o,ho,hc⟩ isSubtype_stop (K3 (hQ _ hk)))
def Zs.frame (L:Zl z TI TO i1 i2 l1 l2 N S){h h':Heap}(Z:Zs z TI TO i1 i2 l1 l2 N xs ys i h)(k:∀b o,b≠S->h.get? b=some o->h'.get? b=some o)(hS:∃o,h'.get? S=some o)(hz:h'.objs.size=h.objs.size):Zs z TI TO i1 i2 l1 l2 N xs ys i h' where
 zp:=Z.zp.imp (λ⟨e,q⟩=>⟨e,k _ _ (Ne.symm L.sz) q⟩) λ⟨T,ob,c,q,hT⟩=>by
  by_cases e:T=S
  ·obtain⟨o,ho⟩:=hS
   exact⟨T,o,c,k _ _ (Ne.symm L.sz) q,by rw[e];exact ho⟩
  ·exact⟨T,ob,c,k _ _ (Ne.symm L.sz) q,k _ _ e hT⟩
 ti:=k _ _ (Ne.symm L.sti) Z.ti
 to:=let ⟨a,b,q⟩:=Z.to;⟨a,b,k _ _ (Ne.symm L.sto) q⟩
 p1:=Z.p1.at λo e=>k _ o (Ne.symm L.s1) e
 p2:=Z.p2.at λo e=>k _ o (Ne.symm L.s2) e
 q1:=Z.q1.at λo e=>k _ o (Ne.symm L.s3) e
 q2:=Z.q2.at λo e=>k _ o (Ne.symm L.s4) e
 sz:=hz.trans Z.sz
 tp:=λj hj=>let ⟨x,y,e1,e2,e3⟩:=Z.tp j hj;⟨x,y,e1,e2,k _ _ (by have:=L.s;omega) e3⟩
def Be (N i:Nat):Array Value:=((List.range i).map λj=>Value.ref (N + j)).toArray
def Bw (N i:Nat):(Be N i).push (.ref (N + i))=Be N (i + 1):=by
 unfold Be
 rw[List.range_succ,MC];simp
def tO (N i:Nat):(Be N i).size=i:=by unfold Be;simp
theorem Hg {R:Result->Shared->Prop}{n:Nat}(hh:A.handled=none)(L:Zl z TI TO i1 i2 l1 l2 N S)(hn:xs.size=n)(hn2:ys.size=n)(h0:0 < n)(hb:n<=1000)(res:Value) :
  ∀(k i:Nat) (s:Shared) (c:Nat),n - i=k->i<=n->Zs z TI TO i1 i2 l1 l2 N xs ys i s.heap->s.heap.get? S=some {cls:=.type "list",dict:=none,data:=.seq (Be N i) c,slots:=#[]}->
  (∀h' c',(∀b o,b≠z->b≠TO->b≠i1->b≠i2->b≠S->s.heap.get? b=some o->h'.get? b=some o)->h'.get? S=some {cls:=.type "list",dict:=none,data:=.seq (Be N n) c',slots:=#[]}->
   (∀j,j < n->∃x y,xs[j]? =some x/\ys[j]? =some y/\IsPair h' (N + j) x y)->R (.ok (.ret res)) {s with heap:=h'})->
  codeAny (model prog w) A (.builtin "list.extend.loop" ⟨[.ref S,.ref z,res],[]⟩) R s:=by
 intro k
 induction k with
 |zero=>
  intro i s c hk hi Z hS hR
  have hin:i=n:=by omega
  subst hin
  refine codeAny_builtin F.entry_extend_loop ?_
  rw[Around.under_plainId MJ _]
  show wpAny _ A.in1 (pyNext (.ref z) >>= _) _ _ s
  refine KA (Z.done (A:=A.in1) hh L h0 (by omega) λh' hk'=>?_)
  have a1:=L.lz
  have a3:=L.p1
  exact K3 (hR h' c (λb o b1 _ b3 _ _ e=>hk' b o b1 b3 e) (hk' _ _ L.sz L.s1 hS) λj hj=>let ⟨x,y,e1,e2,e3⟩:=Z.tp j hj;⟨x,y,e1,e2,hk' _ _ (by omega) (by omega) e3⟩)
 |succ k ih=>
  intro i s c hk hi Z hS hR
  refine codeAny_builtin F.entry_extend_loop ?_
  rw[Around.under_plainId MJ _]
  show wpAny _ A.in1 (pyNext (.ref z) >>= _) _ _ s
  refine KA (Z.item L (by omega) (by omega) λh' Z' hk'=>?_)
  have hS':=hk' S _ L.sz L.sto L.s1 L.s2 hS
  show wpAny _ A.in1 (updateSeq S (·.push (.ref (N + i))) >>= _) _ _ _
  refine KA ?_
  have hU:=LN (Obj.mapSeq (·.push (Value.ref (N + i)))) hS' rfl
  have oth:∀b o,b≠S->h'.get? b=some o->(h'.update S (Obj.mapSeq (·.push (Value.ref (N + i))))).get? b=some o:=λb o hb e=>(Lg _ _ (Ne.symm hb)).trans e
  refine wpAny_updateSeq hS' rfl (K3 ⟨plainId_quiet MJ _,ih (i + 1) _ _ (by omega) (by omega) (Z'.frame L oth ⟨_,hU⟩ (Heap.SameBut.update ..).1) (hU.trans (by simp only[Obj.mapSeq,Bw];rfl)) λh2 c2 k2 e2 t2=>hR h2 c2 (λb o b1 b2 b3 b4 b5 e=>k2 b o b1 b2 b3 b4 b5 (oth b o b5 (hk' b o b1 b2 b3 b4 e))) e2 t2⟩)
   (by rw[tO,Ld];omega) (by show ((Be N i).push (.ref (N + i))).size<=sizeLine + 1;rw[Array.size_push,tO,Ld];omega)
def uP:typeLookup (.type "zip") "__len__"=pure none:=by rw[typeLookup_type,builtinLookup_eq_fast];kernel_rfl
def tL:typeLookup (.type "zip") "__length_hint__"=pure none:=by rw[typeLookup_type,builtinLookup_eq_fast];kernel_rfl
def Du {R:Result->Shared->Prop}{n:Nat}(hh:A.handled=none)(L:Zl z TI TO i1 i2 l1 l2 N S)(hn:xs.size=n)(hn2:ys.size=n)(h0:0 < n)(hb:n<=1000)(res:Value)(c₀:Nat)(Z:Zs z TI TO i1 i2 l1 l2 N xs ys 0 s.heap)(hz:IsZip s.heap z TI TO .none)
  (hS:s.heap.get? S=some {cls:=.type "list",data:=.seq #[] c₀})
  (hR:∀h' c',(∀b o,b≠z->b≠TO->b≠i1->b≠i2->b≠S->s.heap.get? b=some o->h'.get? b=some o)->h'.get? S=some {cls:=.type "list",dict:=none,data:=.seq (Be N n) c',slots:=#[]}->
   (∀j,j < n->∃x y,xs[j]? =some x/\ys[j]? =some y/\IsPair h' (N + j) x y)->R (.ok (.ret res)) {s with heap:=h'}) :
  wpAny (model prog w) A.in1 (Builtin.List.listExtendWith (.ref S) (.ref z) res)
   (λfin s'=>match fin with | .done f=>R (.ok f) s' | .again c'=>c'.quiet=true/\codeAny (model prog w) A c' R s') (λe s'=>R (.error e) s') s:=by
 have hT:s.TypeIs (.ref z) "zip":=⟨_,hz,rfl⟩
 have hSI:S≠z:=L.sz
 unfold Builtin.List.listExtendWith
 refine KA (wpAny_typeOf hT ?_)
 have h1:Builtin.List.listSameRef (.ref S) (.ref z)=false:=by simp[Builtin.List.listSameRef,hSI]
 have h2:(Value.type "zip" == Value.type "list")=false:=by decide
 have h3:(Value.type "zip" == Value.type "tuple")=false:=by decide
 simp only[h1,h2,h3,Bool.or_false,LP,Mu]
 refine KA (wpAny_pyIter_zip hz (KA (My ?_)))
 unfold Builtin.List.listLengthHint
 refine KA (wpAny_specialOf hT uP ?_)
 show wpAny _ A.in1 (specialOf (Value.ref z) (Str.ofString "__length_hint__") >>= _) _ _ _
 refine KA (wpAny_specialOf hT tL (K3 ?_))
 show wpAny _ A.in1 (rule "list.extend.makes-room" >>= λ_=>Builtin.List.listTouch (.ref S) >>= λ_=>again (.builtin "list.extend.loop" ⟨[.ref S,.ref z,res],[]⟩)) _ _ _
 refine KA (wpAny_rule (KA ?_))
 show wpAny _ A.in1 (updateSeq S (·.push .none) >>= λ_=>updateSeq S (·.pop)) _ _ _
 refine KA (wpAny_updateSeq hS rfl ?_)
 have hS2:=LN (Obj.mapSeq (·.push Value.none)) hS rfl
 refine wpAny_updateSeq (hz:=by seq_fits) hS2 rfl ?_
 have hS3:=LN (Obj.mapSeq (·.pop)) hS2 rfl
 have oth:∀b o,b≠S->s.heap.get? b=some o->((s.heap.update S (Obj.mapSeq (·.push Value.none))).update S (Obj.mapSeq (·.pop))).get? b=some o:=
  λb o hb e=>(Lg _ _ (Ne.symm hb)).trans ((Lg _ _ (Ne.symm hb)).trans e)
 exact K3 ⟨plainId_quiet MJ _,Hg hh L hn hn2 h0 hb res n 0 _ _ rfl (LC _) (Z.frame L oth ⟨_,hS3⟩ ((Heap.SameBut.update ..).1.trans (Heap.SameBut.update ..).1)) (hS3.trans rfl) λh' c' k e t=>hR h' c' (λb o b1 b2 b3 b4 b5 q=>k b o b1 b2 b3 b4 b5 (oth b o b5 q)) e t⟩
def C3 {Q:Value->Shared->Prop}{n:Nat}(hh:A.handled=none)(D:ZipApart z TI TO i1 i2 l1 l2)(hn:xs.size=n)(hn2:ys.size=n)(h0:0 < n)(hb:n<=1000)(hz:IsZip s.heap z TI TO .none)(hTI:IsPair s.heap TI (.ref i1) (.ref i2))(hTO:∃a b,IsPair s.heap TO a b)
  (h1:s.heap.IsListIter i1 l1 0) (h2:s.heap.IsListIter i2 l2 0) (hl1:s.heap.IsList l1 xs) (hl2:s.heap.IsList l2 ys)
  (hQ:∀h' c',(∀b o,b≠z->b≠TO->b≠i1->b≠i2->s.heap.get? b=some o->h'.get? b=some o)->h'.get? s.heap.objs.size=some {cls:=.type "list",dict:=none,data:=.seq (Be (s.heap.objs.size + 1) n) c',slots:=#[]}->
   (∀j,j < n->∃x y,xs[j]? =some x/\ys[j]? =some y/\IsPair h' (s.heap.objs.size + 1 + j) x y)->Q (.ref s.heap.objs.size) {s with heap:=h'}) :
  wpAny (model prog w) A (call (.type "list") [.ref z]) Q E s:=by
 refine callType_codes (Q₁:=λobj s₁=>obj=.ref s.heap.objs.size/\s₁={s with heap:=s.heap.push {cls:=.type "list",data:=.seq #[]}}) F.called_list (F.typeCall_list_1 _) F.entry_list_init
  (code_list_new _ ⟨rfl,rfl⟩) λobj s₁ h₁=>?_
 obtain⟨rfl,rfl⟩:=h₁
 have hS:(s.heap.push {cls:=.type "list",data:=.seq #[]}).get? s.heap.objs.size=some {cls:=.type "list",data:=.seq #[]}:=K0 _ rfl
 have up:∀b o,s.heap.get? b=some o->(s.heap.push {cls:=.type "list",data:=.seq #[]}).get? b=some o:=λb o e=>KC _ e
 have lt:∀{b o},s.heap.get? b=some o->b < s.heap.objs.size:=λe=>KJ e
 obtain⟨ta,tb,hTO⟩:=hTO
 have g1:i1 < s.heap.objs.size:=by obtain⟨_,e,_⟩:=h1;exact lt e
 have g2:i2 < s.heap.objs.size:=by obtain⟨_,e,_⟩:=h2;exact lt e
 have g3:l1 < s.heap.objs.size:=by obtain⟨_,e,_⟩:=hl1;exact lt e
 have g4:l2 < s.heap.objs.size:=by obtain⟨_,e,_⟩:=hl2;exact lt e
 have g5:=lt hz
 have g6:=lt hTI
 have g7:=lt hTO
 have L:Zl z TI TO i1 i2 l1 l2 (s.heap.objs.size + 1) s.heap.objs.size:=⟨D,Mp g5,Mp g6,Mp g7,Mp g1,Mp g2,Nat.lt_succ_self _,L7 g5,L7 g6,L7 g7,L7 g1,L7 g2,L7 g3,L7 g4⟩
 have Z:Zs z TI TO i1 i2 l1 l2 (s.heap.objs.size + 1) xs ys 0 (s.heap.push {cls:=.type "list",data:=.seq #[]}):=⟨.inl ⟨rfl,up _ _ hz⟩,up _ _ hTI,⟨ta,tb,up _ _ hTO⟩,h1.at λo e=>up _ o e,h2.at λo e=>up _ o e,hl1.at λo e=>up _ o e,hl2.at λo e=>up _ o e,Mr ..,λj hj=>absurd hj (MN _)⟩
 refine⟨⟨_,hS,rfl⟩,F.args_list_init_2 _ _,?_⟩
 show wpAny _ A.in1.in1 (do let old <-Builtin.List.listItems (.ref s.heap.objs.size);Builtin.List.listUpdate (.ref s.heap.objs.size) (λ_=>#[]);letGo old.toList.reverse;Builtin.List.listExtendWith (.ref s.heap.objs.size) (.ref z) .none) _ _ _
 refine KA ?_
 unfold Builtin.List.listItems
 refine KA (wpAny_seqItems hS rfl (K3 ?_))
 show wpAny _ A.in1.in1 (updateSeq s.heap.objs.size (λ_=>#[]) >>= λ_=>letGo (#[]:Array Value).toList.reverse >>= λ_=>Builtin.List.listExtendWith (.ref s.heap.objs.size) (.ref z) .none) _ _ _
 refine KA (wpAny_updateSeq hS rfl ?_)
 have hS2:=LN (Obj.mapSeq (λ_=>(#[]:Array Value))) hS rfl
 have oth:∀b o,b≠s.heap.objs.size->(s.heap.push {cls:=.type "list",data:=.seq #[]}).get? b=some o->((s.heap.push {cls:=.type "list",data:=.seq #[]}).update s.heap.objs.size (Obj.mapSeq (λ_=>(#[]:Array Value)))).get? b=some o:=
  λb o hb e=>(Lg _ _ (Ne.symm hb)).trans e
 refine KA (wpAny_letGo ?_)
 refine Du (A:=A.in1) hh L hn hn2 h0 hb .none _ (Z.frame L oth ⟨_,hS2⟩ (Heap.SameBut.update ..).1) (oth _ _ (Lf g5) (up _ _ hz)) hS2 λh' c' k e t=>?_
 exact⟨rfl,hQ h' c' (λb o b1 b2 b3 b4 q=>k b o b1 b2 b3 b4 (Lf (lt q)) (oth b o (Lf (lt q)) (up b o q))) e t⟩
end
def xD {b m:Nat}(h:b < m)(k:Nat):b≠m + k:=by omega
def J8 (m j:Nat):m + 5 + 1 + j≠m + 5:=by omega
def J0 (m j:Nat):¬m + 5 + 1 + j < m + 5 + 1:=by omega
def Kk (m j:Nat):m + 5 + 1 + j - (m + 5 + 1)=j:=by omega
def Kx {a m:Nat}(h:¬a < m):m + (a - m)=a:=by omega
def Ki (m j:Nat):m<=m + 5 + 1 + j:=by omega
def pf (m:Nat)(H N:Hp):Hp:=λb=>if b < m then H b else N b
section
variable {X:Cx}{pins:List (Addr×Obj)}{σ:St}{H N:Hp}{s:Shared}{h':Heap}
def i9 (I:Inv X pins σ H s){b:Addr}{o:HO}(e:H b=some o):pf s.heap.objs.size H N b=some o:=by
 unfold pf;rw[KH (I.hok b o e).lt];exact e
def Inv.many {t':Nat}(I:Inv X pins σ H s)(k:∀b u,s.heap.get? b=some u->h'.get? b=some u)(new:∀a o,s.heap.objs.size<=a->N a=some o->bM X.prog X.w (pf s.heap.objs.size H N) h' a o) :
  Inv X pins σ (pf s.heap.objs.size H N) {s with heap:=h',toks:=t'}:=by
 refine I.un ⟨λb o q _ _ _=>k b o q,λb o q _ _ _=>⟨o.slots,k b o q⟩,λb o q n _=>?_,λb o q _=>⟨o,k b o q⟩,λb xs e=>i9 I e,λb o u e=>i9 I e,λb ps e=>⟨#[],by rw[i9 I e];simp⟩⟩ λa o e=>?_
 ·unfold pf;rw[KH (KJ q)];exact n
 ·by_cases c:a < s.heap.objs.size
  ·have e':H a=some o:=by unfold pf at e;rw[KH c] at e;exact e
   exact (I.hok a o e').stay (λb u _ q=>k b u q) (λb q=>i9 I q) λb xs q=>q.imp (λq=>i9 I q) λ⟨o,q⟩=>⟨o,i9 I q⟩
  ·exact new a o (Nat.le_of_not_lt c) (by unfold pf at e;rw[KZ c] at e;exact e)
end
def JN:List V->Hp->VK->Prop:=λvs H Q=>∃a b xs ys,vs= [.ref a,.ref b]/\Rd H a (.lst xs)/\Rd H b (.lst ys)/\xs.length=ys.length/\0 < xs.length/\xs.length<=1000/\
 ∀(H':Hp) (l:Addr) (T:Nat->Addr),ai H H'->H l=none->H' l=some (.lst ((List.range xs.length).map λj=>V.ref (T j)))->(∀j x y,xs[j]? =some x->ys[j]? =some y->H' (T j)=some (.tup [x,y]))->Q (.ref l) H'
def su (m:Nat)(xs ys:List V):Hp:=λb=>if b=m + 5 then some (.lst ((List.range xs.length).map λj=>V.ref (m + 5 + 1 + j))) else if b < m + 5 + 1 then none else match xs[b - (m + 5 + 1)]?,ys[b - (m + 5 + 1)]? with
 |some x,some y=>some (.tup [x,y])
 |_,_=>none
def zX:bootBuiltins "list"=some (.type "list"):=by decide +kernel
theorem pR (f:Nat->Addr):∀l:List Nat,Vals (l.map λj=>V.ref (f j)) (l.map λj=>Value.ref (f j))
 | []=>.nil
 |_ :: l=>.cons rfl (pR f l)
section
variable {X:Cx}
theorem GR {a b:Expr}{ta:TA}{p1 p2 pos pos2:Pos}(hc:X.calm=true)(hg:Gl X "list")(hm:X.mg "list"=none)(hg2:Gl X "zip")(hm2:X.mg "zip"=none)(ha:PA X [a,b] ta)
  (hs:starEach [a,b] X.env=(false,eval a X.env) :: starEach [b] X.env) (hpl:(backTo pos2 (starEach [b] X.env)).any (·.1)=false)
  (he2:starEach [.Call (.Name "zip" p2) [a,b] [] pos2] X.env=(false,eval (.Call (.Name "zip" p2) [a,b] [] pos2) X.env) :: starEach [] X.env) :
  PE X (.Call (.Name "list" p1) [.Call (.Name "zip" p2) [a,b] [] pos2] [] pos) (IY JN ta):=by
 intro pins s σ H Q I h
 refine Mf (kz I hg hm zX (LW ?_ he2 rfl))
 rw[he2]
 show wpAny _ _ (spliced ((false,eval (.Call (.Name "zip" p2) [a,b] [] pos2) X.env) :: backTo pos (starEach [] X.env))) _ _ s
 refine Calls.spliced_cons (Mf (kz I hg2 hm2 boot_zip (LW (b7 (ha pos2 pins s σ H _ I h) λus s1 ⟨vs,H1,I1,r1,q1⟩=>?_) hs hpl)))
 obtain⟨a,b,xs,ys,e,h1,h2,el,e0,e1,q⟩:=q1
 subst e
 cases r1 with
 |cons r rr=>
  cases rr with
  |cons r' rr=>
   cases rr
   cases r
   cases r'
   obtain⟨its,rv,p1,hz⟩:=I1.list (.inl h1)
   obtain⟨its2,rv2,p2,hz2⟩:=I1.list (.inl h2)
   have l1:=rv.length
   have l2:=rv2.length
   have w1:a < s1.heap.objs.size:=by obtain⟨_,e,_⟩:=p1.isList;exact KJ e
   have w2:b < s1.heap.objs.size:=by obtain⟨_,e,_⟩:=p2.isList;exact KJ e
   refine call_zip_2 p1.isList p2.isList λh' z1 z2 z3 z4 z5 z6 z7=>Calls.spliced_nil ?_
   have D:=Fq (n:=s1.heap.objs.size) (λc hc=>I1.hok.fresh (by
    simp only[EG,KG,K5,LF] at hc
    rcases hc with rfl |rfl |rfl |rfl |rfl <;> first |exact KI _ |exact Nat.le_add_right _ _)) h1 h2
   have hh:X.A.handled=none:=I1.ok.hd hc
   refine C3 (s:={s1 with heap:=h'}) (n:=xs.length) hh D (by simp;omega) (by simp;omega) e0 e1 z1 z2 ⟨_,_,z3⟩ z4 z5 (p1.isList.at λo e=>z7 _ o e) (p2.isList.at λo e=>z7 _ o e) λg c k f t=>?_
   have f:g.get? h'.objs.size=some {cls:=.type "list",dict:=none,data:=.seq (Be (h'.objs.size + 1) xs.length) c,slots:=#[]}:=f
   have t:∀j,j < xs.length->∃x y,its.toArray[j]? =some x/\its2.toArray[j]? =some y/\IsPair g (h'.objs.size + 1 + j) x y:=t
   rw[z6] at f t
   have keep:∀b o,s1.heap.get? b=some o->g.get? b=some o:=λb o e=>by
    have lt:=KJ e
    exact k b o (xD lt 4) (xD lt 3) (xD lt 0) (xD lt 1) (z7 b o e)
   have nl:su s1.heap.objs.size xs ys (s1.heap.objs.size + 5)=some (.lst ((List.range xs.length).map λj=>V.ref (s1.heap.objs.size + 5 + 1 + j))):=by unfold su;rw[KH rfl]
   have nt:∀j x y,xs[j]? =some x->ys[j]? =some y->su s1.heap.objs.size xs ys (s1.heap.objs.size + 5 + 1 + j)=some (.tup [x,y]):=λj x y ex ey=>by
    unfold su
    rw[KZ (J8 _ j),KZ (J0 _ j),Kk,ex,ey]
   have I2:Inv X pins σ (pf s1.heap.objs.size H1 (su s1.heap.objs.size xs ys)) {s1 with heap:=g,toks:=s1.toks}:=I1.many keep λa o la e=>by
    unfold su at e
    split at e
    ·rename_i ea
     subst ea
     cases e
     refine⟨by rw[KD,Ma,Ld];omega,(List.range xs.length).map λj=>Value.ref (s1.heap.objs.size + 5 + 1 + j),c,pR _ _,f⟩
    ·split at e
     ·cases e
     ·rename_i n1 n2
      split at e
      ·rename_i x y ex ey
       cases e
       have lj:a - (s1.heap.objs.size + 5 + 1) < xs.length:=(KN.mp ex).1
       obtain⟨u,v,eu,ev,ep⟩:=t _ lj
       obtain⟨u',hu,ru⟩:=rv.get ex
       obtain⟨v',hv,rw'⟩:=rv2.get ey
       have eu:its[a - (s1.heap.objs.size + 5 + 1)]? =some u:=by simpa using eu
       have ev:its2[a - (s1.heap.objs.size + 5 + 1)]? =some v:=by simpa using ev
       rw[hu] at eu
       rw[hv] at ev
       cases eu
       cases ev
       rw[Kx n2] at ep
       exact⟨by show 2<=sizeLine;rw[Ld];omega,[u,v],.cons ru (.cons rw' .nil),_,ep,rfl,_,rfl,rfl⟩
      ·cases e
   have ge:∀b,s1.heap.objs.size<=b->pf s1.heap.objs.size H1 (su s1.heap.objs.size xs ys) b=su s1.heap.objs.size xs ys b:=λb hb=>by unfold pf;rw[KZ (Nat.not_lt.mpr hb)]
   refine⟨.ref (s1.heap.objs.size + 5),_,I2,?_,q _ (s1.heap.objs.size + 5) (λj=>s1.heap.objs.size + 5 + 1 + j) (λb o e=>Kt.of (i9 I1 e)) (I1.hok.fresh (Nat.le_add_right _ _)) ((ge _ (Nat.le_add_right _ _)).trans nl) λj x y ex ey=>(ge _ (Ki _ j)).trans (nt j x y ex ey)⟩
   show RelV (.ref (s1.heap.objs.size + 5)) (.ref h'.objs.size)
   rw[z6];rfl
end
section
variable {K:Frag}{X:Cx}{Γ:Fx}{E:XK}{a b:Expr}{fa fb:VF D}{La Lb:List Nat}{ma mb:Md}{pos:Pos}
def HZ:D->D->Option D
 | .list ds,.list es=>if ds.length=es.length/\0 < ds.length/\ds.length<=1000 then some (.list (CI ds es)) else none
 |_,_=>none
def IM:mq K (λx y=>JN [x,y]) HZ .w:=by
 intro B G H x y dx dy d Q s hB bx by' e k
 cases dx <;> cases dy <;> first | (cases e;done) |skip
 rename_i ds es
 simp only[HZ] at e
 split at e
 ·rename_i hz
  cases e
  obtain⟨p,xs,rfl,q1,r1⟩:=bx.list s
  obtain⟨p2,ys,rfl,q2,r2⟩:=by'.list s
  have n1:=r1.len
  have n2:=r2.len
  refine⟨p,p2,xs,ys,rfl,q1,q2,by omega,by omega,by omega,λH' l T sH hl el et=>?_⟩
  have gl:ka G H' l=none:=by
   have:=s.free hl
   unfold ka
   rw[this,el]
   exact KZ (by first |exact id | (intro z;cases z) |simp[Fz])
  refine k _ (ka G H') H' (Ext.tups s sH) ⟨l,rfl,hl,gl,_,el,?_⟩
  have key:∀(xs ys:List V) (ds es:List D) (m:Nat),bH K G xs ds->bH K G ys es->xs.length=ys.length->(∀j x y,xs[j]? =some x->ys[j]? =some y->H' (T (m + j))=some (.tup [x,y]))->bH K (ka G H') ((List.range' m xs.length).map λj=>V.ref (T j)) (CI ds es):=by
   intro xs
   induction xs with
   |nil=>
    intro ys ds es m r1 r2 hl _
    cases r1
    cases ys with
    |nil=>exact .nil
    |cons _ _=>cases hl
   |cons x xs ih=>
    intro ys ds es m r1 r2 hl ht
    cases r1 with
    |cons a1 a2=>
     cases ys with
     |nil=>cases hl
     |cons y ys=>
      cases r2 with
      |cons b1 b2=>
       refine .cons (.tup (nr (s.trans sH) (.inl (.inl (ht 0 x y rfl rfl)))) (.cons (a1.mono j4) (.cons (b1.mono j4) .nil))) ?_
       exact ih ys _ _ (m + 1) a2 b2 (by simpa using hl) λj x' y' ex ey=>by
        have:=ht (j + 1) x' y' ex ey
        rw[show m + 1 + j=m + (j + 1) by omega];exact this
  have:=key xs ys ds es 0 r1 r2 (by omega) λj x y ex ey=>by rw[LK];exact et j x y ex ey
  rw[<-List.range_eq_range'] at this
  exact this
 ·cases e
def HG {p1 p2 pos2:Pos}(hc:X.calm=true)(hg:Gl X "list")(hm:X.mg "list"=none)(hg2:Gl X "zip")(hm2:X.mg "zip"=none)(ha:SE X Γ E a fa La ma)(hb:SE X Γ E b fb Lb mb)
  (hs:starEach [a,b] X.env=(false,eval a X.env) :: starEach [b] X.env:=by rfl) (hs2:starEach [b] X.env=(false,eval b X.env) :: starEach [] X.env:=by rfl) (hpl:(backTo pos2 (starEach [b] X.env)).any (·.1)=false:=by rfl)
  (he2:starEach [.Call (.Name "zip" p2) [a,b] [] pos2] X.env=(false,eval (.Call (.Name "zip" p2) [a,b] [] pos2) X.env) :: starEach [] X.env:=by rfl) :
  SE X Γ E (.Call (.Name "list" p1) [.Call (.Name "zip" p2) [a,b] [] pos2] [] pos) (f2 fa fb HZ) (La ++ Lb) .w:=
 PE.post' (GR hc hg hm hg2 hm2 (ah ha (ah hb aH hs2) hs) hs hpl he2) λσ H Q ⟨env,G,B,β,I,o⟩=>jT (r:=λx y=>JN [x,y]) IM I o
end
end L2
namespace RM
open PySem L2
def iU:SF:=(bK (cV (f2 (f2 (gv 0) (cst (.int 0)) cA) (f2 (gv 1) (cst (.int 0)) cA) wG) (f2 (f2 (gv 0) (cst (.int 1)) cA) (f2 (gv 1) (cst (.int 1)) cA) wG)))
def fQ (bb bN bO aZ eB:List D->FR):SF:=(aL (pI ([1] ++ []) (au bb (aa (gv 1) ag)))
 (aL (dk 2 ([] ++ []) (f2 (gv 1) (cst (.int 0)) cA))
 (aL (jO ([] ++ ([] ++ [2])) (lH (oR (jZ (f1 (gv 0) (gC "list")))) (oR (jZ (f1 (aF 1 [2] (.nm 0) (bz (gv 0)) gy (au bN (aa (gv 0) (aa (gv 1) ag)))) (cm λbs=>bs.all id)))))
 (bK (cst (.bool false)))
 lI)
 (aL (jO ((([] ++ []) ++ ([2] ++ [])) ++ (([] ++ []) ++ ([2] ++ []))) (lH (oR (jZ (au bO (aa (f1 (aF 2 [] (.two 0 1) (bz (gv 0)) gy (gv 0)) bW) (aa (gv 2) ag))))) (oR (jZ (au bO (aa (f1 (aF 2 [] (.two 0 1) (bz (gv 0)) gy (gv 1)) bW) (aa (gv 2) ag))))))
 (bK (cst (.bool false)))
 lI)
 (bK (f2 (f1 (aF 2 [0] (.two 0 1) (bz (au aZ (aa (gv 2) ag))) (jZ (au eB (aa (f2 (gv 2) (gv 0) cA) (aa (f2 (gv 2) (gv 1) cA) ag)))) (bL (aa (gv 0) (aa (gv 1) ag)))) bW) (f2 (gv 1) (cst (.int 1)) cA) (dG false)))))))
def dh (lS aS:List D->FR):SF:=(aL (jO (([1] ++ ([0] ++ [])) ++ ([] ++ [])) (lH (oR (jZ (au lS (aa (gv 1) (aa (gv 0) ag))))) (fH (f2 (f1 (gv 1) eY) (cst (.int 2)) (dG true))))
 (λenv β=>toS ((aa (cst (.str "these are no two rows that tell the order")) ag) (vl env) β) λds _=>if ds.length<=sizeLine then .exc "NoRows" else .bad)
 lI)
 (fE (f2 (au aS (aa (f2 (gv 1) (cst (.int 0)) cA) ag)) (au aS (aa (f2 (gv 1) (cst (.int 1)) cA) ag)) HZ)))
def jP (aS:List D->FR):SF:=(fE (bB (aa (f1 (au aS (aa (aF 2 [] (.two 0 1) (bz (gv 0)) gy (gv 0)) ag)) bW) (aa (f1 (au aS (aa (aF 2 [] (.two 0 1) (bz (gv 0)) gy (gv 1)) ag)) bW) ag))))
def fU (cH fV:List D->FR):SF:=(aL (jO ([1] ++ ([0] ++ [])) (oR (jZ (au cH (aa (gv 1) (aa (gv 0) ag)))))
 (λenv β=>toS ((aa (cst (.str "these are no points of the order")) ag) (vl env) β) λds _=>if ds.length<=sizeLine then .exc "NoPoints" else .bad)
 lI)
 (fE (fD fV (aa (gv 1) ag))))
def my (marks:Str->Option Str)(cY fS:List D->FR):SF:=(yu marks (aL (jO ([] ++ []) (fH (f2 (gv 0) (cst (.int 0)) (dG false)))
 (fE (fD cY (aa (gv 1) (aa (gv 2) ag))))
 lI)
 (fE (fD fS (aa (gv 1) (aa (gv 2) ag))))))
def wd (dN df bp cj:List D->FR)(aM bP dS:List D->Int->FB):SF:=(aL (gL (.nm 1) ([] ++ ([] ++ [])) (cB (f2 (cst (.int 1)) (f2 (f1 (gv 0) eY) (cst (.int 5)) (xg λi j=>.int (if j < i then j else i))) (xg λi j=>.int (if j > i then j else i))))
 (aL (wI 2 ([0] ++ ([1] ++ [])) (fD dN (aa (gv 0) (aa (gv 1) ag))))
 (aL (dk 3 ([] ++ ([] ++ [])) (f2 (cst (.int 1)) (ua 2 aM (aa (cst (.int 8)) ag)) gQ))
 (aL (dk 4 ([] ++ []) (aF 1 [2,3] (.nm 0) (cB (cst (.int 2))) gy (f1 (ua 1 bP (aa (f1 (gv 2) ia) ag)) bW)))
 (aL (dk 5 ([3] ++ (([3] ++ ([4] ++ [])) ++ [])) (bL (aa (gv 3) (aa (au df (aa (gv 3) (aa (gv 4) ag))) ag))))
 (aL (dk 6 ([] ++ []) (aF 1 [4] (.nm 0) (cB (gv 3)) gy (bL (aa (jr (f2 (gv 1) (cst (.int 0)) cA) (gv 0)) (aa (jr (f2 (gv 1) (cst (.int 1)) cA) (gv 0)) ag)))))
 (aL (gL (.nm 7) [] (cB (cst (.int 2)))
 (aL (B3 8 9 ([] ++ ([5] ++ ([] ++ []))) ([] ++ ([5] ++ ([] ++ []))) (fD bp (aa (cst (.int 0)) (aa (gv 5) (aa (f1 (gv 4) jw) ag)))) (fD bp (aa (cst (.int 1)) (aa (gv 5) (aa (f1 (gv 6) jw) ag)))))
 (aL (jO (([] ++ []) ++ ([] ++ [])) (lH (fH (f2 (f1 (gv 8) kF) (f1 (gv 6) kF) (zt true))) (fH (f2 (f1 (gv 9) kF) (f1 (gv 4) kF) (zt true))))
 (bK (cst (.bool false)))
 lI)
 (aL (o3 8 [] (cst (.int 0)))
 (o3 9 [] (cst (.int 0)))))))
 (aL (gL (.nm 10) ((([] ++ []) ++ []) ++ (([] ++ (([] ++ []) ++ [])) ++ ([] ++ ([] ++ ([] ++ ((([] ++ []) ++ (([] ++ []) ++ [])) ++ ([] ++ []))))))) (bz (bB (aa (yZ (gv 4) (λ_ β=>.ok none β) (yC (cst (.int 1)))) (aa (f2 (gv 4) (yZ (gv 4) (λ_ β=>.ok none β) (yC (cst (.int 1)))) mC) (aa (f1 (gv 4) bW) (aa (bB ag) (aa (cst .none) (aa (bB (aa (f2 (gv 4) (cst (.int 0)) cA) (aa (f1 (f2 (gv 4) (cst (.int 1)) cA) jw) ag))) (aa (ua 2 dS ag) ag)))))))))
 (jO (([] ++ ([5] ++ ([10] ++ []))) ++ []) (fH (f2 (au bp (aa (cst (.int 0)) (aa (gv 5) (aa (gv 10) ag)))) (cst (.str "rows")) (dG true)))
 (bK (cst (.bool false)))
 lI))
 (aL (jO ((([5] ++ []) ++ []) ++ (([] ++ ([5] ++ ((([] ++ []) ++ (([] ++ []) ++ [])) ++ []))) ++ [])) (Aa (fH (f2 (au cj (aa (gv 5) ag)) (bB ag) (dG true))) (fH (f2 (au bp (aa (cst (.int 0)) (aa (gv 5) (aa (bB (aa (f2 (gv 4) (cst (.int 0)) cA) (aa (f2 (gv 4) (cst (.int 0)) cA) ag))) ag)))) (cst (.str "rows")) (dG true))))
 (bK (cst (.bool false)))
 lI)
 (aL (gL (.nm 10) ((([] ++ []) ++ []) ++ (([] ++ (([] ++ []) ++ [])) ++ ([] ++ ([] ++ (([] ++ []) ++ ([] ++ [])))))) (bz (bB (aa (yZ (gv 6) (yC (cst (.int 1))) (λ_ β=>.ok none β)) (aa (f2 (gv 6) (yZ (gv 6) (λ_ β=>.ok none β) (yC (cst (.int 1)))) mC) (aa (f1 (gv 6) bW) (aa (cst .none) (aa (aF 1 [] (.nm 0) (bz (gv 6)) gy (f1 (gv 0) jw)) (aa (cst (.dict [])) ag))))))))
 (jO (([] ++ ([5] ++ ([10] ++ []))) ++ []) (fH (f2 (au bp (aa (cst (.int 1)) (aa (gv 5) (aa (gv 10) ag)))) (cst (.str "points")) (dG true)))
 (bK (cst (.bool false)))
 lI))
 (jO ((([5] ++ []) ++ []) ++ (([] ++ ([5] ++ (([] ++ []) ++ []))) ++ [])) (Aa (fH (f2 (au cj (aa (gv 5) ag)) (bB ag) (dG true))) (fH (f2 (au bp (aa (cst (.int 1)) (aa (gv 5) (aa (aF 2 [] (.two 0 1) (bz (gv 6)) gy (bL (aa (gv 0) (aa (gv 0) ag)))) ag)))) (cst (.str "points")) (dG true))))
 (bK (cst (.bool false)))
 lI)))))))))))
 (bK (cst (.bool true))))
end RM
namespace RQ
open PySem L2 RM
def top (i:Nat):Stmt:=PySem.Challenge.pw_rowsorder_k32_points_and_two_rows.main.body.getD i (.Pass ⟨0,0,0,0⟩)
section
variable {P:Program}{w:World}{K:Frag}{mg:Str->Option Value}{base:Heap}{ca:Str->Addr}
abbrev iE:Stmt:=top 2
def uc:aB ["thing"] ["thing"] (ak iE):=⟨rfl,rfl,rfl,by decide +kernel,rfl,by decide +kernel,by decide +kernel⟩
def rA {f:Addr}{fd:FuncData}(F:ji K mg "is_whole" iE ["thing"] f fd)(B:jj mg):cE P w K mg base ca "is_whole" ["thing"] 1 (aY 1 1 (oo)):=
 ⟨⟨f,fd,F.mg,F.F.kp,F.b,aO (N:=["thing"]) (k:=0) F.F uc λcdv A outer s H G E hr=>
  (az (aQ (gY (jo "int" (by decide) rfl rfl B.isinstance rfl B.int (by decide +kernel) (af 0)) (jd (AS (jo "bool" (by decide) rfl rfl B.isinstance rfl B.bool (by decide +kernel) (af 0)))) (λ_ _=>rfl))))⟩,λds h=>aJ ds h⟩
abbrev ja:Stmt:=top 3
def sS:aB ["thing","bound"] ["thing","bound"] (ak ja):=⟨rfl,rfl,rfl,by decide +kernel,rfl,by decide +kernel,by decide +kernel⟩
def qJ {f:Addr}{fd:FuncData}{bI:List D->FR}(F:ji K mg "is_below" ja ["thing","bound"] f fd)(B:jj mg)(eh:cE P w K mg base ca "is_whole" ["thing"] 1 bI):cE P w K mg base ca "is_below" ["thing","bound"] 2 (aY 2 2 (nQ bI)):=
 ⟨⟨f,fd,F.mg,F.F.kp,F.b,aO (N:=["thing","bound"]) (k:=1) F.F sS λcdv A outer s H G E hr=>
  (az (aQ (gY (aC eh (hr.mono (by decide)) a9 rfl rfl (ae (ax 0 rfl) aq)) (jd (sV Bu pE FJ yJ ar (af 0) (af 1))) (λ_ _=>rfl))))⟩,λds h=>aJ ds h⟩
abbrev j6:Stmt:=top 4
def v3:aB ["thing"] ["thing"] (ak j6):=⟨rfl,rfl,rfl,by decide +kernel,rfl,by decide +kernel,by decide +kernel⟩
def sr {f:Addr}{fd:FuncData}{bI:List D->FR}(F:ji K mg "is_many" j6 ["thing"] f fd)(B:jj mg)(eh:cE P w K mg base ca "is_whole" ["thing"] 1 bI){oV:Tok}(hV:mg "MOST_THINGS"=some (.int 8 oV)):cE P w K mg base ca "is_many" ["thing"] 2 (aY 1 1 (pS bI)):=
 ⟨⟨f,fd,F.mg,F.F.kp,F.b,aO (N:=["thing"]) (k:=1) F.F v3 λcdv A outer s H G E hr=>
  (az (aQ (gY (aC eh (hr.mono (by decide)) a9 rfl rfl (ae (ax 0 rfl) aq)) (jd (sV Bu Bu FJ FJ ar (af 0) (Dt (by rfl) hV))) (λ_ _=>rfl))))⟩,λds h=>aJ ds h⟩
abbrev jV:Stmt:=top 5
def vv:aB ["thing","many"] ["thing","many"] (ak jV):=⟨rfl,rfl,rfl,by decide +kernel,rfl,by decide +kernel,by decide +kernel⟩
def mB {f:Addr}{fd:FuncData}{bA:List D->FR}(F:ji K mg "is_pair" jV ["thing","many"] f fd)(B:jj mg)(cC:cE P w K mg base ca "is_below" ["thing","bound"] 2 bA):cE P w K mg base ca "is_pair" ["thing","many"] 3 (aY 2 2 (il bA)):=
 ⟨⟨f,fd,F.mg,F.F.kp,F.b,aO (N:=["thing","many"]) (k:=2) F.F vv λcdv A outer s H G E hr=>
  (av (cO (pD.t (lx (cW (cw rfl (jo "tuple" (by decide) rfl rfl B.isinstance rfl B.tuple (by decide +kernel) (af 0)))) (iP (b8 (dX hr.units) gE (aX dB kT rfl B.len L5 (af 0)) ar (a8 _))) (λ_ _=>rfl)))
  (az (aQ fF))
  bV)
  (az (aQ (gY (aC cC (hr.mono (by decide)) a9 rfl rfl (ae (bo aR cD (af 0) ar (λ_ _=>rfl)) (ae (ax 1 rfl) aq))) (jd (aC cC (hr.mono (by decide)) a9 rfl rfl (ae (bo aR cD (af 0) ar (λ_ _=>rfl)) (ae (ax 1 rfl) aq)))) (λ_ _=>rfl)))))⟩,λds h=>aJ ds h⟩
abbrev jN:Stmt:=top 6
def uX:aB ["thing","many"] ["thing","many"] (ak jN):=⟨rfl,rfl,rfl,by decide +kernel,rfl,by decide +kernel,by decide +kernel⟩
def tY {f:Addr}{fd:FuncData}{bA:List D->FR}(F:ji K mg "is_line" jN ["thing","many"] f fd)(B:jj mg)(cC:cE P w K mg base ca "is_below" ["thing","bound"] 2 bA):cE P w K mg base ca "is_line" ["thing","many"] 3 (aY 2 2 (j3 bA)):=
 ⟨⟨f,fd,F.mg,F.F.kp,F.b,aO (N:=["thing","many"]) (k:=2) F.F uX λcdv A outer s H G E hr=>
  (av (cO (pD.t (lx (cW (cw rfl (jo "tuple" (by decide) rfl rfl B.isinstance rfl B.tuple (by decide +kernel) (af 0)))) (iP (b8 (dX hr.units) gE (aX dB kT rfl B.len L5 (af 0)) (af 1) (a8 _))) (λ_ _=>rfl)))
  (az (aQ fF))
  bV)
  (az (aQ (gY (aX (h9 rfl) i7 rfl B.all (by decide +kernel) (bC (NB:=["one","many"]) (own:=1) (ixs:=[1]) [1] rfl (bX (by kernel_rfl)) (λ_ _=>rfl) (jJ rfl (af 0)) (λH0 G0 par br bx C ex s3 H3 pn=>(cX (i:=0) (show (["one","many"]:List Str).Nodup by decide +kernel))) (λH0 G0 par br bx C ex s3 H3 pn hB1=>bR) (λH0 G0 par br bx C ex s3 H3 pn hB1=>(aC cC (hr.mono (by decide)) lb rfl rfl (ae (ax 0 (hB1 0 (by decide))) (ae (ax 1 (hB1 1 (by decide))) aq)))))) (jd (fB (iM hr.units) gE (yE rfl rfl rfl B.len rfl B.set (af 0)) (af 1) (a8 _))) (λ_ _=>rfl)))))⟩,λds h=>aJ ds h⟩
abbrev dq:Stmt:=top 7
def oU:aB ["many"] ["many"] (ak dq):=⟨rfl,rfl,rfl,by decide +kernel,rfl,by decide +kernel,by decide +kernel⟩
def nO {f:Addr}{fd:FuncData}(F:ji K mg "every_pair" dq ["many"] f fd)(B:jj mg):cE P w K mg base ca "every_pair" ["many"] 1 (aY 1 1 (fR)):=
 ⟨⟨f,fd,F.mg,F.F.kp,F.b,aO (N:=["many"]) (k:=0) F.F oU λcdv A outer s H G E hr=>
  (az (gH (bC (NB:=["number","many"]) (own:=1) (ixs:=[0]) [] rfl (bX (by kernel_rfl)) (λ_ _=>rfl) (ke rfl B.range (bY jK kG (af 0) (af 0))) (λH0 G0 par br bx C ex s3 H3 pn=>(cX (i:=0) (show (["number","many"]:List Str).Nodup by decide +kernel))) (λH0 G0 par br bx C ex s3 H3 pn hB1=>bR) (λH0 G0 par br bx C ex s3 H3 pn hB1=>(gf (ae (bY lD Cc (af 0) (af 1)) (ae (bY kE pH (af 0) (af 1)) aq)))))))⟩,λds h=>aJ ds h⟩
abbrev iK:Stmt:=top 25
def tj:aB ["pairs"] ["pairs"] (ak iK):=⟨rfl,rfl,rfl,by decide +kernel,rfl,by decide +kernel,by decide +kernel⟩
def qO {f:Addr}{fd:FuncData}(F:ji K mg "has_ring" iK ["pairs"] f fd)(B:jj mg):cE P w K mg base ca "has_ring" ["pairs"] 1 (aY 1 1 (nM)):=
 ⟨⟨f,fd,F.mg,F.F.kp,F.b,aO (N:=["pairs"]) (k:=0) F.F tj λcdv A outer s H G E hr=>
  (az (aQ (aX (As rfl) i7 rfl B.any (by decide +kernel) (bC (NB:=["a","b"]) (own:=2) (ixs:=[]) [] rfl (bX (by kernel_rfl)) (λ_ _=>rfl) (jJ rfl (af 0)) (λH0 G0 par br bx C ex s3 H3 pn=>(hJ (i:=0) (j:=1) (show (["a","b"]:List Str).Nodup by decide +kernel))) (λH0 G0 par br bx C ex s3 H3 pn hB1=>bR) (λH0 G0 par br bx C ex s3 H3 pn hB1=>(fB (iM hr.units) gE (af 0) (af 1) (a8 _)))))))⟩,λds h=>aJ ds h⟩
abbrev jb:Stmt:=top 23
def jH:aB ["thing","many","pairs"] ["thing"] (ak jb):=⟨rfl,rfl,rfl,by decide +kernel,rfl,by decide +kernel,by decide +kernel⟩
def rL {f:Addr}{fd:FuncData}{fW bN hZ dO:List D->FR}(F:ji K mg "is_order" jb ["thing"] f fd)(B:jj mg)(l9:cE P w K mg base ca "is_many" ["thing"] 2 fW)(iq:cE P w K mg base ca "is_pair" ["thing","many"] 3 bN)(nv:cE P w K mg base ca "closed" ["many","pairs"] 3 hZ)(kC:cE P w K mg base ca "has_ring" ["pairs"] 1 dO):cE P w K mg base ca "is_order" ["thing"] 4 (aY 3 1 (gA fW bN hZ dO)):=
 ⟨⟨f,fd,F.mg,F.F.kp,F.b,aO (N:=["thing","many","pairs"]) (k:=3) F.F jH λcdv A outer s H G E hr=>
  (av (cO (pD.t (lx (cW (cw rfl (jo "tuple" (by decide) rfl rfl B.isinstance rfl B.tuple (by decide +kernel) (af 0)))) (iP (b8 (dX hr.units) gE (aX dB kT rfl B.len L5 (af 0)) ar (a8 _))) (λ_ _=>rfl)))
  (az (aQ fF))
  bV)
  (av (cv (i:=1) (bo aR cD (af 0) ar (λ_ _=>rfl)) jH.nd)
  (av (cv (i:=2) (bo aR cD (af 0) ar (λ_ _=>rfl)) jH.nd)
  (av (cO (pD.t (lx (cW (cw rfl (aC l9 (hr.mono (by decide)) a9 rfl rfl (ae (ax 1 rfl) aq)))) (iP (cW (cw rfl (jo "tuple" (by decide) rfl rfl B.isinstance rfl B.tuple (by decide +kernel) (af 2))))) (λ_ _=>rfl)))
  (az (aQ fF))
  bV)
  (av (cO (cW (cw rfl (aX (h9 rfl) i7 rfl B.all (by decide +kernel) (bC (NB:=["pair","many"]) (own:=1) (ixs:=[1]) [1] rfl (bX (by kernel_rfl)) (λ_ _=>rfl) (jJ rfl (af 2)) (λH0 G0 par br bx C ex s3 H3 pn=>(cX (i:=0) (show (["pair","many"]:List Str).Nodup by decide +kernel))) (λH0 G0 par br bx C ex s3 H3 pn hB1=>bR) (λH0 G0 par br bx C ex s3 H3 pn hB1=>(aC iq (hr.mono (by decide)) lb rfl rfl (ae (ax 0 (hB1 0 (by decide))) (ae (ax 1 (hB1 1 (by decide))) aq))))))))
  (az (aQ fF))
  bV)
  (az (aQ (gY (fB (iM hr.units) gE (af 2) (aC nv (hr.mono (by decide)) a9 rfl rfl (ae (ax 1 rfl) (ae (ax 2 rfl) aq))) (a8 _)) (jd (AS (aC kC (hr.mono (by decide)) a9 rfl rfl (ae (ax 2 rfl) aq)))) (λ_ _=>rfl)))))))))⟩,λds h=>aJ ds h⟩
abbrev fN:Stmt:=top 26
def o5:aB ["thing"] ["thing"] (ak fN):=⟨rfl,rfl,rfl,by decide +kernel,rfl,by decide +kernel,by decide +kernel⟩
def oJ {f:Addr}{fd:FuncData}{dP:List D->FR}(F:ji K mg "need_order" fN ["thing"] f fd)(B:jj mg)(kx:cE P w K mg base ca "is_order" ["thing"] 4 dP)(ik:Exc K mg ca "NoOrder"):cE P w K mg base ca "need_order" ["thing"] 5 (aY 1 1 (fO dP)):=
 ⟨⟨f,fd,F.mg,F.F.kp,F.b,aO (N:=["thing"]) (k:=4) F.F o5 λcdv A outer s H G E hr=>
  (az (cO (cW (cw rfl (aC kx (hr.mono (by decide)) a9 rfl rfl (ae (ax 0 rfl) aq))))
  (az (oh ik.ex ik.ca rfl ik.mg (ae js aq)))
  bV))⟩,λds h=>aJ ds h⟩
abbrev kO:Stmt:=top 29
def lM:aB ["row","found","place","thing"] ["row"] (ak kO):=⟨rfl,rfl,rfl,by decide +kernel,rfl,by decide +kernel,by decide +kernel⟩
def ux {f:Addr}{fd:FuncData}(F:ji K mg "places" kO ["row"] f fd)(B:jj mg):cE P w K mg base ca "places" ["row"] 1 (aY 4 1 (lJ)):=
 ⟨⟨f,fd,F.mg,F.F.kp,F.b,aO (N:=["row","found","place","thing"]) (k:=0) F.F lM λcdv A outer s H G E hr=>
  (av (mX (i:=1) (FD (cn (ae ar aq)) (aX dB kT rfl B.len L5 (af 0))) lM.nd)
  (av (i0 PassesOwn.leaving rfl (E3 rfl rfl B.enumerate (ax 0 rfl)) (hJ (i:=2) (j:=3) lM.nd)
  (az (CM 1 (λ_=>rfl) (ax 2 rfl) (af 3))))
  (az (qG 1))))⟩,λds h=>aJ ds h⟩
abbrev eT:Stmt:=top 28
def jt:aB ["thing","order","place"] ["thing","order"] (ak eT):=⟨rfl,rfl,rfl,by decide +kernel,rfl,by decide +kernel,by decide +kernel⟩
def mG {f:Addr}{fd:FuncData}{bO aS:List D->FR}(F:ji K mg "keeps_order" eT ["thing","order"] f fd)(B:jj mg)(dY:cE P w K mg base ca "is_line" ["thing","many"] 3 bO)(bS:cE P w K mg base ca "places" ["row"] 1 aS):cE P w K mg base ca "keeps_order" ["thing","order"] 4 (aY 3 2 (eM bO aS)):=
 ⟨⟨f,fd,F.mg,F.F.kp,F.b,aO (N:=["thing","order","place"]) (k:=3) F.F jt λcdv A outer s H G E hr=>
  (av (cO (cW (cw rfl (aC dY (hr.mono (by decide)) a9 rfl rfl (ae (ax 0 rfl) (ae (bo aR cD (af 1) ar (λ_ _=>rfl)) aq)))))
  (az (aQ fF))
  bV)
  (av (cv (i:=2) (aC bS (hr.mono (by decide)) a9 rfl rfl (ae (ax 0 rfl) aq)) jt.nd)
  (az (aQ (aX (h9 rfl) i7 rfl B.all (by decide +kernel) (bC (NB:=["a","b","place"]) (own:=2) (ixs:=[2]) [] rfl (bX (by kernel_rfl)) (λ_ _=>rfl) (jJ rfl (bo aR cD (af 1) ar (λ_ _=>rfl))) (λH0 G0 par br bx C ex s3 H3 pn=>(hJ (i:=0) (j:=1) (show (["a","b","place"]:List Str).Nodup by decide +kernel))) (λH0 G0 par br bx C ex s3 H3 pn hB1=>bR) (λH0 G0 par br bx C ex s3 H3 pn hB1=>(fB pE yJ (bo aR cD (af 2) (af 0) (λ_ _=>rfl)) (bo aR cD (af 2) (af 1) (λ_ _=>rfl)) (a8 _)))))))))⟩,λds h=>aJ ds h⟩
abbrev dF:Stmt:=top 31
def mI:aB ["tables","a","b"] ["tables","a","b"] (ak dF):=⟨rfl,rfl,rfl,by decide +kernel,rfl,by decide +kernel,by decide +kernel⟩
def lU {f:Addr}{fd:FuncData}(F:ji K mg "stands_ahead" dF ["tables","a","b"] f fd)(B:jj mg):cE P w K mg base ca "stands_ahead" ["tables","a","b"] 1 (aY 3 3 (du)):=
 ⟨⟨f,fd,F.mg,F.F.kp,F.b,aO (N:=["tables","a","b"]) (k:=0) F.F mI λcdv A outer s H G E hr=>
  (az (aQ (aX (h9 rfl) i7 rfl B.all (by decide +kernel) (bC (NB:=["place","a","b"]) (own:=1) (ixs:=[1,2]) [] rfl (bX (by kernel_rfl)) (λ_ _=>rfl) (jJ rfl (af 0)) (λH0 G0 par br bx C ex s3 H3 pn=>(cX (i:=0) (show (["place","a","b"]:List Str).Nodup by decide +kernel))) (λH0 G0 par br bx C ex s3 H3 pn hB1=>bR) (λH0 G0 par br bx C ex s3 H3 pn hB1=>(fB pE yJ (bo aR cD (af 0) (af 1) (λ_ _=>rfl)) (bo aR cD (af 0) (af 2) (λ_ _=>rfl)) (a8 _)))))))⟩,λds h=>aJ ds h⟩
abbrev dD:Stmt:=top 30
def jf:aB ["many","rows","tables"] ["many","rows"] (ak dD):=⟨rfl,rfl,rfl,by decide +kernel,rfl,by decide +kernel,by decide +kernel⟩
def lT {f:Addr}{fd:FuncData}{aS aZ cc:List D->FR}(F:ji K mg "shared_pairs" dD ["many","rows"] f fd)(B:jj mg)(bS:cE P w K mg base ca "places" ["row"] 1 aS)(cI:cE P w K mg base ca "every_pair" ["many"] 1 aZ)(gB:cE P w K mg base ca "stands_ahead" ["tables","a","b"] 1 cc):cE P w K mg base ca "shared_pairs" ["many","rows"] 2 (aY 3 2 (dC aS aZ cc)):=
 ⟨⟨f,fd,F.mg,F.F.kp,F.b,aO (N:=["many","rows","tables"]) (k:=1) F.F jf λcdv A outer s H G E hr=>
  (av (cv (i:=2) (SE.wv (bC (NB:=["row"]) (own:=1) (ixs:=[]) [] rfl (bX (by kernel_rfl)) (λ_ _=>rfl) (jJ rfl (af 1)) (λH0 G0 par br bx C ex s3 H3 pn=>(cX (i:=0) (show (["row"]:List Str).Nodup by decide +kernel))) (λH0 G0 par br bx C ex s3 H3 pn hB1=>bR) (λH0 G0 par br bx C ex s3 H3 pn hB1=>(aC bS (hr.mono (by decide)) lb rfl rfl (ae (ax 0 (hB1 0 (by decide))) aq))))) jf.nd)
  (az (aQ (bF aW eO rfl B.tuple (by decide +kernel) (bC (NB:=["a","b","tables"]) (own:=2) (ixs:=[2]) [2] rfl (bX (by kernel_rfl)) (λ_ _=>rfl) (jJ rfl (aC cI (hr.mono (by decide)) a9 rfl rfl (ae (ax 0 rfl) aq))) (λH0 G0 par br bx C ex s3 H3 pn=>(hJ (i:=0) (j:=1) (show (["a","b","tables"]:List Str).Nodup by decide +kernel))) (λH0 G0 par br bx C ex s3 H3 pn hB2=>(mQ (cw rfl (aC gB (hr.mono (by decide)) lb rfl rfl (ae (ax 2 (hB2 2 (by decide))) (ae (ax 0 (hB2 0 (by decide))) (ae (ax 1 (hB2 1 (by decide))) aq))))))) (λH0 G0 par br bx C ex s3 H3 pn hB2=>(gf (ae (ax 0 (hB2 0 (by decide))) (ae (ax 1 (hB2 1 (by decide))) aq)))))))))⟩,λds h=>aJ ds h⟩
abbrev iH:Stmt:=top 32
def ug:aB ["thing","order"] ["thing","order"] (ak iH):=⟨rfl,rfl,rfl,by decide +kernel,rfl,by decide +kernel,by decide +kernel⟩
def rO {f:Addr}{fd:FuncData}{cu:List D->FR}(F:ji K mg "are_rows" iH ["thing","order"] f fd)(B:jj mg)(g9:cE P w K mg base ca "keeps_order" ["thing","order"] 4 cu):cE P w K mg base ca "are_rows" ["thing","order"] 5 (aY 2 2 (iX cu)):=
 ⟨⟨f,fd,F.mg,F.F.kp,F.b,aO (N:=["thing","order"]) (k:=4) F.F ug λcdv A outer s H G E hr=>
  (av (cO (pD.t (lx (cW (cw rfl (jo "list" (by decide) rfl rfl B.isinstance rfl B.list (by decide +kernel) (af 0)))) (iP (b8 (iM hr.units) gE (aX dB kT rfl B.len L5 (af 0)) ar (a8 _))) (λ_ _=>rfl)))
  (az (aQ fF))
  bV)
  (az (aQ (aX (h9 rfl) i7 rfl B.all (by decide +kernel) (bC (NB:=["row","order"]) (own:=1) (ixs:=[1]) [1] rfl (bX (by kernel_rfl)) (λ_ _=>rfl) (jJ rfl (af 0)) (λH0 G0 par br bx C ex s3 H3 pn=>(cX (i:=0) (show (["row","order"]:List Str).Nodup by decide +kernel))) (λH0 G0 par br bx C ex s3 H3 pn hB1=>bR) (λH0 G0 par br bx C ex s3 H3 pn hB1=>(aC g9 (hr.mono (by decide)) lb rfl rfl (ae (ax 0 (hB1 0 (by decide))) (ae (ax 1 (hB1 1 (by decide))) aq)))))))))⟩,λds h=>aJ ds h⟩
abbrev qy:Stmt:=top 33
def BX:aB ["thing","order"] ["thing","order"] (ak qy):=⟨rfl,rfl,rfl,by decide +kernel,rfl,by decide +kernel,by decide +kernel⟩
def Br {f:Addr}{fd:FuncData}{bb dW cf:List D->FR}(F:ji K mg "tell" qy ["thing","order"] f fd)(B:jj mg)(cJ:cE P w K mg base ca "need_order" ["thing"] 5 bb)(ko:cE P w K mg base ca "are_rows" ["thing","order"] 5 dW)(gz:cE P w K mg base ca "shared_pairs" ["many","rows"] 2 cf):cE P w K mg base ca "tell" ["thing","order"] 6 (aY 2 2 (vV bb dW cf)):=
 ⟨⟨f,fd,F.mg,F.F.kp,F.b,aO (N:=["thing","order"]) (k:=5) F.F BX λcdv A outer s H G E hr=>
  (av (wj (aC cJ (hr.mono (by decide)) a9 rfl rfl (ae (ax 1 rfl) aq)))
  (az (aQ (gY (aC ko (hr.mono (by decide)) a9 rfl rfl (ae (ax 0 rfl) (ae (ax 1 rfl) aq))) (jd (fB (iM hr.units) gE (aC gz (hr.mono (by decide)) a9 rfl rfl (ae (bo aR cD (af 1) ar (λ_ _=>rfl)) (ae (ax 0 rfl) aq))) (bo aR cD (af 1) ar (λ_ _=>rfl)) (a8 _))) (λ_ _=>rfl)))))⟩,λds h=>aJ ds h⟩
abbrev je:Stmt:=top 36
def tG:aB ["point","other"] ["point","other"] (ak je):=⟨rfl,rfl,rfl,by decide +kernel,rfl,by decide +kernel,by decide +kernel⟩
def qY {f:Addr}{fd:FuncData}(F:ji K mg "is_under" je ["point","other"] f fd)(B:jj mg):cE P w K mg base ca "is_under" ["point","other"] 1 (aY 2 2 (iU)):=
 ⟨⟨f,fd,F.mg,F.F.kp,F.b,aO (N:=["point","other"]) (k:=0) F.F tG λcdv A outer s H G E hr=>
  (az (aQ (gY (fB pE yJ (bo aR cD (af 0) ar (λ_ _=>rfl)) (bo aR cD (af 1) ar (λ_ _=>rfl)) (a8 _)) (jd (fB pE yJ (bo aR cD (af 0) ar (λ_ _=>rfl)) (bo aR cD (af 1) ar (λ_ _=>rfl)) (a8 _))) (λ_ _=>rfl))))⟩,λds h=>aJ ds h⟩
abbrev fI:Stmt:=top 35
def kc:aB ["thing","order","many"] ["thing","order"] (ak fI):=⟨rfl,rfl,rfl,by decide +kernel,rfl,by decide +kernel,by decide +kernel⟩
def nG {f:Addr}{fd:FuncData}{bb bN bO aZ eB:List D->FR}(F:ji K mg "are_points" fI ["thing","order"] f fd)(B:jj mg)(cJ:cE P w K mg base ca "need_order" ["thing"] 5 bb)(iq:cE P w K mg base ca "is_pair" ["thing","many"] 3 bN)(dY:cE P w K mg base ca "is_line" ["thing","many"] 3 bO)(cI:cE P w K mg base ca "every_pair" ["many"] 1 aZ)(kK:cE P w K mg base ca "is_under" ["point","other"] 1 eB):cE P w K mg base ca "are_points" ["thing","order"] 6 (aY 3 2 (fQ bb bN bO aZ eB)):=
 ⟨⟨f,fd,F.mg,F.F.kp,F.b,aO (N:=["thing","order","many"]) (k:=5) F.F kc λcdv A outer s H G E hr=>
  (av (wj (aC cJ (hr.mono (by decide)) a9 rfl rfl (ae (ax 1 rfl) aq)))
  (av (cv (i:=2) (bo aR cD (af 1) ar (λ_ _=>rfl)) kc.nd)
  (av (cO (pD.t (lx (cW (cw rfl (jo "list" (by decide) rfl rfl B.isinstance rfl B.list (by decide +kernel) (af 0)))) (iP (cW (cw rfl (aX (h9 rfl) i7 rfl B.all (by decide +kernel) (bC (NB:=["point","many"]) (own:=1) (ixs:=[2]) [2] rfl (bX (by kernel_rfl)) (λ_ _=>rfl) (jJ rfl (af 0)) (λH0 G0 par br bx C ex s3 H3 pn=>(cX (i:=0) (show (["point","many"]:List Str).Nodup by decide +kernel))) (λH0 G0 par br bx C ex s3 H3 pn hB1=>bR) (λH0 G0 par br bx C ex s3 H3 pn hB1=>(aC iq (hr.mono (by decide)) lb rfl rfl (ae (ax 0 (hB1 0 (by decide))) (ae (ax 1 (hB1 1 (by decide))) aq))))))))) (λ_ _=>rfl)))
  (az (aQ fF))
  bV)
  (av (cO (pD.t (lx (cW (cw rfl (aC dY (hr.mono (by decide)) a9 rfl rfl (ae (bF aW eO rfl B.tuple (by decide +kernel) (bC (NB:=["x","y"]) (own:=2) (ixs:=[]) [] rfl (bX (by kernel_rfl)) (λ_ _=>rfl) (jJ rfl (af 0)) (λH0 G0 par br bx C ex s3 H3 pn=>(hJ (i:=0) (j:=1) (show (["x","y"]:List Str).Nodup by decide +kernel))) (λH0 G0 par br bx C ex s3 H3 pn hB2=>bR) (λH0 G0 par br bx C ex s3 H3 pn hB2=>(ax 0 (hB2 0 (by decide)))))) (ae (ax 2 rfl) aq))))) (iP (cW (cw rfl (aC dY (hr.mono (by decide)) a9 rfl rfl (ae (bF aW eO rfl B.tuple (by decide +kernel) (bC (NB:=["x","y"]) (own:=2) (ixs:=[]) [] rfl (bX (by kernel_rfl)) (λ_ _=>rfl) (jJ rfl (af 0)) (λH0 G0 par br bx C ex s3 H3 pn=>(hJ (i:=0) (j:=1) (show (["x","y"]:List Str).Nodup by decide +kernel))) (λH0 G0 par br bx C ex s3 H3 pn hB3=>bR) (λH0 G0 par br bx C ex s3 H3 pn hB3=>(ax 1 (hB3 1 (by decide)))))) (ae (ax 2 rfl) aq)))))) (λ_ _=>rfl)))
  (az (aQ fF))
  bV)
  (az (aQ (fB (iM hr.units) gE (bF aW eO rfl B.tuple (by decide +kernel) (bC (NB:=["a","b","thing"]) (own:=2) (ixs:=[0]) [] rfl (bX (by kernel_rfl)) (λ_ _=>rfl) (jJ rfl (aC cI (hr.mono (by decide)) a9 rfl rfl (ae (ax 2 rfl) aq))) (λH0 G0 par br bx C ex s3 H3 pn=>(hJ (i:=0) (j:=1) (show (["a","b","thing"]:List Str).Nodup by decide +kernel))) (λH0 G0 par br bx C ex s3 H3 pn hB4=>(mQ (cw rfl (aC kK (hr.mono (by decide)) lb rfl rfl (ae (bo aR cD (af 2) (af 0) (λ_ _=>rfl)) (ae (bo aR cD (af 2) (af 1) (λ_ _=>rfl)) aq)))))) (λH0 G0 par br bx C ex s3 H3 pn hB4=>(gf (ae (ax 0 (hB4 0 (by decide))) (ae (ax 1 (hB4 1 (by decide))) aq)))))) (bo aR cD (af 1) ar (λ_ _=>rfl)) (a8 _))))))))⟩,λds h=>aJ ds h⟩
abbrev gO:Stmt:=top 37
def qV:aB ["order","rows"] ["order","rows"] (ak gO):=⟨rfl,rfl,rfl,by decide +kernel,rfl,by decide +kernel,by decide +kernel⟩
def oS {f:Addr}{fd:FuncData}{lS aS:List D->FR}(F:ji K mg "points_of" gO ["order","rows"] f fd)(B:jj mg)(u4:cE P w K mg base ca "tell" ["thing","order"] 6 lS)(bS:cE P w K mg base ca "places" ["row"] 1 aS)(jF:Exc K mg ca "NoRows"):cE P w K mg base ca "points_of" ["order","rows"] 7 (aY 2 2 (dh lS aS)):=
 ⟨⟨f,fd,F.mg,F.F.kp,F.b,aO (N:=["order","rows"]) (k:=6) F.F qV λcdv A outer s H G E hr=>
  (av (cO (pD.t (lx (cW (cw rfl (aC u4 (hr.mono (by decide)) a9 rfl rfl (ae (ax 1 rfl) (ae (ax 0 rfl) aq))))) (iP (b8 (dX hr.units) gE (aX dB kT rfl B.len L5 (af 1)) ar (a8 _))) (λ_ _=>rfl)))
  (az (oh jF.ex jF.ca rfl jF.mg (ae js aq)))
  bV)
  (az (gH (HG rfl rfl B.list rfl B.zip (aC bS (hr.mono (by decide)) a9 rfl rfl (ae (bo aR cD (af 1) ar (λ_ _=>rfl)) aq)) (aC bS (hr.mono (by decide)) a9 rfl rfl (ae (bo aR cD (af 1) ar (λ_ _=>rfl)) aq))))))⟩,λds h=>aJ ds h⟩
abbrev jY:Stmt:=top 39
def uZ:aB ["points"] ["points"] (ak jY):=⟨rfl,rfl,rfl,by decide +kernel,rfl,by decide +kernel,by decide +kernel⟩
def tM {f:Addr}{fd:FuncData}{aS:List D->FR}(F:ji K mg "rows_by" jY ["points"] f fd)(B:jj mg)(bS:cE P w K mg base ca "places" ["row"] 1 aS):cE P w K mg base ca "rows_by" ["points"] 2 (aY 1 1 (jP aS)):=
 ⟨⟨f,fd,F.mg,F.F.kp,F.b,aO (N:=["points"]) (k:=1) F.F uZ λcdv A outer s H G E hr=>
  (az (gH (cn (ae (bF aW eO rfl B.tuple (by decide +kernel) (aC bS (hr.mono (by decide)) a9 rfl rfl (ae (SE.wv (bC (NB:=["x","y"]) (own:=2) (ixs:=[]) [] rfl (bX (by kernel_rfl)) (λ_ _=>rfl) (jJ rfl (af 0)) (λH0 G0 par br bx C ex s3 H3 pn=>(hJ (i:=0) (j:=1) (show (["x","y"]:List Str).Nodup by decide +kernel))) (λH0 G0 par br bx C ex s3 H3 pn hB1=>bR) (λH0 G0 par br bx C ex s3 H3 pn hB1=>(ax 0 (hB1 0 (by decide)))))) aq))) (ae (bF aW eO rfl B.tuple (by decide +kernel) (aC bS (hr.mono (by decide)) a9 rfl rfl (ae (SE.wv (bC (NB:=["x","y"]) (own:=2) (ixs:=[]) [] rfl (bX (by kernel_rfl)) (λ_ _=>rfl) (jJ rfl (af 0)) (λH0 G0 par br bx C ex s3 H3 pn=>(hJ (i:=0) (j:=1) (show (["x","y"]:List Str).Nodup by decide +kernel))) (λH0 G0 par br bx C ex s3 H3 pn hB2=>bR) (λH0 G0 par br bx C ex s3 H3 pn hB2=>(ax 1 (hB2 1 (by decide)))))) aq))) aq)))))⟩,λds h=>aJ ds h⟩
abbrev jU:Stmt:=top 38
def vG:aB ["order","points"] ["order","points"] (ak jU):=⟨rfl,rfl,rfl,by decide +kernel,rfl,by decide +kernel,by decide +kernel⟩
def sF {f:Addr}{fd:FuncData}{cH fV:List D->FR}(F:ji K mg "rows_of" jU ["order","points"] f fd)(B:jj mg)(i8:cE P w K mg base ca "are_points" ["thing","order"] 6 cH)(l7:cE P w K mg base ca "rows_by" ["points"] 2 fV)(gj:Exc K mg ca "NoPoints"):cE P w K mg base ca "rows_of" ["order","points"] 7 (aY 2 2 (fU cH fV)):=
 ⟨⟨f,fd,F.mg,F.F.kp,F.b,aO (N:=["order","points"]) (k:=6) F.F vG λcdv A outer s H G E hr=>
  (av (cO (cW (cw rfl (aC i8 (hr.mono (by decide)) a9 rfl rfl (ae (ax 1 rfl) (ae (ax 0 rfl) aq)))))
  (az (oh gj.ex gj.ca rfl gj.mg (ae js aq)))
  bV)
  (az (gH (iC l7 (hr.mono (by decide)) a9 rfl rfl (ae (ax 1 rfl) aq)))))⟩,λds h=>aJ ds h⟩
abbrev gG:Stmt:=top 41
def rP:aB ["script","k"] ["script","k"] (ak gG):=⟨rfl,rfl,rfl,by decide +kernel,rfl,by decide +kernel,by decide +kernel⟩
def oY {f:Addr}{fd:FuncData}(F:ji K mg "_law_cell" gG ["script","k"] f fd)(B:jj mg):cE P w K mg base ca "_law_cell" ["script","k"] 1 (aY 2 2 (fu)):=
 ⟨⟨f,fd,F.mg,F.F.kp,F.b,aO (N:=["script","k"]) (k:=0) F.F rP λcdv A outer s H G E hr=>
  (av (cO (b8 pE yJ (af 1) (aX dB kT rfl B.len L5 (af 0)) (a8 _))
  (az (aQ (bo aR cD (af 0) (af 1) (λ_ _=>rfl))))
  bV)
  (az (aQ ar)))⟩,λds h=>aJ ds h⟩
abbrev dZ:Stmt:=top 42
def gK:aB ["cell","k","some","stir"] ["cell","k"] (ak dZ):=⟨rfl,rfl,rfl,by decide +kernel,rfl,by decide +kernel,by decide +kernel⟩
def rg:∃(es:List Expr) (p1 p2 p3:Pos),bJ dZ=.Assign [.Name "some" p1] (.List es p2) p3 :: (bJ dZ).drop 1/\constsOf es=some [48271,69621,16807,39373,30269,40014,40692,50021,61687,71993,83869,95561,30307]:=⟨_,_,_,_,rfl,by kernel_rfl⟩
def qM {f:Addr}{fd:FuncData}(F:ji K mg "_law_mix" dZ ["cell","k"] f fd)(B:jj mg):cE P w K mg base ca "_law_mix" ["cell","k"] 1 (aY 4 2 (iN)):=by
 obtain⟨es,p1,p2,p3,hb,hes⟩:=rg
 refine⟨⟨f,fd,F.mg,F.F.kp,F.b,aO (N:=["cell","k","some","stir"]) (k:=0) F.F gK λcdv A outer s H G E hr=>?_⟩,λds h=>aJ ds h⟩
 rw[hb]
 exact (av (cv (i:=2) (SE.wv (cn (pN hes))) gK.nd) (av (cv (i:=3) (bY l8 l4 (bY l8 l4 (bY jK kG (bY l8 l4 (bY kE pH (af 0) ar) ar) (bo aR cD (af 2) (bY kE pH (af 1) ar) (λ_ _=>rfl))) (bY jK kG ar (af 1))) (bY jK kG ar (bY lD Cc (af 1) ar))) gK.nd)
  (av (cv (i:=3) (bY kE pH (af 3) ar) gK.nd)
  (az (aQ (bY lD Cc (bY kE pH (bY l8 l4 (bY jK kG (af 3) (af 3)) (bY jK kG ar (af 1))) ar) ar))))))
abbrev iI:Stmt:=top 43
def eV:aB ["script","k","cell","number","j"] ["script","k"] (ak iI):=⟨rfl,rfl,rfl,by decide +kernel,rfl,by decide +kernel,by decide +kernel⟩
def rQ {f:Addr}{fd:FuncData}{de dR:List D->FR}(F:ji K mg "_law_box" iI ["script","k"] f fd)(B:jj mg)(jm:cE P w K mg base ca "_law_cell" ["script","k"] 1 de)(kI:cE P w K mg base ca "_law_mix" ["cell","k"] 1 dR):cE P w K mg base ca "_law_box" ["script","k"] 2 (aY 5 2 (i6 de dR)):=
 ⟨⟨f,fd,F.mg,F.F.kp,F.b,aO (N:=["script","k","cell","number","j"]) (k:=1) F.F eV λcdv A outer s H G E hr=>
  (av (cv (i:=2) (aC jm (hr.mono (by decide)) a9 rfl rfl (ae (ax 0 rfl) (ae (ax 1 rfl) aq))) eV.nd)
  (av (cO (b8 (iM hr.units) gE (bY kE pH (af 2) ar) ar (a8 _))
  (az (gH (cn (ae (bY lD Cc (aX AF HP rfl B.abs (by decide +kernel) (af 2)) ar) aq))))
  bV)
  (av (cv (i:=3) ar eV.nd)
  (av (i0 PassesOwn.leaving rfl (ke rfl B.range ar) (cX (i:=4) eV.nd)
  (az (cv (i:=3) (bY l8 l4 (bY jK kG (af 3) ar) (aC kI (hr.mono (by decide)) a9 rfl rfl (ae (ax 2 rfl) (ae (ax 4 rfl) aq)))) eV.nd)))
  (az (gH (cn (ae (ax 3 rfl) aq))))))))⟩,λds h=>aJ ds h⟩
abbrev gM:Stmt:=top 44
def kR:aB ["box","many","left","digit"] ["box","many"] (ak gM):=⟨rfl,rfl,rfl,by decide +kernel,rfl,by decide +kernel,by decide +kernel⟩
def oX {f:Addr}{fd:FuncData}(F:ji K mg "_law_take" gM ["box","many"] f fd)(B:jj mg):qt P w K mg base "_law_take" ["box","many"] 1 fZ:=by
 refine⟨⟨f,fd,F.mg,F.F.kp,F.b,?_⟩,λds β h=>?_⟩
 ·refine F.F.D8 kR (λvs H Q E h=>?_) (λcdv A outer s H vs Q E hr h=>?_)
  ·obtain⟨b,rest,G,ds,β,rfl,hb,gb,sG,hl,r,_⟩:=h
   rw[K4,r.len,hl];rfl
  ·obtain⟨b,rest,G,ds,β,rfl,hb,gb,sG,hl,r,h⟩:=h
   obtain⟨m,rfl,h0,h1⟩:=we (λz=>by rw[z] at h;exact h)
   rw[qS h0 h1] at h
   have kk:∀v G' H',gu (some b) H H'->H' b=some (.lst [.int (β / m)])->ai G G'->ai G' H'->(∀c,Mx H c->G c=none->G' c=none)->FV K H G' H' false (.int (β % m)) v->Q v H':=h
   cases r with
   |cons r1 r2=>
    cases r1
    cases r2
    refine⟨_,b9 (nE (bc sE rfl B.divmod (by decide +kernel) (ah (jy eH (pv 0) nH (λ_ _=>rfl)) (ah (pv 1) aH))) (Co (i:=2) (j:=3) kR.nd rfl rfl rfl rfl rfl))
     (b9 (nE (pv 2) (qm (pv 0) nH set_list)) (cT (hW (pv 3)))),?_⟩
    refine⟨_,rfl,b,_,0,.int β,rfl,rfl,.inl (.inl hb),rfl,_,rfl,β,m,rfl,⟨h0,h1⟩,λp hp=>⟨p,_,rfl,.inl (.inl aj),rfl,_,_,rfl,_,_,rfl,rfl,?_⟩⟩
    have hbp:b≠p:=ay hb hp
    exact⟨_,rfl,_,rfl,b,[.int β],0,0,rfl,rfl,by rw[ao hbp];exact hb,rfl,_,rfl,Aw hb sG hp kk gb⟩
 ·obtain⟨m,rfl,_⟩:=we h
  rfl
abbrev iJ:Stmt:=top 45
def jA:aB ["box","some"] ["box"] (ak iJ):=⟨rfl,rfl,rfl,by decide +kernel,rfl,by decide +kernel,by decide +kernel⟩
def qx {f:Addr}{fd:FuncData}{aM:List D->Int->FB}(F:ji K mg "_law_odd" iJ ["box"] f fd)(B:jj mg)(bQ:qt P w K mg base "_law_take" ["box","many"] 1 aM):qt P w K mg base "_law_odd" ["box"] 2 (sZ 2 0 (iQ aM)):=
 ⟨⟨f,fd,F.mg,F.F.kp,F.b,rY (ca:=λ_=>0) (N:=["box","some"]) (k:=1) F.F jA (by decide) λcdv A outer s H G b E hr=>
  (@av _ _ _ _ _ _ _ (@Hs _ _ _ 1 _ _ (aa (cst .none) (aa (cst (.bool true)) (aa (cst (.bool false)) (aa (cst (.int (-1))) (aa (cst (.int 0)) (aa (cst (.int 1)) (aa (cst (.str "")) (aa (cst (.str "1")) (aa (bL ag) (aa (bB ag) (aa (bL (aa (cst (.int 0)) ag)) (aa (bL (aa (cst (.int 1)) (aa (bL ag) ag))) (aa (bB (aa (cst (.int 0)) ag)) ag))))))))))))) ([] ++ ([] ++ ([] ++ ([] ++ ([] ++ ([] ++ ([] ++ ([] ++ ([] ++ ([] ++ (([] ++ []) ++ (([] ++ ([] ++ [])) ++ (([] ++ []) ++ []))))))))))))) _ _ _ [] (by kernel_rfl) (λ_=>rfl) (by kernel_rfl) jA.nd rfl (by first |exact Or.inl rfl |exact Or.inr rfl) (by first |exact .inl rfl |exact .inr rfl))
  (av (cv (i:=1) (SE.wv (bY nj wH (af 1) (@DN _ _ _ _ (aa (cst (.dict [(.str "a",.int 1)])) (aa (bL (aa (cst (.int 0)) (aa (cst (.int 1)) ag))) (aa (f2 (cst (.int 10)) (cst (.int 39)) Bz) (aa (bL (aa (bL (aa (cst (.int 0)) (aa (cst (.int 1)) ag))) ag)) (aa (cst (.str "a")) ag))))) ([] ++ (([] ++ ([] ++ [])) ++ ([] ++ ((([] ++ ([] ++ [])) ++ []) ++ ([] ++ []))))) _ [] (by kernel_rfl) (λ_=>rfl) (by kernel_rfl)))) jA.nd)
  (az (aQ (bo aR cD (af 1) (uh 0 bQ (hr.mono (by decide)) a9 rfl rfl (ae ar aq)) (λ_ _=>rfl))))))⟩,λds β h=>sP ds β h⟩
abbrev cS:Stmt:=top 46
def dM:aB ["box","some","left","found"] ["box","some"] (ak cS):=⟨rfl,rfl,rfl,by decide +kernel,rfl,by decide +kernel,by decide +kernel⟩
def kS {f:Addr}{fd:FuncData}{aM:List D->Int->FB}(F:ji K mg "_law_mixed_up" cS ["box","some"] f fd)(B:jj mg)(bQ:qt P w K mg base "_law_take" ["box","many"] 1 aM):qt P w K mg base "_law_mixed_up" ["box","some"] 2 (sZ 4 1 (cR aM)):=
 ⟨⟨f,fd,F.mg,F.F.kp,F.b,rY (ca:=λ_=>0) (N:=["box","some","left","found"]) (k:=1) F.F dM (by decide) λcdv A outer s H G b E hr=>
  (av (mX (i:=2) (bF dA oa rfl B.list (by decide +kernel) (af 1)) dM.nd)
  (av (mX (i:=3) (cn aq) dM.nd)
  (av (AB 1000 PassesOwn.leaving (b8 (dX hr.units) gE (af 2) (cn aq) (a8 _))
  (az (yw 3 2 (λ_=>rfl) (uh 0 bQ (hr.mono (by decide)) a9 rfl rfl (ae (aX dB kT rfl B.len L5 (af 2)) aq)))))
  (az (qG 3)))))⟩,λds β h=>sP ds β h⟩
abbrev fJ:Stmt:=top 47
def o8:aB ["order","a","b"] ["order","a","b"] (ak fJ):=⟨rfl,rfl,rfl,by decide +kernel,rfl,by decide +kernel,by decide +kernel⟩
def ot {f:Addr}{fd:FuncData}(F:ji K mg "_law_apart" fJ ["order","a","b"] f fd)(B:jj mg):cE P w K mg base ca "_law_apart" ["order","a","b"] 1 (aY 3 3 (lB)):=
 ⟨⟨f,fd,F.mg,F.F.kp,F.b,aO (N:=["order","a","b"]) (k:=0) F.F o8 λcdv A outer s H G E hr=>
  (az (aQ (gY (fB (dX hr.units) gE (af 1) (af 2) (a8 _)) (gY (fB (qb hr.u1) HU (gf (ae (ax 1 rfl) (ae (ax 2 rfl) aq))) (bo aR cD (af 0) ar (λ_ _=>rfl)) (by with_unfolding_all rfl)) (jd (fB (qb hr.u1) HU (gf (ae (ax 2 rfl) (ae (ax 1 rfl) aq))) (bo aR cD (af 0) ar (λ_ _=>rfl)) (by with_unfolding_all rfl))) (λ_ _=>rfl)) (λ_ _=>rfl))))⟩,λds h=>aJ ds h⟩
abbrev fP:Stmt:=top 48
def eQ:aB ["order","found","a"] ["order"] (ak fP):=⟨rfl,rfl,rfl,by decide +kernel,rfl,by decide +kernel,by decide +kernel⟩
def nq {f:Addr}{fd:FuncData}{cK:List D->FR}(F:ji K mg "_law_turns" fP ["order"] f fd)(B:jj mg)(iV:cE P w K mg base ca "_law_apart" ["order","a","b"] 1 cK):cE P w K mg base ca "_law_turns" ["order"] 2 (aY 3 1 (fL cK)):=
 ⟨⟨f,fd,F.mg,F.F.kp,F.b,aO (N:=["order","found","a"]) (k:=1) F.F eQ λcdv A outer s H G E hr=>
  (av (cv (i:=1) (SE.wv (cn aq)) eQ.nd)
  (av (i0 PassesOwn.leaving rfl (ke rfl B.range (bo aR cD (af 0) ar (λ_ _=>rfl))) (cX (i:=2) eQ.nd)
  (az (cv (i:=1) (SE.wv (bY nj wH (af 1) (bC (NB:=["b","order","a"]) (own:=1) (ixs:=[0,2]) [0,2] rfl (bX (by kernel_rfl)) (λ_ _=>rfl) (ke rfl B.range (bo aR cD (af 0) ar (λ_ _=>rfl))) (λH0 G0 par br bx C ex s3 H3 pn=>(cX (i:=0) (show (["b","order","a"]:List Str).Nodup by decide +kernel))) (λH0 G0 par br bx C ex s3 H3 pn hB1=>(mQ (cw rfl (aC iV (hr.mono (by decide)) lb rfl rfl (ae (ax 1 (hB1 1 (by decide))) (ae (ax 2 (hB1 2 (by decide))) (ae (ax 0 (hB1 0 (by decide))) aq))))))) (λH0 G0 par br bx C ex s3 H3 pn hB1=>(gf (ae (ax 2 (hB1 2 (by decide))) (ae (ax 0 (hB1 0 (by decide))) aq))))))) eQ.nd)))
  (az (qG 1))))⟩,λds h=>aJ ds h⟩
abbrev gX:Stmt:=top 49
def dv:aB ["many","rows","found","a","b","left"] ["many","rows"] (ak gX):=⟨rfl,rfl,rfl,by decide +kernel,rfl,by decide +kernel,by decide +kernel⟩
def oW {f:Addr}{fd:FuncData}(F:ji K mg "_law_told" gX ["many","rows"] f fd)(B:jj mg):cE P w K mg base ca "_law_told" ["many","rows"] 1 (aY 6 2 (eJ)):=
 ⟨⟨f,fd,F.mg,F.F.kp,F.b,aO (N:=["many","rows","found","a","b","left"]) (k:=0) F.F dv λcdv A outer s H G E hr=>
  (av (mX (i:=2) (cn aq) dv.nd)
  (av (i0 PassesOwn.leaving rfl (ke rfl B.range (af 0)) (cX (i:=3) dv.nd)
  (az (i0 PassesOwn.leaving rfl (ke rfl B.range (af 0)) (cX (i:=4) dv.nd)
  (av (wU (i:=5) (NB:=["one","a","b"]) (own:=1) (ixs:=[3,4]) [] rfl (bX (by kernel_rfl)) (λ_ _=>rfl) (jJ rfl (af 1)) (λH0 G0 par br bx C ex s3 H3 pn=>(cX (i:=0) (show (["one","a","b"]:List Str).Nodup by decide +kernel))) (λH0 G0 par br bx C ex s3 H3 pn hB1=>(mQ (b8 Ha II (lg rfl (af 0) (af 1)) (lg rfl (af 0) (af 2)) (a8 _)))) (λH0 G0 par br bx C ex s3 H3 pn hB1=>ar) dv.nd)
  (az (cO (pD.t (vt (b8 (dX hr.units) gE (af 3) (af 4) (a8 _)) (rb (b8 (iM hr.units) gE (af 5) (cn aq) (a8 _))) (λ_ _=>rfl)))
  (az (mh 2 (λ_=>rfl) (gf (ae (ax 3 rfl) (ae (ax 4 rfl) aq)))))
  bV))))))
  (az (aQ (bF aW eO rfl B.tuple (by decide +kernel) (af 2))))))⟩,λds h=>aJ ds h⟩
abbrev gJ:Stmt:=top 51
def lh:aB ["kind","order","thing","e"] ["kind","order","thing"] (ak gJ):=⟨rfl,rfl,rfl,by decide +kernel,rfl,by decide +kernel,by decide +kernel⟩
def pk {f:Addr}{fd:FuncData}{marks:Str->Option Str}{cY fS:List D->FR}(F:ji K mg "_law_said" gJ ["kind","order","thing"] f fd)(B:jj mg)(jv:cE P w K mg base ca "points_of" ["order","rows"] 7 cY)(lN:cE P w K mg base ca "rows_of" ["order","points"] 7 fS)(MK:Di P w K mg base ca "RankError" "_law_marks" marks):cE P w K mg base ca "_law_said" ["kind","order","thing"] 8 (aY 4 3 (my marks cY fS)):=
 ⟨⟨f,fd,F.mg,F.F.kp,F.b,aO (N:=["kind","order","thing","e"]) (k:=7) F.F lh λcdv A outer s H G E hr=>
  (az (CW (i:=3) MK hr (λEb Ex pn H G hpT=>
  (av (cO (b8 (iM hr.units) gE (af 0) ar (a8 _))
  (az (gH (iC jv (hr.mono (by decide)) hpT rfl rfl (ae (ax 1 rfl) (ae (ax 2 rfl) aq)))))
  bV)
  (az (gH (iC lN (hr.mono (by decide)) hpT rfl rfl (ae (ax 1 rfl) (ae (ax 2 rfl) aq)))))))
  lh.nd))⟩,λds h=>aJ ds h⟩
abbrev kg:Stmt:=top 52
def gc:aB ["script","k","box","many","rows","order","points","lap","found","other","thing"] ["script"] (ak kg):=⟨rfl,rfl,rfl,by decide +kernel,rfl,by decide +kernel,by decide +kernel⟩
def Dh {f:Addr}{fd:FuncData}{dN df bp cj:List D->FR}{aM bP dS:List D->Int->FB}(F:ji K mg "law" kg ["script"] f fd)(B:jj mg)(ku:cE P w K mg base ca "_law_box" ["script","k"] 2 dN)(jn:cE P w K mg base ca "_law_told" ["many","rows"] 1 df)(cg:cE P w K mg base ca "_law_said" ["kind","order","thing"] 8 bp)(fK:cE P w K mg base ca "_law_turns" ["order"] 2 cj)(bQ:qt P w K mg base "_law_take" ["box","many"] 1 aM)(fy:qt P w K mg base "_law_mixed_up" ["box","some"] 2 bP)(kB:qt P w K mg base "_law_odd" ["box"] 2 dS):ff P w K mg base (kW P w) 9 f fd ["script"] (BO K ca 1 (aY 11 1 (wd dN df bp cj aM bP dS))):=
 aO (N:=["script","k","box","many","rows","order","points","lap","found","other","thing"]) (k:=8) F.F gc λcdv A outer s H G E hr=>
  (av (i0 PassesOwn.leaving rfl (ke rfl B.range (sv (x9 rfl) FG rfl B.max (by decide +kernel) ar (sv (yd rfl) Fb rfl B.min (by decide +kernel) (aX dB kT rfl B.len L5 (af 0)) ar))) (cX (i:=1) gc.nd)
  (av (C6 (i:=2) rfl (iC ku (hr.mono (by decide)) a9 rfl rfl (ae (ax 0 rfl) (ae (ax 1 rfl) aq))) gc.nd)
  (av (cv (i:=3) (bY l8 l4 ar (uh 2 bQ (hr.mono (by decide)) a9 rfl rfl (ae ar aq))) gc.nd)
  (av (cv (i:=4) (SE.wv (bC (NB:=["side","box","many"]) (own:=1) (ixs:=[2,3]) [] rfl (bX (by kernel_rfl)) (λ_ _=>rfl) (ke rfl B.range ar) (λH0 G0 par br bx C ex s3 H3 pn=>(cX (i:=0) (show (["side","box","many"]:List Str).Nodup by decide +kernel))) (λH0 G0 par br bx C ex s3 H3 pn hB1=>bR) (λH0 G0 par br bx C ex s3 H3 pn hB1=>(bF aW eO rfl B.tuple (by decide +kernel) (uh 1 fy (hr.mono (by decide)) lb rfl rfl (ae (SE.wv (vZ rfl rfl B.list rfl B.range (af 2))) aq)))))) gc.nd)
  (av (cv (i:=5) (gf (ae (ax 3 rfl) (ae (aC jn (hr.mono (by decide)) a9 rfl rfl (ae (ax 3 rfl) (ae (ax 4 rfl) aq))) aq))) gc.nd)
  (av (wU (i:=6) (NB:=["thing","rows"]) (own:=1) (ixs:=[4]) [] rfl (bX (by kernel_rfl)) (λ_ _=>rfl) (ke rfl B.range (af 3)) (λH0 G0 par br bx C ex s3 H3 pn=>(cX (i:=0) (show (["thing","rows"]:List Str).Nodup by decide +kernel))) (λH0 G0 par br bx C ex s3 H3 pn hB2=>bR) (λH0 G0 par br bx C ex s3 H3 pn hB2=>(gf (ae (lg rfl (bo aR cD (af 1) ar (λ_ _=>rfl)) (af 0)) (ae (lg rfl (bo aR cD (af 1) ar (λ_ _=>rfl)) (af 0)) aq)))) gc.nd)
  (av (i0 PassesOwn.leaving rfl (ke rfl B.range ar) (cX (i:=7) gc.nd)
  (av (Fg (i:=8) (j:=9) gc.nd (by decide) (iC cg (hr.mono (by decide)) a9 rfl rfl (ae ar (ae (ax 5 rfl) (ae (SE.wv (bF dA oa rfl B.list (by decide +kernel) (af 4))) aq)))) (λ_=>(iC cg (hr.mono (by decide)) a9 rfl rfl (ae ar (ae (ax 5 rfl) (ae (SE.wv (bF dA oa rfl B.list (by decide +kernel) (af 6))) aq))))))
  (av (cO (pD.t (lx (b8 Bi DX (aX (iY hr.gd hr.u1) nc rfl B.repr (by decide +kernel) (af 8)) (aX (iY hr.gd hr.u1) nc rfl B.repr (by decide +kernel) (af 6)) (a8 _)) (iP (b8 Bi DX (aX (iY hr.gd hr.u1) nc rfl B.repr (by decide +kernel) (af 9)) (aX (iY hr.gd hr.u1) nc rfl B.repr (by decide +kernel) (af 4)) (a8 _))) (λ_ _=>rfl)))
  (az (aQ fF))
  bV)
  (av (mh 8 (λ_=>rfl) ar)
  (az (mh 9 (λ_=>rfl) ar))))))
  (av (i0 PassesOwn.leaving rfl (GB rfl (SE.wv (cn (ae (SE.wv (lC rfl (af 4) mV (mU ar))) (ae (SE.wv (bY nj wH (af 4) (lC rfl (af 4) mV (mU ar)))) (ae (bF aW eO rfl B.tuple (by decide +kernel) (af 4)) (ae (SE.wv (cn aq)) (ae vW (ae (SE.wv (cn (ae (bo aR cD (af 4) ar (λ_ _=>rfl)) (ae (SE.wv (bF dA oa rfl B.list (by decide +kernel) (bo aR cD (af 4) ar (λ_ _=>rfl)))) aq)))) (ae (uh 2 kB (hr.mono (by decide)) a9 rfl rfl aq) aq)))))))))) (cX (i:=10) gc.nd)
  (az (cO (b8 (dX hr.units) gE (aC cg (hr.mono (by decide)) a9 rfl rfl (ae ar (ae (ax 5 rfl) (ae (ax 10 rfl) aq)))) js (a8 _))
  (az (aQ fF))
  bV)))
  (av (cO (pD.t (vt (b8 (dX hr.units) gE (aC fK (hr.mono (by decide)) a9 rfl rfl (ae (ax 5 rfl) aq)) (cn aq) (a8 _)) (rb (b8 (dX hr.units) gE (aC cg (hr.mono (by decide)) a9 rfl rfl (ae ar (ae (ax 5 rfl) (ae (SE.wv (cn (ae (bo aR cD (af 4) ar (λ_ _=>rfl)) (ae (bo aR cD (af 4) ar (λ_ _=>rfl)) aq)))) aq)))) js (a8 _))) (λ_ _=>rfl)))
  (az (aQ fF))
  bV)
  (av (i0 PassesOwn.leaving rfl (GB rfl (SE.wv (cn (ae (SE.wv (lC rfl (af 6) (mU ar) mV)) (ae (SE.wv (bY nj wH (af 6) (lC rfl (af 6) mV (mU ar)))) (ae (bF aW eO rfl B.tuple (by decide +kernel) (af 6)) (ae vW (ae (SE.wv (bC (NB:=["point"]) (own:=1) (ixs:=[]) [] rfl (bX (by kernel_rfl)) (λ_ _=>rfl) (jJ rfl (af 6)) (λH0 G0 par br bx C ex s3 H3 pn=>(cX (i:=0) (show (["point"]:List Str).Nodup by decide +kernel))) (λH0 G0 par br bx C ex s3 H3 pn hB3=>bR) (λH0 G0 par br bx C ex s3 H3 pn hB3=>(SE.wv (bF dA oa rfl B.list (by decide +kernel) (af 0)))))) (ae B0 aq))))))))) (cX (i:=10) gc.nd)
  (az (cO (b8 (dX hr.units) gE (aC cg (hr.mono (by decide)) a9 rfl rfl (ae ar (ae (ax 5 rfl) (ae (ax 10 rfl) aq)))) js (a8 _))
  (az (aQ fF))
  bV)))
  (az (cO (pD.t (vt (b8 (dX hr.units) gE (aC fK (hr.mono (by decide)) a9 rfl rfl (ae (ax 5 rfl) aq)) (cn aq) (a8 _)) (rb (b8 (dX hr.units) gE (aC cg (hr.mono (by decide)) a9 rfl rfl (ae ar (ae (ax 5 rfl) (ae (SE.wv (bC (NB:=["x","y"]) (own:=2) (ixs:=[]) [] rfl (bX (by kernel_rfl)) (λ_ _=>rfl) (jJ rfl (af 6)) (λH0 G0 par br bx C ex s3 H3 pn=>(hJ (i:=0) (j:=1) (show (["x","y"]:List Str).Nodup by decide +kernel))) (λH0 G0 par br bx C ex s3 H3 pn hB4=>bR) (λH0 G0 par br bx C ex s3 H3 pn hB4=>(gf (ae (ax 0 (hB4 0 (by decide))) (ae (ax 0 (hB4 0 (by decide))) aq)))))) aq)))) js (a8 _))) (λ_ _=>rfl)))
  (az (aQ fF))
  bV))))))))))))
  (az (aQ fF)))
end
end RQ
namespace RM
open PySem L2
theorem Ff {t u:VF Bool}{vs:List Nv}{β:Int}{a b:Bool}(h:t vs β=.ok a β)(h':u vs β=.ok b β):Aa t u vs β=.ok (a && b) β:=by
 rw[v7,h];dsimp only[R.bnd]
 cases a with
 |true=>rw[KH rfl,h'];rfl
 |false=>rfl
def bq {t:VF Bool}{vs:List Nv}{β:Int}{a:Bool}(h:t vs β=.ok a β):oR t vs β=.ok (!a) β:=by rw[qz,h];rfl
def ET (n:Nat):(bu n).Pairwise (· < ·):=by
 unfold bu
 rw[Mn]
 exact List.pairwise_lt_range.imp λ{a b} h=>by omega
def E4 {fa:VF D}{vs:List Nv}{β:Int}{l:List Pr}{f:Pr->Bool}(h:fa vs β=.ok (.list (l.map λq=>PyData.bool (f q))) β):f1 fa (cm λbs=>bs.all id) vs β=.ok (.bool (l.all f)) β:=by
 refine bG h ?_
 simp only[cm]
 rw[fX]
 simp[MG]
def upTo (n:Nat)(f:Pr->Bool)(i k:Nat):List Pr:=(OM.ba n).filter λp=>(decide (p.1 < i) || (decide (p.1=i) && decide (p.2 < k))) && f p
def zO {n:Nat}(f:Pr->Bool)(i k:Nat)(h8:n<=8):(upTo n f i k).length<=64:=by
 have h1:(upTo n f i k).length<=(OM.ba n).length:=Mj _ _
 rw[dr] at h1
 have:n * n<=64:=LH h8 h8
 omega
def xT (n:Nat)(f:Pr->Bool):upTo n f 0 0= []:=by
 unfold upTo
 rw[List.filter_eq_nil_iff]
 intro p hp
 have:=OM.aU.mp hp
 rw[K1 (by omega),K1 (p:=p.2 < ((0:Nat):Int)) (by omega)];simp
def zm (n:Nat)(f:Pr->Bool):upTo n f n 0=(OM.ba n).filter f:=by
 unfold upTo
 refine Mq λp hp=>?_
 have:=(OM.aU.mp hp).1.2
 rw[KY this];simp
def z0 (n:Nat)(f:Pr->Bool)(i:Nat):upTo n f i n=upTo n f (i + 1) 0:=by
 unfold upTo
 refine Mq λp hp=>?_
 have h:=OM.aU.mp hp
 congr 1
 rw[Lq]
 simp only[MO,KP,K7]
 omega
def pB {n i k:Nat}(f:Pr->Bool)(hi:i < n)(hk:k < n):upTo n f i (k + 1)=upTo n f i k ++ if f ((i:Int),(k:Int))=true then [((i:Int),(k:Int))] else []:=by
 refine OM.jR (OM.dU _ (OM.gr n)) ?_ λx=>?_
 ·show List.Pairwise OM.BL _
  rw[List.pairwise_append]
  refine⟨OM.dU _ (OM.gr n),?_,λp hp q hq=>?_⟩
  ·split <;> simp
  ·unfold upTo at hp
   have h1:=(K8.mp hp).2
   simp only[MO,KP,K7] at h1
   split at hq
   ·have:q=((i:Int),(k:Int)):=by simpa using hq
    subst this
    show p.1 < (i:Int)\/(p.1=(i:Int)/\p.2 < (k:Int))
    exact h1.1
   ·cases hq
 ·rw[Lk]
  unfold upTo
  rw[K8,K8,OM.aU]
  simp only[MO,KP,K7]
  constructor
  ·rintro⟨h1,h2,h3⟩
   by_cases z:x.1=i/\x.2=k
   ·obtain⟨xa,xb⟩:=x
    simp only at z h3
    obtain⟨rfl,rfl⟩:=z
    rw[KH h3]
    exact .inr (Lv.mpr rfl)
   ·exact .inl ⟨h1,by omega,h3⟩
  ·rintro (⟨h1,h2,h3⟩ |h)
   ·exact⟨h1,by omega,h3⟩
   ·split at h
    ·rename_i hf
     have:x=((i:Int),(k:Int)):=by simpa using h
     subst this
     exact⟨⟨⟨by show (0:Int)<=(i:Int);omega,by show (i:Int) < n;omega⟩,by show (0:Int)<=(k:Int);omega,by show (k:Int) < n;omega⟩,.inr ⟨rfl,by show (k:Int) < ((k + 1:Nat):Int);omega⟩,hf⟩
    ·cases h
def tupI (r:List Int):D:=.tuple (r.map int)
def ni {fa fb:VF D}{vs:List Nv}{β:Int}{r:List Int}{k:Int}(h:fa vs β=.ok (tupI r) β)(h':fb vs β=.ok (.int k) β)(hk:k∈r):jr fa fb vs β=.ok (.int (r.idxOf k:Nat)) β:=by
 unfold jr
 rw[h]
 dsimp only[R.bnd]
 rw[KH (by rfl),h']
 dsimp only[R.bnd,CY,tupI]
 rw[ic]
 dsimp only
 rw[KH hk];rfl
def xc {r:List Int}{a b:Int}(ha:a∈r)(hb:b∈r)(h:r.idxOf a=r.idxOf b):a=b:=by
 have h1:=Mg (Lu.mpr ha)
 have h2:=Mg (Lu.mpr hb)
 rw[<-h1,<-h2]
 congr 1
theorem oO {α:Type}{t:Tg}{fe:VF D}{vs:List Nv}(e:α->D)(P:α->Prop):∀{ds:List D} {β:Int},(∀d,d∈ds->∃vs1,ki t d vs=some vs1/\∀β,∃a β',fe vs1 β=.ok (e a) β'/\P a)->
  ∃(as:List α) (β':Int),fm t gy fe vs ds β=.ok (as.map e) β'/\as.length=ds.length/\∀a,a∈as->P a
 | [],β,_=>⟨[],β,rfl,rfl,λa h=>(by cases h)⟩
 |d :: ds,β,h=>by
  obtain⟨vs1,hb,hf⟩:=h d (KO ..)
  obtain⟨a,β1,ef,pa⟩:=hf β
  obtain⟨as,β2,ec,hl,hP⟩:=oO e P (ds:=ds) (β:=β1) λd' hd=>h d' (KL _ hd)
  refine⟨a :: as,β2,?_,by rw[K4,K4,hl],λx hx=>?_⟩
  ·unfold fm
   rw[hb]
   dsimp only[gy,R.okb]
   rw[KH rfl,ef]
   dsimp only
   rw[ec];rfl
  ·rcases KG.mp hx with z |z
   ·rw[z];exact pa
   ·exact hP x z
def zS:D->Bool
 | .tuple _=>true
 |_=>false
theorem xE {d:D}(h:zS d=true):∃ds,d=.tuple ds:=by
 cases d with
 |tuple ds=>exact⟨ds,rfl⟩
 |_=>cases h
def zY {d:D}(h:cq d=false):gC "tuple" d=some (.bool (zS d)):=by
 unfold gC;rw[h];cases d <;> rfl
section
variable {fa fb:VF D}{vs:List Nv}{β:Int}
def DK {d:D}(ha:fa vs β=.ok d β)(h:cq d=false):jZ (f1 fa (gC "tuple")) vs β=.ok (zS d) β:=dg (bG ha (zY h))
def rF {l:List D}{f:D->Bool}(h:fa vs β=.ok (.list (l.map λq=>PyData.bool (f q))) β):f1 fa (cm λbs=>bs.all id) vs β=.ok (.bool (l.all f)) β:=by
 refine bG h ?_
 simp only[cm]
 rw[fX]
 simp[MG]
def D6 {ds:List D}(ha:fa vs β=.ok (.tuple ds) β):f1 fa eY vs β=.ok (.int ds.length) β:=bG ha rfl
def ER {ds:List D}{k:Int}(ha:fa vs β=.ok (.tuple ds) β):fH (f2 (f1 fa eY) (cst (.int k)) (dG true)) vs β=.ok (!decide ((ds.length:Int)=k)) β:=jW (neg:=true) (D6 ha) rfl
def p0 {t u:VF Bool}(h:t vs β=.ok true β):lH t u vs β=.ok true β:=by rw[qN,h];rfl
def iA {t u:VF Bool}{c:Bool}(h:t vs β=.ok false β)(h':u vs β=.ok c β):lH t u vs β=.ok c β:=by rw[qN,h];exact h'
def D9 (h:fa vs β=.ok (.bool false) β):cV fa fb vs β=.ok (.bool false) β:=by unfold cV;rw[h];rfl
def D1 {d:D}(h:fa vs β=.ok (.bool true) β)(h':fb vs β=.ok d β):cV fa fb vs β=.ok d β:=by unfold cV;rw[h];exact h'
end
def Sq (c k:Nat)(d:D):Prop:=d.showable=true/\d.depth<=k/\d.shown.length<=c
def Sq.mono {c k c' k':Nat}{d:D}(h:Sq c k d)(h1:c<=c')(h2:k<=k'):Sq c' k' d:=⟨h.1,LA h.2.1 h2,LA h.2.2 h1⟩
theorem vE {c k:Nat}:∀{ds:List D},(∀d,d∈ds->Sq c k d)->PyData.showableAll ds=true/\PyData.depthAll ds<=k/\(∀t,t∈PyData.shownAll ds->t.length<=c)/\(PyData.shownAll ds).length=ds.length
 | [],_=>⟨by simp[PyData.showableAll],by simp[PyData.depthAll],λt h=>by simp[PyData.shownAll] at h,by simp[PyData.shownAll]⟩
 |d :: ds,h=>by
  obtain⟨h1,h2,h3,h4⟩:=vE λx hx=>h x (KL _ hx)
  obtain⟨q1,q2,q3⟩:=h d (KO ..)
  refine⟨?_,?_,λt ht=>?_,?_⟩
  ·rw[PyData.showableAll,q1,h1];rfl
  ·rw[PyData.depthAll];omega
  ·rw[PyData.shownAll] at ht
   rcases KG.mp ht with rfl |ht
   ·exact q3
   ·exact h3 t ht
  ·rw[PyData.shownAll,K4,K4,h4]
theorem tE {c:Nat}:∀{ts:List Str},(∀t,t∈ts->t.length<=c)->(Str.join ", " ts).length<=(c + 2) * ts.length
 | [],_=>by show (Str.join ", " []).length<=_;exact LC _
 | [x],h=>by
  have:=h x (KO ..)
  show x.length<=(c + 2) * 1
  omega
 |x :: y :: r,h=>by
  have ih:=tE (ts:=y :: r) λt ht=>h t (KL _ ht)
  have:=h x (KO ..)
  show (x ++ ", " ++ Str.join ", " (y :: r)).length<=_
  rw[MA,MA]
  have e2:((", ":String):Str).length=2:=rfl
  rw[e2]
  have e:(c + 2) * (x :: y :: r).length=(c + 2) * (y :: r).length + (c + 2):=by rw[K4,Nat.mul_succ]
  omega
def Ba {c k:Nat}{ds:List D}(h:∀d,d∈ds->Sq c k d):Sq (3 + (c + 2) * ds.length) (k + 1) (.tuple ds):=by
 obtain⟨h1,h2,h3,h4⟩:=vE h
 refine⟨by rw[PyData.showable];exact h1,by rw[PyData.depth];omega,?_⟩
 rw[PyData.shown]
 unfold tupleText
 rw[MA,MA]
 have j:=tE h3
 rw[h4] at j
 have e1:((("(":String):Str)).length=1:=rfl
 have e3:((if (PyData.shownAll ds).length == 1 then ",)" else ")":String):Str).length<=2:=by split <;> exact by decide
 rw[e1]
 omega
def vh {c k:Nat}{ds:List D}(h:∀d,d∈ds->Sq c k d):Sq (2 + (c + 2) * ds.length) (k + 1) (.list ds):=by
 obtain⟨h1,h2,h3,h4⟩:=vE h
 refine⟨by rw[PyData.showable];exact h1,by rw[PyData.depth];omega,?_⟩
 rw[PyData.shown]
 unfold listText
 rw[MA]
 have:=A3 (c:=c + 2) (PyData.shownAll ds) 0 "[" λt ht=>by have:=h3 t ht;omega
 rw[h4] at this
 have e1:((("[":String):Str)).length=1:=rfl
 have e2:((("]":String):Str)).length=1:=rfl
 rw[e1] at this
 rw[e2];omega
def Bf (d:D):Prop:=x8 d=true
theorem vC:∀{ds:List D},(∀d,d∈ds->Bf d)->wa ds=true
 | [],_=>rfl
 |d :: ds,h=>by
  have h1:=vC λx hx=>h x (KL _ hx)
  have q1:x8 d=true:=h d (KO ..)
  rw[wa,q1,h1];rfl
def BE {ds:List D}(h:∀d,d∈ds->Bf d):Bf (.tuple ds):=by show x8 (.tuple ds)=true;rw[x8];exact vC h
def vY {ds:List D}(h:∀d,d∈ds->Bf d):Bf (.list ds):=by show x8 (.list ds)=true;rw[x8];exact vC h
def GN {c k:Nat}{d:D}(h:Sq c k d)(hc:c<=100000)(hk:k<=64)(hf:Bf d):zi d=true:=by
 unfold zi
 have h1:d.depth<=64:=LA h.2.1 hk
 have h2:d.shown.length<=sizeLine:=LA (LA h.2.2 hc) (by rw[Ld];omega)
 rw[h.1,KY h1,KY h2]
 have b:x8 d=true:=hf
 rw[b,Bool.or_true];rfl
def Jh:List Int:=[-1,0,1,2,3,4,5,6,7,8,9]
def zj:∀i∈Jh,(int i).showable=true/\(int i).shown.length<=20:=by decide +kernel
def wo {i:Int}(h: -1<=i/\i<=9):i∈Jh:=by
 simp only[Jh,KG,K5,LF]
 omega
def zk (d:D):Prop:=d=.none\/(∃b,d=.bool b)\/∃i:Int,d=.int i/\ -1<=i/\i<=9
def zk.sq {d:D}(h:zk d):Sq 20 0 d:=by
 rcases h with rfl | ⟨b,rfl⟩ | ⟨i,rfl,h⟩
 ·exact⟨by simp[PyData.showable],by simp[PyData.depth],by rw[PyData.shown];decide⟩
 ·exact⟨by simp[PyData.showable],by simp[PyData.depth],by rw[PyData.shown];cases b <;> decide⟩
 ·exact⟨(zj i (wo h)).1,by simp[PyData.depth],(zj i (wo h)).2⟩
def zk.bf {d:D}(h:zk d):Bf d:=by
 rcases h with rfl | ⟨b,rfl⟩ | ⟨i,rfl,h⟩ <;> exact by simp[Bf,x8]
def zk.scr {d:D}(h:zk d):cq d=false:=by
 rcases h with rfl | ⟨b,rfl⟩ | ⟨i,rfl,h⟩ <;> rfl
section
variable {vs:List Nv}{β β1 β2:Int}{fa:VF D}{fr:VF (List D)}{d:D}{ds:List D}
def ac {fa:VF D}{fr:VF (List D)}(h:fa vs β=.ok d β)(h':fr vs β=.ok ds β):aa fa fr vs β=.ok (d :: ds) β:=by rw[fo,h];dsimp only[R.bnd];rw[h']
def an:ag vs β=.ok [] β:=rfl
def tp (h:fr vs β=.ok ds β)(hz:ds.length<=1000:=by simp):bL fr vs β=.ok (.tuple ds) β:=xf h hz
def lp (h:fr vs β=.ok ds β)(hz:ds.length<=1000:=by simp):bB fr vs β=.ok (.list ds) β:=eN h hz
def ck (d:D):cst d vs β=.ok d β:=rfl
end
def GX {vs:List Nv}{β:Int}:f2 (cst (.int 10)) (cst (.int 39)) Bz vs β=.ok (.int 1000000000000000000000000000000000000000) β:=aE (x:=.int 10) (y:=.int 39) rfl rfl (by rfl)
def qB {i:Int}(h: -1<=i/\i<=9):zk (.int i):=.inr (.inr ⟨i,rfl,h⟩)
def Bp {d:D}(h:cq d=false):gC "list" d=some (.bool (match d with | .list _=>true |_=>false)):=by
 unfold gC;rw[h];cases d <;> rfl
def Cw:D->Bool
 | .list _=>true
 |_=>false
theorem w8 {d:D}(h:Cw d=true):∃ds,d=.list ds:=by
 cases d with
 |list ds=>exact⟨ds,rfl⟩
 |_=>cases h
def DI {fa:VF D}{vs:List Nv}{β:Int}{d:D}(ha:fa vs β=.ok d β)(h:cq d=false):f1 fa (gC "list") vs β=.ok (.bool (Cw d)) β:=bG ha (by rw[Bp h];cases d <;> rfl)
def Fj {fa:VF D}{vs:List Nv}{β:Int}{ds:List D}(ha:fa vs β=.ok (.list ds) β):f1 fa eY vs β=.ok (.int ds.length) β:=bG ha rfl
def iD:List Str:=["order","many","pairs","ring","thing","row","rows","number","chain","turns","points","text"]
def oZ (iO:List (Str×Nat))(c:Str):Option Str:=(iO.lookup c).map λj=>iD.getD j ""
def dJ (n:Nat)(l:List Pr)(i:Nat):List Pr:=(OM.ba n).filter λp=>decide (p.1 < i) && BN l p
def xN (n:Nat)(l:List Pr):dJ n l n=AQ n l:=by
 unfold dJ AQ
 refine Mq λp hp=>?_
 have:=(OM.aU.mp hp).1.2
 rw[KY this,Bool.true_and]
def AJ {n i:Nat}(l:List Pr)(hi:i < n):dJ n l (i + 1)=dJ n l i ++ ((bu n).filter λb=>BN l ((i:Int),b)).map λb=>((i:Int),b):=by
 refine OM.jR (OM.dU _ (OM.gr n)) ?_ λx=>?_
 ·show List.Pairwise OM.BL _
  rw[List.pairwise_append]
  refine⟨OM.dU _ (OM.gr n),?_,λp hp q hq=>?_⟩
  ·rw[Mn]
   exact ((ET n).filter _).imp λ{a b} h=>.inr ⟨rfl,h⟩
  ·unfold dJ at hp
   have h1:=(K8.mp hp).2
   rw[KP,K7] at h1
   obtain⟨b,_,rfl⟩:=Lo.mp hq
   exact .inl h1.1
 ·rw[Lk]
  unfold dJ
  rw[K8,K8,Lo,OM.aU]
  simp only[KP,K7]
  constructor
  ·rintro⟨h1,h2,h3⟩
   by_cases z:x.1 < i
   ·exact .inl ⟨h1,z,h3⟩
   ·have e:x.1=i:=by omega
    obtain⟨xa,xb⟩:=x
    simp only at e h1 h3
    subst e
    exact .inr ⟨xb,K8.mpr ⟨bh.mpr h1.2,h3⟩,rfl⟩
  ·rintro (⟨h1,h2,h3⟩ | ⟨b,hb,rfl⟩)
   ·exact⟨h1,by omega,h3⟩
   ·obtain⟨hb1,hb2⟩:=K8.mp hb
    have:=bh.mp hb1
    exact⟨⟨⟨by omega,by omega⟩,this⟩,by omega,hb2⟩
def yG {n:Nat}(l:List Pr)(i:Nat)(h8:n<=8):(dJ n l i).length<=64:=by
 have h1:(dJ n l i).length<=(OM.ba n).length:=Mj _ _
 rw[dr] at h1
 have:n * n<=64:=LH h8 h8
 omega
def j5:List D->FR:=aY 3 1 (fL vJ)
def BJ {n:Nat}{l:List Pr}(O:OM.Ord n l):j5 [aA n l]=.ok (.list ((AQ n l).map aG)) false:=by
 have h8:=O.hi
 show fin (fL vJ [.fz (aA n l),.no,.no] 0)=_
 unfold fL
 rw[aI (env':=[.fz (aA n l),.fz (.list []),.no]) (β':=0) ?g1]
 case g1=>rw[gN,eN (ds:=[]) rfl (by simp)];rfl
 have er:∀(s t:Sl),cB (f2 (gv 0) (cst (.int 0)) cA) [.da (aA n l),s.val,t.val] 0=.ok (cZ 0 n) 0:=λs t=>eZ (n:=n) (Ic (n:=n) (l:=l) rfl) (by omega)
 obtain⟨env',β',ef,s,rfl,rfl⟩:=gi (t:=.nm 2) (m:=dk 1 ([] ++ (([] ++ []) ++ [0,2])) (f2 (gv 1) (aF 1 [0,2] (.nm 0) (cB (f2 (gv 0) (cst (.int 0)) cA)) (jZ (au vJ (aa (gv 1) (aa (gv 2) (aa (gv 0) ag))))) (bL (aa (gv 2) (aa (gv 0) ag)))) mC)) (ds:=cZ 0 n) (k:=0)
  (λi env β=>∃s:Sl,env= [.fz (aA n l),.fz (.list ((dJ n l i).map aG)),s]/\β=0)
  (env:=[.fz (aA n l),.fz (.list []),.no]) (β:=0) ⟨.no,by
   have:dJ n l 0= []:=by
    unfold dJ
    rw[List.filter_eq_nil_iff]
    intro p hp
    have:=(OM.aU.mp hp).1.1
    rw[K1 (by omega)];simp
   rw[this];rfl,rfl⟩ (by
   rintro i d env β hi ⟨s,rfl,rfl⟩
   obtain⟨hin,rfl⟩:=kX hi
   refine⟨[.fz (aA n l),.fz (.list ((dJ n l (0 + i)).map aG)),.fz (.int (0 + (i:Int)))],rfl,?_⟩
   rw[LK,LZ]
   have ec:aF 1 [0,2] (.nm 0) (cB (f2 (gv 0) (cst (.int 0)) cA)) (jZ (au vJ (aa (gv 1) (aa (gv 2) (aa (gv 0) ag))))) (bL (aa (gv 2) (aa (gv 0) ag))) [.da (aA n l),.da (.list ((dJ n l i).map aG)),.da (.int i)] 0=.ok (.list (((bu n).filter λb=>BN l ((i:Int),b)).map λb=>aG ((i:Int),b))) 0:=by
    refine i5 (l:=bu n) (e:=int) (λb=>BN l ((i:Int),b)) (λb=>aG ((i:Int),b)) ?_ (by rw[bt];omega) λb hb=>⟨_,rfl,dg (aw (ds:=[aA n l,.int i,.int b]) rfl (HF n l i b)),λ_=>fq rfl rfl⟩
    rw[<-jX]
    exact er (.fz _) (.fz _)
   have ew:f2 (gv 1) (aF 1 [0,2] (.nm 0) (cB (f2 (gv 0) (cst (.int 0)) cA)) (jZ (au vJ (aa (gv 1) (aa (gv 2) (aa (gv 0) ag))))) (bL (aa (gv 2) (aa (gv 0) ag)))) mC [.da (aA n l),.da (.list ((dJ n l i).map aG)),.da (.int i)] 0=.ok (.list ((dJ n l (i + 1)).map aG)) 0:=by
    refine aE (x:=.list ((dJ n l i).map aG)) rfl ec ?_
    rw[nh]
    ·rw[AJ l hin,MC,Lm];rfl
    ·rw[KD,KD]
     have h1:=yG l i h8
     have h2:((bu n).filter λb=>BN l ((i:Int),b)).length<=(bu n).length:=Mj _ _
     rw[bt] at h2
     omega
   refine⟨[.fz (aA n l),.fz (.list ((dJ n l (i + 1)).map aG)),.fz (.int i)],0,?_,_,rfl,rfl⟩
   rw[gN]
   show toS (f2 (gv 1) (aF 1 [0,2] (.nm 0) (cB (f2 (gv 0) (cst (.int 0)) cA)) (jZ (au vJ (aa (gv 1) (aa (gv 2) (aa (gv 0) ag))))) (bL (aa (gv 2) (aa (gv 0) ag)))) mC [.da (aA n l),.da (.list ((dJ n l i).map aG)),.da (.int i)] 0) _=_
   rw[ew];rfl)
 rw[fT,LK,xN] at ef
 rw[aI (env':=[.fz (aA n l),.fz (.list ((AQ n l).map aG)),s]) (β':=0) ?g2]
 case g2=>
  rw[jq (env:=[.fz (aA n l),.fz (.list []),.no]) (er (.fz (.list [])) .no)]
  exact ef
 rfl
def Ge (e:D):Prop:=cq e=false/\∀es,e=.tuple es->es.length<=100/\∀x,x∈es->cq x=false
def Am (n:Int):D->Bool
 | .tuple [x,y]=>fA x n && fA y n
 |_=>false
def Hh {n:Int}{d:D}(h:Am n d=true):∃p:Pr,d=aG p/\(0<=p.1/\p.1 < n)/\(0<=p.2/\p.2 < n):=by
 unfold Am at h
 split at h
 ·rename_i x y
  rw[KP] at h
  cases x with
  |int a=>
   cases y with
   |int b=>exact⟨(a,b),rfl,LD h.1,LD h.2⟩
   |_=>cases h.2
  |_=>cases h.1
 ·cases h
def Iu:List D->FR:=aY 2 2 (il cN)
theorem vX {es:List D}:(decide ((es.length:Int)=2)=false/\∀n,Am n (.tuple es)=false)\/∃x y,es= [x,y]:=by
 match es with
 | []=>exact .inl ⟨rfl,λ_=>rfl⟩
 | [_]=>exact .inl ⟨rfl,λ_=>rfl⟩
 | [x,y]=>exact .inr ⟨x,y,rfl⟩
 |_ :: _ :: _ :: _=>exact .inl ⟨K1 (by simp;omega),λ_=>rfl⟩
theorem Js {d:D}{n:Int}(h:Ge d):Iu [d,.int n]=.ok (.bool (Am n d)) false:=by
 show fin (il cN [.fz d,.fz (.int n)] 0)=_
 unfold il
 have g0:gv 0 (vl [.fz d,.fz (.int n)]) 0=.ok d 0:=rfl
 have t1:=DK g0 h.1
 cases hy:zS d with
 |false=>
  rw[hy] at t1
  rw[cL (d:=.bool false) (b:=false) (β':=0) ?a]
  ·cases d <;> first |rfl |cases hy
  case a=>rw[gq (p0 (bq t1))];rfl
 |true=>
  obtain⟨es,rfl⟩:=xE hy
  rw[hy] at t1
  have t2:=ER (k:=2) g0
  rcases vX (es:=es) with⟨q,z⟩ | ⟨x,y,rfl⟩
  ·rw[q] at t2
   rw[z n,cL (d:=.bool false) (b:=false) (β':=0) (by rw[gq (iA (bq t1) t2)];rfl)];rfl
  ·rw[aI (env':=[.fz (.tuple [x,y]),.fz (.int n)]) (β':=0) (by rw[gW (iA (bq t1) t2)];rfl)]
   have hx:=(h.2 _ rfl).2 x (KO ..)
   have hy':=(h.2 _ rfl).2 y (KL _ (KO ..))
   have e1:au cN (aa (f2 (gv 0) (cst (.int 0)) cA) (aa (gv 1) ag)) (vl [.fz (.tuple [x,y]),.fz (.int n)]) 0=.ok (.bool (fA x n)) 0:=aw (ds:=[x,.int n]) rfl (mS hx)
   have e2:au cN (aa (f2 (gv 0) (cst (.int 1)) cA) (aa (gv 1) ag)) (vl [.fz (.tuple [x,y]),.fz (.int n)]) 0=.ok (.bool (fA y n)) 0:=aw (ds:=[y,.int n]) rfl (mS hy')
   rw[eS,mT e1 e2];rfl
def Sp (p:Pr):Prop:=(0<=p.1/\p.1<=8)/\(0<=p.2/\p.2<=8)
def zL {es:List D}(hl:es.length<=100)(h:∀x,x∈es->cq x=false):Ge (.tuple es):=⟨rfl,λes' e=>by cases e;exact⟨hl,h⟩⟩
def Ka:D->Bool
 | .tuple es=>decide (es.length<=100) && es.all λx=> !cq x
 |_=>true
def jc:List D:=[.none,.bool true,.bool false,.int (-1),.int 0,.int 1,.str "",.str "1",.tuple [],.list [],.tuple [.int 0],.tuple [.int 1,.tuple []],.list [.int 0],.dict [(.str "a",.int 1)],.tuple [.int 0,.int 1],.int 1000000000000000000000000000000000000000,.tuple [.tuple [.int 0,.int 1]],.str "a"]
def Ds {fa fb:VF D}{vs:List Nv}{β:Int}{ds:List D}{i:Nat}(ha:fa vs β=.ok (.list ds) β)(hb:fb vs β=.ok (.int ((i:Nat):Int)) β):yZ fa (yC fb) (λ_ β=>.ok none β) vs β=.ok (.list (ds.drop i)) β:=by
 unfold yZ yC
 rw[ha];dsimp only[R.bnd]
 rw[hb];dsimp only[R.bnd]
 congr 2
 unfold cutD
 rw[HT.uj,HT.xG]
 by_cases h:i<=ds.length
 ·rw[Nat.min_eq_left h];exact List.take_of_length_le (by rw[length_drop];omega)
 ·rw[Nat.min_eq_right (by omega),List.drop_length,List.drop_of_length_le (by omega)];simp
def sO {fa fb:VF D}{vs:List Nv}{β:Int}{ds:List D}{i:Nat}(ha:fa vs β=.ok (.list ds) β)(hb:fb vs β=.ok (.int ((i:Nat):Int)) β):yZ fa (λ_ β=>.ok none β) (yC fb) vs β=.ok (.list (ds.take i)) β:=by
 unfold yZ yC
 rw[ha];dsimp only[R.bnd]
 rw[hb];dsimp only[R.bnd]
 congr 2
 unfold cutD
 rw[HT.uj,HT.xG]
 by_cases h:i<=ds.length
 ·rw[Nat.min_eq_left h];rfl
 ·rw[Nat.min_eq_right (by omega),List.take_of_length_le (show ds.length<=i by omega)];simp
noncomputable def Ca:List D->Int->FB:=sZ 2 0 (iQ fZ)
def GV (β:Int):∃o β',Ca [] β=.ok o false β'/\o∈jc:=by
 show ∃o β',Ew (iQ fZ [.bx,.no] β)=.ok o false β'/\o∈jc
 unfold iQ
 rw[aI (env':=[.bx,.fz (.list (jc.take 13))]) (β':=β) ?a]
 case a=>
  rw[gN,lp (ds:=jc.take 13) (ac (ck _) (ac (ck _) (ac (ck _) (ac (ck _) (ac (ck _) (ac (ck _) (ac (ck _) (ac (ck _) (ac (tp an) (ac (lp an) (ac (tp (ac (ck _) an)) (ac (tp (ac (ck _) (ac (tp an) an))) (ac (lp (ac (ck _) an)) an))))))))))))) (by show (13:Nat)<=1000;omega)]
  rfl
 rw[aI (env':=[.bx,.fz (.list jc)]) (β':=β) ?b]
 case b=>
  rw[gN,aE (x:=.list (jc.take 13)) (y:=.list (jc.drop 13)) (d:=.list jc) (β1:=β) (β2:=β) rfl (lp (ds:=jc.drop 13) (ac (ck _) (ac (tp (ac (ck _) (ac (ck _) an))) (ac GX (ac (tp (ac (tp (ac (ck _) (ac (ck _) an))) an)) (ac (ck _) an))))) (by show (5:Nat)<=1000;omega)) ?c]
  ·rfl
  case c=>rw[nh (by show (13 + 5:Nat)<=10000;omega)];rfl
 obtain⟨j,hj,ej⟩:=tR (m:=18) (by omega) (by omega) β
 have hlen:jc.length=18:=rfl
 obtain⟨o,ho⟩:∃o,jc[j]? =some o:=⟨_,KR (by omega)⟩
 have e:f2 (gv 1) (ua 0 fZ (aa (cst (.int 18)) ag)) cA (vl [.bx,.fz (.list jc)]) β=.ok o (β / ((18:Nat):Int)):=aE (x:=.list jc) (y:=.int j) rfl (oE (ds:=[.int 18]) (by rfl) rfl ej) (show kh jc (j:Int)=some o from mP ho)
 rw[eS,e]
 exact⟨o,_,rfl,K9 ho⟩
end RM
namespace RM
open PySem PySem.Spec L2 PyProof.Rows
theorem oj:∀(ns acc:List Int),acc.Nodup->(ns.foldl step_dedup acc).length<=acc.length + ns.length/\((ns.foldl step_dedup acc).length=acc.length + ns.length↔(ns.Nodup/\∀x,x∈ns->x∉acc))
 | [],acc,_=>by simp
 |n :: ns,acc,hn=>by
  rw[foldl_cons]
  by_cases h:n∈acc
  ·have e:step_dedup acc n=acc:=by unfold step_dedup;rw[KH (by simpa using h)]
   rw[e]
   obtain⟨h1,h2⟩:=oj ns acc hn
   refine⟨by rw[K4];omega,⟨λz=>?_,λz=>absurd h (z.2 n (KO ..))⟩⟩
   rw[K4] at z;omega
  ·have e:step_dedup acc n=acc ++ [n]:=by unfold step_dedup;rw[KZ (by simpa using h)]
   have hn':(acc ++ [n]).Nodup:=by
    rw[List.nodup_append]
    refine⟨hn,LI.mpr ⟨by simp,List.nodup_nil⟩,λa ha b hb=>?_⟩
    rw[Lv] at hb
    subst hb
    exact λq=>h (q▸ha)
   rw[e]
   obtain⟨h1,h2⟩:=oj ns (acc ++ [n]) hn'
   rw[Ls,List.length_singleton] at h1 h2
   refine⟨by rw[K4];omega,?_⟩
   rw[K4,show acc.length + (ns.length + 1)=acc.length + 1 + ns.length by omega,h2,LI]
   constructor
   ·rintro⟨z1,z2⟩
    refine⟨⟨λq=>z2 n q (by simp),z1⟩,λx hx=>?_⟩
    rcases KG.mp hx with rfl |hx
    ·exact h
    ·exact λq=>z2 x hx (L6 _ q)
   ·rintro⟨⟨z1,z2⟩,z3⟩
    refine⟨z2,λx hx q=>?_⟩
    rcases Lk.mp q with q |q
    ·exact z3 x (KL _ hx) q
    ·rw[Lv] at q;subst q;exact z1 hx
def rS (ns:List Int):o7 ns=ns.length↔ns.Nodup:=by
 have e:firstMet (λi=>ns.getD i 0) ns.length=ns.foldl step_dedup []:=by
  unfold firstMet
  congr 1
  refine List.ext_getElem (by simp) λi h1 h2=>?_
  simp[MI,h2]
 unfold o7
 rw[e]
 have:=(oj ns [] List.nodup_nil).2
 simpa using this
theorem mj:∀{l m:List Int},l.Nodup->(∀x,x∈l->x∈m)->m.length<=l.length->l.Perm m
 | [],m,_,_,h=>by
  have:m= []:=List.length_eq_zero_iff.mp (by simpa using h)
  rw[this]
 |x :: l,m,nd,hs,h=>by
  obtain⟨h1,h2⟩:=LI.mp nd
  have hx:x∈m:=hs x (KO ..)
  have pm:m.Perm (x :: m.erase x):=List.perm_cons_erase hx
  refine (List.Perm.cons x (mj (m:=m.erase x) h2 (λy hy=>?_) ?_)).trans pm.symm
  ·have hy':=pm.mem_iff.mp (hs y (KL _ hy))
   rcases KG.mp hy' with rfl |q
   ·exact absurd hy h1
   ·exact q
  ·have:=pm.length_eq
   rw[K4] at this h
   omega
def tV {n:Nat}{r:List Int}(hl:r.length=n)(hb:∀x,x∈r->0<=x/\x < n)(nd:r.Nodup):r.Perm (bu n):=mj nd (λx hx=>bh.mpr (hb x hx)) (by rw[bt];omega)
noncomputable def jh (n:Nat)(d:D):Bool:=@decide (∃r:List Int,d=tupI r/\r.Perm (bu n)) (Classical.propDecidable _)
def vU {n:Nat}{d:D}(h:jh n d=true):∃r:List Int,d=tupI r/\r.Perm (bu n):=@LD _ (Classical.propDecidable _) h
def nJ {n:Nat}{r:List Int}(h:r.Perm (bu n)):jh n (tupI r)=true:=@KY _ (Classical.propDecidable _) ⟨r,rfl,h⟩
def ql {n:Nat}{d:D}(h:∀r:List Int,d=tupI r->¬r.Perm (bu n)):jh n d=false:=@K1 _ (Classical.propDecidable _) λ⟨r,e,p⟩=>h r e p
def gk {r q:List Int}(h:tupI r=tupI q):r=q:=by
 unfold tupI at h
 have h:=PyData.tuple.inj h
 exact List.map_inj_right (λa b e=>int.inj e) |>.mp h
theorem yi {d:D}{n:Int}(h:fA d n=true):∃i:Int,d=.int i/\0<=i/\i < n:=by
 cases d with
 |int i=>exact⟨i,rfl,LD h⟩
 |_=>cases h
theorem p8 {n:Int}:∀{ds:List D},(ds.all λe=>fA e n)=true->∃r:List Int,ds=r.map int/\∀x,x∈r->0<=x/\x < n
 | [],_=>⟨[],rfl,λx hx=>by cases hx⟩
 |d :: ds,h=>by
  rw[Mk,KP] at h
  obtain⟨i,rfl,hi⟩:=yi h.1
  obtain⟨r,rfl,hr⟩:=p8 h.2
  refine⟨i :: r,rfl,λx hx=>?_⟩
  rcases KG.mp hx with rfl |hx
  ·exact hi
  ·exact hr x hx
def yc {n:Nat}{r:List Int}(h:∀x,x∈r->0<=x/\x < (n:Int)):((r.map int).all λe=>fA e n)=true:=by
 rw[MG,Lx]
 intro x hx
 exact KY (h x hx)
theorem ic:∀r:List Int,ib (r.map int)=some r
 | []=>rfl
 |x :: r=>by
  have:=ic r
  simp only[Ln,ib,this]
  try rfl
def mz:List D->FR:=aY 2 2 (j3 cN)
theorem wc {n:Nat}{d:D}(h8:n<=100)(h:Ge d):mz [d,.int n]=.ok (.bool (jh n d)) false:=by
 show fin (j3 cN [.fz d,.fz (.int n)] 0)=_
 unfold j3
 have g0:gv 0 (vl [.fz d,.fz (.int n)]) 0=.ok d 0:=rfl
 have t1:=DK g0 h.1
 cases hy:zS d with
 |false=>
  rw[hy] at t1
  rw[cL (d:=.bool false) (b:=false) (β':=0) (by rw[gq (p0 (bq t1))];rfl),ql]
  ·rfl
  ·intro r e;subst e;cases hy
 |true=>
  obtain⟨es,rfl⟩:=xE hy
  rw[hy] at t1
  have t2:fH (f2 (f1 (gv 0) eY) (gv 1) (dG true)) (vl [.fz (.tuple es),.fz (.int n)]) 0=.ok (!decide ((es.length:Int)=n)) 0:=jW (neg:=true) (D6 g0) rfl
  by_cases hl:es.length=n
  ·rw[KY (show (es.length:Int)=n by omega)] at t2
   rw[aI (env':=[.fz (.tuple es),.fz (.int n)]) (β':=0) (by rw[gW (iA (bq t1) t2)];rfl)]
   have hs:=(h.2 _ rfl).2
   have ec:aF 1 [1] (.nm 0) (bz (gv 0)) gy (au cN (aa (gv 0) (aa (gv 1) ag))) (vl [.fz (.tuple es),.fz (.int n)]) 0=.ok (.list (es.map λe=>PyData.bool (fA e n))) 0:=
    l5 (λe=>PyData.bool (fA e n)) rfl (by omega) λe he=>⟨_,rfl,aw (ds:=[e,.int n]) rfl (mS (hs e he))⟩
   have ea:=rF ec
   rw[eS]
   cases hb:(es.all λe=>fA e n) with
   |false=>
    rw[hb] at ea
    rw[D9 ea,ql]
    ·rfl
    ·intro r e pm
     have e:=PyData.tuple.inj e
     subst e
     rw[yc λx hx=>bh.mp (pm.mem_iff.mp hx)] at hb
     cases hb
   |true=>
    rw[hb] at ea
    obtain⟨r,rfl,hr⟩:=p8 hb
    have hrl:r.length=n:=by rw[KD] at hl;exact hl
    have es:f1 (gv 0) mY (vl [.fz (.tuple (r.map int)),.fz (.int n)]) 0=.ok (.int (o7 r)) 0:=by
     refine bG g0 ?_
     show (match ib (r.map int) with |some ns=>if ns.length<=1000 then some (int (o7 ns)) else none |none=>none)=_
     rw[ic]
     exact KH (by omega)
    rw[D1 ea (aE es rfl (wW false (o7 r) n))]
    show FR.ok (.bool (decide ((o7 r:Int)=(n:Int)))) false=_
    by_cases nd:r.Nodup
    ·have:=(rS r).mpr nd
     rw[KY (by omega),show jh n (.tuple (r.map int))=true from nJ (tV hrl hr nd)]
    ·have:o7 r≠r.length:=λq=>nd ((rS r).mp q)
     rw[K1 (by omega),ql]
     intro q e pm
     have e:=gk (r:=r) e
     subst e
     exact nd (pm.nodup_iff.mpr (iy n))
  ·rw[K1 (show ¬(es.length:Int)=n by omega)] at t2
   rw[cL (d:=.bool false) (b:=false) (β':=0) (by rw[gq (iA (bq t1) t2)];rfl),ql]
   ·rfl
   ·intro r e pm
    have e:=PyData.tuple.inj e
    subst e
    have:=pm.length_eq
    rw[bt] at this
    rw[KD] at hl
    exact hl this
end RM
namespace RM
open PySem L2
def kM (r:List Int):List Int:=(List.range r.length).map λ(a:Nat)=>((r.idxOf (a:Int):Nat):Int)
def fj (r:List Int)(k:Nat):List Int:=(List.range r.length).map λ(a:Nat)=>if r.idxOf (a:Int) < k then ((r.idxOf (a:Int):Nat):Int) else 0
def w9 (r:List Int):(kM r).length=r.length:=by unfold kM;simp
def yv {n:Nat}{r:List Int}(h:r.Perm (bu n)):fj r r.length=kM r:=by
 unfold fj kM
 refine LQ λa ha=>?_
 have hl:=h.length_eq
 rw[bt] at hl
 have:=LM.mp ha
 rw[KH (Lu.mpr (h.mem_iff.mpr (bh.mpr ⟨by omega,by omega⟩)))]
def uR (r:List Int):fj r 0=List.replicate r.length 0:=by
 unfold fj
 refine List.ext_getElem (by simp) λi h1 h2=>by simp
def uw {n:Nat}{r:List Int}(h:r.Perm (bu n)){k:Nat}{x:Int}(hk:r[k]? =some x):(fj r k).set x.toNat (k:Int)=fj r (k + 1):=by
 have hl:=h.length_eq
 rw[bt] at hl
 have hx:=bh.mp (h.mem_iff.mp (K9 hk))
 have nd:r.Nodup:=h.nodup_iff.mpr (iy n)
 obtain⟨hkl,hke⟩:=KN.mp hk
 have hix:r.idxOf x=k:=by rw[<-hke];exact nd.idxOf_getElem k hkl
 unfold fj
 refine List.ext_getElem (by simp) λi h1 h2=>?_
 have hi:i < r.length:=by simpa using h2
 rw[List.getElem_set]
 simp only[List.getElem_map,List.getElem_range]
 by_cases e:x.toNat=i
 ·rw[KH e]
  have ex:(i:Int)=x:=by omega
  rw[ex,hix,KH (by omega)]
 ·rw[KZ e]
  have:r.idxOf (i:Int)≠k:=λq=>by
   have hm:(i:Int)∈r:=h.mem_iff.mpr (bh.mpr ⟨by omega,by omega⟩)
   have h3:=Mg (Lu.mpr hm)
   simp only[q] at h3
   rw[hke] at h3
   omega
  by_cases z:r.idxOf (i:Int) < k
  ·rw[KH z,KH (by omega)]
  ·rw[KZ z,KZ (by omega)]
def zo {n:Nat}{r:List Int}(h:r.Perm (bu n)){a:Int}(ha:0<=a/\a < n):kh (kM r) a=some ((r.idxOf a:Nat):Int):=by
 have hl:=h.length_eq
 rw[bt] at hl
 have e:(a.toNat:Int)=a:=by omega
 have:=mP (xs:=kM r) (j:=a.toNat) (v:=((r.idxOf a:Nat):Int)) (by
  unfold kM
  rw[KW,LX (by omega)]
  simp only[Option.map_some,e])
 rw[e] at this
 exact this
def zc:List D->FR:=aY 4 1 lJ
def zW {n:Nat}{r:List Int}{d:D}(h1:eY d=some (.int ((r.map int).length:Nat)))(h2:kn d=some (r.map int))(h100:n<=100)(h:r.Perm (bu n)):zc [d]=.ok (.list ((kM r).map int)) true:=by
 have hl:=h.length_eq
 rw[bt] at hl
 show fin (lJ [.fz (d),.no,.no,.no] 0)=_
 unfold lJ
 rw[aI (env':=[.fz (d),.ow (.list ((fj r 0).map int)),.no,.no]) (β':=0) ?a]
 case a=>
  have e:f2 (bB (aa (cst (.int 0)) ag)) (f1 (gv 0) eY) Bk (vl [.fz (d),.no,.no,.no]) 0=.ok (.list ((fj r 0).map int)) 0:=by
   refine aE (lp (ac (ck _) an)) (bG (x:=d) rfl h1) ?_
   rw[KD,uR,List.map_replicate]
   simp only[Bk]
   rw[KH ?q]
   ·congr 2
    rw[Lp]
    induction r.length with
    |zero=>rfl
    |succ m ih=>first |rw[LB,LB,L9,ih];rfl | (simp[LB] at ih ⊢;try exact ih)
   case q=>first | (constructor <;> first |omega | (show _<=_;simp;try omega)) | (rw[Ld];simp;omega)
  rw[tX,e];rfl
 have ee:FW (gv 0) (vl [.fz (d),.ow (.list ((fj r 0).map int)),.no,.no]) 0=.ok (gx (r.map int)) 0:=by
  show (match kn d with |some ds=>R.ok (gx ds) 0 |none=>.bad)=_
  rw[h2]
 obtain⟨env',β',ef,s,t,rfl,rfl⟩:=gi (t:=.two 2 3) (m:=tu 1 [2] [] (gv 2) (gv 3)) (ds:=gx (r.map int)) (k:=0)
  (λk env β=>∃s t:Sl,env= [.fz (d),.ow (.list ((fj r k).map int)),s,t]/\β=0)
  (env:=[.fz (d),.ow (.list ((fj r 0).map int)),.no,.no]) (β:=0) ⟨.no,.no,rfl,rfl⟩ (by
   rintro k d env β hk ⟨s,t,rfl,rfl⟩
   unfold gx at hk
   rw[List.getElem?_mapIdx,KW] at hk
   cases hx:r[k]? with
   |none=>rw[hx] at hk;cases hk
   |some x=>
    rw[hx] at hk
    cases hk
    have hxm:=bh.mp (h.mem_iff.mp (K9 hx))
    refine⟨[.fz (d),.ow (.list ((fj r (0 + k)).map int)),.fz (.int k),.fz (.int x)],rfl,?_⟩
    rw[LK]
    refine⟨[.fz (d),.ow (.list ((fj r (k + 1)).map int)),.fz (.int k),.fz (.int x)],0,?_,_,_,rfl,rfl⟩
    rw[Bq (ds:=(fj r k).map int) (d:=.int k) (k:=x) (n:=x.toNat) (β1:=0) (β2:=0) rfl (by rfl) rfl (by rfl) ?b]
    ·rw[<-uw h hx,List.map_set];rfl
    case b=>
     unfold ur
     rw[KH hxm.1,KH (by rw[KD];unfold fj;simp;omega)])
 have hle:(gx (r.map int)).length=r.length:=by unfold gx;simp
 rw[LK,hle,yv h] at ef
 rw[aI (env':=[.fz (d),.ow (.list ((kM r).map int)),s,t]) (β':=0) (by
  rw[jq (env:=[.fz (d),.ow (.list ((fj r 0).map int)),.no,.no]) ee]
  exact ef)]
 rfl
def B8 {n:Nat}{r:List Int}(h100:n<=100)(h:r.Perm (bu n)):zc [tupI r]=.ok (.list ((kM r).map int)) true:=zW rfl rfl h100 h
def C2 (l:List Pr)(r:List Int):Bool:=l.all λp=>decide (r.idxOf p.1 < r.idxOf p.2)
def Row (n:Nat)(l:List Pr)(r:List Int):Prop:=r.Perm (bu n)/\C2 l r=true
noncomputable def qW (n:Nat)(l:List Pr)(d:D):Bool:=@decide (∃r:List Int,d=tupI r/\Row n l r) (Classical.propDecidable _)
def GY {n:Nat}{l:List Pr}{d:D}(h:qW n l d=true):∃r:List Int,d=tupI r/\Row n l r:=@LD _ (Classical.propDecidable _) h
def wN {n:Nat}{l:List Pr}{r:List Int}(h:Row n l r):qW n l (tupI r)=true:=@KY _ (Classical.propDecidable _) ⟨r,rfl,h⟩
def D2 {n:Nat}{l:List Pr}{d:D}(h:∀r:List Int,d=tupI r->¬Row n l r):qW n l d=false:=@K1 _ (Classical.propDecidable _) λ⟨r,e,p⟩=>h r e p
noncomputable def Ir:List D->FR:=aY 3 2 (eM mz zc)
def BB {n:Nat}{r:List Int}(h:r.Perm (bu n)){a b:Int}(ha:0<=a/\a < n)(hb:0<=b/\b < n){fp fa fb:VF D}{vs:List Nv}{β:Int}(hp:fp vs β=.ok (.list ((kM r).map int)) β)(h1:fa vs β=.ok (.int a) β)(h2:fb vs β=.ok (.int b) β) :
  f2 (f2 fp fa cA) (f2 fp fb cA) wG vs β=.ok (.bool (decide (r.idxOf a < r.idxOf b))) β:=by
 refine aE (aE hp h1 (show kh ((kM r).map int) a=_ by rw[lF,zo h ha];rfl)) (aE hp h2 (show kh ((kM r).map int) b=_ by rw[lF,zo h hb];rfl)) ?_
 show some (PyData.bool (decide (((r.idxOf a:Nat):Int) < ((r.idxOf b:Nat):Int))))=_
 congr 2
 rw[Lq,K7,K7]
 omega
theorem Jm {n:Nat}{l:List Pr}{d:D}(O:OM.Ord n l)(h:Ge d):Ir [d,aA n l]=.ok (.bool (qW n l d)) false:=by
 have h8:=O.hi
 show fin (eM mz zc [.fz d,.fz (aA n l),.no] 0)=_
 unfold eM
 have t:jZ (au mz (aa (gv 0) (aa (f2 (gv 1) (cst (.int 0)) cA) ag))) (vl [.fz d,.fz (aA n l),.no]) 0=.ok (jh n d) 0:=dg (aw (ds:=[d,.int n]) (ac rfl (ac (Ic (n:=n) (l:=l) rfl) an)) (wc (by omega) h))
 cases q:jh n d with
 |false=>
  rw[q] at t
  rw[cL (d:=.bool false) (b:=false) (β':=0) (by rw[gq (bq t)];rfl),D2]
  ·rfl
  ·rintro r rfl hr
   rw[nJ hr.1] at q;cases q
 |true=>
  rw[q] at t
  obtain⟨r,rfl,pm⟩:=vU q
  rw[aI (env':=[.fz (tupI r),.fz (aA n l),.no]) (β':=0) (by rw[gW (bq t)];rfl)]
  rw[aI (env':=[.fz (tupI r),.fz (aA n l),.fz (.list ((kM r).map int))]) (β':=0) (by rw[gN,aw (ds:=[tupI r]) (β1:=0) rfl (B8 (by omega) pm)];rfl)]
  have ec:aF 2 [2] (.two 0 1) (bz (f2 (gv 1) (cst (.int 1)) cA)) gy (f2 (f2 (gv 2) (gv 0) cA) (f2 (gv 2) (gv 1) cA) wG) (vl [.fz (tupI r),.fz (aA n l),.fz (.list ((kM r).map int))]) 0=.ok (.list (l.map λp=>PyData.bool (decide (r.idxOf p.1 < r.idxOf p.2)))) 0:=by
   refine bj (l:=l) (e:=aG) (λp=>PyData.bool (decide (r.idxOf p.1 < r.idxOf p.2))) rfl (by have:=rH O;omega) λp hp=>⟨_,rfl,?_⟩
   have hw:=O.wn p hp
   exact BB pm hw.1 hw.2 rfl rfl rfl
  rw[eS,E4 (f:=λp=>decide (r.idxOf p.1 < r.idxOf p.2)) ec]
  show FR.ok (.bool (C2 l r)) false=_
  cases qf:C2 l r with
  |true=>rw[wN ⟨pm,qf⟩]
  |false=>
   rw[D2]
   rintro r' e hr
   have e:=gk e
   subst e
   rw[hr.2] at qf;cases qf
def Gt (d:D):Prop:=cq d=false/\∀ds,d=.list ds->ds.length<=100/\∀e,e∈ds->Ge e
noncomputable def tf (n:Nat)(l:List Pr)(d:D):Bool:=@decide (∃rs:List (List Int),d=.list (rs.map tupI)/\rs≠ []/\∀r,r∈rs->Row n l r) (Classical.propDecidable _)
def EN {n:Nat}{l:List Pr}{d:D}(h:tf n l d=true):∃rs:List (List Int),d=.list (rs.map tupI)/\rs≠ []/\∀r,r∈rs->Row n l r:=@LD _ (Classical.propDecidable _) h
def p6 {n:Nat}{l:List Pr}{rs:List (List Int)}(h1:rs≠ [])(h:∀r,r∈rs->Row n l r):tf n l (.list (rs.map tupI))=true:=@KY _ (Classical.propDecidable _) ⟨rs,rfl,h1,h⟩
def uG {n:Nat}{l:List Pr}{d:D}(h:∀rs:List (List Int),d=.list (rs.map tupI)->rs≠ []->∃r,r∈rs/\¬Row n l r):tf n l d=false:=@K1 _ (Classical.propDecidable _) λ⟨r,e,h1,h2⟩=>by
 obtain⟨x,hx,hn⟩:=h r e h1
 exact hn (h2 x hx)
theorem all_rows {n:Nat}{l:List Pr}:∀{ds:List D},ds.all (qW n l)=true->∃rs:List (List Int),ds=rs.map tupI/\∀r,r∈rs->Row n l r
 | [],_=>⟨[],rfl,λr hr=>by cases hr⟩
 |d :: ds,h=>by
  rw[Mk,KP] at h
  obtain⟨r,rfl,hr⟩:=GY h.1
  obtain⟨rs,rfl,hrs⟩:=all_rows h.2
  refine⟨r :: rs,rfl,λx hx=>?_⟩
  rcases KG.mp hx with rfl |hx
  ·exact hr
  ·exact hrs x hx
noncomputable def JW:List D->FR:=aY 2 2 (iX Ir)
theorem JL {n:Nat}{l:List Pr}{d:D}(O:OM.Ord n l)(h:Gt d):JW [d,aA n l]=.ok (.bool (tf n l d)) false:=by
 show fin (iX Ir [.fz d,.fz (aA n l)] 0)=_
 unfold iX
 have e1:=DI (fa:=gv 0) (vs:=vl [.fz d,.fz (aA n l)]) (β:=0) rfl h.1
 cases q:Cw d with
 |false=>
  rw[q] at e1
  rw[cL (d:=.bool false) (b:=false) (β':=0) (by rw[gq (p0 (bq (dg e1)))];rfl),uG]
  ·rfl
  ·rintro rs rfl;cases q
 |true=>
  rw[q] at e1
  obtain⟨ds,rfl⟩:=w8 q
  have hd:=h.2 ds rfl
  have t2:fH (f2 (f1 (gv 0) eY) (cst (.int 0)) (dG false)) (vl [.fz (.list ds),.fz (aA n l)]) 0=.ok (decide ((ds.length:Int)=0)) 0:=jW (neg:=false) (Fj rfl) rfl
  cases ds with
  |nil=>
   rw[cL (d:=.bool false) (b:=false) (β':=0) (by rw[gq (iA (bq (dg e1)) t2)];rfl),uG]
   ·rfl
   ·intro rs e hne
    have e:=PyData.list.inj e
    cases rs with
    |nil=>exact absurd rfl hne
    |cons=>cases e
  |cons x ds=>
   rw[K1 (by simp;omega)] at t2
   rw[aI (env':=[.fz (.list (x :: ds)),.fz (aA n l)]) (β':=0) (by rw[gW (iA (bq (dg e1)) t2)];rfl)]
   have ec:aF 1 [1] (.nm 0) (bz (gv 0)) gy (au Ir (aa (gv 0) (aa (gv 1) ag))) (vl [.fz (.list (x :: ds)),.fz (aA n l)]) 0=.ok (.list ((x :: ds).map λe=>PyData.bool (qW n l e))) 0:=
    l5 (λe=>PyData.bool (qW n l e)) rfl (by omega) λe he=>⟨_,rfl,aw (ds:=[e,aA n l]) rfl (Jm O (hd.2 e he))⟩
   rw[eS,rF (f:=qW n l) ec]
   cases qa:(x :: ds).all (qW n l) with
   |true=>
    obtain⟨rs,e,hrs⟩:=all_rows qa
    rw[e,p6 (by rintro rfl;cases e) hrs];rfl
   |false=>
    rw[uG]
    ·rfl
    ·intro rs e hne
     have e:=PyData.list.inj e
     rw[e,MG,List.all_eq_false] at qa
     obtain⟨r,hr,hx⟩:=qa
     exact⟨r,hr,λz=>hx (wN z)⟩
def lX (rs:List (List Int))(p:Pr):Bool:=rs.all λr=>decide (r.idxOf p.1 < r.idxOf p.2)
def IG:List D->FR:=aY 3 3 du
def CV {α:Type}{fa:VF D}{vs:List Nv}{β:Int}{l:List α}{f:α->Bool}(h:fa vs β=.ok (.list (l.map λq=>PyData.bool (f q))) β):f1 fa (cm λbs=>bs.all id) vs β=.ok (.bool (l.all f)) β:=by
 refine bG h ?_
 simp only[cm]
 rw[fX]
 simp[MG,Function.comp_def]
def IL {n:Nat}{rs:List (List Int)}(hz:rs.length<=1000)(hp:∀r,r∈rs->r.Perm (bu n)){a b:Int}(ha:0<=a/\a < n)(hb:0<=b/\b < n):IG [.list (rs.map λr=>.list ((kM r).map int)),.int a,.int b]=.ok (.bool (lX rs (a,b))) false:=by
 show fin (du [.fz (.list (rs.map λr=>.list ((kM r).map int))),.fz (.int a),.fz (.int b)] 0)=_
 unfold du
 have ec:aF 1 [1,2] (.nm 0) (bz (gv 0)) gy (f2 (f2 (gv 0) (gv 1) cA) (f2 (gv 0) (gv 2) cA) wG) (vl [.fz (.list (rs.map λr=>.list ((kM r).map int))),.fz (.int a),.fz (.int b)]) 0=.ok (.list (rs.map λr=>PyData.bool (decide (r.idxOf a < r.idxOf b)))) 0:=
  bj (l:=rs) (e:=λr=>.list ((kM r).map int)) (λr=>PyData.bool (decide (r.idxOf a < r.idxOf b))) rfl (by omega) λr hr=>⟨_,rfl,BB (hp r hr) ha hb rfl rfl rfl⟩
 rw[eS,CV ec];rfl
noncomputable def ID:List D->FR:=aY 3 2 (dC zc kJ IG)
def FT {n:Nat}{rs:List (List Int)}(h1:1<=n)(h8:n<=8)(hz:rs.length<=1000)(hp:∀r,r∈rs->r.Perm (bu n)):ID [.int n,.list (rs.map tupI)]=.ok (.tuple (((OM.ba n).filter (lX rs)).map aG)) false:=by
 show fin (dC zc kJ IG [.fz (.int n),.fz (.list (rs.map tupI)),.no] 0)=_
 unfold dC
 have e1:aF 1 [] (.nm 0) (bz (gv 1)) gy (au zc (aa (gv 0) ag)) (vl [.fz (.int n),.fz (.list (rs.map tupI)),.no]) 0=.ok (.list (rs.map λr=>.list ((kM r).map int))) 0:=
  bj (l:=rs) (e:=tupI) (λr=>.list ((kM r).map int)) rfl (by omega) λr hr=>⟨_,rfl,aw (ds:=[tupI r]) rfl (B8 (by omega) (hp r hr))⟩
 rw[aI (env':=[.fz (.int n),.fz (.list (rs.map tupI)),.fz (.list (rs.map λr=>.list ((kM r).map int)))]) (β':=0) (by rw[gN,e1];rfl)]
 have hg:(OM.ba n).length<=64:=by rw[dr];exact LH h8 h8
 have e2:aF 2 [2] (.two 0 1) (bz (au kJ (aa (gv 0) ag))) (jZ (au IG (aa (gv 2) (aa (gv 0) (aa (gv 1) ag))))) (bL (aa (gv 0) (aa (gv 1) ag))) (vl [.fz (.int n),.fz (.list (rs.map tupI)),.fz (.list (rs.map λr=>.list ((kM r).map int)))]) 0=.ok (.list (((OM.ba n).filter (lX rs)).map aG)) 0:=by
  refine i5 (l:=OM.ba n) (e:=aG) (lX rs) aG ?_ (by omega) λp hp'=>⟨_,rfl,?_,λ_=>fq rfl rfl⟩
  ·unfold bz
   rw[aw (ds:=[.int n]) (β1:=0) rfl (wA h1 h8)];rfl
  ·have:=OM.aU.mp hp'
   exact dg (aw (ds:=[.list (rs.map λr=>.list ((kM r).map int)),.int p.1,.int p.2]) rfl (IL hz hp this.1 this.2))
 rw[eS,bG (g:=bW) e2 rfl];rfl
def HE {n:Nat}{rs:List (List Int)}(h1:1<=n)(h8:n<=8)(hz:rs.length<=100)(hp:∀r,r∈rs->r.Perm (bu n)):ID [.int n,.list (rs.map tupI)]=.ok (.tuple (((OM.ba n).filter (lX rs)).map aG)) false:=FT h1 h8 (by omega) hp
def zw (l:List Pr)(r:List Int)(x:Int):List Int:=(l.filter λp=>decide (p.2=x) && !decide (p.1∈r)).map (·.1)
def kQ {l:List Pr}{r:List Int}{x a:Int}:a∈zw l r x↔(a,x)∈l/\a∉r:=by
 unfold zw
 rw[Lo]
 constructor
 ·rintro⟨p,hp,rfl⟩
  have:=K8.mp hp
  simp only[KP,K7,Mo,decide_eq_false_iff_not] at this
  obtain⟨pa,pb⟩:=p
  obtain⟨h1,h2,h3⟩:=this
  simp only at h2 h3
  subst h2
  exact⟨h1,h3⟩
 ·rintro⟨h1,h2⟩
  exact⟨(a,x),K8.mpr ⟨h1,by simp[h2]⟩,rfl⟩
def yt {n:Nat}{l:List Pr}(O:OM.Ord n l)(r:List Int)(x:Int):(zw l r x).Nodup:=by
 unfold zw
 rw[Mm,Mn]
 refine MP (λ{a b} ha hb h e=>h ?_) (Mm.mp ((OM.pQ O.ris).filter _))
 have h1:=(K8.mp ha).2
 have h2:=(K8.mp hb).2
 simp only[KP,K7] at h1 h2
 exact Prod.ext e (h1.1.trans h2.1.symm)
theorem least {n:Nat}{l:List Pr}(O:OM.Ord n l)(r:List Int):∀(k:Nat) (x:Int),(0<=x/\x < n)->x∉r->(zw l r x).length<=k->∃y:Int,(0<=y/\y < n)/\y∉r/\zw l r y= []
 | 0,x,hx,hr,hk=>⟨x,hx,hr,List.length_eq_zero_iff.mp (by omega)⟩
 |k + 1,x,hx,hr,hk=>by
  by_cases he:zw l r x= []
  ·exact⟨x,hx,hr,he⟩
  ·obtain⟨a,ha⟩:=List.exists_mem_of_ne_nil _ he
   obtain⟨h1,h2⟩:=kQ.mp ha
   refine least O r k a (O.wn _ h1).1 h2 ?_
   have nd:(a :: zw l r a).Nodup:=LI.mpr ⟨λq=>O.irr a (kQ.mp q).1,yt O r a⟩
   have:=L2.ST.mf nd (m:=zw l r x) λy hy=>by
    rcases KG.mp hy with rfl |hy
    ·exact ha
    ·obtain⟨q1,q2⟩:=kQ.mp hy
     exact kQ.mpr ⟨O.tr _ _ _ q1 h1,q2⟩
   rw[K4] at this
   omega
structure Jt (n:Nat)(l:List Pr)(r:List Int):Prop where
 nd:r.Nodup
 inn:∀x,x∈r->0<=x/\x < (n:Int)
 fit:∀p,p∈l->p.2∈r->p.1∈r/\r.idxOf p.1 < r.idxOf p.2
def Ea (l:List Pr)(r:List Int)(x:Int):Bool:= !decide (x∈r) && decide (zw l r x= [])
def Jt.more {n:Nat}{l:List Pr}{r:List Int}{x:Int}(B:Jt n l r)(hx:0<=x/\x < (n:Int))(hf:Ea l r x=true):Jt n l (r ++ [x]):=by
 unfold Ea at hf
 rw[KP,Mo,decide_eq_false_iff_not,K7] at hf
 obtain⟨h1,h2⟩:=hf
 refine⟨?_,λy hy=>?_,λp hp hm=>?_⟩
 ·rw[List.nodup_append]
  refine⟨B.nd,LI.mpr ⟨by simp,List.nodup_nil⟩,λa ha b hb=>?_⟩
  rw[Lv] at hb
  subst hb
  exact λq=>h1 (q▸ha)
 ·rcases Lk.mp hy with hy |hy
  ·exact B.inn y hy
  ·rw[Lv] at hy;subst hy;exact hx
 ·rcases Lk.mp hm with hm |hm
  ·obtain⟨q1,q2⟩:=B.fit p hp hm
   refine⟨L6 _ q1,?_⟩
   rw[MW,MW,KH q1,KH hm]
   exact q2
  ·rw[Lv] at hm
   have hp1:p.1∈r:=by
    by_cases z:p.1∈r
    ·exact z
    ·have:p.1∈zw l r x:=kQ.mpr ⟨by rw[<-hm];exact hp,z⟩
     rw[h2] at this;cases this
   refine⟨L6 _ hp1,?_⟩
   rw[MW,MW,KH hp1,KZ (by rw[hm];exact h1)]
   have:=Lu.mpr hp1
   omega
structure WP (r:SO)(Q:SO->Prop):Prop where
 out:Q r
section
variable {m m' m1 m2:SF}{env env1:En}{β β1 β2 z:Int}{Q:SO->Prop}{f fa fb:VF D}{t:VF Bool}{d e:D}{L La Lb:List Nat}{i j:Nat}{c:Bool}
def wp_at (env1:En)(e:env=env1)(k:WP (m env1 β) Q):WP (m env β) Q:=by rw[e];exact k
def wp_seq (h:m env β=.nx env1 β1)(k:WP (m' env1 β1) Q):WP (aL m m' env β) Q:=by rw[aI h];exact k
theorem Gh (h:WP (aL m lI env β) Q):WP (m env β) Q:=by
 obtain⟨h⟩:=h
 unfold aL at h
 cases e:m env β with
 |_=>rw[e] at h;exact⟨h⟩
def wy (q:Q (.nx env β)):WP (lI env β) Q:=⟨q⟩
def qR (h:f (vl env) β=.ok d β1)(k:WP (m' ((aN L env).set i (.fz d)) β1) Q):WP (aL (dk i L f) m' env β) Q:=wp_seq (by unfold dk;rw[h];rfl) k
def Dy (h:f (vl env) β=.ok (.list [.int z]) β1)(k:WP (m' ((pe (aN L env)).set i .bx) z) Q):WP (aL (wI i L f) m' env β) Q:=wp_seq (by unfold wI;rw[h];rfl) k
def CN (h:f (vl env) β=.ok d β1)(k:WP (m' (aN L env) β1) Q):WP (aL (pI L f) m' env β) Q:=wp_seq (by unfold pI;rw[h];rfl) k
def BF {ds:List D}(hi:env[i]? =some (.ow (.list ds)))(h:f (vl env) β=.ok d β1)(hL:(aN L env)[i]? =some (.ow (.list ds)))(hz:ds.length<=1000)(k:WP (m' ((aN L env).set i (.ow (.list (ds ++ [d])))) β1) Q):WP (aL (o3 i L f) m' env β) Q:=wp_seq (xJ hi h hL hz) k
def jS (h:t (vl env) β=.ok false β1)(k:WP (m' (aN L env) β1) Q):WP (aL (jO L t m1 lI) m' env β) Q:=wp_seq (by rw[gW h];rfl) k
def ly (h:t (vl env) β=.ok true β1)(k:WP (aL m1 m' (aN L env) β1) Q):WP (aL (jO L t m1 m2) m' env β) Q:=by
 have:aL (jO L t m1 m2) m' env β=aL m1 m' (aN L env) β1:=by unfold aL;rw[gq h]
 rw[this];exact k
def EI (h:t (vl env) β=.ok false β1)(k:WP (m2 (aN L env) β1) Q):WP (jO L t m1 m2 env β) Q:=by rw[gW h];exact k
def uy (h:f (vl env) β=.ok d β1)(q:Q (.rt d false β1)):WP (bK f env β) Q:=⟨by unfold bK;rw[h];exact q⟩
def kU (h:f (vl env) β=.ok d β1)(q:Q (.rt d true β1)):WP (fE f env β) Q:=⟨by unfold fE;rw[h];exact q⟩
def jM {R:FR}(h:WP (m env β) λr=>fin r=R):fin (m env β)=R:=h.out
def rJ {t:Tg}{fi:VF (List D)}{ds:List D}(I:Nat->En->Int->Prop)(hi:fi (vl env) β=.ok ds β1)(h0:I 0 (aN L env) β1)
  (hs:∀i d env β,ds[i]? =some d->I i env β->∃env1,fY t d env=some env1/\WP (m env1 β) λr=>∃env2 β2,r=.nx env2 β2/\I (i + 1) env2 β2)
  (k:∀env β,I ds.length env β->WP (m' env β) Q):WP (aL (gL t L fi m) m' env β) Q:=by
 obtain⟨env',β',e,h⟩:=gi (t:=t) (m:=m) I (ds:=ds) (k:=0) h0 λi d env β hd h=>by
  rw[LK] at h
  obtain⟨env1,e1,⟨env2,β2,e2,h2⟩⟩:=hs i d env β hd h
  exact⟨env1,e1,env2,β2,e2,by rw[LK];exact h2⟩
 rw[LK] at h
 exact wp_seq ((jq hi).trans e) (k _ _ h)
end
def Ah (c:Int)(hc:0<=c/\c<=100)(ns:List Int)(vs:List Nv)(β:Int)(h:gv 0 vs β=.ok (cx ns) β):∃m:Nat,m<=101/\cB (f2 (cst (.int 1)) (f2 (f1 (gv 0) eY) (cst (.int c)) (xg λi j=>.int (if j < i then j else i))) (xg λi j=>.int (if j > i then j else i))) vs β=.ok (cZ 0 m) β:=by
 have e1:f2 (cst (.int 1)) (f2 (f1 (gv 0) eY) (cst (.int c)) (xg λi j=>.int (if j < i then j else i))) (xg λi j=>.int (if j > i then j else i)) vs β=.ok (.int (if (if c < ((ns.map int).length:Int) then c else ((ns.map int).length:Int)) > 1 then (if c < ((ns.map int).length:Int) then c else ((ns.map int).length:Int)) else 1)) β:=
  aE (x:=.int 1) rfl (aE (x:=.int (ns.map int).length) (y:=.int c) (bG h rfl) rfl rfl) rfl
 generalize ((ns.map int).length:Nat)=k at e1
 refine⟨(if (if c < (k:Int) then c else (k:Int)) > 1 then (if c < (k:Int) then c else (k:Int)) else 1).toNat,?_,eZ (e1.trans ?_) ?_⟩
 ·split <;> split <;> omega
 ·congr 2
  split <;> split <;> omega
 ·split <;> split <;> omega
def It (d:D):Prop:=cq d=false/\Sq 400 8 d/\Bf d
def Th (d:D):Prop:=Ge d/\Sq 10000 9 d/\Bf d
def Ap (P:D->Prop)(k:Nat)(es:List D):Prop:=es.length<=k/\∀x,x∈es->P x
abbrev Al:Nat->List D->Prop:=Ap It
def zk.it {d:D}(h:zk d):It d:=⟨h.scr,h.sq.mono (by omega) (by omega),h.bf⟩
def Ep {i:Int}(h: -1<=i/\i<=9):It (.int i):=(qB h).it
def Ap.set {P:D->Prop}{k:Nat}{a:List D}(h:Ap P k a)(n:Nat){d:D}(hd:P d):Ap P k (a.set n d):=⟨by rw[LJ];exact h.1,λx hx=>(List.mem_or_eq_of_mem_set hx).elim (h.2 x) λe=>e▸hd⟩
def CK {k:Nat}{r:List Int}(hl:r.length<=k)(h:∀x,x∈r->0<=x/\x < 9):Al k (r.map int):=⟨by rw[KD];exact hl,λx hx=>by
 obtain⟨y,hy,rfl⟩:=Lo.mp hx
 exact Ep (by have:=h y hy;omega)⟩
def Ap.tup {k:Nat}{a:List D}(h:Al k a)(hk:k<=24):Th (.tuple a):=by
 have:=h.1
 refine⟨zL (by omega) λx hx=>(h.2 x hx).1,(Ba (c:=400) (k:=8) λd hd=>(h.2 d hd).2.1).mono ?_ (by omega),BE λd hd=>(h.2 d hd).2.2⟩
 have:(400 + 2) * a.length<=402 * 24:=LH (by omega) (by omega)
 omega
def Ap.lst {k:Nat}{a:List D}(h:Al k a)(hk:k<=24):Th (.list a):=by
 have:=h.1
 refine⟨⟨rfl,λes' e=>by cases e⟩,(vh (c:=400) (k:=8) λd hd=>(h.2 d hd).2.1).mono ?_ (by omega),vY λd hd=>(h.2 d hd).2.2⟩
 have:(400 + 2) * a.length<=402 * 24:=LH (by omega) (by omega)
 omega
def EM {r:List Int}(hl:r.length<=9)(h:∀x,x∈r->0<=x/\x < 9):It (tupI r):=by
 have sm:∀d,d∈r.map int->zk d:=λd hd=>by
  obtain⟨y,hy,rfl⟩:=Lo.mp hd
  exact qB (by have:=h y hy;omega)
 refine⟨rfl,(Ba (c:=20) (k:=0) λd hd=>(sm d hd).sq).mono ?_ (by omega),BE λd hd=>(sm d hd).bf⟩
 rw[KD]
 have:(20 + 2) * r.length<=22 * 9:=LH (by omega) hl
 omega
def rZ {n:Nat}{r:List Int}(h8:n<=8)(hp:r.Perm (bu n)):r.length=n/\∀x,x∈r->0<=x/\x < 9:=⟨by rw[hp.length_eq,bt],λx hx=>by have:=bh.mp (hp.mem_iff.mp hx);omega⟩
def BK {ds:List D}{k:Nat}(h:k < ds.length):∃d,ds[k]? =some d/\d∈ds/\kh ds (k:Int)=some d:=⟨ds[k],KR h,List.getElem_mem h,mP (KR h)⟩
section
variable {m m' m1 m2:SF}{env env1:En}{β β1 β2 z:Int}{Q:SO->Prop}{f fa fb:VF D}{t:VF Bool}{d e:D}{L La Lb:List Nat}{i j:Nat}{c:Bool}
theorem xk (h:WP (m env β) λr=>(∀a b,r≠.nx a b)/\Q r):WP (aL m m' env β) Q:=by
 obtain⟨h1,h2⟩:=h.out
 refine⟨?_⟩
 unfold aL
 cases e:m env β with
 |nx a b=>exact absurd e (h1 a b)
 |_=>rw[e] at h2;exact h2
end
def xQ {α:Type}{own:Nat}{ixs:List Nat}{t:Tg}{fi:VF (List D)}{fe:VF D}{vs:List Nv}{β β1:Int}{ds:List D}(e:α->D)(P:α->Prop)(hi:fi vs β=.ok ds β1)(hz:ds.length<=1000)
  (h:∀d,d∈ds->∃vs1,ki t d (dI own ixs vs)=some vs1/\∀β,∃a β',fe vs1 β=.ok (e a) β'/\P a):∃(as:List α) (β':Int),aF own ixs t fi gy fe vs β=.ok (.list (as.map e)) β'/\as.length=ds.length/\∀a,a∈as->P a:=by
 obtain⟨as,β',ec,hl,hP⟩:=oO (t:=t) (fe:=fe) (vs:=dI own ixs vs) e P (ds:=ds) (β:=β1) h
 refine⟨as,β',?_,hl,hP⟩
 unfold aF
 rw[hi]
 dsimp only[R.bnd]
 rw[KH (sz _ hz),ec];rfl
def Ig (d:D):Prop:=Ge d/\Sq 400 8 d/\Bf d
def Tl (d:D):Prop:=Gt d/\Sq 30000 9 d/\Bf d
def Tl.rp {d:D}(h:Tl d):kF d=some (.str d.shown):=KH (GN h.2.1 (by omega) (by omega) h.2.2)
def oB {r:List Int}(hl:r.length<=9)(h:∀x,x∈r->0<=x/\x < 9):Ig (tupI r):=⟨(CK (k:=9) hl h).tup (by omega) |>.1,(EM hl h).2⟩
def xK {r:List Int}(hl:r.length<=9)(h:∀x,x∈r->0<=x/\x < 9):Ig (.list (r.map int)):=by
 have sm:∀d,d∈r.map int->zk d:=λd hd=>by
  obtain⟨y,hy,rfl⟩:=Lo.mp hd
  exact qB (by have:=h y hy;omega)
 refine⟨⟨rfl,λes' e=>by cases e⟩,(vh (c:=20) (k:=0) λd hd=>(sm d hd).sq).mono ?_ (by omega),vY λd hd=>(sm d hd).bf⟩
 rw[KD]
 have:(20 + 2) * r.length<=22 * 9:=LH (by omega) hl
 omega
def Ap.tl {k:Nat}{a:List D}(h:Ap Ig k a)(hk:k<=60):Tl (.list a):=by
 have:=h.1
 refine⟨⟨rfl,λes e=>by cases e;exact⟨by omega,λx hx=>(h.2 x hx).1⟩⟩,(vh (c:=400) (k:=8) λd hd=>(h.2 d hd).2.1).mono ?_ (by omega),vY λd hd=>(h.2 d hd).2.2⟩
 have:(400 + 2) * a.length<=402 * 60:=LH (by omega) (by omega)
 omega
def E7:∀o,o∈jc->Gt o:=by
 intro o ho
 have key:∀o∈jc,cq o=false/\(match o with | .list ds=>decide (ds.length<=100) && ds.all Ka && ds.all (λx=> !cq x) |_=>true)=true:=by decide +kernel
 obtain⟨h1,h2⟩:=key o ho
 refine⟨h1,λds e=>?_⟩
 subst e
 dsimp only at h2
 rw[KP,KP,Lx,Lx] at h2
 refine⟨LD h2.1.1,λx hx=>⟨by simpa using h2.2 x hx,λes e=>?_⟩⟩
 have:=h2.1.2 x hx
 subst e
 unfold Ka at this
 rw[KP,Lx] at this
 exact⟨LD this.1,λy hy=>by simpa using this.2 y hy⟩
def kL (rows:List (List Int))(p:Pr):Bool:= !decide (p.1=p.2) && (rows.filter λr=>decide (r.idxOf p.1 > r.idxOf p.2)).isEmpty
def A7:List D->FR:=aY 6 2 eJ
def Gm {n:Nat}{rows:List (List Int)}(h8:n<=8)(hr:rows.length<=100)(hp:∀r,r∈rows->r.Perm (bu n)):A7 [.int n,.list (rows.map tupI)]=.ok (.tuple (((OM.ba n).filter (kL rows)).map aG)) false:=by
 show fin (eJ [.fz (.int n),.fz (.list (rows.map tupI)),.no,.no,.no,.no] 0)=_
 unfold eJ
 rw[aI (env':=[.fz (.int n),.fz (.list (rows.map tupI)),.ow (.list []),.no,.no,.no]) (β':=0) ?g1]
 case g1=>rw[tX,eN (ds:=[]) rfl (by simp)];rfl
 obtain⟨env',β',ef,s,t,u,rfl,rfl⟩:=gi (t:=.nm 3) (m:=gL (.nm 4) [] (cB (gv 0))
   (aL (dk 5 ([] ++ []) (aF 1 [3,4] (.nm 0) (bz (gv 1)) (fH (f2 (jr (gv 0) (gv 1)) (jr (gv 0) (gv 2)) Gv)) (cst (.int 1))))
   (jO (([] ++ []) ++ ([] ++ [])) (Aa (fH (f2 (gv 3) (gv 4) (dG true))) (fH (f2 (gv 5) (bB ag) (dG false))))
   (o3 2 ([3] ++ ([4] ++ [])) (bL (aa (gv 3) (aa (gv 4) ag))))
   lI))) (ds:=cZ 0 n) (k:=0)
  (λi env β=>∃s t u:Sl,env= [.fz (.int n),.fz (.list (rows.map tupI)),.ow (.list ((upTo n (kL rows) i 0).map aG)),s,t,u]/\β=0)
  (env:=[.fz (.int n),.fz (.list (rows.map tupI)),.ow (.list []),.no,.no,.no]) (β:=0) ⟨.no,.no,.no,by rw[xT];rfl,rfl⟩ (by
   rintro i d env β hi ⟨s,t,u,rfl,rfl⟩
   obtain⟨hin,rfl⟩:=kX hi
   refine⟨[.fz (.int n),.fz (.list (rows.map tupI)),.ow (.list ((upTo n (kL rows) (0 + i) 0).map aG)),.fz (.int (0 + (i:Int))),t,u],rfl,?_⟩
   rw[LK,LZ]
   obtain⟨env',β',ef,t2,u2,rfl,rfl⟩:=gi (t:=.nm 4) (m:=aL (dk 5 ([] ++ []) (aF 1 [3,4] (.nm 0) (bz (gv 1)) (fH (f2 (jr (gv 0) (gv 1)) (jr (gv 0) (gv 2)) Gv)) (cst (.int 1))))
     (jO (([] ++ []) ++ ([] ++ [])) (Aa (fH (f2 (gv 3) (gv 4) (dG true))) (fH (f2 (gv 5) (bB ag) (dG false))))
     (o3 2 ([3] ++ ([4] ++ [])) (bL (aa (gv 3) (aa (gv 4) ag))))
     lI)) (ds:=cZ 0 n) (k:=0)
    (λk env β=>∃t u:Sl,env= [.fz (.int n),.fz (.list (rows.map tupI)),.ow (.list ((upTo n (kL rows) i k).map aG)),.fz (.int i),t,u]/\β=0)
    (env:=[.fz (.int n),.fz (.list (rows.map tupI)),.ow (.list ((upTo n (kL rows) i 0).map aG)),.fz (.int i),t,u]) (β:=0) ⟨t,u,rfl,rfl⟩ (by
     rintro k d env β hk ⟨t,u,rfl,rfl⟩
     obtain⟨hkn,rfl⟩:=kX hk
     refine⟨[.fz (.int n),.fz (.list (rows.map tupI)),.ow (.list ((upTo n (kL rows) i (0 + k)).map aG)),.fz (.int i),.fz (.int (0 + (k:Int))),u],rfl,?_⟩
     rw[LK,LZ]
     have ec:aF 1 [3,4] (.nm 0) (bz (gv 1)) (fH (f2 (jr (gv 0) (gv 1)) (jr (gv 0) (gv 2)) Gv)) (cst (.int 1)) [.da (.int n),.da (.list (rows.map tupI)),.da (.list ((upTo n (kL rows) i k).map aG)),.da (.int i),.da (.int k),u.val] 0=.ok (.list ((rows.filter λr=>decide (r.idxOf (i:Int) > r.idxOf (k:Int))).map λ_=>int 1)) 0:=by
      refine i5 (l:=rows) (e:=tupI) (λr=>decide (r.idxOf (i:Int) > r.idxOf (k:Int))) (λ_=>int 1) rfl (by omega) λr hr=>⟨_,rfl,?_,λ_=>rfl⟩
      have hp:=hp r hr
      refine fC _ _ _ _ (aE (ni (r:=r) (k:=i) rfl rfl (hp.mem_iff.mpr (bh.mpr ⟨by omega,by omega⟩))) (ni (r:=r) (k:=k) rfl rfl (hp.mem_iff.mpr (bh.mpr ⟨by omega,by omega⟩))) ?_)
      show some (PyData.bool (decide (((r.idxOf (i:Int):Nat):Int) > ((r.idxOf (k:Int):Nat):Int))))=_
      congr 2
      rw[Lq,K7,K7]
      omega
     rw[aI (env':=[.fz (.int n),.fz (.list (rows.map tupI)),.ow (.list ((upTo n (kL rows) i k).map aG)),.fz (.int i),.fz (.int k),.fz (.list ((rows.filter λr=>decide (r.idxOf (i:Int) > r.idxOf (k:Int))).map λ_=>int 1))]) (β':=0) ?g]
     case g=>
      rw[gN]
      show toS (aF 1 [3,4] (.nm 0) (bz (gv 1)) (fH (f2 (jr (gv 0) (gv 1)) (jr (gv 0) (gv 2)) Gv)) (cst (.int 1)) [.da (.int n),.da (.list (rows.map tupI)),.da (.list ((upTo n (kL rows) i k).map aG)),.da (.int i),.da (.int k),u.val] 0) _=_
      rw[ec];rfl
     generalize hL:(rows.filter λr=>decide (r.idxOf (i:Int) > r.idxOf (k:Int)))=L
     have et:Aa (fH (f2 (gv 3) (gv 4) (dG true))) (fH (f2 (gv 5) (bB ag) (dG false))) (vl [.fz (.int n),.fz (.list (rows.map tupI)),.ow (.list ((upTo n (kL rows) i k).map aG)),.fz (.int i),.fz (.int k),.fz (.list (L.map λ_=>int 1))]) 0=.ok (kL rows ((i:Int),(k:Int))) 0:=by
      have h1:fH (f2 (gv 5) (bB ag) (dG false)) (vl [.fz (.int n),.fz (.list (rows.map tupI)),.ow (.list ((upTo n (kL rows) i k).map aG)),.fz (.int i),.fz (.int k),.fz (.list (L.map λ_=>int 1))]) 0=.ok L.isEmpty 0:=by
       refine fC _ _ _ _ (aE (x:=.list (L.map λ_=>int 1)) (y:=.list []) rfl (eN (ds:=[]) rfl (by simp)) ?_)
       have e9:(L.map λ_=>int 1)=(L.map λ_=>(1:Int)).map int:=by rw[Lm];rfl
       rw[e9,show ([]:List D)=([]:List Int).map int from rfl,sx]
       congr 2
       cases L <;> simp
      have:=Ff (jW (neg:=true) (fa:=gv 3) (fb:=gv 4) (vs:=vl [.fz (.int n),.fz (.list (rows.map tupI)),.ow (.list ((upTo n (kL rows) i k).map aG)),.fz (.int i),.fz (.int k),.fz (.list (L.map λ_=>int 1))]) (β:=0) (i:=i) (j:=k) rfl rfl) h1
      rw[this]
      unfold kL
      rw[hL];rfl
     cases c:kL rows ((i:Int),(k:Int)) with
     |true=>
      rw[c] at et
      refine⟨[.fz (.int n),.fz (.list (rows.map tupI)),.ow (.list ((upTo n (kL rows) i (k + 1)).map aG)),.fz (.int i),.fz (.int k),.fz (.list (L.map λ_=>int 1))],0,?_,_,_,rfl,rfl⟩
      rw[gq et]
      have:=xJ (i:=2) (L:=[3] ++ ([4] ++ [])) (env:=[.fz (.int n),.fz (.list (rows.map tupI)),.ow (.list ((upTo n (kL rows) i k).map aG)),.fz (.int i),.fz (.int k),.fz (.list (L.map λ_=>int 1))]) (ds:=(upTo n (kL rows) i k).map aG) (β:=0) (by rfl) (fq (fa:=gv 3) (fb:=gv 4) (a:=i) (b:=k) rfl rfl) (by rfl) (by rw[KD];have:=zO (kL rows) i k h8;omega)
      rw[pB _ hin hkn,KH c,MC]
      exact this
     |false=>
      rw[c] at et
      refine⟨[.fz (.int n),.fz (.list (rows.map tupI)),.ow (.list ((upTo n (kL rows) i (k + 1)).map aG)),.fz (.int i),.fz (.int k),.fz (.list (L.map λ_=>int 1))],0,?_,_,_,rfl,rfl⟩
      have e8:=pB (kL rows) hin hkn
      rw[KZ (by rw[c];exact K2),MM] at e8
      rw[gW et,e8];rfl)
   rw[fT,LK,z0] at ef
   refine⟨[.fz (.int n),.fz (.list (rows.map tupI)),.ow (.list ((upTo n (kL rows) (i + 1) 0).map aG)),.fz (.int i),t2,u2],0,?_,_,_,_,rfl,rfl⟩
   rw[jq (env:=[.fz (.int n),.fz (.list (rows.map tupI)),.ow (.list ((upTo n (kL rows) i 0).map aG)),.fz (.int i),t,u]) (eZ (n:=n) rfl (by omega))]
   exact ef)
 rw[fT,LK,zm] at ef
 rw[aI (env':=[.fz (.int n),.fz (.list (rows.map tupI)),.ow (.list (((OM.ba n).filter (kL rows)).map aG)),s,t,u]) (β':=0) ?g2]
 case g2=>
  rw[jq (env:=[.fz (.int n),.fz (.list (rows.map tupI)),.ow (.list []),.no,.no,.no]) (eZ (n:=n) rfl (by omega))]
  exact ef
 rw[eS,bG (x:=.list (((OM.ba n).filter (kL rows)).map aG)) (d:=.tuple (((OM.ba n).filter (kL rows)).map aG)) (β1:=0) rfl ?g3]
 case g3=>rfl
 rfl
def lG {rows:List (List Int)}{p:Pr}:kL rows p=true↔p.1≠p.2/\∀r,r∈rows->r.idxOf p.1<=r.idxOf p.2:=by
 unfold kL
 rw[KP,Mo,decide_eq_false_iff_not,List.isEmpty_iff,List.filter_eq_nil_iff]
 simp only[K7,Nat.not_lt,gt_iff_lt]
def Bb {n:Nat}{rows:List (List Int)}(h1:1<=n)(h8:n<=8)(hne:rows≠ [])(hp:∀r,r∈rows->r.Perm (bu n)):OM.Ord n ((OM.ba n).filter (kL rows)):=by
 refine⟨h1,h8,λp hm=>OM.aU.mp (K8.mp hm).1,OM.dU _ (OM.gr n),λa h=>?_,λa b c hab hbc=>?_⟩
 ·exact (lG.mp (K8.mp h).2).1 rfl
 ·obtain⟨g1,t1⟩:=K8.mp hab
  obtain⟨g2,t2⟩:=K8.mp hbc
  have g1:=OM.aU.mp g1
  have g2:=OM.aU.mp g2
  obtain⟨n1,q1⟩:=lG.mp t1
  obtain⟨n2,q2⟩:=lG.mp t2
  refine K8.mpr ⟨OM.aU.mpr ⟨g1.1,g2.2⟩,lG.mpr ⟨λe=>?_,λr hr=>LA (q1 r hr) (q2 r hr)⟩⟩
  simp only at e n1 q1 q2
  subst e
  cases rows with
  |nil=>exact hne rfl
  |cons r rest=>
   have hr:r∈r :: rest:=KO ..
   have pm:=hp r hr
   exact n1 (xc (pm.mem_iff.mpr (bh.mpr g1.1)) (pm.mem_iff.mpr (bh.mpr g1.2)) (Nat.le_antisymm (q1 r hr) (q2 r hr)))
def Tells (n:Nat)(l:List Pr)(d:D):Prop:=∃rs:List (List Int),d=.list (rs.map tupI)/\rs≠ []/\(∀r,r∈rs->Row n l r)/\(OM.ba n).filter (lX rs)=l
noncomputable def tK (n:Nat)(l:List Pr)(d:D):Bool:=@decide (Tells n l d) (Classical.propDecidable _)
def zg {n:Nat}{l:List Pr}{d:D}(h:Tells n l d):tK n l d=true:=@KY _ (Classical.propDecidable _) h
def An {n:Nat}{l:List Pr}{d:D}(h:¬Tells n l d):tK n l d=false:=@K1 _ (Classical.propDecidable _) h
theorem sW:∀{rs qs:List (List Int)},rs.map tupI=qs.map tupI->rs=qs
 | [],[],_=>rfl
 | [],_ :: _,h=>by cases h
 |_ :: _,[],h=>by cases h
 |r :: rs,q :: qs,h=>by
  rw[Ln,Ln,List.cons.injEq] at h
  rw[gk h.1,sW h.2]
def y0 {n:Nat}{l:List Pr}{rs:List (List Int)}(h1:rs≠ [])(h:∀r,r∈rs->Row n l r):tK n l (.list (rs.map tupI))=decide ((OM.ba n).filter (lX rs)=l):=by
 by_cases c:(OM.ba n).filter (lX rs)=l
 ·rw[KY c];exact zg ⟨rs,rfl,h1,h,c⟩
 ·rw[K1 c]
  refine An λ⟨qs,e,_,_,c'⟩=>c ?_
  have:=sW (PyData.list.inj e)
  rw[this];exact c'
noncomputable def xq:List D->FR:=aY 2 2 (vV kY JW ID)
theorem Bl {n:Nat}{l:List Pr}{d:D}(O:OM.Ord n l)(h:Gt d):xq [d,aA n l]=.ok (.bool (tK n l d)) false:=by
 show fin (vV kY JW ID [.fz d,.fz (aA n l)] 0)=_
 refine jM (CN (aw (ds:=[aA n l]) rfl (uB O)) ?_)
 have ea:=JL O h
 cases c:tf n l d with
 |false=>
  rw[c] at ea
  rw[An λ⟨rs,e,h1,h2,_⟩=>by rw[e,p6 h1 h2] at c;cases c]
  exact uy (D9 (aw (ds:=[d,aA n l]) rfl ea)) rfl
 |true=>
  rw[c] at ea
  obtain⟨rs,rfl,h1,h2⟩:=EN c
  rw[y0 h1 h2]
  have hz:rs.length<=100:=by have:=(h.2 _ rfl).1;rw[KD] at this;exact this
  exact uy (D1 (aw (ds:=[.list (rs.map tupI),aA n l]) rfl ea) (aE (aw (ds:=[.int n,.list (rs.map tupI)]) (ac (Ic (n:=n) (l:=l) rfl) (ac rfl an)) (HE O.lo O.hi hz λr hr=>(h2 r hr).1)) (Ij (n:=n) (l:=l) rfl) (oK false _ _))) rfl
def GG {n:Nat}{rs:List (List Int)}(h1:rs≠ [])(hp:∀r,r∈rs->r.Perm (bu n)):(OM.ba n).filter (kL rs)=(OM.ba n).filter (lX rs):=by
 refine Mq λp hm=>?_
 have hg:=OM.aU.mp hm
 rw[Lq,lG]
 unfold lX
 rw[Lx]
 constructor
 ·rintro⟨ne,h⟩ r hr
  rw[K7]
  refine Nat.lt_of_le_of_ne (h r hr) λe=>ne ?_
  exact xc ((hp r hr).mem_iff.mpr (bh.mpr hg.1)) ((hp r hr).mem_iff.mpr (bh.mpr hg.2)) e
 ·intro h
  refine⟨λe=>?_,λr hr=>Nat.le_of_lt (LD (h r hr))⟩
  cases rs with
  |nil=>exact h1 rfl
  |cons r rs=>
   have:=LD (h r (KO ..))
   rw[e] at this
   omega
def Gx (l:List Pr)(p:Pr):Bool:=((l.filter λq=>decide (q.2=p.1)).all λq=>decide ((q.1,p.2)∈l)) && ((l.filter λq=>decide (q.1=p.2)).all λq=>decide ((p.1,q.2)∈l))
def Ie (p q:Pr):Bool:=decide (p.1 < q.1) && decide (p.2 < q.2)
def IF:List D->FR:=aY 2 2 iU
def Jy (p q:Pr):IF [aG p,aG q]=.ok (.bool (Ie p q)) false:=by
 show fin (iU [.fz (aG p),.fz (aG q)] 0)=_
 unfold iU
 rw[eS,mT (a:=decide (p.1 < q.1)) (b:=decide (p.2 < q.2)) rfl rfl];rfl
def iO (ps:List Pr)(a:Int):Pr:=ps.getD a.toNat (0,0)
def DL (n:Nat)(ps:List Pr):List Pr:=(OM.ba n).filter λp=>Ie (iO ps p.1) (iO ps p.2)
def CP (n:Nat)(l:List Pr)(ps:List Pr):Prop:=(ps.map (·.1)).Perm (bu n)/\(ps.map (·.2)).Perm (bu n)/\DL n ps=l
noncomputable def C4 (n:Nat)(l:List Pr)(d:D):Bool:=@decide (∃ps:List Pr,d=.list (ps.map aG)/\CP n l ps) (Classical.propDecidable _)
def wt {n:Nat}{l ps:List Pr}(h:CP n l ps):C4 n l (.list (ps.map aG))=true:=@KY _ (Classical.propDecidable _) ⟨ps,rfl,h⟩
def wL {n:Nat}{l:List Pr}{d:D}(h:∀ps:List Pr,d=.list (ps.map aG)->¬CP n l ps):C4 n l d=false:=@K1 _ (Classical.propDecidable _) λ⟨ps,e,p⟩=>h ps e p
def vb {n:Nat}{l ps:List Pr}(h:¬CP n l ps):C4 n l (.list (ps.map aG))=false:=wL λqs e hq=>h (gV (PyData.list.inj e)▸hq)
theorem zR {n:Nat}:∀{ds:List D},ds.all (Am n)=true->∃ps:List Pr,ds=ps.map aG/\OM.Wn n ps
 | [],_=>⟨[],rfl,λp hp=>by cases hp⟩
 |d :: ds,h=>by
  rw[Mk,KP] at h
  obtain⟨p,rfl,hp⟩:=Hh h.1
  obtain⟨ps,rfl,hps⟩:=zR h.2
  refine⟨p :: ps,rfl,λq hq=>?_⟩
  rcases KG.mp hq with rfl |hq
  ·exact hp
  ·exact hps q hq
def Eh {n:Nat}{ps:List Pr}(h:OM.Wn n ps):(ps.map aG).all (Am n)=true:=by
 rw[MG,Lx]
 intro p hp
 have:=h p hp
 show (decide (0<=p.1/\p.1 < (n:Int)) && decide (0<=p.2/\p.2 < (n:Int)))=true
 rw[KY this.1,KY this.2];rfl
def E9 {n:Nat}{l ps:List Pr}(h:CP n l ps):OM.Wn n ps:=λp hp=>⟨bh.mp (h.1.mem_iff.mp (List.mem_map_of_mem hp)),bh.mp (h.2.1.mem_iff.mp (List.mem_map_of_mem hp))⟩
def zC {ps:List Pr}{a:Int}(h:0<=a/\a < ps.length):kh (ps.map aG) a=some (aG (iO ps a)):=by
 have e:((a.toNat:Nat):Int)=a:=by omega
 have hl:a.toNat < ps.length:=by omega
 rw[lF,<-e,va hl]
 unfold iO
 rw[show ((a.toNat:Nat):Int).toNat=a.toNat by omega,MI,KR hl];rfl
noncomputable def Iv:List D->FR:=aY 3 2 (fQ kY Iu mz kJ IF)
theorem Hf {n:Nat}{l:List Pr}{d:D}(O:OM.Ord n l)(h:Gt d):Iv [d,aA n l]=.ok (.bool (C4 n l d)) false:=by
 have h8:=O.hi
 show fin (fQ kY Iu mz kJ IF [.fz d,.fz (aA n l),.no] 0)=_
 unfold fQ
 rw[aI (env':=[.fz d,.fz (aA n l),.no]) (β':=0) (by rw[Bm,aw (ds:=[aA n l]) (β1:=0) rfl (uB O)];rfl)]
 rw[aI (env':=[.fz d,.fz (aA n l),.fz (.int n)]) (β':=0) (by rw[gN,Ic (n:=n) (l:=l) rfl];rfl)]
 have e1:=DI (fa:=gv 0) (vs:=vl [.fz d,.fz (aA n l),.fz (.int n)]) (β:=0) rfl h.1
 cases q:Cw d with
 |false=>
  rw[q] at e1
  rw[cL (d:=.bool false) (b:=false) (β':=0) (by rw[gq (p0 (bq (dg e1)))];rfl),wL]
  ·rfl
  ·rintro ps rfl;cases q
 |true=>
  rw[q] at e1
  obtain⟨ds,rfl⟩:=w8 q
  have hd:=h.2 ds rfl
  have ec:aF 1 [2] (.nm 0) (bz (gv 0)) gy (au Iu (aa (gv 0) (aa (gv 1) ag))) (vl [.fz (.list ds),.fz (aA n l),.fz (.int n)]) 0=.ok (.list (ds.map λe=>PyData.bool (Am n e))) 0:=
   l5 (λe=>PyData.bool (Am n e)) rfl (by omega) λe he=>⟨_,rfl,aw (ds:=[e,.int n]) rfl (Js (hd.2 e he))⟩
  have ea:=rF ec
  cases hb:ds.all (Am n) with
  |false=>
   have ea:f1 _ _ _ _=R.ok (.bool (ds.all (Am n))) 0:=ea
   rw[hb] at ea
   rw[cL (d:=.bool false) (b:=false) (β':=0) (by rw[gq (iA (bq (dg e1)) (bq (dg ea)))];rfl),wL]
   ·rfl
   ·intro ps e hp
    have e:=PyData.list.inj e
    subst e
    rw[Eh (E9 hp)] at hb;cases hb
  |true=>
   have ea:f1 _ _ _ _=R.ok (.bool (ds.all (Am n))) 0:=ea
   rw[hb] at ea
   obtain⟨ps,rfl,wn⟩:=zR hb
   have hpl:ps.length<=100:=by have:=hd.1;rwa [KD] at this
   rw[aI (env':=[.fz (.list (ps.map aG)),.fz (aA n l),.fz (.int n)]) (β':=0) (by rw[gW (iA (bq (dg e1)) (bq (dg ea)))];rfl)]
   have x1:f1 (aF 2 [] (.two 0 1) (bz (gv 0)) gy (gv 0)) bW (vl [.fz (.list (ps.map aG)),.fz (aA n l),.fz (.int n)]) 0=.ok (tupI (ps.map (·.1))) 0:=by
    refine bG (x:=.list (ps.map λp=>int p.1)) (bj (l:=ps) (e:=aG) (λp=>int p.1) rfl (by omega) λp hp=>⟨_,rfl,rfl⟩) ?_
    unfold tupI;rw[Lm];rfl
   have x2:f1 (aF 2 [] (.two 0 1) (bz (gv 0)) gy (gv 1)) bW (vl [.fz (.list (ps.map aG)),.fz (aA n l),.fz (.int n)]) 0=.ok (tupI (ps.map (·.2))) 0:=by
    refine bG (x:=.list (ps.map λp=>int p.2)) (bj (l:=ps) (e:=aG) (λp=>int p.2) rfl (by omega) λp hp=>⟨_,rfl,rfl⟩) ?_
    unfold tupI;rw[Lm];rfl
   have ge:∀r:List Int,r.length<=100->Ge (tupI r):=λr hr=>zL (by rw[KD];exact hr) λx hx=>by obtain⟨i,_,rfl⟩:=Lo.mp hx;rfl
   have t1:jZ (au mz (aa (f1 (aF 2 [] (.two 0 1) (bz (gv 0)) gy (gv 0)) bW) (aa (gv 2) ag))) (vl [.fz (.list (ps.map aG)),.fz (aA n l),.fz (.int n)]) 0=.ok (jh n (tupI (ps.map (·.1)))) 0:=dg (aw (ds:=[tupI (ps.map (·.1)),.int n]) (ac x1 (ac rfl an)) (wc (by omega) (ge _ (by rw[KD];omega))))
   have t2:jZ (au mz (aa (f1 (aF 2 [] (.two 0 1) (bz (gv 0)) gy (gv 1)) bW) (aa (gv 2) ag))) (vl [.fz (.list (ps.map aG)),.fz (aA n l),.fz (.int n)]) 0=.ok (jh n (tupI (ps.map (·.2)))) 0:=dg (aw (ds:=[tupI (ps.map (·.2)),.int n]) (ac x2 (ac rfl an)) (wc (by omega) (ge _ (by rw[KD];omega))))
   have no:∀r:List Int,jh n (tupI r)=false->¬r.Perm (bu n):=λr hr pm=>by rw[nJ pm] at hr;cases hr
   cases q1:jh n (tupI (ps.map (·.1))) with
   |false=>
    rw[q1] at t1
    rw[cL (d:=.bool false) (b:=false) (β':=0) (by rw[gq (p0 (bq t1))];rfl),vb λhp=>no _ q1 hp.1]
    rfl
   |true=>
    rw[q1] at t1
    cases q2:jh n (tupI (ps.map (·.2))) with
    |false=>
     rw[q2] at t2
     rw[cL (d:=.bool false) (b:=false) (β':=0) (by rw[gq (iA (bq t1) (bq t2))];rfl),vb λhp=>no _ q2 hp.2.1]
     rfl
    |true=>
     rw[q2] at t2
     rw[aI (env':=[.fz (.list (ps.map aG)),.fz (aA n l),.fz (.int n)]) (β':=0) (by rw[gW (iA (bq t1) (bq t2))];rfl)]
     obtain⟨r1,z1,pm1⟩:=vU q1
     have z1:=gk z1
     subst z1
     obtain⟨r2,z2,pm2⟩:=vU q2
     have z2:=gk z2
     subst z2
     have hlen:ps.length=n:=by have:=pm1.length_eq;rwa [KD,bt] at this
     have hg:(OM.ba n).length<=64:=by rw[dr];exact LH h8 h8
     have e9:aF 2 [0] (.two 0 1) (bz (au kJ (aa (gv 2) ag))) (jZ (au IF (aa (f2 (gv 2) (gv 0) cA) (aa (f2 (gv 2) (gv 1) cA) ag)))) (bL (aa (gv 0) (aa (gv 1) ag))) (vl [.fz (.list (ps.map aG)),.fz (aA n l),.fz (.int n)]) 0=.ok (.list ((DL n ps).map aG)) 0:=by
      refine i5 (l:=OM.ba n) (e:=aG) (λp=>Ie (iO ps p.1) (iO ps p.2)) aG ?_ (by omega) λp hp'=>⟨_,rfl,?_,λ_=>fq rfl rfl⟩
      ·unfold bz
       rw[aw (ds:=[.int n]) (β1:=0) rfl (wA O.lo h8)];rfl
      ·have:=OM.aU.mp hp'
       refine dg (aw (ds:=[aG (iO ps p.1),aG (iO ps p.2)]) (ac (aE (x:=.list (ps.map aG)) (y:=.int p.1) rfl rfl (zC ⟨this.1.1,by omega⟩)) (ac (aE (x:=.list (ps.map aG)) (y:=.int p.2) rfl rfl (zC ⟨this.2.1,by omega⟩)) an)) (Jy _ _))
     rw[eS,aE (x:=.tuple ((DL n ps).map aG)) (y:=.tuple (l.map aG)) (β1:=0) (bG (g:=bW) e9 rfl) (Ij (n:=n) (l:=l) rfl) (oK false (DL n ps) l)]
     show FR.ok (.bool (decide (DL n ps=l))) false=_
     by_cases z:DL n ps=l
     ·rw[KY z,wt ⟨pm1,pm2,z⟩]
     ·rw[K1 z,vb λhp=>z hp.2.2]
def wp_raise {m':SF}{env:En}{β:Int}{Q:SO->Prop}{x c:Str}(q:Q (.exc c)):WP (aL (λenv β=>toS ((aa (cst (.str x)) ag) (vl env) β) λds _=>if ds.length<=sizeLine then SO.exc c else .bad) m' env β) Q:=by
 refine⟨?_⟩
 have e:(λ(env:En) (β:Int)=>toS ((aa (cst (.str x)) ag) (vl env) β) λds _=>if ds.length<=sizeLine then SO.exc c else .bad) env β=.exc c:=by
  show (if ([PyData.str x]:List D).length<=sizeLine then SO.exc c else .bad)=_
  exact KH (by show 1<=sizeLine;rw[Ld];omega)
 unfold aL
 rw[e];exact q
def aK (r q:List Int)(n:Nat):List Pr:=(bu n).map λt=>(((r.idxOf t:Nat):Int),((q.idxOf t:Nat):Int))
section
variable {n:Nat}{r q:List Int}{l:List Pr}
def fM:(aK r q n).length=n:=by unfold aK;rw[KD,bt]
def vI:bu n=(List.range n).map λ(k:Nat)=>(k:Int):=by
 have:=jX n
 unfold cZ at this
 refine List.map_inj_right (f:=int) (λa b h=>int.inj h) |>.mp ?_
 rw[<-this,Lm]
 refine LQ λk _=>?_
 show int (0 + (k:Int))=_
 rw[LZ];rfl
def xx (h:r.Perm (bu n)):kM r=(bu n).map λt=>((r.idxOf t:Nat):Int):=by
 have hl:=h.length_eq
 rw[bt] at hl
 unfold kM
 rw[hl,vI,Lm];rfl
theorem BY (hr:r.Perm (bu n))(hq:q.Perm (bu n)):CI ((kM r).map int) ((kM q).map int)=(aK r q n).map aG:=by
 rw[xx hr,xx hq]
 unfold CI aK
 rw[Lm,Lm,Lm]
 induction bu n with
 |nil=>rfl
 |cons a as ih=>rw[Ln,Ln,List.zipWith_cons_cons,ih,Ln];rfl
def uD (h:r.Perm (bu n)){t:Int}(ht:t∈bu n):(r.idxOf t:Nat) < n:=by
 have h1:=Lu.mpr (h.mem_iff.mpr ht)
 have hl:=h.length_eq
 rw[bt] at hl
 omega
def BC (h:r.Perm (bu n)){t:Int}(ht:t∈bu n):r[r.idxOf t]? =some t:=by
 have h1:=Lu.mpr (h.mem_iff.mpr ht)
 rw[KR h1,Mg h1]
def sI (h:r.Perm (bu n)){a b:Int}(ha:a∈bu n)(hb:b∈bu n)(e:r.idxOf a=r.idxOf b):a=b:=by
 have h1:=BC h ha
 rw[e,BC h hb] at h1
 exact (Option.some.inj h1).symm
def jD (h:r.Perm (bu n)):((bu n).map λt=>((r.idxOf t:Nat):Int)).Perm (bu n):=by
 refine tV (by rw[KD,bt]) (λx hx=>?_) ?_
 ·obtain⟨t,ht,rfl⟩:=Lo.mp hx
  have:=uD h ht
  omega
 ·refine Mn.mpr (MP (λ{a b} ha hb hne e=>hne (sI h ha hb (by omega))) (iy n))
def xF (h:r.Perm (bu n)):kM ((bu n).map λt=>((r.idxOf t:Nat):Int))=r:=by
 have hp:=jD h
 have hl:=h.length_eq
 rw[bt] at hl
 unfold kM
 rw[KD,bt]
 refine List.ext_getElem? λk=>?_
 rw[KW]
 by_cases c:k < n
 ·rw[LX c]
  have hk:(k:Int)∈bu n:=bh.mpr ⟨by omega,by omega⟩
  obtain⟨t,ht⟩:∃t,r[k]? =some t:=⟨r[k]'(by omega),KR (by omega)⟩
  have htr:t∈r:=K9 ht
  have htm:=h.mem_iff.mp htr
  have ei:r.idxOf t=k:=by
   have nd:r.Nodup:=h.nodup_iff.mpr (iy n)
   obtain⟨h1,h2⟩:=KN.mp ht
   rw[<-h2];exact List.Nodup.idxOf_getElem nd k h1
  have hat:((bu n).map λt=>((r.idxOf t:Nat):Int))[t.toNat]? =some (k:Int):=by
   have hb:=bh.mp htm
   rw[KW,vI,KW,LX (by omega)]
   show some (((r.idxOf ((t.toNat:Nat):Int):Nat):Int))=_
   rw[show ((t.toNat:Nat):Int)=t by omega,ei]
  have nd2:=hp.nodup_iff.mpr (iy n)
  obtain⟨h1,h2⟩:=KN.mp hat
  have:((bu n).map λt=>((r.idxOf t:Nat):Int)).idxOf (k:Int)=t.toNat:=by
   rw[<-h2];exact List.Nodup.idxOf_getElem nd2 _ h1
  show some (((((bu n).map λt=>((r.idxOf t:Nat):Int)).idxOf (k:Int):Nat):Int))=r[k]?
  rw[this,ht,show ((t.toNat:Nat):Int)=t by have:=(bh.mp htm).1;omega]
 ·rw[LO (by rw[Ma];omega),LO (by omega)];rfl
def wV {a:Int}(h:0<=a/\a < n):iO (aK r q n) a=(((r.idxOf a:Nat):Int),((q.idxOf a:Nat):Int)):=by
 unfold iO aK
 rw[MI,KW,vI,KW,LX (by omega)]
 show (((r.idxOf ((a.toNat:Nat):Int):Nat):Int),((q.idxOf ((a.toNat:Nat):Int):Nat):Int))=_
 rw[show ((a.toNat:Nat):Int)=a by omega]
def Bg:DL n (aK r q n)=(OM.ba n).filter (lX [r,q]):=by
 unfold DL
 refine Mq λp hp=>?_
 have hg:=OM.aU.mp hp
 rw[wV hg.1,wV hg.2]
 unfold Ie lX
 simp only[Mk,List.all_nil,Bool.and_true]
 rw[Lq]
 simp
def E2 (hr:r.Perm (bu n))(hq:q.Perm (bu n)):CP n ((OM.ba n).filter (lX [r,q])) (aK r q n):=by
 refine⟨?_,?_,Bg⟩
 ·unfold aK;rw[Lm];exact jD hr
 ·unfold aK;rw[Lm];exact jD hq
def Gg {rs:List (List Int)}(hp:∀r,r∈rs->r.Perm (bu n)){r:List Int}(hr:r∈rs):Row n ((OM.ba n).filter (lX rs)) r:=by
 refine⟨hp r hr,?_⟩
 unfold C2
 rw[Lx]
 intro p hpm
 have:=(K8.mp hpm).2
 unfold lX at this
 exact Lx.mp this r hr
end
noncomputable def Gu:List D->FR:=aY 2 2 (dh xq zc)
noncomputable def IA:List D->FR:=aY 1 1 (jP zc)
noncomputable def Gw:List D->FR:=aY 2 2 (fU Iv IA)
section
variable {n:Nat}{r q:List Int}{l:List Pr}{d:D}
def GA (O:OM.Ord n ((OM.ba n).filter (lX [r,q])))(hr:r.Perm (bu n))(hq:q.Perm (bu n))(hG:Gt (.list ([r,q].map tupI))):Gu [aA n ((OM.ba n).filter (lX [r,q])),.list ([r,q].map tupI)]=.ok (.list ((aK r q n).map aG)) true:=by
 have hp:∀x,x∈ [r,q]->x.Perm (bu n):=λx hx=>by
  rcases KG.mp hx with rfl |hx
  ·exact hr
  ·rw[Lv] at hx;subst hx;exact hq
 have et:=Bl O hG
 rw[zg ⟨[r,q],rfl,by simp,λx hx=>Gg hp hx,rfl⟩] at et
 have h8:=O.hi
 have h1:=O.lo
 have lr:=hr.length_eq
 have lq:=hq.length_eq
 rw[bt] at lr lq
 generalize (OM.ba n).filter (lX [r,q])=l at et
 show fin (dh xq zc [.fz (aA n l),.fz (.list ([r,q].map tupI))] 0)=_
 unfold dh
 refine jM (jS (β1:=0) (iA (c:=false) (bq (a:=true) (dg (aw (ds:=[.list ([r,q].map tupI),aA n l]) rfl et))) rfl) (wp_at [.fz (aA n l),.fz (.list ([r,q].map tupI))] rfl ?_))
 refine kU (β1:=0) (aE (aw (ds:=[tupI r]) (ac (aE (x:=.list ([r,q].map tupI)) (y:=.int 0) rfl rfl rfl) an) (B8 (by omega) hr)) (aw (ds:=[tupI q]) (ac (aE (x:=.list ([r,q].map tupI)) (y:=.int 1) rfl rfl rfl) an) (B8 (by omega) hq)) ?_) rfl
 exact (KH (by rw[KD,KD,w9,w9];omega)).trans (by rw[BY hr hq])
theorem GZ (O:OM.Ord n l)(h:Gt d)(hx:∀r q:List Int,d=.list ([r,q].map tupI)->¬(OM.ba n).filter (lX [r,q])=l):Gu [aA n l,d]=.exc "NoRows":=by
 have et:=Bl O h
 show fin (dh xq zc [.fz (aA n l),.fz d] 0)=_
 unfold dh
 cases c:tK n l d with
 |false=>
  rw[c] at et
  refine jM (ly (β1:=0) (p0 (bq (a:=false) (dg (aw (ds:=[d,aA n l]) rfl et)))) (wp_raise rfl))
 |true=>
  rw[c] at et
  obtain⟨rs,rfl,h1,h2,h3⟩:Tells n l d:=@LD _ (Classical.propDecidable _) c
  have hl:rs.length≠2:=λe=>by
   match rs,e with
   | [r,q],_=>exact hx r q rfl h3
  have tb:fH (f2 (f1 (gv 1) eY) (cst (.int 2)) (dG true)) (vl [.fz (aA n l),.fz (.list (rs.map tupI))]) 0=.ok true 0:=by
   have:=jW (neg:=true) (bG (fa:=gv 1) (vs:=vl [.fz (aA n l),.fz (.list (rs.map tupI))]) (β:=0) (β1:=0) (g:=eY) (x:=.list (rs.map tupI)) rfl rfl) (show cst (.int 2) (vl [.fz (aA n l),.fz (.list (rs.map tupI))]) 0=.ok (.int 2) 0 from rfl)
   rw[KD,K1 (by omega)] at this
   exact this
  refine jM (ly (β1:=0) (iA (c:=true) (bq (a:=true) (dg (aw (ds:=[.list (rs.map tupI),aA n l]) rfl et))) tb) (wp_raise rfl))
def IJ (h8:n<=8)(hr:r.Perm (bu n))(hq:q.Perm (bu n)):IA [.list ((aK r q n).map aG)]=.ok (.list ([r,q].map tupI)) true:=by
 show fin (jP zc [.fz (.list ((aK r q n).map aG))] 0)=_
 unfold jP
 have c1:aF 2 [] (.two 0 1) (bz (gv 0)) gy (gv 0) [.da (.list ((aK r q n).map aG))] 0=.ok (.list (((bu n).map λt=>((r.idxOf t:Nat):Int)).map int)) 0:=by
  rw[bj (l:=aK r q n) (e:=aG) (λp=>int p.1) rfl (by rw[fM];omega) λp hp=>⟨[.da (.int p.1),.da (.int p.2)],rfl,rfl⟩]
  unfold aK;rw[Lm,Lm];rfl
 have c2:aF 2 [] (.two 0 1) (bz (gv 0)) gy (gv 1) [.da (.list ((aK r q n).map aG))] 0=.ok (.list (((bu n).map λt=>((q.idxOf t:Nat):Int)).map int)) 0:=by
  rw[bj (l:=aK r q n) (e:=aG) (λp=>int p.2) rfl (by rw[fM];omega) λp hp=>⟨[.da (.int p.1),.da (.int p.2)],rfl,rfl⟩]
  unfold aK;rw[Lm,Lm];rfl
 have p1:=zW (d:=.list (((bu n).map λt=>((r.idxOf t:Nat):Int)).map int)) rfl rfl (by omega) (jD hr)
 have p2:=zW (d:=.list (((bu n).map λt=>((q.idxOf t:Nat):Int)).map int)) rfl rfl (by omega) (jD hq)
 rw[xF hr] at p1
 rw[xF hq] at p2
 exact jM (kU (β1:=0) (lp (ds:=[tupI r,tupI q]) (ac (bG (x:=.list (r.map int)) (aw (ds:=[.list (((bu n).map λt=>((r.idxOf t:Nat):Int)).map int)]) (ac c1 an) p1) rfl) (ac (bG (x:=.list (q.map int)) (aw (ds:=[.list (((bu n).map λt=>((q.idxOf t:Nat):Int)).map int)]) (ac c2 an) p2) rfl) an))) rfl)
def GC (O:OM.Ord n ((OM.ba n).filter (lX [r,q])))(hr:r.Perm (bu n))(hq:q.Perm (bu n))(hG:Gt (.list ((aK r q n).map aG))):Gw [aA n ((OM.ba n).filter (lX [r,q])),.list ((aK r q n).map aG)]=.ok (.list ([r,q].map tupI)) true:=by
 have et:=Hf O hG
 rw[wt (E2 hr hq)] at et
 have h8:=O.hi
 generalize (OM.ba n).filter (lX [r,q])=l at et
 show fin (fU Iv IA [.fz (aA n l),.fz (.list ((aK r q n).map aG))] 0)=_
 unfold fU
 exact jM (jS (β1:=0) (bq (a:=true) (dg (aw (ds:=[.list ((aK r q n).map aG),aA n l]) rfl et))) (kU (ir (ds:=[.list ((aK r q n).map aG)]) rfl (IJ h8 hr hq)) rfl))
def G8 (O:OM.Ord n l)(h:Gt d)(hx:∀ps:List Pr,d=.list (ps.map aG)->¬CP n l ps):Gw [aA n l,d]=.exc "NoPoints":=by
 have et:=Hf O h
 rw[wL hx] at et
 show fin (fU Iv IA [.fz (aA n l),.fz d] 0)=_
 unfold fU
 exact jM (ly (β1:=0) (bq (a:=false) (dg (aw (ds:=[d,aA n l]) rfl et))) (wp_raise rfl))
end
def rE:List (Str×Nat):=[("NoRows",6),("NoPoints",10)]
noncomputable def ig:List D->FR:=aY 4 3 (my (oZ rE) Gu Gw)
section
variable {n:Nat}{r q:List Int}{l:List Pr}{d:D}
def pX {F:List D->FR}{fr:VF (List D)}{vs:List Nv}{β β1:Int}{ds:List D}{c:Str}(h:fr vs β=.ok ds β1)(e:F ds=.exc c):fD F fr vs β=.exc c:=by unfold fD;rw[h];dsimp only[R.bnd];rw[e]
def tI {f:VF D}{env:En}{β:Int}{c:Str}{Q:SO->Prop}(h:f (vl env) β=.exc c)(q:Q (.exc c)):WP (fE f env β) Q:=⟨by unfold fE;rw[h];exact q⟩
noncomputable abbrev J3:SF:=aL (jO ([] ++ []) (fH (f2 (gv 0) (cst (.int 0)) (dG false))) (fE (fD Gu (aa (gv 1) (aa (gv 2) ag)))) lI) (fE (fD Gw (aa (gv 1) (aa (gv 2) ag))))
def Kl (a b c:D):kH [.fz a,.fz b,.fz c,.no]=true:=rfl
noncomputable def Fi:SO->SO
 | .rt d fr _=>.rt d fr 0
 | .exc c=>(match oZ rE c with
  |some x=>.rt (.str x) false 0
  |none=>.bad)
 |_=>.bad
def mO {k od d:D}{s:SO}(h:WP (J3 [.fz k,.fz od,.fz d,.no] 0) λt=>t=s):ig [k,od,d]=fin (Fi s):=by
 have h:=h.out
 show fin (yu (oZ rE) J3 [.fz k,.fz od,.fz d,.no] 0)=_
 unfold yu
 rw[KH (Kl _ _ _),h]
 cases s <;> rfl
def DU {od d:D}{R:FR}(h:(∃x,R=.ok x true/\Gu [od,d]=.ok x true)\/∃c s,R=.ok (.str s) false/\Gu [od,d]=.exc c/\oZ rE c=some s):ig [.int 0,od,d]=R:=by
 rcases h with⟨x,rfl,h⟩ | ⟨c,s,rfl,h,hs⟩
 ·exact mO (s:=.rt x true 0) (ly (β1:=0) (by kernel_rfl) (xk (kU (d:=x) (β1:=0) (ir (ds:=[od,d]) rfl h) ⟨(λa b h=>by cases h),rfl⟩)))
 ·rw[mO (s:=.exc c) (ly (β1:=0) (by kernel_rfl) (xk (tI (c:=c) (pX (ds:=[od,d]) (β1:=0) rfl h) ⟨(λa b h=>by cases h),rfl⟩)))]
  unfold Fi
  dsimp only
  rw[hs];rfl
def D0 {od d:D}{R:FR}(h:(∃x,R=.ok x true/\Gw [od,d]=.ok x true)\/∃c s,R=.ok (.str s) false/\Gw [od,d]=.exc c/\oZ rE c=some s):ig [.int 1,od,d]=R:=by
 rcases h with⟨x,rfl,h⟩ | ⟨c,s,rfl,h,hs⟩
 ·exact mO (s:=.rt x true 0) (jS (β1:=0) (by kernel_rfl) (kU (d:=x) (β1:=0) (ir (ds:=[od,d]) rfl h) rfl))
 ·rw[mO (s:=.exc c) (jS (β1:=0) (by kernel_rfl) (tI (c:=c) (pX (ds:=[od,d]) (β1:=0) rfl h) rfl))]
  unfold Fi
  dsimp only
  rw[hs];rfl
def Ji:oZ rE "NoRows"=some "rows":=by kernel_rfl
def IV:oZ rE "NoPoints"=some "points":=by kernel_rfl
def tw (O:OM.Ord n l)(h:Gt d)(hx:∀r q:List Int,d=.list ([r,q].map tupI)->¬(OM.ba n).filter (lX [r,q])=l):ig [.int 0,aA n l,d]=.ok (.str "rows") false:=DU (.inr ⟨_,_,rfl,GZ O h hx,Ji⟩)
def uQ (O:OM.Ord n l)(h:Gt d)(hx:∀ps:List Pr,d=.list (ps.map aG)->¬CP n l ps):ig [.int 1,aA n l,d]=.ok (.str "points") false:=D0 (.inr ⟨_,_,rfl,G8 O h hx,IV⟩)
def D5 {p:Pr}(h:(0<=p.1/\p.1 < 9)/\0<=p.2/\p.2 < 9):Ig (aG p):=oB (r:=[p.1,p.2]) (by simp) λx hx=>by
 simp only[KG,K5,LF] at hx
 rcases hx with rfl |rfl
 ·exact h.1
 ·exact h.2
def xj {k:Nat}{rs:List (List Int)}(h8:n<=8)(hk:rs.length<=k)(hp:∀r,r∈rs->r.Perm (bu n)):Ap Ig k (rs.map tupI):=⟨by rw[KD];exact hk,λx hx=>by
 obtain⟨r,hr,rfl⟩:=Lo.mp hx
 obtain⟨hl,hb⟩:=rZ h8 (hp r hr)
 exact oB (by omega) hb⟩
def AZ {k:Nat}{ps:List Pr}(hk:ps.length<=k)(h:∀p,p∈ps->(0<=p.1/\p.1 < 9)/\0<=p.2/\p.2 < 9):Ap Ig k (ps.map aG):=⟨by rw[KD];exact hk,λx hx=>by
 obtain⟨p,hp,rfl⟩:=Lo.mp hx
 exact D5 (h p hp)⟩
def se {d:D}(h1:cq d=false)(h2:∀ds,d≠.list ds):Gt d:=⟨h1,λds e=>absurd e (h2 ds)⟩
def Ai (h8:n<=8)(hr:r.Perm (bu n))(hq:q.Perm (bu n)):∀p,p∈aK r q n->(0<=p.1/\p.1 < 9)/\0<=p.2/\p.2 < 9:=λp hp=>by
 obtain⟨t,ht,rfl⟩:=Lo.mp hp
 have h1:=uD hr ht
 have h2:=uD hq ht
 dsimp only
 omega
def qU (hr:r.Perm (bu n))(h:(OM.ba n).filter (lX [r,r])=l):AQ n l= []:=by
 refine List.eq_nil_iff_forall_not_mem.mpr λp hp=>?_
 obtain⟨hg,ha⟩:=CU.mp hp
 have ap:p.1≠p.2/\p∉l/\(p.2,p.1)∉l:=by
  unfold BN at ha
  simpa using ha
 have mem:∀a b:Int,(0<=a/\a < n)->(0<=b/\b < n)->r.idxOf a < r.idxOf b->(a,b)∈l:=λa b h1 h2 h3=>by
  rw[<-h]
  refine K8.mpr ⟨OM.aU.mpr ⟨h1,h2⟩,?_⟩
  unfold lX
  simp[h3]
 rcases Nat.lt_trichotomy (r.idxOf p.1) (r.idxOf p.2) with h1 |h1 |h1
 ·exact ap.2.1 (mem _ _ hg.1 hg.2 h1)
 ·exact ap.1 (sI hr (bh.mpr hg.1) (bh.mpr hg.2) h1)
 ·exact ap.2.2 (mem _ _ hg.2 hg.1 h1)
def zq {o:D}(h:o∈jc)(r q:List Int):o≠.list ([r,q].map tupI):=λe=>by
 subst e
 simp[jc] at h
end
noncomputable def Fy:List D->FR:=aY 11 1 (wd FZ A7 ig j5 fZ rK Ca)
section
variable {m':SF}{env:En}{β β1 β2:Int}{Q:SO->Prop}{fa fb:VF D}{fr:VF (List D)}{La Lb:List Nat}{i j:Nat}{d e:D}{ds:List D}{vs:List Nv}
def De (h:fa (vl env) β=.ok d β1)(h':fb (vl env) β1=.ok e β2)(k:WP (m' (((aN (La ++ Lb) env).set i (.ow d)).set j (.ow e)) β2) Q):WP (aL (B3 i j La Lb fa fb) m' env β) Q:=wp_seq (by unfold B3;rw[h];dsimp only[toS];rw[h']) k
def zJ (h:fa vs β=.ok (.list ds) β1):bz fa vs β=.ok ds β1:=by unfold bz;rw[h];rfl
def yR (h:fa vs β=.ok d β1)(h':fr vs β1=.ok ds β2):aa fa fr vs β=.ok (d :: ds) β2:=by rw[fo,h];dsimp only[R.bnd];rw[h']
end
def wg:dG true (.str "rows") (.str "rows")=some (.bool false):=by kernel_rfl
def pV:dG true (.str "points") (.str "points")=some (.bool false):=by kernel_rfl
abbrev mW (ns:List Int)(k n:Nat)(r q:List Int)(l:List Pr)(s7 s8 s9 s10:Sl):En:=[.fz (cx ns),.fz (.int k),.bx,.fz (.int n),.fz (.list ([r,q].map tupI)),.fz (aA n l),.fz (.list ((aK r q n).map aG)),s7,s8,s9,s10]
def Gq (r q:List Int)(o:D):List D:=[.list [tupI r],.list [tupI r,tupI q,tupI r],.tuple [tupI r,tupI q],.list [],.none,.list [tupI r,.list (q.map int)],o]
def Gs (ps:List Pr):List D:=[.list ((ps.map aG).drop 1),.list (ps.map aG ++ (ps.map aG).take 1),.tuple (ps.map aG),.none,.list (ps.map λp=>PyData.list [.int p.1,.int p.2]),.dict []]
section
variable {n:Nat}{r q:List Int}{l:List Pr}
def FO {o:D}(O:OM.Ord n l)(hr:r.Perm (bu n))(hq:q.Perm (bu n))(ho:o∈jc):∀d,d∈Gq r q o->ig [.int 0,aA n l,d]=.ok (.str "rows") false:=by
 have h8:=O.hi
 have i1:Ig (tupI r):=by obtain⟨hl,hb⟩:=rZ h8 hr;exact oB (by omega) hb
 have i2:Ig (tupI q):=by obtain⟨hl,hb⟩:=rZ h8 hq;exact oB (by omega) hb
 have i3:Ig (.list (q.map int)):=by obtain⟨hl,hb⟩:=rZ h8 hq;exact xK (by omega) hb
 have gl:∀ds:List D,ds.length<=60->(∀x,x∈ds->Ig x)->Gt (.list ds):=λds h1 h2=>(Ap.tl (k:=ds.length) ⟨KI _,h2⟩ h1).1
 intro d hd
 simp only[Gq,KG,K5,LF] at hd
 rcases hd with rfl |rfl |rfl |rfl |rfl |rfl |rfl
 ·exact tw O (gl _ (by simp) λx hx=>by rw[Lv] at hx;rw[hx];exact i1) λr' q' e=>by simp at e
 ·exact tw O (gl _ (by simp) λx hx=>by
   simp only[KG,K5,LF] at hx
   rcases hx with rfl |rfl |rfl
   ·exact i1
   ·exact i2
   ·exact i1) λr' q' e=>by simp at e
 ·exact tw O (se rfl λds e=>by cases e) λr' q' e=>by cases e
 ·exact tw O (gl _ (by simp) λx hx=>by cases hx) λr' q' e=>by simp at e
 ·exact tw O (se rfl λds e=>by cases e) λr' q' e=>by cases e
 ·exact tw O (gl _ (by simp) λx hx=>by
   simp only[KG,K5,LF] at hx
   rcases hx with rfl |rfl
   ·exact i1
   ·exact i3) λr' q' e=>by simp[tupI] at e
 ·exact tw O (E7 _ ho) λr' q' e=>absurd e (zq ho r' q')
def FK (O:OM.Ord n l)(hr:r.Perm (bu n))(hq:q.Perm (bu n)):∀d,d∈Gs (aK r q n)->ig [.int 1,aA n l,d]=.ok (.str "points") false:=by
 have h8:=O.hi
 have h1:=O.lo
 have pb:=Ai h8 hr hq
 have pl:=fM (n:=n) (r:=r) (q:=q)
 have gl:∀ds:List D,ds.length<=60->(∀x,x∈ds->Ig x)->Gt (.list ds):=λds h1 h2=>(Ap.tl (k:=ds.length) ⟨KI _,h2⟩ h1).1
 have ip:∀x,x∈(aK r q n).map aG->Ig x:=λx hx=>by
  obtain⟨p,hp,rfl⟩:=Lo.mp hx
  exact D5 (pb p hp)
 have len:∀{ps:List Pr},CP n l ps->ps.length=n:=λ{ps} h=>by
  have:=h.1.length_eq
  rw[KD,bt] at this;exact this
 intro d hd
 simp only[Gs,KG,K5,LF] at hd
 rcases hd with rfl |rfl |rfl |rfl |rfl |rfl
 ·refine uQ O (gl _ (by rw[length_drop,KD];omega) λx hx=>ip x (List.mem_of_mem_drop hx)) λps e hp=>?_
  have:=congrArg List.length (PyData.list.inj e)
  rw[length_drop,KD,KD,len hp] at this
  omega
 ·refine uQ O (gl _ (by rw[Ls,LR,KD];omega) λx hx=>?_) λps e hp=>?_
  ·rcases Lk.mp hx with hx |hx
   ·exact ip x hx
   ·exact ip x (List.mem_of_mem_take hx)
  ·have:=congrArg List.length (PyData.list.inj e)
   rw[Ls,LR,KD,KD,len hp] at this
   omega
 ·exact uQ O (se rfl λds e=>by cases e) λps e=>by cases e
 ·exact uQ O (se rfl λds e=>by cases e) λps e=>by cases e
 ·refine uQ O (gl _ (by rw[KD];omega) λx hx=>?_) λps e hp=>?_
  ·obtain⟨p,hp,rfl⟩:=Lo.mp hx
   have:=pb p hp
   exact xK (r:=[p.1,p.2]) (by simp) λx hx=>by
    simp only[KG,K5,LF] at hx
    rcases hx with rfl |rfl
    ·exact this.1
    ·exact this.2
  ·have e:=PyData.list.inj e
   cases c:aK r q n with
   |nil=>rw[c] at pl;simp at pl;omega
   |cons p t=>
    rw[c] at e
    cases ps with
    |nil=>cases e
    |cons p' t'=>simp[aG] at e
 ·exact uQ O (se rfl λds e=>by cases e) λps e=>by cases e
end
def HX (ns:List Int):Fy [cx ns]=.ok (.bool true) false:=by
 show fin (wd FZ A7 ig j5 fZ rK Ca [.fz (cx ns),.no,.no,.no,.no,.no,.no,.no,.no,.no,.no] 0)=_
 refine jM ?_
 obtain⟨m,hm,em⟩:=Ah 5 (by omega) ns (vl [.fz (cx ns),.no,.no,.no,.no,.no,.no,.no,.no,.no,.no]) 0 rfl
 unfold wd
 refine rJ (λ_ env _=>∃s1 s2 s3 s4 s5 s6 s7 s8 s9 s10,env= [.fz (cx ns),s1,s2,s3,s4,s5,s6,s7,s8,s9,s10]) em ⟨_,_,_,_,_,_,_,_,_,_,rfl⟩ ?_ λenv β ⟨s1,s2,s3,s4,s5,s6,s7,s8,s9,s10,e⟩=>uy (d:=.bool true) rfl rfl
 rintro i d env β hi ⟨s1,s2,s3,s4,s5,s6,s7,s8,s9,s10,rfl⟩
 obtain⟨_,rfl⟩:=kX hi
 rw[LZ]
 refine⟨[.fz (cx ns),.fz (.int i),s2,s3,s4,s5,s6,s7,s8,s9,s10],rfl,?_⟩
 obtain⟨z,ez⟩:=HL ns i
 obtain⟨t3,t4,t5,t6,t7,t8,t9,t10,hcl⟩:∃t3 t4 t5 t6 t7 t8 t9 t10:Sl,(pe (aN ([0] ++ ([1] ++ [])) [.fz (cx ns),.fz (.int i),s2,s3,s4,s5,s6,s7,s8,s9,s10])).set 2 .bx= [.fz (cx ns),.fz (.int i),.bx,t3,t4,t5,t6,t7,t8,t9,t10]:=⟨_,_,_,_,_,_,_,_,rfl⟩
 refine Dy (ir (ds:=[cx ns,.int i]) rfl ez) (wp_at _ hcl ?_)
 obtain⟨j,hj,ej⟩:=tR (m:=8) (by omega) (by omega) z
 generalize z / ((8:Nat):Int)=β1 at ej
 refine qR (d:=.int ((1 + j:Nat):Int)) (β1:=β1) (aE (x:=.int 1) rfl (oE (ds:=[.int 8]) (by rfl) rfl ej) (by show some (int (1 + (j:Int)))=_;rw[show ((1 + j:Nat):Int)=1 + (j:Int) by omega])) (wp_at [.fz (cx ns),.fz (.int i),.bx,.fz (.int ((1 + j:Nat):Int)),t4,t5,t6,t7,t8,t9,t10] rfl ?_)
 have n1:1<=1 + j:=by omega
 have n8:1 + j<=8:=by omega
 generalize 1 + j=n at n1 n8
 obtain⟨rs,β2,ec,hl,hP⟩:=xQ (own:=1) (ixs:=[2,3]) (t:=.nm 0) (fi:=cB (cst (.int 2))) (fe:=f1 (ua 1 rK (aa (f1 (gv 2) ia) ag)) bW) (vs:=vl [.fz (cx ns),.fz (.int i),.bx,.fz (.int n),t4,t5,t6,t7,t8,t9,t10]) (β:=β1) tupI (λr:List Int=>r.Perm (bu n)) (eZ (n:=2) (β1:=β1) rfl (by omega)) (by rw[fT];omega) (by
  intro d hd
  refine⟨[.da d,.bx,.da (.int n)],rfl,λb=>?_⟩
  obtain⟨ms,b',em,pm⟩:=Dx (bu n) (by rw[bt];omega) b
  refine⟨ms,b',bG (g:=bW) (oE (ds:=[.list ((bu n).map int)]) (β1:=b) (by rfl) ?_ em) rfl,pm⟩
  rw[fo,bG (x:=.int n) (d:=.list ((bu n).map int)) (β1:=b) rfl (ud (by omega))];rfl)
 rw[fT] at hl
 obtain⟨r,q,rfl⟩:∃r q,rs= [r,q]:=by
  match rs,hl with
  | [r,q],_=>exact⟨r,q,rfl⟩
 have pr:r.Perm (bu n):=hP r (by simp)
 have pq:q.Perm (bu n):=hP q (by simp)
 refine qR ec (wp_at [.fz (cx ns),.fz (.int i),.bx,.fz (.int n),.fz (.list ([r,q].map tupI)),t5,t6,t7,t8,t9,t10] rfl ?_)
 have O:=Bb n1 n8 (rows:=[r,q]) (by simp) hP
 have et:=Gm (n:=n) (rows:=[r,q]) n8 (by simp) hP
 rw[GG (by simp) hP] at O et
 have gR:Gt (.list ([r,q].map tupI)):=((xj (k:=2) n8 (by simp) hP).tl (by omega)).1
 have aP:=AZ (k:=8) (ps:=aK r q n) (by rw[fM];omega) (Ai n8 pr pq)
 have gP:Gt (.list ((aK r q n).map aG)):=(aP.tl (by omega)).1
 have rpP:=(aP.tl (by omega)).rp
 have rpR:=((xj (k:=2) n8 (by simp) hP).tl (by omega)).rp
 have po:=GA O pr pq gR
 have ro:=GC O pr pq gP
 have nt:=λh=>qU (l:=(OM.ba n).filter (lX [r,q])) pr h
 generalize (OM.ba n).filter (lX [r,q])=l at O et po ro nt
 refine qR (tp (ds:=[.int n,.tuple (l.map aG)]) (ac rfl (ac (aw (ds:=[.int n,.list ([r,q].map tupI)]) rfl et) an))) (wp_at [.fz (cx ns),.fz (.int i),.bx,.fz (.int n),.fz (.list ([r,q].map tupI)),.fz (aA n l),t6,t7,t8,t9,t10] rfl ?_)
 have ep:aF 1 [4] (.nm 0) (cB (gv 3)) gy (bL (aa (jr (f2 (gv 1) (cst (.int 0)) cA) (gv 0)) (aa (jr (f2 (gv 1) (cst (.int 1)) cA) (gv 0)) ag))) (vl [.fz (cx ns),.fz (.int i),.bx,.fz (.int n),.fz (.list ([r,q].map tupI)),.fz (aA n l),t6,t7,t8,t9,t10]) β2=.ok (.list ((aK r q n).map aG)) β2:=by
  unfold aK
  rw[Lm]
  refine bj (l:=bu n) (e:=int) (λt=>aG (((r.idxOf t:Nat):Int),((q.idxOf t:Nat):Int))) ?_ (by rw[bt];omega) λt ht=>⟨[.da (.int t),.da (.list ([r,q].map tupI))],rfl,?_⟩
  ·rw[<-jX];exact eZ (n:=n) rfl (by omega)
  ·exact fq (ni (r:=r) (k:=t) (aE (x:=.list ([r,q].map tupI)) (y:=.int 0) rfl rfl rfl) rfl (pr.mem_iff.mpr ht)) (ni (r:=q) (k:=t) (aE (x:=.list ([r,q].map tupI)) (y:=.int 1) rfl rfl rfl) rfl (pq.mem_iff.mpr ht))
 refine qR ep (wp_at (mW ns i n r q l t7 t8 t9 t10) rfl ?_)
 refine rJ (λ_ env _=>∃s7 s8 s9,env=mW ns i n r q l s7 s8 s9 t10) (eZ (n:=2) rfl (by omega)) ⟨_,_,_,rfl⟩ ?_ ?_
 ·rintro k d env β hk ⟨s7,s8,s9,rfl⟩
  refine⟨mW ns i n r q l (.fz d) s8 s9 t10,rfl,?_⟩
  have e0:fD ig (aa (cst (.int 0)) (aa (gv 5) (aa (f1 (gv 4) jw) ag))) (vl (mW ns i n r q l (.fz d) s8 s9 t10)) β=.ok (.list ((aK r q n).map aG)) β:=ir (ds:=[.int 0,aA n l,.list ([r,q].map tupI)]) rfl (DU (.inl ⟨_,rfl,po⟩))
  have e1:fD ig (aa (cst (.int 1)) (aa (gv 5) (aa (f1 (gv 6) jw) ag))) (vl (mW ns i n r q l (.fz d) s8 s9 t10)) β=.ok (.list ([r,q].map tupI)) β:=ir (ds:=[.int 1,aA n l,.list ((aK r q n).map aG)]) rfl (D0 (.inl ⟨_,rfl,ro⟩))
  refine De e0 e1 (wp_at (mW ns i n r q l (.fz d) (.ow (.list ((aK r q n).map aG))) (.ow (.list ([r,q].map tupI))) t10) rfl ?_)
  refine jS (β1:=β) (iA (fC _ _ _ false (aE (bG (x:=.list ((aK r q n).map aG)) rfl rpP) (bG (x:=.list ((aK r q n).map aG)) rfl rpP) (by simp[zt]))) (fC _ _ _ false (aE (bG (x:=.list ([r,q].map tupI)) rfl rpR) (bG (x:=.list ([r,q].map tupI)) rfl rpR) (by simp[zt])))) (wp_at (mW ns i n r q l (.fz d) (.ow (.list ((aK r q n).map aG))) (.ow (.list ([r,q].map tupI))) t10) rfl ?_)
  refine BF (ds:=(aK r q n).map aG) (d:=.int 0) (β1:=β) rfl rfl rfl (by rw[KD,fM];omega) (wp_at (mW ns i n r q l (.fz d) (.ow (.list ((aK r q n).map aG ++ [.int 0]))) (.ow (.list ([r,q].map tupI))) t10) rfl ?_)
  exact Gh (BF (ds:=[r,q].map tupI) (d:=.int 0) (β1:=β) rfl rfl rfl (by simp) (wy ⟨_,_,rfl,_,_,_,rfl⟩))
 rintro env β ⟨s7,s8,s9,rfl⟩
 obtain⟨u8,u9,hu⟩:∃u8 u9:Sl,aN ((([] ++ []) ++ []) ++ (([] ++ (([] ++ []) ++ [])) ++ ([] ++ ([] ++ ([] ++ ((([] ++ []) ++ (([] ++ []) ++ [])) ++ ([] ++ []))))))) (mW ns i n r q l s7 s8 s9 t10)=mW ns i n r q l s7 u8 u9 t10:=⟨_,_,rfl⟩
 obtain⟨o,β3,eo,ho⟩:=GV β
 have s1:=sO (fa:=gv 4) (fb:=cst (.int 1)) (vs:=vl (mW ns i n r q l s7 s8 s9 t10)) (β:=β) (ds:=[r,q].map tupI) (i:=1) rfl rfl
 have e0:bB (aa (yZ (gv 4) (λ_ β=>.ok none β) (yC (cst (.int 1)))) (aa (f2 (gv 4) (yZ (gv 4) (λ_ β=>.ok none β) (yC (cst (.int 1)))) mC) (aa (f1 (gv 4) bW) (aa (bB ag) (aa (cst .none) (aa (bB (aa (f2 (gv 4) (cst (.int 0)) cA) (aa (f1 (f2 (gv 4) (cst (.int 1)) cA) jw) ag))) (aa (ua 2 Ca ag) ag))))))) (vl (mW ns i n r q l s7 s8 s9 t10)) β=.ok (.list (Gq r q o)) β3:=by
  refine eN (ds:=Gq r q o) (yR s1 (yR (β1:=β) (aE (x:=.list ([r,q].map tupI)) (y:=.list [tupI r]) rfl s1 (nh (by simp))) (yR (β1:=β) (bG (x:=.list ([r,q].map tupI)) rfl rfl) (yR (β1:=β) (lp (ds:=[]) an) (yR (β1:=β) rfl (yR (β1:=β) (lp (ds:=[tupI r,.list (q.map int)]) (ac (aE (x:=.list ([r,q].map tupI)) (y:=.int 0) rfl rfl rfl) (ac (bG (x:=tupI q) (aE (x:=.list ([r,q].map tupI)) (y:=.int 1) rfl rfl rfl) rfl) an))) (yR (oE (ds:=[]) rfl rfl eo) an))))))) (by simp[Gq])
 refine rJ (ds:=Gq r q o) (β1:=β3) (λ_ env _=>∃s10,env=mW ns i n r q l s7 u8 u9 s10) (zJ e0) ⟨_,hu⟩ ?_ ?_
 ·rintro k d env β hk ⟨s10,rfl⟩
  refine⟨mW ns i n r q l s7 u8 u9 (.fz d),rfl,?_⟩
  exact EI (β1:=β) (fC _ _ _ false (aE (aw (ds:=[.int 0,aA n l,d]) rfl (FO O pr pq ho d (K9 hk))) rfl wg)) (wy ⟨_,_,rfl,_,rfl⟩)
 rintro env β ⟨s10,rfl⟩
 have htE:∀{vs:List Nv} {β:Int},gv 5 vs β=.ok (aA n l) β->fH (f2 (au j5 (aa (gv 5) ag)) (bB ag) (dG true)) vs β=.ok (!decide (AQ n l= [])) β:=λ{vs β} hv=>by
  refine fC _ _ _ _ (aE (aw (ds:=[aA n l]) (ac hv an) (BJ O)) (lp (ds:=[]) an) ?_)
  have:=AU true (AQ n l) []
  simpa using this
 have igr:Ig (tupI r):=by obtain⟨hl,hb⟩:=rZ n8 pr;exact oB (by omega) hb
 have x1:Aa (fH (f2 (au j5 (aa (gv 5) ag)) (bB ag) (dG true))) (fH (f2 (au ig (aa (cst (.int 0)) (aa (gv 5) (aa (bB (aa (f2 (gv 4) (cst (.int 0)) cA) (aa (f2 (gv 4) (cst (.int 0)) cA) ag))) ag)))) (cst (.str "rows")) (dG true))) (vl (mW ns i n r q l s7 u8 u9 s10)) β=.ok false β:=by
  rw[v7,htE rfl]
  dsimp only[R.bnd]
  by_cases c:AQ n l= []
  ·rw[KY c];rfl
  ·rw[K1 c]
   refine (KH rfl).trans (fC _ _ _ false (aE (aw (ds:=[.int 0,aA n l,.list [tupI r,tupI r]]) (ac rfl (ac rfl (ac (lp (ds:=[tupI r,tupI r]) (ac (aE (x:=.list ([r,q].map tupI)) (y:=.int 0) rfl rfl rfl) (ac (aE (x:=.list ([r,q].map tupI)) (y:=.int 0) rfl rfl rfl) an))) an))) (tw O ((Ap.tl (k:=2) ⟨by simp,λx hx=>?_⟩ (by omega)).1) λr' q' e he=>?_)) rfl wg))
   ·simp only[KG,K5,LF,or_self] at hx
    rw[hx];exact igr
   ·have e:=PyData.list.inj e
    simp only[Ln,map_nil,List.cons.injEq,and_true] at e
    rw[<-gk e.1,<-gk e.2] at he
    exact c (qU pr he)
 refine jS (β1:=β) x1 (wp_at (mW ns i n r q l s7 u8 u9 s10) rfl ?_)
 have p1:=Ds (fa:=gv 6) (fb:=cst (.int 1)) (vs:=vl (mW ns i n r q l s7 u8 u9 s10)) (β:=β) (ds:=(aK r q n).map aG) (i:=1) rfl rfl
 have p2:=sO (fa:=gv 6) (fb:=cst (.int 1)) (vs:=vl (mW ns i n r q l s7 u8 u9 s10)) (β:=β) (ds:=(aK r q n).map aG) (i:=1) rfl rfl
 have p3:aF 1 [] (.nm 0) (bz (gv 6)) gy (f1 (gv 0) jw) (vl (mW ns i n r q l s7 u8 u9 s10)) β=.ok (.list ((aK r q n).map λp=>PyData.list [.int p.1,.int p.2])) β:=bj (l:=aK r q n) (e:=aG) (λp=>PyData.list [.int p.1,.int p.2]) rfl (by rw[fM];omega) λp hp=>⟨[.da (aG p)],rfl,bG (x:=aG p) rfl rfl⟩
 have e1:bB (aa (yZ (gv 6) (yC (cst (.int 1))) (λ_ β=>.ok none β)) (aa (f2 (gv 6) (yZ (gv 6) (λ_ β=>.ok none β) (yC (cst (.int 1)))) mC) (aa (f1 (gv 6) bW) (aa (cst .none) (aa (aF 1 [] (.nm 0) (bz (gv 6)) gy (f1 (gv 0) jw)) (aa (cst (.dict [])) ag)))))) (vl (mW ns i n r q l s7 u8 u9 s10)) β=.ok (.list (Gs (aK r q n))) β:=by
  refine eN (ds:=Gs (aK r q n)) (yR p1 (yR (β1:=β) (aE (x:=.list ((aK r q n).map aG)) rfl p2 (nh (by rw[LR,KD,fM];omega))) (yR (β1:=β) (bG (x:=.list ((aK r q n).map aG)) rfl rfl) (yR (β1:=β) rfl (yR (β1:=β) p3 (yR (β1:=β) rfl an)))))) (by simp[Gs])
 refine rJ (ds:=Gs (aK r q n)) (β1:=β) (λ_ env _=>∃s10,env=mW ns i n r q l s7 u8 u9 s10) (zJ e1) ⟨_,rfl⟩ ?_ ?_
 ·rintro k d env β hk ⟨s10,rfl⟩
  refine⟨mW ns i n r q l s7 u8 u9 (.fz d),rfl,?_⟩
  exact EI (β1:=β) (fC _ _ _ false (aE (aw (ds:=[.int 1,aA n l,d]) rfl (FK O pr pq d (K9 hk))) rfl pV)) (wy ⟨_,_,rfl,_,rfl⟩)
 rintro env β ⟨s10,rfl⟩
 have c3:aF 2 [] (.two 0 1) (bz (gv 6)) gy (bL (aa (gv 0) (aa (gv 0) ag))) (vl (mW ns i n r q l s7 u8 u9 s10)) β=.ok (.list ((aK r r n).map aG)) β:=by
  rw[bj (l:=aK r q n) (e:=aG) (λp=>aG (p.1,p.1)) rfl (by rw[fM];omega) λp hp=>⟨[.da (.int p.1),.da (.int p.2)],rfl,rfl⟩]
  unfold aK;rw[Lm,Lm];rfl
 have x2:Aa (fH (f2 (au j5 (aa (gv 5) ag)) (bB ag) (dG true))) (fH (f2 (au ig (aa (cst (.int 1)) (aa (gv 5) (aa (aF 2 [] (.two 0 1) (bz (gv 6)) gy (bL (aa (gv 0) (aa (gv 0) ag)))) ag)))) (cst (.str "points")) (dG true))) (vl (mW ns i n r q l s7 u8 u9 s10)) β=.ok false β:=by
  rw[v7,htE rfl]
  dsimp only[R.bnd]
  by_cases c:AQ n l= []
  ·rw[KY c];rfl
  ·rw[K1 c]
   refine (KH rfl).trans (fC _ _ _ false (aE (aw (ds:=[.int 1,aA n l,.list ((aK r r n).map aG)]) (ac rfl (ac rfl (ac c3 an))) (uQ O (((AZ (k:=8) (ps:=aK r r n) (by rw[fM];omega) (Ai n8 pr pr)).tl (by omega)).1) λps e hp=>?_)) rfl pV))
   obtain rfl:=gV (PyData.list.inj e)
   exact c (qU pr (Bg.symm.trans hp.2.2))
 exact EI (β1:=β) x2 (wy ⟨_,_,rfl,_,_,_,_,_,_,_,_,_,_,rfl⟩)
end RM
namespace RO
open PySem L2
abbrev i4:Stmt:=RQ.dq
abbrev kZ:Stmt:=RQ.top 24
abbrev jC:Stmt:=RQ.top 50
abbrev Fn (K:Frag)(mg:Str->Option Value)(x:Str)(st:Stmt)(ps:List Str)(f:Addr)(fd:FuncData):Prop:=ji K mg x st ps f fd
abbrev Bt (mg:Str->Option Value):Prop:=jj mg
end RO
section
namespace L2
open PySem PySem.Spec PyProof.Rows
section
variable {K:Frag}{H H':Hp}{a:Addr}
theorem bg.snoc {x y:Int}(q:fw K H a [.int x,.int y]):∀{vs:List V} {ps:List (Int×Int)},bg K H vs ps->bg K H (vs ++ [.ref a]) (ps ++ [(x,y)])
 |_,_,.nil=>.cons ⟨a,rfl,q⟩ .nil
 |_,_,.cons r t=>.cons r (bg.snoc q t)
def bg.len {vs:List V}{ps:List (Int×Int)}(h:bg K H vs ps):vs.length=ps.length:=Paired.length h
def bg.same {vs:List V}{ps:List (Int×Int)}(h:bg K H vs ps)(s:ai H H'):bg K H' vs ps:=h.grow s.grow
def bg.at {vs:List V}{ps:List (Int×Int)}{i:Nat}{v:V}(h:bg K H vs ps)(e:vs[i]? =some v):∃p:Int×Int,ps[i]? =some p/\∃b,v=.ref b/\fw K H b [.int p.1,.int p.2]:=Paired.getP h e
def ai.put {o:HO}(s:ai H H')(h:H a=none)(hf:∀x y,H' a≠some (.aN x y)):ai H (L2.upd H' a o):=λb u e=>jI (s b u e) (ay e h) hf
def D3 (h:H a=none):∀x y,H a≠some (.aN x y):=λx y z=>by rw[h] at z;cases z
def G6 {xs:List V}(h:H a=some (.lst xs)):∀x y,H a≠some (.aN x y):=λx y z=>by rw[h] at z;cases z
end
end L2
namespace RO
open PySem L2
def AM (N:List Str)(sc:Scope)(NB:List Str)(own:Nat)(ixs:List Nat)(scope:Scope):Bool:=
 decide (scope.kind=.function) && (scope.names.all λy=>decide (y.2≠.cell)) && (scope.names.all λy=>decide (scope.names.lookup y.1=some y.2)) &&
 (scope.names.all λy=>decide (y.2=.free->(sc.names.lookup y.1=some .cell\/sc.names.lookup y.1=some .free))) && decide NB.Nodup && decide (NB.length=own + ixs.length) &&
 ((List.range ixs.length).all λk=>decide (NB[own + k]? =N[ixs.getD k 0]?) && (match NB[own + k]? with |some x=>decide ((x,NameKind.free)∈scope.names) |none=>true))
def lY {X:Cx}{NB:List Str}{own:Nat}{ixs:List Nat}{scope:Scope}(h:AM X.N X.env.scope NB own ixs scope=true):cF X NB own ixs scope:=by
 unfold AM at h
 simp only[KP,Lx,K7,LM] at h
 obtain⟨⟨⟨⟨⟨⟨h1,h2⟩,h3⟩,h4⟩,h5⟩,h6⟩,h7⟩:=h
 refine⟨h1,h2,h3,h4,h5,h6,λk hk=>⟨(h7 k hk).1,λx hx=>?_⟩⟩
 have:=(h7 k hk).2
 rw[hx] at this
 simpa using this
section
variable {X:Cx}{tg l:Expr}{tl:TE}{K:Frag}{H H1:Hp}{a:Addr}{xs:List V}{σ:St}
def Jk (K:Frag)(tl:TE):TI:=λσ H R=>tl σ H λx H1=>∃a xs,x=.ref a/\((fx K H1 a xs/\R (yM K a) H1)\/(fw K H1 a xs/\R (D4 K a) H1))
end
def Kf (K:Frag){X:Cx}(h:X.K=K:=by rfl):zM X (Gk K):=by subst h;exact eH
def EV (K:Frag)(i j:Nat){X:Cx}{x y:Str}{px py pos:Pos}{k:Nat}(hN:X.N.Nodup)(hi:X.N[i]? =some x)(hj:X.N[j]? =some y)(hx:X.env.scope.names.lookup x=some .local)(hy:X.env.scope.names.lookup y=some .local)(hc:X.calm=true)(hK:X.K=K) :
  PG X (.Tuple [.Name x px,.Name y py] k pos) (Ci K 2 (nN (kb i) (nN (kb j) CO))):=by
 subst hK
 exact nW hc (cP (cy hN hi (Or.inl hx) (Or.inr hx)) (cP (cy hN hj (Or.inl hy) (Or.inr hy)) lA))
section
open PySem.Spec PyProof.Rows
variable {X:Cx}{tg l:Expr}{tl:TE}
def EX (hl:PE X l tl):PI X tg l (Jk X.K tl):=by
 intro pins s σ H R I h
 refine b7 (hl pins s σ H _ I h) λv s1 ⟨x,H1,I1,r1,q1⟩=>?_
 obtain⟨a,xs,e,q⟩:=q1
 subst e
 cases r1
 rcases q with⟨hq,q⟩ | ⟨hq,q⟩
 ·obtain⟨its,rv,p,hz⟩:=I1.list hq
  refine ME p.isList ?_
  refine⟨s1.heap.objs.size,[s1.heap.objs.size],_,_,H1,rfl,I1.kept (t':=s1.toks) λb o e=>KC _ e,me a _,⟨_,K0 _ rfl,rfl,rfl⟩,λb hb=>?_,q⟩
  have e:b=s1.heap.objs.size:=by simpa using hb
  subst e
  exact I1.fpOk (KI _) (I1.hok.fresh (KI _))
 ·obtain⟨its,rv,p,hz⟩:=I1.tuple hq
  refine MB (show s1.heap.IsTuple a its.toArray from p) ?_
  refine⟨s1.heap.objs.size,[s1.heap.objs.size],_,_,H1,rfl,I1.kept (t':=s1.toks) λb o e=>KC _ e,nR a _,⟨_,K0 _ rfl,rfl,rfl⟩,λb hb=>?_,q⟩
  have e:b=s1.heap.objs.size:=by simpa using hb
  subst e
  exact I1.fpOk (KI _) (I1.hok.fresh (KI _))
end
section
variable {K:Frag}{H H1 H':Hp}{a:Addr}{xs:List V}{σ:St}
abbrev GL (J:It)(g:TG)(tb:TS)(D:Ends)(σ:St)(H:Hp):Prop:=∃W:Nat->Nat->St->Hp->Prop,(∃m,W 0 m σ H)/\∀i m σ H,W i m σ H->
   (J.stop i H/\D.nx σ H)\/(J.go i H/\∃N:St->Hp->Prop,(∀σ' H',N σ' H'->∃m',m' < m/\W (i + 1) m' σ' H')/\∀x H',J.yld i H x H'->g x σ H' λσ2 H2=>tb {D with nx:=N,ct:=N,bk:=D.nx} σ2 H2)
def CF (s:ai H1 H')(hq:fx K H1 a xs\/fw K H1 a xs):fx K H' a xs\/fw K H' a xs:=hq.elim (λq=>.inl (s.seq q)) λq=>.inr (q.grow s.grow)
def Dp {g:TG}{tb:TS}{D:Ends}(hq:fx K H1 a xs\/fw K H1 a xs)(Pv:Nat->St->Hp->Prop)(h0:Pv 0 σ H)(hl:∀i σ H',Pv i σ H'->ai H1 H')
  (hs:∀i x σ H,xs[i]? =some x->Pv i σ H->g x σ H λσ2 H2=>tb {D with nx:=Pv (i + 1),ct:=Pv (i + 1),bk:=D.nx} σ2 H2) (hd:∀σ H,Pv xs.length σ H->D.nx σ H) :
  (fx K H a xs/\GL (yM K a) g tb D σ H)\/(fw K H a xs/\GL (D4 K a) g tb D σ H):=
 hq.elim (λq=>.inl ⟨(hl _ _ _ h0).seq q,ue Pv h0 (λi σ H' _ p=>(hl i σ H' p).seq q) hs hd⟩) λq=>.inr ⟨q.grow (hl _ _ _ h0).grow,Cm Pv h0 (λi σ H' _ p=>q.grow (hl i σ H' p).grow) hs hd⟩
def wM (J:It)(own:Nat)(ixs:List Nat)(g:TG)(tt:TT)(te:TE)(Q:VK)(D:Addr)(σ:St)(H:Hp):Prop:=∃W:Nat->Nat->St->Hp->Prop,(∃m,W 0 m (qH own ixs σ) (upd H D (.lst [])))/\∀i m σ' H',W i m σ' H'->
   (J.stop i H'/\(∃acc,H' D=some (.lst acc))/\Q (.ref D) H')\/
   (J.go i H'/\∃N:St->Hp->Prop,(∀σ2 H2,N σ2 H2->∃m',m' < m/\W (i + 1) m' σ2 H2)/\∀x H2,J.yld i H' x H2->dE g tt te D x σ' H2 N)
structure tD (own:Nat)(ixs:List Nat)(wi:TI)(g:TG)(tt:TT)(te:TE)(σ:St)(H:Hp)(Q:VK):Prop where
 out:wi σ H λJ H1=>∀D,H1 D=none->wM J own ixs g tt te Q D σ H1
def uA {own:Nat}{ixs:List Nat}{wi:TI}{g:TG}{tt:TT}{te:TE}{Q:VK}(h:wi σ H λJ H1=>∀D,H1 D=none->wM J own ixs g tt te Q D σ H1):tD own ixs wi g tt te σ H Q:=⟨h⟩
def qP {X:Cx}{NB:List Str}{own:Nat}{ixs:List Nat}{scope:Scope}{tg iter elt:Expr}{ifs:List Expr}{wi:TI}{g:TG}{tt:TT}{te:TE}{pos:Pos}(hc:X.calm=true)(S:cF X NB own ixs scope)(hi:PI X tg iter wi)
  (hg:∀C ex s3 H3 pn,PG (hX X NB scope C ex s3 H3 pn) tg g) (ht:∀C ex s3 H3 pn,zE (hX X NB scope C ex s3 H3 pn) ifs tt) (he:∀C ex s3 H3 pn,PE (hX X NB scope C ex s3 H3 pn) elt te)
  (hs:∀x,foldedSetIterable iter X.env x=pure x:=by intro _;rfl):PE X (.ListComp elt [⟨tg,iter,ifs,0⟩] scope pos) (tD own ixs wi g tt te):=
 λpins s σ H Q I h=>uf hc S hi hg ht he hs pins s σ H Q I h.out
section
variable {own:Nat}{ixs:List Nat}{g:TG}{tt:TT}{te:TE}{Q:VK}{D:Addr}
def Dv (Pv:Nat->St->Hp->Prop)(h0:Pv 0 (qH own ixs σ) (upd H D (.lst [])))(hl:∀i σ H,i<=xs.length->Pv i σ H->fx K H a xs)
  (hs:∀i x σ H,xs[i]? =some x->Pv i σ H->dE g tt te D x σ H (Pv (i + 1))) (hd:∀σ H,Pv xs.length σ H->(∃acc,H D=some (.lst acc))/\Q (.ref D) H):wM (yM K a) own ixs g tt te Q D σ H:=yY Pv h0 hl hs hd
def sk {lo:Int}{n:Nat}(Pv:Nat->St->Hp->Prop)(h0:Pv 0 (qH own ixs σ) (upd H D (.lst [])))
  (hs:∀i σ H,i < n->Pv i σ H->dE g tt te D (.int (lo + i)) σ H (Pv (i + 1))) (hd:∀σ H,Pv n σ H->(∃acc,H D=some (.lst acc))/\Q (.ref D) H):wM (Bh lo n) own ixs g tt te Q D σ H:=uS Pv h0 hs hd
end
def rR {i:Nat}{te:TE}{D:Addr}{x:V}{N:St->Hp->Prop}(h:te (σ.set i (some x)) H λv H5=>∃acc,H5 D=some (.lst acc)/\acc.length < sizeLine/\N (σ.set i (some x)) (upd H5 D (.lst (acc ++ [v])))):dE (kb i) EF te D x σ H N:=by
 unfold dE kb EF
 exact sL h
def AO {i j:Nat}{x y:V}{Q:St->Hp->Prop}(h:fw K H a [x,y])(q:Q ((σ.set i (some x)).set j (some y)) H):Ci K 2 (nN (kb i) (nN (kb j) CO)) (.ref a) σ H Q:=⟨a,_,rfl,h,rfl,x,_,rfl,y,_,rfl,rfl,q⟩
def Jq {c A B:Prop}[Decidable c](h:c)(a:A):if c then A else B:=by rw[KH h];exact a
def JP {c A B:Prop}[Decidable c](h:¬c)(b:B):if c then A else B:=by rw[KZ h];exact b
def take_snoc {α:Type}{l:List α}{i:Nat}{x:α}(h:l[i]? =some x):l.take (i + 1)=l.take i ++ [x]:=by
 rw[List.take_add_one,h];rfl
def take_all {α:Type}(l:List α):l.take l.length=l:=List.take_of_length_le (KI _)
end
def dr (n:Nat):(OM.ba n).length=n * n:=by unfold OM.ba;simp
def Dm {n i:Nat}(h:i < n * n):(OM.ba n)[i]? =some (((i / n:Nat):Int),((i % n:Nat):Int)):=by
 unfold OM.ba
 rw[KW,LX h];rfl
def Kc {n:Nat}(h:n<=8):n * n<=64:=LH h h
section
variable {P:Program}{w:World}{K:Frag}{mg:Str->Option Value}{base:Heap}
def wR (K:Frag):Sp:=λvs H Q _=>∃n:Nat,vs= [.int n]/\1<=n/\n<=8/\∀H' l ws,ai H H'->H l=none->H' l=some (.lst ws)->bg K H' ws (OM.ba n)->Q (.ref l) H'
def Dj:aB ["many"] ["many"] (ak i4):=⟨rfl,rfl,rfl,by decide +kernel,rfl,by decide +kernel,by decide +kernel⟩
def HS:(["number","many"]:List Str).Nodup:=by decide +kernel
def AR {f:Addr}{fd:FuncData}(F:Fn K mg "every_pair" i4 ["many"] f fd)(B:Bt mg):ff P w K mg base u5 1 f fd ["many"] (wR K):=by
 refine F.F.ok Dj (λvs H Q E h=>?_) (λcdv A outer s H vs Q E hr h=>?_)
 ·obtain⟨n,rfl,_⟩:=h;rfl
 ·obtain⟨n,rfl,h1,h8,k⟩:=h
  refine⟨_,cT (hW (qP (NB:=["number","many"]) (own:=1) (ixs:=[0]) rfl (lY (by kernel_rfl)) (jQ rfl B.range (ah (mr jK (pv 0) (pv 0)) aH))
   (λC ex s3 H3 pn=>cy (i:=0) HS rfl (Or.inl rfl) (hf:=Or.inr rfl)) (λC ex s3 H3 pn=>qi)
   (λC ex s3 H3 pn=>vO (ah (mr lD (pv 0) (pv 1)) (ah (mr kE (pv 0) (pv 1)) aH))))),?_⟩
  have hn:=Kc h8
  have e0:((n:Int) * (n:Int))=((n * n:Nat):Int):=by rw[Int.natCast_mul]
  refine uA ⟨_,rfl,_,rfl,_,_,rfl,rfl,.inl ⟨by omega,by omega⟩,_,rfl,by rw[e0];omega,by rw[e0];omega,λD hD=>?_⟩
  rw[e0,Lp]
  refine sk (λi σ' H'=>(∃v,σ'= [v,some (.int n)])/\ai H H'/\∃vs,H' D=some (.lst vs)/\bg K H' vs ((OM.ba n).take i)) ⟨⟨none,rfl⟩,(ai.refl H).put hD (D3 hD),[],aj,.nil⟩ ?_ ?_
  ·rintro i σ' H' hi ⟨⟨v,rfl⟩,s1,vs,hv,hp⟩
   have hn0:(0:Int) < (n:Int):=by omega
   refine rR ⟨_,rfl,_,rfl,_,_,rfl,rfl,⟨hn0,by omega⟩,_,rfl,_,rfl,_,_,rfl,rfl,hn0,by show 2<=sizeLine;rw[Ld];omega,λp hp0=>?_⟩
   have hpD:D≠p:=ay hv hp0
   have hl:=hp.len
   refine⟨vs,by rw[ao hpD];exact hv,?_,⟨_,rfl⟩,?_,vs ++ [.ref p],aj,?_⟩
   ·rw[hl,LR,Ld];rw[dr];omega
   ·exact (s1.put (s1.free hp0) (D3 hp0)).put hD (G6 (xs:=vs) (by rw[ao hpD];exact hv))
   ·rw[take_snoc (Dm hi)]
    have g1:ie H' (upd H' p (.tup [.int ((0 + (i:Int)) / n),.int ((0 + (i:Int)) % n)])):=ie.new hp0
    have g2:∀o,ie (upd H' p (.tup [.int ((0 + (i:Int)) / n),.int ((0 + (i:Int)) % n)])) (upd (upd H' p (.tup [.int ((0 + (i:Int)) / n),.int ((0 + (i:Int)) % n)])) D o):=λo=>ie.list (by rw[ao hpD];exact hv)
    refine bg.snoc ?_ (hp.grow (g1.trans (g2 _)))
    refine (fw.grow ?_ (g2 _))
    refine .inl (.inl ?_)
    rw[aj,LZ];rfl
  ·rintro σ' H' ⟨_,s1,vs,hv,hp⟩
   refine⟨⟨_,hv⟩,k H' D vs s1 hD hv ?_⟩
   rw[<-dr n,take_all] at hp
   exact hp
end
end RO
end
namespace RO
open PySem L2
structure TabAt (n:Nat)(M:OM.Tb)(L:Addr)(r:Nat->Addr)(H:Hp):Prop where
 top:H L=some (.lst ((List.range n).map λi=>V.ref (r i)))
 row:∀i,i < n->H (r i)=some (.lst ((List.range n).map λj=>V.bl (M i j)))
 inj:∀i j,i < n->j < n->r i=r j->i=j
 ne:∀i,i < n->r i≠L
def xo {n x:Nat}(h:x < n):ur n (x:Int)=some x:=by
 unfold ur;rw[KH (by omega),KH (by omega)];simp
def BK {α:Type}{xs:List α}{x:Nat}(h:x < xs.length):kh xs (x:Int)=xs[x]?:=by
 unfold kh;rw[xo h];rfl
def fg {f:Nat->V}{n x:Nat}(h:x < n):kh ((List.range n).map f) (x:Int)=some (f x):=by
 rw[BK (by simpa using h),KW,LX h];rfl
def p9 {f:Nat->V}{n x:Nat}(h:x < n):ur ((List.range n).map f).length (x:Int)=some x:=by
 rw[KD,Ma];exact xo h
def yy {f:Nat->V}{n y:Nat}{v:V}:((List.range n).map f).set y v=(List.range n).map λj=>if j=y then v else f j:=by
 apply List.ext_getElem?
 intro i
 by_cases hi:i < n
 ·by_cases e:y=i
  ·subst e;simp[List.getElem?_set,hi]
  ·have e':¬i=y:=λz=>e z.symm
   simp[List.getElem?_set,hi,e,e']
 ·rw[LO (by simp;omega),LO (by simp;omega)]
section
variable {n:Nat}{M:OM.Tb}{L:Addr}{r:Nat->Addr}{H H':Hp}
def TabAt.set (T:TabAt n M L r H){x y:Nat}(hx:x < n):TabAt n (M.set x y) L r (upd H (r x) (.lst (((List.range n).map λj=>V.bl (M x j)).set y (.bl true)))):=by
 refine⟨by rw[ao (T.ne x hx).symm];exact T.top,λi hi=>?_,T.inj,T.ne⟩
 by_cases e:i=x
 ·subst e
  rw[aj,yy]
  refine congrArg _ (congrArg _ (LQ λj _=>?_))
  unfold OM.Tb.set
  by_cases c:j=y
  ·simp[c]
  ·simp[c]
 ·rw[ao (λz=>e (T.inj i x hi hx z)),T.row i hi]
  refine congrArg _ (congrArg _ (LQ λj _=>?_))
  unfold OM.Tb.set;simp[e]
def TabAt.same (T:TabAt n M L r H)(s:ai H H'):TabAt n M L r H':=⟨s _ _ T.top,λi hi=>s _ _ (T.row i hi),T.inj,T.ne⟩
end
def qE {n:Nat}{ps:List (Int×Int)}(w:OM.Wn n ps){p:Int×Int}(h:p∈ps):∃u v:Nat,p=((u:Int),(v:Int))/\u < n/\v < n:=by
 obtain⟨x,y⟩:=p
 have q:=w _ h
 simp only at q
 exact⟨x.toNat,y.toNat,by rw[Int.toNat_of_nonneg q.1.1,Int.toNat_of_nonneg q.2.1],by omega,by omega⟩
def gF {M0 M:OM.Tb}{m:Nat}{D D':Nat->Nat->Prop}(P:OM.Phase M0 M m D)(h:∀a b,D a b↔D' a b):OM.Phase M0 M m D':=λa b=>by rw[P a b,h a b]
def j7 {l:List (Int×Int)}{u v a b:Nat}:(((a:Int),(b:Int))∈l\/(a=u/\b=v))↔((a:Int),(b:Int))∈l ++ [((u:Int),(v:Int))]:=by
 rw[Lk,Lv,Prod.mk.injEq]
 constructor
 ·rintro (h | ⟨h1,h2⟩)
  ·exact .inl h
  ·exact .inr ⟨by omega,by omega⟩
 ·rintro (h | ⟨h1,h2⟩)
  ·exact .inl h
  ·exact .inr ⟨by omega,by omega⟩
def Dg {M:OM.Tb}{u v a b:Nat}:M.set u v a b=true↔M a b=true\/(a=u/\b=v):=by
 unfold OM.Tb.set
 by_cases c:a=u/\b=v
 ·simp[c]
 ·rw[KZ c];exact⟨.inl,λh=>h.resolve_right c⟩
def GH (n:Nat)(x:V):(List.replicate n [x]).flatten=(List.range n).map λ_=>x:=by
 rw[List.flatten_replicate_singleton,List.map_const',Ma]
section
variable {P:Program}{w:World}{K:Frag}{mg:Str->Option Value}{base:Heap}
def zz (K:Frag):Sp:=λvs H Q _=>∃(n:Nat) (a:Addr) (xs:List V) (ps:List (Int×Int)),vs= [.int n,.ref a]/\1<=n/\n<=8/\(fx K H a xs\/fw K H a xs)/\bg K H xs ps/\OM.Wn n ps/\
 ∀H' t ws,ai H H'->H t=none->H' t=some (.tup ws)->bg K H' ws (OM.j9 n (OM.Tr (OM.Mem ps)))->Q (.ref t) H'
def fk:aB ["many","pairs","corners","leads","a","b","middle"] ["many","pairs"] (ak kZ):=⟨rfl,rfl,rfl,by decide +kernel,rfl,by decide +kernel,by decide +kernel⟩
def HC:(["start","many"]:List Str).Nodup:=by decide +kernel
def FN:(["a","b","leads"]:List Str).Nodup:=by decide +kernel
set_option maxHeartbeats 1000000 in
theorem xM {f g:Addr}{fd gd:FuncData}(F:Fn K mg "closed" kZ ["many","pairs"] f fd)(G:Fn K mg "every_pair" i4 ["many"] g gd)(GE:ff P w K mg base u5 1 g gd ["many"] (wR K))(B:Bt mg):ff P w K mg base u5 2 f fd ["many","pairs"] (zz K):=by
 refine F.F.ok fk (λvs H Q E h=>?_) (λcdv A outer s H vs Q E hr h=>?_)
 ·obtain⟨n,a,xs,ps,rfl,_⟩:=h;rfl
 ·obtain⟨n,a,xs,ps,rfl,h1,h8,hq,hp,wn,k⟩:=h
  refine⟨_,b9 (iG (i:=2) fk.nd rfl (Or.inl rfl) (mL GE hr rfl G.mg G.F.kp G.b .nil DG (ah (pv 0) aH)))
   (b9 (iG (i:=3) fk.nd rfl (Or.inr rfl) (qP (NB:=["start","many"]) (own:=1) (ixs:=[0]) rfl (lY (by kernel_rfl)) (jQ rfl B.range (ah (pv 0) aH))
    (λC ex s3 H3 pn=>cy (i:=0) HC rfl (Or.inl rfl) (hf:=Or.inr rfl)) (λC ex s3 H3 pn=>qi) (λC ex s3 H3 pn=>mr AG (lZ (ah pF aH)) (pv 1))))
   (b9 (qr PassesOwn.never rfl (EX (pv 1)) (nW rfl (cP (cy (i:=4) fk.nd rfl (Or.inl rfl)) (cP (cy (i:=5) fk.nd rfl (Or.inl rfl)) lA)))
    (cT (nE pF (qm (jy eH (pv 3) (pv 4) (λ_ _=>rfl)) (pv 5) set_list))))
   (b9 (qr PassesOwn.never rfl (jQ rfl B.range (ah (pv 0) aH)) (cy (i:=6) fk.nd rfl (Or.inl rfl))
    (cT (qr PassesOwn.never rfl (wJ (pv 2)) (nW rfl (cP (cy (i:=4) fk.nd rfl (Or.inl rfl)) (cP (cy (i:=5) fk.nd rfl (Or.inl rfl)) lA)))
     (cT (wB (PW.pt (BA (oz (jy eH (jy eH (pv 3) (pv 4) (λ_ _=>rfl)) (pv 6) (λ_ _=>rfl))) (wD (oz (jy eH (jy eH (pv 3) (pv 6) (λ_ _=>rfl)) (pv 5) (λ_ _=>rfl))))))
      (cT (nE pF (qm (jy eH (pv 3) (pv 4) (λ_ _=>rfl)) (pv 5) set_list))) mK)))))
   (cT (hW (ij aW rfl B.tuple (by decide +kernel) (ah (qP (NB:=["a","b","leads"]) (own:=2) (ixs:=[3]) rfl (lY (by kernel_rfl)) (wJ (pv 2))
    (λC ex s3 H3 pn=>EV K 0 1 FN rfl rfl rfl rfl rfl rfl)
    (λC ex s3 H3 pn=>wu (oz (jy (Kf K) (jy (Kf K) (pv 2) (pv 0) (λ_ _=>rfl)) (pv 1) (λ_ _=>rfl)))) (λC ex s3 H3 pn=>vO (ah (pv 0) (ah (pv 1) aH)))) aH))))))),?_⟩
  have hn:=Kc h8
  have hn0:(0:Int)<=(n:Int):=by omega
  refine⟨_,rfl,n,rfl,h1,h8,λH1 c ws s1 hc0 hc hw=>?_⟩
  have hwl:ws.length=n * n:=by rw[hw.len,dr]
  have gw:OM.Wn n (OM.ba n):=λp hp=>OM.aU.mp hp
  refine uA ?_
  refine⟨_,rfl,n,rfl,by omega,by omega,λD hD=>?_⟩
  rw[Lp]
  refine sk (λi σ' H'=>(∃v,σ'= [v,some (.int n)])/\ai H1 H'/\∃r:Nat->Addr,H' D=some (.lst ((List.range i).map λk=>V.ref (r k)))/\
   (∀k,k < i->H' (r k)=some (.lst ((List.range n).map λ_=>V.bl false))/\H1 (r k)=none/\r k≠D)/\∀j k,j < i->k < i->r j=r k->j=k)
   ?_ ?_ ?_
  ·exact⟨⟨none,rfl⟩,(ai.refl H1).put hD (D3 hD),λ_=>0,aj,λk hk=>absurd hk (MN _),λj k hj=>absurd hj (MN _)⟩
  ·rintro i σ' H' hi ⟨⟨v,rfl⟩,s2,r,hr0,hr1,hr2⟩
   refine rR ⟨by show 1<=sizeLine;rw[Ld];omega,λp hp0=>⟨_,rfl,p,n,[.bl false],rfl,rfl,aj,by omega,by omega,by show 1 * (n:Int).toNat<=sizeLine;rw[Ld];omega,λq hq0=>?_⟩⟩
   have hqp:q≠p:=by intro e;subst e;rw[aj] at hq0;cases hq0
   have hq1:H' q=none:=by rw[ao hqp] at hq0;exact hq0
   have hDp:D≠p:=ay hr0 hp0
   have hDq:D≠q:=ay hr0 hq1
   rw[Lp,GH]
   refine⟨_,by rw[ao hDq,ao hDp];exact hr0,by rw[KD,Ma,Ld];omega,⟨_,rfl⟩,((s2.put (s2.free hp0) (D3 hp0)).put (s2.free hq1) (D3 hq0)).put hD (G6 (by rw[ao hDq,ao hDp];exact hr0)),λk=>if k=i then q else r k,?_,λk hk=>?_,λj k hj hk e=>?_⟩
   ·have e:(List.range i).map (λk=>V.ref (r k))=(List.range i).map (λk=>V.ref (if k=i then q else r k)):=LQ λk hk=>by
     have:=LM.mp hk
     rw[KZ (by omega)]
    rw[aj,List.range_succ,MC,e]
    simp
   ·dsimp only
    by_cases e:k=i
    ·rw[KH e]
     exact⟨by rw[ao hDq.symm,aj],s2.free hq1,hDq.symm⟩
    ·rw[KZ e]
     obtain⟨a1,a2,a3⟩:=hr1 k (by omega)
     exact⟨by rw[ao a3,ao (ay a1 hq1),ao (ay a1 hp0)];exact a1,a2,a3⟩
   ·dsimp only at e
    by_cases ej:j=i
    ·by_cases ek:k=i
     ·omega
     ·rw[KH ej,KZ ek] at e
      exact absurd e.symm (ay (hr1 k (by omega)).1 hq1)
    ·by_cases ek:k=i
     ·rw[KZ ej,KH ek] at e
      exact absurd e (ay (hr1 j (by omega)).1 hq1)
     ·rw[KZ ej,KZ ek] at e
      exact hr2 j k (by omega) (by omega) e
  rintro σ2 H2 ⟨_,s2,r,hr0,hr1,hr2⟩
  refine⟨⟨_,hr0⟩,?_⟩
  have sep:∀i,i < n->H1 (r i)=none:=λi hi=>(hr1 i hi).2.1
  have T0:TabAt n (λ_ _=>false) D r H2:=⟨hr0,λi hi=>(hr1 i hi).1,hr2,λi hi=>(hr1 i hi).2.2⟩
  refine⟨_,rfl,a,xs,rfl,Dp (H1:=H1) (CF s1 hq) (λi σ' H'=>(∃x y,σ'= [some (.int n),some (.ref a),some (.ref c),some (.ref D),x,y,none])/\ai H1 H'/\∃M,TabAt n M D r H'/\∀u v:Nat,M u v=true↔((u:Int),(v:Int))∈ps.take i)
   ⟨⟨none,none,rfl⟩,s2,_,T0,λu v=>by simp⟩ (λi σ' H' q=>q.2.1) ?_ ?_⟩
  ·rintro i x σ' H' hx ⟨⟨_,_,rfl⟩,s3,M,T,hM⟩
   obtain⟨p,hpi,b,rfl,hb⟩:=(hp.same (s1.trans s3)).at hx
   obtain⟨u,v,rfl,hu,hv⟩:=qE wn (K9 hpi)
   refine AO hb ?_
   refine⟨_,rfl,_,rfl,D,_,u,_,rfl,rfl,.inl (.inl T.top),fg hu,_,rfl,r u,_,v,v,rfl,rfl,T.row u hu,p9 hv,⟨_,_,rfl⟩,s3.put (sep u hu) (G6 (T.row u hu)),_,T.set hu,λx y=>?_⟩
   rw[take_snoc hpi,<-j7,Dg,hM]
  rintro σ3 H3 ⟨⟨x3,y3,rfl⟩,s3,M3,T3,hM3⟩
  rw[hp.len,take_all] at hM3
  refine⟨_,rfl,n,rfl,by omega,by omega,?_⟩
  rw[Lp]
  refine xP (λm σ' H'=>(∃x y z,σ'= [some (.int n),some (.ref a),some (.ref c),some (.ref D),x,y,z])/\ai H1 H'/\∃M,TabAt n M D r H'/\OM.Tab n ps M/\OM.Dl M m)
   ⟨⟨_,_,_,rfl⟩,s3,M3,T3,⟨λa b h=>by have:=wn _ ((hM3 a b).mp h);simp only at this;omega,λa b h=>(hM3 a b).mpr h,λa b h=>.one ((hM3 a b).mp h)⟩,λk a b hk=>absurd hk (MN _)⟩ ?_ ?_
  ·rintro m σ' H' hm ⟨⟨_,_,_,rfl⟩,s4,M,T,TT,Th⟩
   rw[LZ]
   refine⟨_,rfl,c,rfl,⟨ws,.inl (.inl (s4 _ _ hc))⟩,ue (xs:=ws) (λi σ' H'=>(∃x y,σ'= [some (.int n),some (.ref a),some (.ref c),some (.ref D),x,y,some (.int m)])/\ai H1 H'/\∃M',TabAt n M' D r H'/\OM.Phase M M' m λu v=>((u:Int),(v:Int))∈(OM.ba n).take i)
    ⟨⟨_,_,rfl⟩,s4,M,T,gF (OM.Phase.start M m) λa b=>by simp⟩ (λi σ' H' _ q=>.inl (.inl (q.2.1 _ _ hc))) ?_ ?_⟩
   ·rintro i x σ' H' hx ⟨⟨_,_,rfl⟩,s5,M',T',Ph⟩
    obtain⟨p,hpi,b,rfl,hb⟩:=(hw.same s5).at hx
    obtain⟨u,v,rfl,hu,hv⟩:=qE gw (K9 hpi)
    refine AO hb ?_
    have st:=Ph.step u v
    refine⟨_,rfl,_,rfl,D,_,u,_,rfl,rfl,.inl (.inl T'.top),fg hu,_,rfl,r u,_,m,_,rfl,rfl,.inl (.inl (T'.row u hu)),fg hm,_,rfl,?_⟩
    by_cases c1:M' u m=true
    ·refine Jq c1 ?_
     refine⟨_,rfl,_,rfl,D,_,m,_,rfl,rfl,.inl (.inl T'.top),fg hm,_,rfl,r m,_,v,_,rfl,rfl,.inl (.inl (T'.row m hm)),fg hv,_,rfl,?_⟩
     by_cases c2:M' m v=true
     ·refine Jq c2 ?_
      rw[KH ⟨c1,c2⟩] at st
      refine⟨_,rfl,_,rfl,D,_,u,_,rfl,rfl,.inl (.inl T'.top),fg hu,_,rfl,r u,_,v,v,rfl,rfl,T'.row u hu,p9 hv,⟨_,_,rfl⟩,s5.put (sep u hu) (G6 (T'.row u hu)),_,T'.set hu,gF st λa b=>?_⟩
      rw[take_snoc hpi];exact j7
     ·refine JP c2 ?_
      rw[KZ λz=>c2 z.2] at st
      refine⟨⟨_,_,rfl⟩,s5,_,T',gF st λa b=>?_⟩
      rw[take_snoc hpi];exact j7
    ·refine JP c1 ?_
     rw[KZ λz=>c1 z.1] at st
     refine om ⟨⟨_,_,rfl⟩,s5,_,T',gF st λa b=>?_⟩
     rw[take_snoc hpi];exact j7
   ·rintro σ' H' ⟨⟨_,_,rfl⟩,s5,M',T',Ph⟩
    rw[hw.len,take_all] at Ph
    have dn:=Ph.done (n:=n) (λa b ha hb=>OM.aU.mpr ⟨⟨by simp,by simp;omega⟩,by simp,by simp;omega⟩) TT.inn Th
    exact⟨⟨_,_,_,rfl⟩,s5,M',T',TT.phase Ph,dn.1⟩
  rintro σ4 H4 ⟨⟨x4,y4,z4,rfl⟩,s4,M,T,TT,Th⟩
  refine uA ⟨_,rfl,c,rfl,⟨ws,.inl (.inl (s4 _ _ hc))⟩,λD' hD'=>Dv (xs:=ws) (λi σ' H'=>(∃x y,σ'= [x,y,some (.ref D)])/\ai H4 H'/\∃vs,H' D'=some (.lst vs)/\bg K H' vs (((OM.ba n).take i).filter λp=>M p.1.toNat p.2.toNat))
   ⟨⟨_,_,rfl⟩,(ai.refl H4).put hD' (D3 hD'),[],aj,.nil⟩ (λi σ' H' _ q=>.inl (.inl (q.2.1 _ _ (s4 _ _ hc)))) ?_ ?_⟩
  ·rintro i x σ' H' hx ⟨⟨_,_,rfl⟩,s5,vs,hv,hpv⟩
   obtain⟨p,hpi,b,rfl,hb⟩:=(hw.same (s4.trans s5)).at hx
   obtain⟨u,v,rfl,hu,hv'⟩:=qE gw (K9 hpi)
   refine AO hb ?_
   have T':=T.same s5
   refine⟨_,rfl,_,rfl,D,_,u,_,rfl,rfl,.inl (.inl T'.top),fg hu,_,rfl,r u,_,v,_,rfl,rfl,.inl (.inl (T'.row u hu)),fg hv',_,rfl,?_⟩
   by_cases c1:M u v=true
   ·refine Jq c1 ?_
    refine⟨_,rfl,_,rfl,by show 2<=sizeLine;rw[Ld];omega,λp hp0=>?_⟩
    have hpD:D'≠p:=ay hv hp0
    refine⟨vs,by rw[ao hpD];exact hv,?_,⟨_,_,rfl⟩,(s5.put (s5.free hp0) (D3 hp0)).put hD' (G6 (by rw[ao hpD];exact hv)),_,aj,?_⟩
    ·rw[hpv.len]
     refine Nat.lt_of_le_of_lt (Mj ..) ?_
     rw[LR,dr,Ld];omega
    ·rw[take_snoc hpi,List.filter_append,List.filter_cons_of_pos (by simpa using c1),List.filter_nil]
     have g1:ie H' (upd H' p (.tup [.int u,.int v])):=ie.new hp0
     have g2:∀o,ie (upd H' p (.tup [.int u,.int v])) (upd (upd H' p (.tup [.int u,.int v])) D' o):=λo=>ie.list (by rw[ao hpD];exact hv)
     refine bg.snoc ?_ (hpv.grow (g1.trans (g2 _)))
     exact fw.grow (.inl (.inl aj)) (g2 _)
   ·refine JP c1 ?_
    refine⟨⟨_,_,rfl⟩,s5,vs,hv,?_⟩
    rw[take_snoc hpi,List.filter_append,List.filter_cons_of_neg (by simpa using c1),List.filter_nil,MM]
    exact hpv
  ·rintro σ' H' ⟨_,s5,vs,hv,hpv⟩
   rw[hw.len,take_all] at hpv
   refine⟨⟨_,hv⟩,D',vs,rfl,.inl ⟨.inl (.inl hv),λt ht=>?_⟩⟩
   have sA:ai H H':=(s1.trans s4).trans s5
   refine k _ t vs (sA.put (sA.free ht) (D3 ht)) (sA.free ht) aj ?_
   have e:((OM.ba n).filter λp=>M p.1.toNat p.2.toNat)=OM.j9 n (OM.Tr (OM.Mem ps)):=by
    unfold OM.j9
    refine Mq λp hp=>?_
    obtain⟨u,v,rfl,hu,hv⟩:=qE gw hp
    have:=TT.all wn Th u v
    simp only[Lp]
    rw[Lq,this]
    simp
   rw[e] at hpv
   exact hpv.grow (ie.new ht)
end
end RO
namespace RO
open PySem L2 RM
section
variable {P:Program}{w:World}{K:Frag}{mg:Str->Option Value}{base:Heap}{ca:Str->Addr}
def Ko {k:Nat}{f:Addr}{fd:FuncData}{ps:List Str}{sp:Sp}(F:ff P w K mg base u5 k f fd ps sp):ff P w K mg base (kW P w) k f fd ps sp:=
 ⟨F.len,λA outer s H args us vs Q E hr he hb hv hs=>MF (F.run A outer s H args us vs Q E hr he hb hv hs) λr s' h=>by
  cases r with
  |ok x=>cases x <;> exact h
  |error e=>exact h.elim⟩
def uJ {G H:Hp}(s:ai G H){ws:List V}{ps:List Pr}(h:bg K H ws ps):bg K (ka G H) ws ps:=Paired.mapP h λv p ⟨a,e,q⟩=>⟨a,e,nr s q⟩
def oN {ds:List D}(h:cG ds≠.bad):∃(n:Nat) (d:D) (ps:List Pr),ds= [.int n,d]/\kn d=some (ps.map aG)/\1<=n/\n<=8/\OM.Wn n ps/\cG ds=.ok (.tuple ((OM.j9 n (OM.Tr (OM.Mem ps))).map aG)) false:=by
 unfold cG at h
 split at h
 ·rename_i n d
  cases q:kn d with
  |none=>rw[q] at h;exact absurd rfl h
  |some es=>
   rw[q] at h
   dsimp only at h
   cases q2:g8 es with
   |none=>rw[q2] at h;exact absurd rfl h
   |some ps=>
    rw[q2] at h
    dsimp only at h
    by_cases c:1<=n/\n<=8/\OM.Wn n.toNat ps
    ·have e:((n.toNat:Nat):Int)=n:=by omega
     refine⟨n.toNat,d,ps,by rw[e],by rw[q,lV q2],by omega,by omega,c.2.2,?_⟩
     unfold cG
     dsimp only
     rw[q]
     dsimp only
     rw[q2]
     dsimp only
     rw[KH c]
    ·rw[KZ c] at h;exact absurd rfl h
 ·exact absurd rfl h
def vn {f g:Addr}{fd gd:FuncData}(F:ji K mg "closed" kZ ["many","pairs"] f fd)(E:ji K mg "every_pair" i4 ["many"] g gd)(B:jj mg):cE P w K mg base ca "closed" ["many","pairs"] 3 cG:=by
 refine⟨⟨f,fd,F.mg,F.F.kp,F.b,((Ko (xM F E (AR E B) B)).mono (by decide)).imp ?_⟩,λds h=>?_⟩
 ·rintro vs H Q X ⟨G,ds,s,hl,r,h⟩
  have hb:cG ds≠.bad:=λz=>by rw[z] at h;exact h
  obtain⟨n,d,ps,rfl,hd,h1,h8,wn,e⟩:=oN hb
  rw[e] at h
  cases r with
  |cons r1 r=>
   cases r with
   |cons r2 r=>
    cases r
    cases r1
    obtain⟨a,xs,rfl,hq,hr⟩:=(ky.seq (B:=none) (G:=G) (H:=G) (.inl r2) hd (ai.refl _))
    refine⟨n,a,xs,ps,rfl,h1,h8,hq.elim (λq=>.inl (s.seq q)) (λq=>.inr (q.grow s.grow)),(hr.pairs).grow s.grow,wn,λH' t ws hh ht ht' hp=>?_⟩
    have s2:=s.trans hh
    refine h (.ref t) (ka G H') H' hh j4 (sh s2) (λb m hb=>by rw[xC hh m];exact hb) ?_
    exact .tup (nr s2 (.inl (.inl ht'))) (bg.rps (uJ s2 hp))
 ·obtain⟨n,d,ps,rfl,_⟩:=oN h
  rfl
end
end RO
namespace RO
open PySem L2
def strsOf:List Expr->Option (List Str)
 | []=>some []
 | .Constant (.str i) _ _ :: es=>(strsOf es).map λr=>i :: r
 |_=>none
theorem wO {X:Cx}:∀{es:List Expr} {ns:List Str},strsOf es=some ns->PA X es λ_ H Q=>Q (ns.map V.str) H
 | [],ns,h=>by
  have e:ns= []:=by unfold strsOf at h;exact (Option.some.inj h).symm
  subst e
  exact aH
 |e :: es,ns,h=>by
  unfold strsOf at h
  split at h
  ·cases ‹_ :: _= []›
  ·next i a b es' heq=>
   cases heq
   cases q:strsOf es with
   |none=>rw[q] at h;cases h
   |some r=>
    rw[q] at h
    have e2:i :: r=ns:=Option.some.inj h
    subst e2
    exact ah og (wO q) rfl
  ·cases h
open RM (iD)
structure Er (mg:Str->Option Value)(R c0 c1 c2 c3 c4 c5 c6 c7 c8 c9 c10 c11:Addr):Prop where
 mR:mg "RankError"=some (.ref R)
 m0:mg "NoOrder"=some (.ref c0)
 m1:mg "NoMany"=some (.ref c1)
 m2:mg "NoPairs"=some (.ref c2)
 m3:mg "Ring"=some (.ref c3)
 m4:mg "NoThing"=some (.ref c4)
 m5:mg "NoRow"=some (.ref c5)
 m6:mg "NoRows"=some (.ref c6)
 m7:mg "NoNumber"=some (.ref c7)
 m8:mg "NoChain"=some (.ref c8)
 m9:mg "NoTurns"=some (.ref c9)
 m10:mg "NoPoints"=some (.ref c10)
 m11:mg "NoText"=some (.ref c11)
structure AA (K:Frag)(D R c0 c1 c2 c3 c4 c5 c6 c7 c8 c9 c10 c11:Addr)(j:Nat):Prop where
 ex:tZ K D
 R:PySem.W.kitOne K (.ref D) (.ref R)=some true
 V:PySem.W.kitOne K (.ref D) (.type "ValueError")=some true
 k0:PySem.W.kitOne K (.ref D) (.ref c0)=some (decide (0=j))
 k1:PySem.W.kitOne K (.ref D) (.ref c1)=some (decide (1=j))
 k2:PySem.W.kitOne K (.ref D) (.ref c2)=some (decide (2=j))
 k3:PySem.W.kitOne K (.ref D) (.ref c3)=some (decide (3=j))
 k4:PySem.W.kitOne K (.ref D) (.ref c4)=some (decide (4=j))
 k5:PySem.W.kitOne K (.ref D) (.ref c5)=some (decide (5=j))
 k6:PySem.W.kitOne K (.ref D) (.ref c6)=some (decide (6=j))
 k7:PySem.W.kitOne K (.ref D) (.ref c7)=some (decide (7=j))
 k8:PySem.W.kitOne K (.ref D) (.ref c8)=some (decide (8=j))
 k9:PySem.W.kitOne K (.ref D) (.ref c9)=some (decide (9=j))
 k10:PySem.W.kitOne K (.ref D) (.ref c10)=some (decide (10=j))
 k11:PySem.W.kitOne K (.ref D) (.ref c11)=some (decide (11=j))
 j12:j < 12
section
variable {P:Program}{w:World}{K:Frag}{mg:Str->Option Value}{base:Heap}
def xi (K:Frag)(R c0 c1 c2 c3 c4 c5 c6 c7 c8 c9 c10 c11:Addr):Sp:=λvs H Q _=>∃(ea D:Addr) (j:Nat),vs= [.ref ea]/\H ea=some (.ext (iw ea (.ref D)))/\AA K D R c0 c1 c2 c3 c4 c5 c6 c7 c8 c9 c10 c11 j/\∀H',ai H H'->Q (.str (iD.getD j "")) H'
def lE:aB ["e","found","words"] ["e"] (ak jC):=⟨rfl,rfl,rfl,by decide +kernel,rfl,by decide +kernel,by decide +kernel⟩
def sQ:∃(es:List Expr) (p1 p2 p3:Pos),bJ jC=(bJ jC).take 5 ++ .Assign [.Name "words" p1] (.List es p2) p3 :: (bJ jC).drop 6/\strsOf es=some iD:=⟨_,_,_,_,rfl,by kernel_rfl⟩
def AL (j:Nat):List Bool:=[decide (0=j),decide (1=j),decide (2=j),decide (3=j),decide (4=j),decide (5=j),decide (6=j),decide (7=j),decide (8=j),decide (9=j),decide (10=j),decide (11=j)]
def Bv:∀j,j < 12->(AL j).count true=1:=by decide +kernel
def ES:∀j,j < 12->(AL j).idxOf true=j:=by decide +kernel
def F0:∀j,j < 12->true∈AL j:=by decide +kernel
def AY (j:Nat)(h:j < 12):kh (iD.map V.str) (j:Int)=some (.str (iD.getD j "")):=by
 have:j=0\/j=1\/j=2\/j=3\/j=4\/j=5\/j=6\/j=7\/j=8\/j=9\/j=10\/j=11:=by omega
 rcases this with rfl |rfl |rfl |rfl |rfl |rfl |rfl |rfl |rfl |rfl |rfl |rfl <;> rfl
def jE {n:Nat}(h:n<=100):n<=sizeLine:=by rw[Ld];omega
set_option maxHeartbeats 2000000 in
theorem AH {f R c0 c1 c2 c3 c4 c5 c6 c7 c8 c9 c10 c11:Addr}{fd:FuncData}(F:Fn K mg "_law_marks" jC ["e"] f fd)(e:Er mg R c0 c1 c2 c3 c4 c5 c6 c7 c8 c9 c10 c11)(B:Bt mg)(hv:mg "ValueError"=none):pA P w K mg base u5 1 f fd ["e"] (xi K R c0 c1 c2 c3 c4 c5 c6 c7 c8 c9 c10 c11):=by
 refine F.F.okH lE (λvs H Q E h=>?_) (λcdv A outer s H vs Q E hr h=>?_)
 ·obtain⟨ea,D,j,rfl,_⟩:=h;rfl
 ·obtain⟨ea,D,j,rfl,hx,kt,k⟩:=h
  obtain⟨es,p1,p2,p3,hb,hes⟩:=sQ
  rw[hb]
  refine⟨_,b9 (wB (PW.pt (DY (vB (oz (bc bw rfl B.isinstance (by decide +kernel) (ah (pv 0) (ah (cz rfl e.mR (show RelV (.ref R) _ from rfl)) aH))) λ_=>rfl)) (Ad (vB (oz (bc bw rfl B.isinstance (by decide +kernel) (ah (pv 0) (ah (xt rfl hv (by decide +kernel) (show RelV (.ty "ValueError") _ from rfl)) aH))) λ_=>rfl))))) (cT (hW og)) mK)
   (b9 (iG (i:=1) lE.nd rfl (Or.inl rfl) (lZ (ah (bc bw rfl B.isinstance (by decide +kernel) (ah (pv 0) (ah (cz rfl e.m0 (show RelV (.ref c0) _ from rfl)) aH))) (ah (bc bw rfl B.isinstance (by decide +kernel) (ah (pv 0) (ah (cz rfl e.m1 (show RelV (.ref c1) _ from rfl)) aH))) (ah (bc bw rfl B.isinstance (by decide +kernel) (ah (pv 0) (ah (cz rfl e.m2 (show RelV (.ref c2) _ from rfl)) aH))) (ah (bc bw rfl B.isinstance (by decide +kernel) (ah (pv 0) (ah (cz rfl e.m3 (show RelV (.ref c3) _ from rfl)) aH))) aH))))))
   (b9 (iG (i:=1) lE.nd rfl (Or.inl rfl) (mr A5 (pv 1) (lZ (ah (bc bw rfl B.isinstance (by decide +kernel) (ah (pv 0) (ah (cz rfl e.m4 (show RelV (.ref c4) _ from rfl)) aH))) (ah (bc bw rfl B.isinstance (by decide +kernel) (ah (pv 0) (ah (cz rfl e.m5 (show RelV (.ref c5) _ from rfl)) aH))) (ah (bc bw rfl B.isinstance (by decide +kernel) (ah (pv 0) (ah (cz rfl e.m6 (show RelV (.ref c6) _ from rfl)) aH))) (ah (bc bw rfl B.isinstance (by decide +kernel) (ah (pv 0) (ah (cz rfl e.m7 (show RelV (.ref c7) _ from rfl)) aH))) aH)))))))
   (b9 (iG (i:=1) lE.nd rfl (Or.inl rfl) (mr A5 (pv 1) (lZ (ah (bc bw rfl B.isinstance (by decide +kernel) (ah (pv 0) (ah (cz rfl e.m8 (show RelV (.ref c8) _ from rfl)) aH))) (ah (bc bw rfl B.isinstance (by decide +kernel) (ah (pv 0) (ah (cz rfl e.m9 (show RelV (.ref c9) _ from rfl)) aH))) (ah (bc bw rfl B.isinstance (by decide +kernel) (ah (pv 0) (ah (cz rfl e.m10 (show RelV (.ref c10) _ from rfl)) aH))) (ah (bc bw rfl B.isinstance (by decide +kernel) (ah (pv 0) (ah (cz rfl e.m11 (show RelV (.ref c11) _ from rfl)) aH))) aH)))))))
   (b9 (wB (wY Bi (um Mb PySem.F.slot_list_count PySem.F.type_list_count yx (pv 1) (ah pF aH)) nH (a8 _)) (cT (hW og)) mK)
   (b9 (iG (i:=2) lE.nd rfl (Or.inl rfl) (lZ (wO hes)))
   (cT (hW (jy eH (pv 2) (um Mb PySem.F.slot_list_index PySem.F.type_list_index xR (pv 1) (ah pF aH)) (λ_ _=>rfl))))))))),?_⟩
  refine⟨_,rfl,ea,D,_,_,true,rfl,λu r=>r,hx,kt.ex,kt.R,_,rfl,om ?_⟩
  refine⟨_,rfl,ea,D,_,_,true,rfl,λu r=>r,hx,kt.ex,kt.V,_,rfl,om ?_⟩
  refine⟨_,rfl,ea,D,_,_,_,rfl,λu r=>r,hx,kt.ex,kt.k0,_,rfl,ea,D,_,_,_,rfl,λu r=>r,hx,kt.ex,kt.k1,_,rfl,ea,D,_,_,_,rfl,λu r=>r,hx,kt.ex,kt.k2,_,rfl,ea,D,_,_,_,rfl,λu r=>r,hx,kt.ex,kt.k3,jE (by show 4<=100;omega),λq1 h1=>?_⟩
  have s1:=ai.new (o:=.lst [.bl (decide (0=j)),.bl (decide (1=j)),.bl (decide (2=j)),.bl (decide (3=j))]) h1
  refine⟨_,rfl,_,rfl,ea,D,_,_,_,rfl,λu r=>r,s1 _ _ hx,kt.ex,kt.k4,_,rfl,ea,D,_,_,_,rfl,λu r=>r,s1 _ _ hx,kt.ex,kt.k5,_,rfl,ea,D,_,_,_,rfl,λu r=>r,s1 _ _ hx,kt.ex,kt.k6,_,rfl,ea,D,_,_,_,rfl,λu r=>r,s1 _ _ hx,kt.ex,kt.k7,jE (by show 4<=100;omega),λq2 h2=>?_⟩
  refine⟨q1,q2,_,_,rfl,rfl,ai.new h2 _ _ aj,aj,jE (by show 8<=100;omega),λq3 h3=>?_⟩
  have s2:=s1.trans (ai.new (o:=.lst [.bl (decide (4=j)),.bl (decide (5=j)),.bl (decide (6=j)),.bl (decide (7=j))]) h2)
  have s3:=s2.trans (ai.new (o:=.lst ([.bl (decide (0=j)),.bl (decide (1=j)),.bl (decide (2=j)),.bl (decide (3=j))] ++ [.bl (decide (4=j)),.bl (decide (5=j)),.bl (decide (6=j)),.bl (decide (7=j))])) h3)
  refine⟨_,rfl,_,rfl,ea,D,_,_,_,rfl,λu r=>r,s3 _ _ hx,kt.ex,kt.k8,_,rfl,ea,D,_,_,_,rfl,λu r=>r,s3 _ _ hx,kt.ex,kt.k9,_,rfl,ea,D,_,_,_,rfl,λu r=>r,s3 _ _ hx,kt.ex,kt.k10,_,rfl,ea,D,_,_,_,rfl,λu r=>r,s3 _ _ hx,kt.ex,kt.k11,jE (by show 4<=100;omega),λq4 h4=>?_⟩
  refine⟨q3,q4,_,_,rfl,rfl,ai.new h4 _ _ aj,aj,jE (by show 12<=100;omega),λq5 h5=>?_⟩
  have s5:=(s3.trans (ai.new (o:=.lst [.bl (decide (8=j)),.bl (decide (9=j)),.bl (decide (10=j)),.bl (decide (11=j))]) h4)).trans (ai.new (o:=.lst ([.bl (decide (0=j)),.bl (decide (1=j)),.bl (decide (2=j)),.bl (decide (3=j))] ++ [.bl (decide (4=j)),.bl (decide (5=j)),.bl (decide (6=j)),.bl (decide (7=j))] ++ [.bl (decide (8=j)),.bl (decide (9=j)),.bl (decide (10=j)),.bl (decide (11=j))])) h5)
  refine⟨_,rfl,.inl ⟨rfl,_,.inl (.inl aj)⟩,q5,AL j,true,rfl,rfl,.inl (.inl aj),?_⟩
  rw[Bv j kt.j12]
  refine⟨rfl,_,rfl,om ?_⟩
  refine⟨jE (by show 12<=100;decide),λq6 h6=>?_⟩
  have n56:q5≠q6:=ay aj h6
  refine⟨_,rfl,_,rfl,.inl ⟨rfl,_,.inl (.inl ((ao n56).trans aj))⟩,q5,AL j,true,rfl,rfl,.inl (.inl ((ao n56).trans aj)),F0 j kt.j12,?_⟩
  rw[ES j kt.j12]
  exact⟨q6,_,_,_,rfl,rfl,.inl (.inl aj),AY j kt.j12,k _ (s5.trans (ai.new h6))⟩
end
def EE {P:Program}{w:World}{K:Frag}{mg:Str->Option Value}{base:Heap}{ca:Str->Addr}{f R c0 c1 c2 c3 c4 c5 c6 c7 c8 c9 c10 c11:Addr}{fd:FuncData}{iO:List (Str×Nat)}(F:ji K mg "_law_marks" jC ["e"] f fd)(e:Er mg R c0 c1 c2 c3 c4 c5 c6 c7 c8 c9 c10 c11)(B:jj mg)(hv:mg "ValueError"=none)
  (ha:∀c j,iO.lookup c=some j->Mt K (.ref (ca c)) R/\AA K (ca c) R c0 c1 c2 c3 c4 c5 c6 c7 c8 c9 c10 c11 j):Di P w K mg base ca "RankError" "_law_marks" (RM.oZ iO):=by
 have O:pA P w K mg base u5 1 f fd ["e"] (xi K R c0 c1 c2 c3 c4 c5 c6 c7 c8 c9 c10 c11):=AH F e B hv
 refine⟨f,R,fd,λD x=>∃j,AA K D R c0 c1 c2 c3 c4 c5 c6 c7 c8 c9 c10 c11 j/\x=iD.getD j "",?_,F.mg,F.F.kp,F.b,e.mR,λc z h=>?_⟩
 ·exact⟨λvs H Q E q=>by obtain⟨ea,D,x,rfl,_⟩:=q;rfl,λA outer s H args us vs Q E hr he hb hv' hs=>O.run A outer s H args us vs Q E hr he hb hv' (by
   obtain⟨ea,D,x,rfl,hx,⟨j,kj,rfl⟩,q⟩:=hs
   exact⟨ea,D,j,rfl,hx,kj,q⟩)⟩
 ·unfold RM.oZ at h
  cases q:iO.lookup c with
  |none=>rw[q] at h;cases h
  |some j=>
   rw[q] at h
   cases h
   exact⟨(ha c j q).1,j,(ha c j q).2,rfl⟩
end RO
namespace HD
open PySem PySem.W
noncomputable abbrev ze:=@PySem.W.Fast.tw10156331382660048174
noncomputable abbrev Fw:=@PySem.W.Fast.tw11892475500146522536
noncomputable abbrev Je:=@PySem.W.Fast.tw6613529449190102663
noncomputable abbrev Ei:=@PySem.W.Fast.tw14364793385576792824
noncomputable abbrev DO:=@PySem.W.Fast.tw17154629097778926822
noncomputable abbrev zH:=@PySem.W.Fast.tw12822647523644345616
noncomputable def zG (p:Program):Thread:=
 ⟨do
  let code <-DO p.main
  let frame <-zH code mainNs mainNs
  let _ <-run (.body (behindTheImports p) {scope:=p.main.scope,locals:=mainNs,globals:=mainNs,cells:=[],code,frame:=some frame})
  ret .none,
  .builtin "claim.caller" {},default,[]⟩
def zU (p:Program):topStub p=zG p:=by
 unfold topStub zG DO zH
 rw[<-PySem.W.Fast.te17154629097778926822,<-PySem.W.Fast.te12822647523644345616]
noncomputable def mJ (p:Program)(w:World)(n₀:Nat)(ann:Option Value):Nat->SharedT->Thread->Option SharedT
 | 0,_,_=>none
 |n + 1,s,t=>match through t with
  |true=>some s
  |false=>match Je n₀ ann t with
   |false=>none
   |true=>match ze (Fw Ei) p w s t with
    |some (s',t')=>mJ p w n₀ ann n s' t'
    |none=>none
theorem pU {p:Program}{w:World}{n₀:Nat}{ann:Option Value}:∀{n:Nat} {s s':SharedT} {t:Thread},mJ p w n₀ ann n s t=some s'->topRun treeTable p w n₀ ann n s.abs t=some s'.abs
 | 0,_,_,_,h=>by cases h
 |n + 1,s,s',t,h=>by
  unfold mJ at h
  unfold topRun
  cases ht:through t with
  |true=>rw[ht] at h;cases h;rfl
  |false=>
   rw[ht] at h
   have hq:Je n₀ ann t=stepOk n₀ ann t:=by unfold Je;rw[<-PySem.W.Fast.te6613529449190102663]
   dsimp only at h
   rw[hq] at h
   cases hk:stepOk n₀ ann t with
   |false=>rw[hk] at h;cases h
   |true=>
    rw[hk] at h
    have hq:ze (Fw Ei) p w s t=stepT (denote treeTable) p w s t:=by unfold ze Fw Ei;rw[<-PySem.W.Fast.te10156331382660048174,<-PySem.W.Fast.te11892475500146522536,<-PySem.W.Fast.te14364793385576792824]
    dsimp only at h
    rw[hq] at h
    cases hs:stepT (denote treeTable) p w s t with
    |none=>rw[hs] at h;cases h
    |some r=>obtain⟨s₂,t₂⟩:=r;rw[hs] at h;rw[stepT_spec hs];exact pU h
def treeOf (l:List Obj):BT:=(l.foldl (λ(x:BT×Nat) o=>(x.1.ins x.2 o,x.2 + 1)) (.nil,0)).1
noncomputable def z8 (P:Params):BT:=treeOf (boot_heap P).objs.toList
abbrev rW:Nat:=11
abbrev A2:Life:={}
def boot_abs (P:Params):absHeap (z8 P) rW A2=boot_heap P:=by kernel_rfl
def xZ (w:World):((boot_heap w.params).isNs mainGlobals && (Array.mk ([]:List GenState)).size == 0,(boot_heap w.params).objs.size,(boot_heap w.params).nsMap mainGlobals "__annotations__")=(true,rW,some (.ref 6)):=by kernel_rfl
noncomputable def Bx (w:World)(os:OsState):SharedT:=⟨z8 w.params,rW,A2,Array.mk [],boot_drawn,boot_toks,os⟩
noncomputable def DR (p:Program)(w:World)(s:Shared):Bool:=staticsOk (importedModules p.main.body) (boot_heap w.params) s.heap && namesBound p s.heap && gensDone s && laidKept (boot_heap w.params) s.heap
def CD {p q:Program}{loose:List Str}{Xt:Shared->Bool}{α:Type}{Yf:Shared->α}{Ya:World->α}{N:Nat}{g0:Bool}
  (e:opening p=plainProg p.main.scope.names) (hN:Nat.ble 600 N=true) (f:∀s,fenceModules? p s=some s)
  (run:∀(w:World) (os:OsState),(mJ p w rW (some (.ref 6)) N (Bx w os) (zG p)).map (λs=>(DR p w s.abs,openSeen q loose (importedModules p.main.body) Xt g0 s.abs,Yf s.abs))=some (true,openGood q loose,Ya w)):LeftO p q loose Xt Yf Ya N g0:=λw=>by
 obtain⟨⟨h,gs,d,k,os⟩,e,e'⟩:=Option.map_eq_some_iff.mp (boot_open e hN f w)
 obtain⟨rfl,rfl,rfl,rfl⟩:h=boot_heap w.params/\gs=Array.mk []/\d=boot_drawn/\k=boot_toks:=by simpa using e'
 obtain⟨z1,z2,z3⟩:_/\_/\_:=by simpa only [Prod.mk.injEq] using xZ w
 obtain⟨s',r,ls⟩:=Option.map_eq_some_iff.mp (run w os)
 obtain⟨l1,l2,l3⟩:_/\_/\_:=by simpa only [Prod.mk.injEq] using ls
 have r:=pU r
 have ha:(Bx w os).abs=⟨boot_heap w.params,Array.mk [],boot_drawn,boot_toks,os⟩:=by
  show Shared.mk (absHeap (z8 w.params) rW A2) _ _ _ _=_
  rw[boot_abs]
  rfl
 rw[ha,<-zU] at r
 have t:topFrom treeTable p w N ⟨boot_heap w.params,Array.mk [],boot_drawn,boot_toks,os⟩=some s'.abs:=by
  unfold topFrom
  dsimp only
  rw[z1,z2,z3,r]
  show (match DR p w s'.abs with |true=>_ |false=>_)=_
  rw[l1]
 unfold openEnds
 rw[e]
 show (topFrom treeTable p w N _).map _=_
 rw[t]
 exact congrArg some (Prod.ext l2 l3)
end HD
section
namespace RO
open PySem L2 RM
def xr (K:Frag):Sp:=λvs H Q _=>∃(a:Addr) (ns:List Int),vs= [.ref a]/\fx K H a (ns.map V.int)/\∀H',ai H H'->Q (.bl true) H'
def Eo {K:Frag}{ca:Str->Addr}(vs:List V)(H:Hp)(Q:VK)(E:XK)(h:xr K vs H Q E):BO K ca 1 Fy vs H Q E:=by
 obtain⟨a,ns,rfl,hS,q⟩:=h
 refine⟨H,[cx ns],ai.refl _,rfl,.cons (.scr hS) .nil,?_⟩
 rw[HX]
 intro v G' H' s1 s2 s3 s4 fv
 have fv:Rp K G' v (.bool true):=fv
 cases fv
 exact q H' s1
def rM:aV "_law_marks" jC ["e"]:=λ_ _ _ _ _ _=>zd λ_=>rfl
def vQ:aV "is_whole" RQ.iE ["thing"]:=λ_ _ _ _ _ _=>zd λ_=>rfl
def v9:aV "is_below" RQ.ja ["thing","bound"]:=λ_ _ _ _ _ _=>ln2 λ_ _=>rfl
def yF:aV "is_many" RQ.j6 ["thing"]:=λ_ _ _ _ _ _=>zd λ_=>rfl
def xO:aV "is_pair" RQ.jV ["thing","many"]:=λ_ _ _ _ _ _=>ln2 λ_ _=>rfl
def yr:aV "is_line" RQ.jN ["thing","many"]:=λ_ _ _ _ _ _=>ln2 λ_ _=>rfl
def rh:aV "every_pair" RQ.dq ["many"]:=λ_ _ _ _ _ _=>zd λ_=>rfl
def A8:aV "closed" kZ ["many","pairs"]:=λ_ _ _ _ _ _=>ln2 λ_ _=>rfl
def uL:aV "has_ring" RQ.iK ["pairs"]:=λ_ _ _ _ _ _=>zd λ_=>rfl
def vM:aV "is_order" RQ.jb ["thing"]:=λ_ _ _ _ _ _=>zd λ_=>rfl
def qA:aV "need_order" RQ.fN ["thing"]:=λ_ _ _ _ _ _=>zd λ_=>rfl
def A4:aV "places" RQ.kO ["row"]:=λ_ _ _ _ _ _=>zd λ_=>rfl
def ph:aV "keeps_order" RQ.eT ["thing","order"]:=λ_ _ _ _ _ _=>ln2 λ_ _=>rfl
def nI:aV "stands_ahead" RQ.dF ["tables","a","b"]:=λ_ _ _ _ _ _=>JI λ_ _ _=>rfl
def nF:aV "shared_pairs" RQ.dD ["many","rows"]:=λ_ _ _ _ _ _=>ln2 λ_ _=>rfl
def uT:aV "are_rows" RQ.iH ["thing","order"]:=λ_ _ _ _ _ _=>ln2 λ_ _=>rfl
def FY:aV "tell" RQ.qy ["thing","order"]:=λ_ _ _ _ _ _=>ln2 λ_ _=>rfl
def vN:aV "is_under" RQ.je ["point","other"]:=λ_ _ _ _ _ _=>ln2 λ_ _=>rfl
def rf:aV "are_points" RQ.fI ["thing","order"]:=λ_ _ _ _ _ _=>ln2 λ_ _=>rfl
def rV:aV "points_of" RQ.gO ["order","rows"]:=λ_ _ _ _ _ _=>ln2 λ_ _=>rfl
def yb:aV "rows_by" RQ.jY ["points"]:=λ_ _ _ _ _ _=>zd λ_=>rfl
def xY:aV "rows_of" RQ.jU ["order","points"]:=λ_ _ _ _ _ _=>ln2 λ_ _=>rfl
def r6:aV "_law_cell" RQ.gG ["script","k"]:=λ_ _ _ _ _ _=>ln2 λ_ _=>rfl
def vD:aV "_law_mix" RQ.dZ ["cell","k"]:=λ_ _ _ _ _ _=>ln2 λ_ _=>rfl
def uE:aV "_law_box" RQ.iI ["script","k"]:=λ_ _ _ _ _ _=>ln2 λ_ _=>rfl
def sR:aV "_law_take" RQ.gM ["box","many"]:=λ_ _ _ _ _ _=>ln2 λ_ _=>rfl
def vR:aV "_law_odd" RQ.iJ ["box"]:=λ_ _ _ _ _ _=>zd λ_=>rfl
def mD:aV "_law_mixed_up" RQ.cS ["box","some"]:=λ_ _ _ _ _ _=>ln2 λ_ _=>rfl
def ra:aV "_law_apart" RQ.fJ ["order","a","b"]:=λ_ _ _ _ _ _=>JI λ_ _ _=>rfl
def qv:aV "_law_turns" RQ.fP ["order"]:=λ_ _ _ _ _ _=>zd λ_=>rfl
def tS:aV "_law_told" RQ.gX ["many","rows"]:=λ_ _ _ _ _ _=>ln2 λ_ _=>rfl
def sJ:aV "_law_said" RQ.gJ ["kind","order","thing"]:=λ_ _ _ _ _ _=>JI λ_ _ _=>rfl
def all_mk {l:PySem.W.OpenLaw}{w:World}{K:Frag}{h:Heap}{mg:Str->Option Value}{fa f33 R q0 q1 q2 q3 q4 q5 q6 q7 q8 q9 q10 q11:Addr}(X:K.In h)(G:h.Ns mainGlobals mg)(hfa:mg "law"=some (.ref fa))
  {od33 an33:Option Addr} {sl33:Array (Option Value)} {oc33 kV33 dc33 pm33 cd33 ct33:Value} {tMOST_THINGS:Tok}
  (F1:Fo K mg "_law_marks" jC ["e"])
  (F2:Fo K mg "is_whole" RQ.iE ["thing"])
  (F3:Fo K mg "is_below" RQ.ja ["thing","bound"])
  (F4:Fo K mg "is_many" RQ.j6 ["thing"])
  (F5:Fo K mg "is_pair" RQ.jV ["thing","many"])
  (F6:Fo K mg "is_line" RQ.jN ["thing","many"])
  (F7:Fo K mg "every_pair" RQ.dq ["many"])
  (F8:Fo K mg "closed" kZ ["many","pairs"])
  (F9:Fo K mg "has_ring" RQ.iK ["pairs"])
  (F10:Fo K mg "is_order" RQ.jb ["thing"])
  (F11:Fo K mg "need_order" RQ.fN ["thing"])
  (F12:Fo K mg "places" RQ.kO ["row"])
  (F13:Fo K mg "keeps_order" RQ.eT ["thing","order"])
  (F14:Fo K mg "stands_ahead" RQ.dF ["tables","a","b"])
  (F15:Fo K mg "shared_pairs" RQ.dD ["many","rows"])
  (F16:Fo K mg "are_rows" RQ.iH ["thing","order"])
  (F17:Fo K mg "tell" RQ.qy ["thing","order"])
  (F18:Fo K mg "is_under" RQ.je ["point","other"])
  (F19:Fo K mg "are_points" RQ.fI ["thing","order"])
  (F20:Fo K mg "points_of" RQ.gO ["order","rows"])
  (F21:Fo K mg "rows_by" RQ.jY ["points"])
  (F22:Fo K mg "rows_of" RQ.jU ["order","points"])
  (F23:Fo K mg "_law_cell" RQ.gG ["script","k"])
  (F24:Fo K mg "_law_mix" RQ.dZ ["cell","k"])
  (F25:Fo K mg "_law_box" RQ.iI ["script","k"])
  (F26:Fo K mg "_law_take" RQ.gM ["box","many"])
  (F27:Fo K mg "_law_odd" RQ.iJ ["box"])
  (F28:Fo K mg "_law_mixed_up" RQ.cS ["box","some"])
  (F29:Fo K mg "_law_apart" RQ.fJ ["order","a","b"])
  (F30:Fo K mg "_law_turns" RQ.fP ["order"])
  (F31:Fo K mg "_law_told" RQ.gX ["many","rows"])
  (F32:Fo K mg "_law_said" RQ.gJ ["kind","order","thing"])
  (a33:PySem.W.nsIn K mainGlobals "law"=some (some (.ref f33))) (l33:K.lookup f33=some ⟨oc33,od33,.func (PySem.W.fnOf "law" "law" (gS RQ.kg) (bJ RQ.kg) (ak RQ.kg) .none kV33 dc33 pm33 an33 cd33 ct33),sl33⟩) (c33:PySem.W.codeIn K cd33 "law"=true) (k33:PySem.W.keepIn K (.ref f33)=true)
  (zB:JR K=true)
  (yMOST_THINGS:PySem.W.nsIn K mainGlobals "MOST_THINGS"=some (some (.int 8 tMOST_THINGS)))
  (mR:PySem.W.nsIn K mainGlobals "RankError"=some (some (.ref R)))
  (n0:PySem.W.nsIn K mainGlobals "NoOrder"=some (some (.ref q0)))
  (n1:PySem.W.nsIn K mainGlobals "NoMany"=some (some (.ref q1)))
  (n2:PySem.W.nsIn K mainGlobals "NoPairs"=some (some (.ref q2)))
  (n3:PySem.W.nsIn K mainGlobals "Ring"=some (some (.ref q3)))
  (n4:PySem.W.nsIn K mainGlobals "NoThing"=some (some (.ref q4)))
  (n5:PySem.W.nsIn K mainGlobals "NoRow"=some (some (.ref q5)))
  (n6:PySem.W.nsIn K mainGlobals "NoRows"=some (some (.ref q6)))
  (n7:PySem.W.nsIn K mainGlobals "NoNumber"=some (some (.ref q7)))
  (n8:PySem.W.nsIn K mainGlobals "NoChain"=some (some (.ref q8)))
  (n9:PySem.W.nsIn K mainGlobals "NoTurns"=some (some (.ref q9)))
  (n10:PySem.W.nsIn K mainGlobals "NoPoints"=some (some (.ref q10)))
  (n11:PySem.W.nsIn K mainGlobals "NoText"=some (some (.ref q11)))
  (zV:PySem.W.nsIn K mainGlobals "ValueError"=some none)
  (eR:PySem.W.excIn K R [.type "ValueError",.type "Exception",.type "BaseException",.type "object"] "ValueError.__new__"=true)
  (e0:PySem.W.excIn K q0 [.type "ValueError",.type "Exception",.type "BaseException",.type "object"] "ValueError.__new__"=true)
  (e1:PySem.W.excIn K q10 [.type "ValueError",.type "Exception",.type "BaseException",.type "object"] "ValueError.__new__"=true)
  (e2:PySem.W.excIn K q6 [.type "ValueError",.type "Exception",.type "BaseException",.type "object"] "ValueError.__new__"=true)
  (up6:(L2.mroIn K q6).contains (.ref R)=true)
  (g1_6:(PySem.W.clsIn K q6).isSome=true)
  (g2_6:PySem.W.findIn K (.ref q6) "__getattribute__"=some (some (.builtin "BaseException.__getattribute__")))
  (g3_6:PySem.W.findIn K (.ref q6) "__getattr__"=some none)
  (g4_6:PySem.W.findIn K (.ref q6) "__class__"=some (some (.builtin "object.__class__")))
  (g7_6:PySem.W.mroIn K q6 (.type "object")=some true)
  (g8_6:PySem.W.mroIn K q6 (.type "BaseException")=some true)
  (kR6:PySem.W.kitOne K (.ref q6) (.ref R)=some true)
  (kV6:PySem.W.kitOne K (.ref q6) (.type "ValueError")=some true)
  (kt6_0:PySem.W.kitOne K (.ref q6) (.ref q0)=some false)
  (kt6_1:PySem.W.kitOne K (.ref q6) (.ref q1)=some false)
  (kt6_2:PySem.W.kitOne K (.ref q6) (.ref q2)=some false)
  (kt6_3:PySem.W.kitOne K (.ref q6) (.ref q3)=some false)
  (kt6_4:PySem.W.kitOne K (.ref q6) (.ref q4)=some false)
  (kt6_5:PySem.W.kitOne K (.ref q6) (.ref q5)=some false)
  (kt6_6:PySem.W.kitOne K (.ref q6) (.ref q6)=some true)
  (kt6_7:PySem.W.kitOne K (.ref q6) (.ref q7)=some false)
  (kt6_8:PySem.W.kitOne K (.ref q6) (.ref q8)=some false)
  (kt6_9:PySem.W.kitOne K (.ref q6) (.ref q9)=some false)
  (kt6_10:PySem.W.kitOne K (.ref q6) (.ref q10)=some false)
  (kt6_11:PySem.W.kitOne K (.ref q6) (.ref q11)=some false)
  (up10:(L2.mroIn K q10).contains (.ref R)=true)
  (g1_10:(PySem.W.clsIn K q10).isSome=true)
  (g2_10:PySem.W.findIn K (.ref q10) "__getattribute__"=some (some (.builtin "BaseException.__getattribute__")))
  (g3_10:PySem.W.findIn K (.ref q10) "__getattr__"=some none)
  (g4_10:PySem.W.findIn K (.ref q10) "__class__"=some (some (.builtin "object.__class__")))
  (g7_10:PySem.W.mroIn K q10 (.type "object")=some true)
  (g8_10:PySem.W.mroIn K q10 (.type "BaseException")=some true)
  (kR10:PySem.W.kitOne K (.ref q10) (.ref R)=some true)
  (kV10:PySem.W.kitOne K (.ref q10) (.type "ValueError")=some true)
  (kt10_0:PySem.W.kitOne K (.ref q10) (.ref q0)=some false)
  (kt10_1:PySem.W.kitOne K (.ref q10) (.ref q1)=some false)
  (kt10_2:PySem.W.kitOne K (.ref q10) (.ref q2)=some false)
  (kt10_3:PySem.W.kitOne K (.ref q10) (.ref q3)=some false)
  (kt10_4:PySem.W.kitOne K (.ref q10) (.ref q4)=some false)
  (kt10_5:PySem.W.kitOne K (.ref q10) (.ref q5)=some false)
  (kt10_6:PySem.W.kitOne K (.ref q10) (.ref q6)=some false)
  (kt10_7:PySem.W.kitOne K (.ref q10) (.ref q7)=some false)
  (kt10_8:PySem.W.kitOne K (.ref q10) (.ref q8)=some false)
  (kt10_9:PySem.W.kitOne K (.ref q10) (.ref q9)=some false)
  (kt10_10:PySem.W.kitOne K (.ref q10) (.ref q10)=some true)
  (kt10_11:PySem.W.kitOne K (.ref q10) (.ref q11)=some false)
  (g5:PySem.W.specialIn K (.builtin "object.__class__") "__get__"=some (some (.builtin "getset_descriptor.__get__")))
  (g6:PySem.W.takesIn K (.builtin "object.__class__")=some true)
  :∃fd:FuncData,(∀(s:Shared) (v:Value),BindsTo s fd ⟨[v],[]⟩ [("script",v)])/\∀base:Heap,K.In base->base.Ns mainGlobals mg->ff l.prog w K mg base (kW l.prog w) 9 fa fd ["script"] (xr K):=by
 have e:=hfa.symm.trans (Lj X G a33)
 cases e
 have B:jj mg:=HR X G zB
 have hV:=Lj X G yMOST_THINGS
 obtain⟨f1,d1,qZ⟩:=F1.ex
 obtain⟨f2,d2,bI⟩:=F2.ex
 obtain⟨f3,d3,bA⟩:=F3.ex
 obtain⟨f4,d4,fW⟩:=F4.ex
 obtain⟨f5,d5,bN⟩:=F5.ex
 obtain⟨f6,d6,bO⟩:=F6.ex
 obtain⟨f7,d7,aZ⟩:=F7.ex
 obtain⟨f8,d8,hZ⟩:=F8.ex
 obtain⟨f9,d9,dO⟩:=F9.ex
 obtain⟨f10,d10,dP⟩:=F10.ex
 obtain⟨f11,d11,bb⟩:=F11.ex
 obtain⟨f12,d12,aS⟩:=F12.ex
 obtain⟨f13,d13,cu⟩:=F13.ex
 obtain⟨f14,d14,cc⟩:=F14.ex
 obtain⟨f15,d15,cf⟩:=F15.ex
 obtain⟨f16,d16,dW⟩:=F16.ex
 obtain⟨f17,d17,lS⟩:=F17.ex
 obtain⟨f18,d18,eB⟩:=F18.ex
 obtain⟨f19,d19,cH⟩:=F19.ex
 obtain⟨f20,d20,cY⟩:=F20.ex
 obtain⟨f21,d21,fV⟩:=F21.ex
 obtain⟨f22,d22,fS⟩:=F22.ex
 obtain⟨f23,d23,de⟩:=F23.ex
 obtain⟨f24,d24,dR⟩:=F24.ex
 obtain⟨f25,d25,dN⟩:=F25.ex
 obtain⟨f26,d26,aM⟩:=F26.ex
 obtain⟨f27,d27,dS⟩:=F27.ex
 obtain⟨f28,d28,bP⟩:=F28.ex
 obtain⟨f29,d29,cK⟩:=F29.ex
 obtain⟨f30,d30,cj⟩:=F30.ex
 obtain⟨f31,d31,df⟩:=F31.ex
 obtain⟨f32,d32,bp⟩:=F32.ex
 have U33:=vc (st:=RQ.kg) l33 c33 k33
 have Hk:ji K mg "law" RQ.kg ["script"] fa _:=⟨Lj X G a33,U33,U33.binds (ps:=["script"]) λ_ _ _ _ _ _=>zd λ_=>rfl⟩
 obtain⟨ca,hca⟩:∃ca:Str->Addr,ca "NoOrder"=q0/\ca "NoPoints"=q10/\ca "NoRows"=q6:=⟨λs=>if s="NoOrder" then q0 else if s="NoPoints" then q10 else if s="NoRows" then q6 else 0,by first |rfl |decide |simp,by first |rfl |decide |simp,by first |rfl |decide |simp⟩
 have ik:Exc K mg ca "NoOrder":=⟨by rw[hca.1];exact Lj X G n0,by rw[hca.1];exact e0⟩
 have gj:Exc K mg ca "NoPoints":=⟨by rw[hca.2.1];exact Lj X G n10,by rw[hca.2.1];exact e1⟩
 have jF:Exc K mg ca "NoRows":=⟨by rw[hca.2.2];exact Lj X G n6,by rw[hca.2.2];exact e2⟩
 refine⟨PySem.W.fnOf "law" "law" (gS RQ.kg) (bJ RQ.kg) (ak RQ.kg) .none kV33 dc33 pm33 an33 cd33 ct33,λs v=>.of_eq rfl,λbase _ _=>?_⟩
 have er:Er mg R q0 q1 q2 q3 q4 q5 q6 q7 q8 q9 q10 q11:=⟨Lj X G mR,Lj X G n0,Lj X G n1,Lj X G n2,Lj X G n3,Lj X G n4,Lj X G n5,Lj X G n6,Lj X G n7,Lj X G n8,Lj X G n9,Lj X G n10,Lj X G n11⟩
 have kt6:AA K q6 R q0 q1 q2 q3 q4 q5 q6 q7 q8 q9 q10 q11 6:=⟨⟨g1_6,g2_6,g3_6,g4_6,g5,g6,g7_6,g8_6⟩,kR6,kV6,kt6_0,kt6_1,kt6_2,kt6_3,kt6_4,kt6_5,kt6_6,kt6_7,kt6_8,kt6_9,kt6_10,kt6_11,by decide⟩
 have mt6:Mt K (.ref q6) R:=DD e2 eR (by decide) up6
 have kt10:AA K q10 R q0 q1 q2 q3 q4 q5 q6 q7 q8 q9 q10 q11 10:=⟨⟨g1_10,g2_10,g3_10,g4_10,g5,g6,g7_10,g8_10⟩,kR10,kV10,kt10_0,kt10_1,kt10_2,kt10_3,kt10_4,kt10_5,kt10_6,kt10_7,kt10_8,kt10_9,kt10_10,kt10_11,by decide⟩
 have mt10:Mt K (.ref q10) R:=DD e1 eR (by decide) up10
 have MK:Di l.prog w K mg base ca "RankError" "_law_marks" (RM.oZ rE):=by
  refine EE qZ er B (PySem.W.mg_none_of X G zV) λc j h=>?_
  unfold rE at h
  by_cases z6:c="NoRows"
  ·subst z6
   cases h
   rw[hca.2.2];exact⟨mt6,kt6⟩
  by_cases z10:c="NoPoints"
  ·subst z10
   cases h
   rw[hca.2.1];exact⟨mt10,kt10⟩
  simp only[Mv,List.lookup_nil,beq_false_of_ne z6,beq_false_of_ne z10] at h
  cases h
 have eh:=(RQ.rA (P:=l.prog) (w:=w) (base:=base) (ca:=ca) bI B).imp Dq
 have cC:=(RQ.qJ (P:=l.prog) (w:=w) (base:=base) (ca:=ca) bA B eh).imp BQ
 have l9:=(RQ.sr (P:=l.prog) (w:=w) (base:=base) (ca:=ca) fW B eh hV).imp FI
 have uC:=RQ.mB (P:=l.prog) (w:=w) (base:=base) (ca:=ca) bN B cC
 have iq:=(RQ.mB (P:=l.prog) (w:=w) (base:=base) (ca:=ca) bN B cC).imp EB
 have dY:=RQ.tY (P:=l.prog) (w:=w) (base:=base) (ca:=ca) bO B cC
 have cI:=RQ.nO (P:=l.prog) (w:=w) (base:=base) (ca:=ca) aZ B
 have nv:=vn (P:=l.prog) (w:=w) (base:=base) (ca:=ca) hZ aZ B
 have kC:=(RQ.qO (P:=l.prog) (w:=w) (base:=base) (ca:=ca) dO B).imp FC
 have kx:=(RQ.rL (P:=l.prog) (w:=w) (base:=base) (ca:=ca) dP B l9 iq nv kC).imp vH
 have cJ:=(RQ.oJ (P:=l.prog) (w:=w) (base:=base) (ca:=ca) bb B kx ik).imp B9
 have bS:=RQ.ux (P:=l.prog) (w:=w) (base:=base) (ca:=ca) aS B
 have g9:=RQ.mG (P:=l.prog) (w:=w) (base:=base) (ca:=ca) cu B dY bS
 have gB:=RQ.lU (P:=l.prog) (w:=w) (base:=base) (ca:=ca) cc B
 have gz:=RQ.lT (P:=l.prog) (w:=w) (base:=base) (ca:=ca) cf B bS cI gB
 have ko:=RQ.rO (P:=l.prog) (w:=w) (base:=base) (ca:=ca) dW B g9
 have u4:=RQ.Br (P:=l.prog) (w:=w) (base:=base) (ca:=ca) lS B cJ ko gz
 have kK:=RQ.qY (P:=l.prog) (w:=w) (base:=base) (ca:=ca) eB B
 have i8:=RQ.nG (P:=l.prog) (w:=w) (base:=base) (ca:=ca) cH B cJ uC dY cI kK
 have jv:=RQ.oS (P:=l.prog) (w:=w) (base:=base) (ca:=ca) cY B u4 bS jF
 have l7:=RQ.tM (P:=l.prog) (w:=w) (base:=base) (ca:=ca) fV B bS
 have lN:=RQ.sF (P:=l.prog) (w:=w) (base:=base) (ca:=ca) fS B i8 l7 gj
 have jm:=RQ.oY (P:=l.prog) (w:=w) (base:=base) (ca:=ca) de B
 have kI:=RQ.qM (P:=l.prog) (w:=w) (base:=base) (ca:=ca) dR B
 have ku:=RQ.rQ (P:=l.prog) (w:=w) (base:=base) (ca:=ca) dN B jm kI
 have bQ:=RQ.oX (P:=l.prog) (w:=w) (base:=base) aM B
 have kB:=RQ.qx (P:=l.prog) (w:=w) (base:=base) dS B bQ
 have fy:=RQ.kS (P:=l.prog) (w:=w) (base:=base) bP B bQ
 have iV:=RQ.ot (P:=l.prog) (w:=w) (base:=base) (ca:=ca) cK B
 have fK:=RQ.nq (P:=l.prog) (w:=w) (base:=base) (ca:=ca) cj B iV
 have jn:=RQ.oW (P:=l.prog) (w:=w) (base:=base) (ca:=ca) df B
 have cg:=RQ.pk (P:=l.prog) (w:=w) (base:=base) (ca:=ca) bp B jv lN MK
 have GS:=RQ.Dh (P:=l.prog) (w:=w) (base:=base) (ca:=ca) Hk B ku jn cg fK bQ fy kB
 exact ff.imp (sp:=BO K ca 1 Fy) GS Eo
def walk {l:PySem.W.OpenLaw}{q:Program}{loose:List Str}{XP:(Str->Option Value)->Heap->Prop}{YP:World->Heap->Prop}{d:DefRec}{K:Params->Frag}(hn:l.most=some 63)(hdf:d.params.defaults= [])(hi:PyProof.Rows.importsNone q=true)
  (hY:∀(w:World) (h:Heap),YP w h->(K w.params).In h)
  (F:∀(w:World) (mg:Str->Option Value) (fa:Addr) (h:Heap),(K w.params).In h->h.Ns mainGlobals mg->mg d.name=some (.ref fa)->
   ∃fd:FuncData,(∀(s:Shared) (u:Value),BindsTo s fd ⟨[u],[]⟩ [("script",u)])/\∀base:Heap,(K w.params).In base->base.Ns mainGlobals mg->ff l.prog w (K w.params) mg base (kW l.prog w) 9 fa fd ["script"] (xr (K w.params))) :
  PySem.W.WalkO q loose XP YP l.row.toRowW d [] (λf vs=>PySem.call f vs):=
 L2.Cf (n:=63) (k:=9) (x:="script") (CX:=λw=>kW l.prog w) (sp:=λw=>xr (K w.params)) hn (by decide) hdf hi ⟨rfl,by decide,by decide,rfl⟩ hY F (λ_ _ a ns hl _ hS=>⟨a,ns,rfl,hS,λ_ _=>rfl⟩) λ_ _ _ _ _ z=>by
  obtain⟨_,_,_,_,_,_,_,_,_,z⟩:=z
  exact z
end RO
namespace HD
noncomputable def vw:PySem.Program:=PySem.W.view PySem.Challenge.pw_rowsorder_k32_points_and_two_rows [1,2,3,4,5,6,7,9,10,11,12,13,14,15,16,17,18,19,20,21,23,24,25,26,28,29,30,31,32,33,35,36,37,38,39,41,42,43,44,45,46,47,48,49,50,51,52]
def Ho:PySem.Challenge.rw_rowsorder_k32_points_and_two_rows.wellSaid=true:=by kernel_rfl
end HD
local macro_rules | `(tactic|o_head $H)=>`(tactic| (
 refine PySem.W.holds_open (q:=HD.vw) (loose:=[]) (Xt:=λs=>PySem.W.xlAt HD.vw [] s && PySem.W.recOk (PySem.W.RowW.records _) s) (XP:=PySem.W.XL HD.vw []) (Yf:=PySem.W.Hook.obs $H) (Ya:=PySem.W.Hook.val $H) (YP:=PySem.W.Hook.says $H) (N:=7692) ?hl (PySem.W.Hook.of $H) (PySem.W.Hook.keeps $H) (λs e=>PySem.W.xl_of s (Bool.and_eq_true_iff.mp e).1) PySem.W.XL.keeps (by rfl) (by rfl) (by rfl) (λs e=>PySem.W.recFacts_of (Bool.and_eq_true_iff.mp e).2) (by rfl) (by first |assumption |decide +kernel) (by decide +kernel) ⟨rfl,rfl,rfl,rfl,rfl,by decide +kernel⟩ ?hw ?hc
 case hl=>exact HD.CD (by kernel_rfl) (by kernel_rfl) (λs=>by kernel_rfl) (λw os=>by kernel_rfl)))
open PySem PySem.W PyProof.Rows L2
set_option maxRecDepth 100000 in
set_option maxHeartbeats 0 in
theorem PySem.Challenge.cw_rowsorder_k32_points_and_two_rows_holds : PySem.Challenge.rw_rowsorder_k32_points_and_two_rows.Holds := by
 w_on;(refine holds_law HD.Ho λHo=>?_);k_head;(case hw=>w_witness2)
 k_fill
 refine RO.walk (l:=PySem.Challenge.rw_rowsorder_k32_points_and_two_rows) rfl rfl ?hi (λw h Y=>PySem.W.kIn_of Y) ?F
 case hi=>kernel_rfl
 case F=>
  intro w mg fa h KX G hmg
  refine' RO.all_mk KX G hmg ?F1 ?F2 ?F3 ?F4 ?F5 ?F6 ?F7 ?F8 ?F9 ?F10 ?F11 ?F12 ?F13 ?F14 ?F15 ?F16 ?F17 ?F18 ?F19 ?F20 ?F21 ?F22 ?F23 ?F24 ?F25 ?F26 ?F27 ?F28 ?F29 ?F30 ?F31 ?F32 ?a33 ?l33 ?c33 ?k33 ?zB ?yMOST_THINGS ?mR ?n0 ?n1 ?n2 ?n3 ?n4 ?n5 ?n6 ?n7 ?n8 ?n9 ?n10 ?n11 ?zV ?eR ?e0 ?e1 ?e2 ?up6 ?g1_6 ?g2_6 ?g3_6 ?g4_6 ?g7_6 ?g8_6 ?kR6 ?kV6 ?kt6_0 ?kt6_1 ?kt6_2 ?kt6_3 ?kt6_4 ?kt6_5 ?kt6_6 ?kt6_7 ?kt6_8 ?kt6_9 ?kt6_10 ?kt6_11 ?up10 ?g1_10 ?g2_10 ?g3_10 ?g4_10 ?g7_10 ?g8_10 ?kR10 ?kV10 ?kt10_0 ?kt10_1 ?kt10_2 ?kt10_3 ?kt10_4 ?kt10_5 ?kt10_6 ?kt10_7 ?kt10_8 ?kt10_9 ?kt10_10 ?kt10_11 ?g5 ?g6
  case F1=>refine' bE KX G RO.rM ?a ?l ?c ?k;(case a=>k_is);(case l=>k_is);(case c=>k_is);(case k=>k_is)
  case F2=>refine' bE KX G RO.vQ ?a ?l ?c ?k;(case a=>k_is);(case l=>k_is);(case c=>k_is);(case k=>k_is)
  case F3=>refine' bE KX G RO.v9 ?a ?l ?c ?k;(case a=>k_is);(case l=>k_is);(case c=>k_is);(case k=>k_is)
  case F4=>refine' bE KX G RO.yF ?a ?l ?c ?k;(case a=>k_is);(case l=>k_is);(case c=>k_is);(case k=>k_is)
  case F5=>refine' bE KX G RO.xO ?a ?l ?c ?k;(case a=>k_is);(case l=>k_is);(case c=>k_is);(case k=>k_is)
  case F6=>refine' bE KX G RO.yr ?a ?l ?c ?k;(case a=>k_is);(case l=>k_is);(case c=>k_is);(case k=>k_is)
  case F7=>refine' bE KX G RO.rh ?a ?l ?c ?k;(case a=>k_is);(case l=>k_is);(case c=>k_is);(case k=>k_is)
  case F8=>refine' bE KX G RO.A8 ?a ?l ?c ?k;(case a=>k_is);(case l=>k_is);(case c=>k_is);(case k=>k_is)
  case F9=>refine' bE KX G RO.uL ?a ?l ?c ?k;(case a=>k_is);(case l=>k_is);(case c=>k_is);(case k=>k_is)
  case F10=>refine' bE KX G RO.vM ?a ?l ?c ?k;(case a=>k_is);(case l=>k_is);(case c=>k_is);(case k=>k_is)
  case F11=>refine' bE KX G RO.qA ?a ?l ?c ?k;(case a=>k_is);(case l=>k_is);(case c=>k_is);(case k=>k_is)
  case F12=>refine' bE KX G RO.A4 ?a ?l ?c ?k;(case a=>k_is);(case l=>k_is);(case c=>k_is);(case k=>k_is)
  case F13=>refine' bE KX G RO.ph ?a ?l ?c ?k;(case a=>k_is);(case l=>k_is);(case c=>k_is);(case k=>k_is)
  case F14=>refine' bE KX G RO.nI ?a ?l ?c ?k;(case a=>k_is);(case l=>k_is);(case c=>k_is);(case k=>k_is)
  case F15=>refine' bE KX G RO.nF ?a ?l ?c ?k;(case a=>k_is);(case l=>k_is);(case c=>k_is);(case k=>k_is)
  case F16=>refine' bE KX G RO.uT ?a ?l ?c ?k;(case a=>k_is);(case l=>k_is);(case c=>k_is);(case k=>k_is)
  case F17=>refine' bE KX G RO.FY ?a ?l ?c ?k;(case a=>k_is);(case l=>k_is);(case c=>k_is);(case k=>k_is)
  case F18=>refine' bE KX G RO.vN ?a ?l ?c ?k;(case a=>k_is);(case l=>k_is);(case c=>k_is);(case k=>k_is)
  case F19=>refine' bE KX G RO.rf ?a ?l ?c ?k;(case a=>k_is);(case l=>k_is);(case c=>k_is);(case k=>k_is)
  case F20=>refine' bE KX G RO.rV ?a ?l ?c ?k;(case a=>k_is);(case l=>k_is);(case c=>k_is);(case k=>k_is)
  case F21=>refine' bE KX G RO.yb ?a ?l ?c ?k;(case a=>k_is);(case l=>k_is);(case c=>k_is);(case k=>k_is)
  case F22=>refine' bE KX G RO.xY ?a ?l ?c ?k;(case a=>k_is);(case l=>k_is);(case c=>k_is);(case k=>k_is)
  case F23=>refine' bE KX G RO.r6 ?a ?l ?c ?k;(case a=>k_is);(case l=>k_is);(case c=>k_is);(case k=>k_is)
  case F24=>refine' bE KX G RO.vD ?a ?l ?c ?k;(case a=>k_is);(case l=>k_is);(case c=>k_is);(case k=>k_is)
  case F25=>refine' bE KX G RO.uE ?a ?l ?c ?k;(case a=>k_is);(case l=>k_is);(case c=>k_is);(case k=>k_is)
  case F26=>refine' bE KX G RO.sR ?a ?l ?c ?k;(case a=>k_is);(case l=>k_is);(case c=>k_is);(case k=>k_is)
  case F27=>refine' bE KX G RO.vR ?a ?l ?c ?k;(case a=>k_is);(case l=>k_is);(case c=>k_is);(case k=>k_is)
  case F28=>refine' bE KX G RO.mD ?a ?l ?c ?k;(case a=>k_is);(case l=>k_is);(case c=>k_is);(case k=>k_is)
  case F29=>refine' bE KX G RO.ra ?a ?l ?c ?k;(case a=>k_is);(case l=>k_is);(case c=>k_is);(case k=>k_is)
  case F30=>refine' bE KX G RO.qv ?a ?l ?c ?k;(case a=>k_is);(case l=>k_is);(case c=>k_is);(case k=>k_is)
  case F31=>refine' bE KX G RO.tS ?a ?l ?c ?k;(case a=>k_is);(case l=>k_is);(case c=>k_is);(case k=>k_is)
  case F32=>refine' bE KX G RO.sJ ?a ?l ?c ?k;(case a=>k_is);(case l=>k_is);(case c=>k_is);(case k=>k_is)
  case a33=>k_is
  case l33=>k_is
  case c33=>k_is
  case k33=>k_is
  case zB=>kernel_rfl
  case yMOST_THINGS=>k_is
  case mR=>k_is
  case n0=>k_is
  case n1=>k_is
  case n2=>k_is
  case n3=>k_is
  case n4=>k_is
  case n5=>k_is
  case n6=>k_is
  case n7=>k_is
  case n8=>k_is
  case n9=>k_is
  case n10=>k_is
  case n11=>k_is
  case zV=>k_is
  case eR=>kernel_rfl
  case e0=>kernel_rfl
  case e1=>kernel_rfl
  case e2=>kernel_rfl
  case up6=>kernel_rfl
  case g1_6=>kernel_rfl
  case g2_6=>kernel_rfl
  case g3_6=>kernel_rfl
  case g4_6=>kernel_rfl
  case g7_6=>kernel_rfl
  case g8_6=>kernel_rfl
  case kR6=>kit_is
  case kV6=>kit_is
  case kt6_0=>kit_is
  case kt6_1=>kit_is
  case kt6_2=>kit_is
  case kt6_3=>kit_is
  case kt6_4=>kit_is
  case kt6_5=>kit_is
  case kt6_6=>kit_is
  case kt6_7=>kit_is
  case kt6_8=>kit_is
  case kt6_9=>kit_is
  case kt6_10=>kit_is
  case kt6_11=>kit_is
  case up10=>kernel_rfl
  case g1_10=>kernel_rfl
  case g2_10=>kernel_rfl
  case g3_10=>kernel_rfl
  case g4_10=>kernel_rfl
  case g7_10=>kernel_rfl
  case g8_10=>kernel_rfl
  case kR10=>kit_is
  case kV10=>kit_is
  case kt10_0=>kit_is
  case kt10_1=>kit_is
  case kt10_2=>kit_is
  case kt10_3=>kit_is
  case kt10_4=>kit_is
  case kt10_5=>kit_is
  case kt10_6=>kit_is
  case kt10_7=>kit_is
  case kt10_8=>kit_is
  case kt10_9=>kit_is
  case kt10_10=>kit_is
  case kt10_11=>kit_is
  case g5=>kernel_rfl
  case g6=>kernel_rfl
end
