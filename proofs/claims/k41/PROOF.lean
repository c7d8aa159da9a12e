import PyProof.Rows.All
import Wide.All
import OpenK.AllK
import Wide.FinOn
import Lean
import PyProof.EqAt
import PyProof.EqKinds
import PyProof.TupleCall
import PySem.SetOps
import PyProof.SetKind
import PyProof.TupleKey
import PyProof.DictKinds
import PyProof.Rows.SetFrom
import PyProof.WalksMore
import KE.KSortTup
import PyProof.CollectWalk
import PyProof.ExcArgsOwn
import PyProof.Rows.CountFlat
import PyProof.Rows.SeqMore2
import PyProof.Rows.FStr
import PyProof.Rows.StrWeight2
import PyProof.Rows.StrNews
import PyProof.StrLawsTight
import PyProof.ExcBaseAll.ValueError
import PyProof.ZipIter
import PyProof.CallFns
import PyProof.Draws
import PyProof.EnumMake
import PyProof.SetRoads
import PyProof.Rows.SortWalk
import PyProof.SeqI3
import PyProof.Rows.SortShell
import PyProof.Rows.Range3
import KE.KStateDown
import PyProof.Rows.SumAny
import PyProof.ListRange
import PyProof.MaxThree
import PyProof.IsiH_list
import PyProof.RaisesAny
import KE.KDictOf
import PyProof.Rows.BitMore
import PySem.Challenge.RW_rowsorder_k41_fewest_rows
set_option Elab.async false
set_option linter.all false
set_option maxRecDepth 100000
set_option maxHeartbeats 1000000
def Mw:=@List.getElem?_eq_getElem
def My:=@if_pos
def Mz:=@PySem.wpAny_bind
def MA:=@Nat.le_refl
def MB:=@decide_eq_true
def MC:=@List.length_map
def MD:=@PySem.Heap.get?_push_of_some
def ME:=@List.mem_filter
def MF:=@List.getElem?_eq_some_iff
def MG:=@if_neg
def MH:=@List.mem_cons
def MI:=@Bool.false_ne_true
def MJ:=@PySem.Heap.lt_size
def MK:=@List.size_toArray
def ML:=@List.getElem?_map
def MM:=@List.mem_cons_self
def MN:=@List.mem_cons_of_mem
def MO:=@PySem.Heap.get?_push_size
def MP:=@Bool.and_eq_true
def MQ:=@List.getD_eq_getElem?_getD
def MR:=@decide_eq_false
def MS:=@List.mem_of_getElem?
def MT:=@decide_eq_true_eq
def MU:=@List.mem_append
def MV:=@List.all_eq_true
def MW:=@List.getElem?_set_ne
def MX:=@List.getElem?_set_self
def MY:=@List.length_append
def MZ:=@List.mem_map
def M1:=@PySem.wpAny_pure
def M4:=@List.mem_singleton
def M5:=@List.mem_append_right
def M6:=@List.getElem?_append_left
def M7:=@Nat.lt_of_lt_of_le
def M8:=@Nat.lt_irrefl
def M9:=@List.getElem?_append_right
def Na:=@Bool.eq_iff_iff
def Nb:=@List.mem_range
def Nc:=@PySem.sizeLine_eq
def Nd:=@PySem.boot_len
def Nf:=@Int.toNat_natCast
def Ng:=@of_decide_eq_true
def Nh:=@List.map_append
def Ni:=@Nat.ne_of_lt
def Nj:=@List.length_singleton
def Nk:=@List.length_filter_le
def Nl:=@Nat.zero_le
def Nm:=@List.length_cons
def Nn:=@List.nodup_cons
def Np:=@List.length_take
def Nq:=@List.length_replicate
def Nr:=@PySem.W.kia_one
def Nt:=@List.mem_iff_getElem?
def Nu:=@PySem.mem_of_lookup
def Nw:=@List.replicate_succ
def Nx:=@Nat.le_trans
def Ny:=@PySem.wpAny_truthy_bool
def Nz:=@PySem.Heap.get?_update_other
def NA:=@Bool.false_eq_true
def NC:=@List.length_range
def ND:=@List.getElem?_replicate
def NF:=@PySem.wpAny_mono
def NG:=@Nat.zero_add
def NH:=@Bool.or_eq_true
def NI:=@decide_eq_decide
def NJ:=@if_true
def NK:=@List.eq_of_mem_replicate
def NL:=@Int.zero_add
def NM:=@List.nodup_iff_pairwise_ne
def NN:=@PySem.F.plain_min_loop
def NO:=@List.getElem_mem
def NP:=@List.not_mem_nil
def NQ:=@List.set_eq_of_length_le
def NR:=@List.map_cons
def NS:=@if_false
def NT:=@List.flatten_cons
def NU:=@List.append_nil
def NV:=@List.map_congr_left
def NW:=@Nat.lt_or_ge
def NX:=@PySem.SeqAt.canLay_of_shaped
def NY:=@PySem.wpAny_holding
def NZ:=@List.any_cons
def N0:=@List.getElem?_eq_none
def N1:=@List.append_assoc
def N2:=@decide_eq_false_iff_not
def N3:=@Array.toList_append
def N4:=@Nat.mul_le_mul
def N5:=@Nat.le_of_lt
def N6:=@Int.emod_lt_of_pos
def N7:=@Array.getD_eq_getD_getElem?
def N8:=@PySem.wpAny_passesOwn
def N9:=@List.length_set
def Oa:=@Int.emod_nonneg
def Ob:=@PySem.Value.isInt_shape
def Oc:=@PySem.wpAny_pyIter_list
def Od:=@List.pairwise_map
def Oe:=@List.filter_congr
def Of:=@List.mem_append_left
def Og:=@List.mem_iff_getElem
def Oh:=@List.idxOf_lt_length_iff
def Oi:=@List.getElem?_range
def Oj:=@PySem.F.plainAttrs_list
def Ol:=@Bool.and_self
def Om:=@Bool.not_eq_true'
def Oo:=@PySem.Heap.size_push
def Oq:=@PySem.wpAny_tryCatch
def Ot:=@PyProof.Rows.callWith_type1
def Ou:=@List.length_drop
def Ov:=@Nat.eq_of_testBit_eq
def Ow:=@PySem.wpAny_newList
def Ox:=@Array.getElem?_eq_some_iff
def Oy:=@PySem.W.mg_of
def Oz:=@Nat.le_succ
def OA:=@List.pairwise_iff_getElem
def OB:=@PyProof.Rows.get?_update_seq
def OC:=@List.drop_eq_getElem_cons
def OD:=@PySem.codeAny_builtin
def OE:=@List.getLast?_eq_getElem?
def OF:=@List.mem_filterMap
def OG:=@PySem.wpAny_Call_Name_kw
def OH:=@PySem.F.args_tuple_add_2
def OI:=@List.length_erase_of_mem
def OJ:=@List.Pairwise.imp_of_mem
def OK:=@Nat.lt_trans
def OL:=@List.map_map
def ON:=@List.idxOf_append
open List (nodup_range lookup_cons all_cons all_map drop_length set_set)
open PySem.W (Frag)
open PySem.PyData (int)
section
set_option Elab.async false
namespace L2
open PySem PySem.Spec PyProof.Rows
abbrev Key:=Sum Int Str
def C8:Key->Value->Bool
 | .inl k,v=>Value.isInt k v
 | .inr x,v=>Value.isStrOf x v
def K5 (w:World):Key->Int
 | .inl k=>hashInt k
 | .inr x=>hashStr w x
theorem cm:∀{k:Key} {v:Value},C8 k v=true->(∃i t,k=Sum.inl i/\v=Value.int i t)\/(∃x t,k=Sum.inr x/\v=Value.str x t)
 | .inl i,v,h=>by
  obtain⟨t,e⟩:=Ob (k:=i) (v:=v) h
  exact .inl ⟨i,t,rfl,e⟩
 | .inr x,v,h=>by
  obtain⟨t,e⟩:=Value.isStrOf_shape (x:=x) (v:=v) h
  exact .inr ⟨x,t,rfl,e⟩
def HU (a b:Int):decide ((Sum.inl a:Key)=Sum.inl b)=(a == b):=by
 by_cases e:a=b
 ·subst e;simp
 ·have h:¬(Sum.inl a:Key)=Sum.inl b:=λq=>e (Sum.inl.inj q)
  rw[MR h]
  exact (beq_eq_false_iff_ne.mpr e).symm
def Ht (a b:Str):decide ((Sum.inr a:Key)=Sum.inr b)=decide (a=b):=by
 by_cases e:a=b
 ·subst e;simp
 ·have h:¬(Sum.inr a:Key)=Sum.inr b:=λq=>e (Sum.inr.inj q)
  rw[MR h,MR e]
def Gf (a:Int)(b:Str):decide ((Sum.inl a:Key)=Sum.inr b)=false:=MR (λq=>nomatch q)
def Hg (a:Str)(b:Int):decide ((Sum.inr a:Key)=Sum.inl b)=false:=MR (λq=>nomatch q)
def lY (prog:Program)(w:World):PySem.KeyKind prog w Key where
 is:=C8
 hash:=K5 w
 inj:=λv a b ha hb=>by
  rcases cm ha with⟨i,t,rfl,rfl⟩ | ⟨x,t,rfl,rfl⟩
  ·rcases cm hb with⟨j,u,rfl,e⟩ | ⟨y,u,rfl,e⟩
   ·injection e with e1 _;rw[e1]
   ·exact nomatch e
  ·rcases cm hb with⟨j,u,rfl,e⟩ | ⟨y,u,rfl,e⟩
   ·exact nomatch e
   ·injection e with e1 _;rw[e1]
 byValue:=λk v h=>by
  rcases cm h with⟨i,t,rfl,rfl⟩ | ⟨x,t,rfl,rfl⟩ <;> rfl
 pyHash:=λhv h=>by
  rcases cm hv with⟨i,t,rfl,rfl⟩ | ⟨x,t,rfl,rfl⟩
  ·exact wpAny_pyHash_int h
  ·exact wpAny_pyHash_str h
 eqBool:=λhu hv h=>by
  rcases cm hu with⟨i,t,rfl,rfl⟩ | ⟨x,t,rfl,rfl⟩
  ·rcases cm hv with⟨j,u,rfl,rfl⟩ | ⟨y,u,rfl,rfl⟩
   ·rw[HU] at h;exact wpAny_eqBool_int h
   ·rw[Gf] at h;exact SeqAt.EqAt.int_str i t y u _ _ _ _ h
  ·rcases cm hv with⟨j,u,rfl,rfl⟩ | ⟨y,u,rfl,rfl⟩
   ·rw[Hg] at h;exact SeqAt.EqAt.str_int x t j u _ _ _ _ h
   ·rw[Ht] at h;exact wpAny_eqBool_str h
 «strs»:=λk x t v h=>by
  rcases cm h with⟨i,u,rfl,e⟩ | ⟨y,u,rfl,e⟩
  ·exact nomatch e
  ·injection e with e1 _
   subst e1
   cases v <;> rfl
inductive V where
 |non |bl (b:Bool) |int (i:Int) |str (x:Str) |byt (b:Array UInt8) |flt (b:UInt64) |ref (a:Addr) |ty (n:String)
 deriving DecidableEq
def RelV:V->Value->Prop
 | .non,u=>u=Value.none
 | .bl b,u=>u=Value.bool b
 | .int i,u=>∃t,u=Value.int i t
 | .str x,u=>∃t,u=Value.str x t
 | .byt b,u=>∃t,u=Value.bytes b t
 | .flt b,u=>∃t,u=Value.float b t
 | .ref a,u=>u=Value.ref a
 | .ty n,u=>u=Value.type n
abbrev Vals:List V->List Value->Prop:=Paired RelV
def Vals.length {xs:List V}{us:List Value}(r:Vals xs us):xs.length=us.length:=Paired.length r
theorem Vals.get:∀{xs:List V} {us:List Value} {i:Nat} {x:V},Vals xs us->xs[i]? =some x->∃u,us[i]? =some u/\RelV x u
 |_,_,_,_,.nil,e=>by simp at e
 |_,_,0,_,.cons r _,e=>by simp at e;subst e;exact⟨_,rfl,r⟩
 |_,_,i + 1,x,.cons _ t,e=>by
  obtain⟨u,h1,h2⟩:=Vals.get (i:=i) (x:=x) t (by simpa using e)
  exact⟨u,by simpa using h1,h2⟩
theorem Vals.set {x:V}{u:Value}(r:RelV x u):∀{xs:List V} {us:List Value} (i:Nat),Vals xs us->Vals (xs.set i x) (us.set i u)
 |_,_,_,.nil=>.nil
 |_,_,0,.cons _ t=>.cons r t
 |_,_,i + 1,.cons q t=>.cons q (Vals.set r i t)
theorem Vals.append:∀{xs ys:List V} {us ws:List Value},Vals xs us->Vals ys ws->Vals (xs ++ ys) (us ++ ws)
 |_,_,_,_,.nil,s=>s
 |_,_,_,_,.cons r t,s=>.cons r (Vals.append t s)
theorem Vals.take:∀{xs:List V} {us:List Value} (n:Nat),Vals xs us->Vals (xs.take n) (us.take n)
 |_,_,0,_=>.nil
 |_,_,_ + 1,.nil=>.nil
 |_,_,n + 1,.cons r t=>.cons r (Vals.take n t)
theorem Vals.drop:∀{xs:List V} {us:List Value} (n:Nat),Vals xs us->Vals (xs.drop n) (us.drop n)
 |_,_,0,r=>r
 |_,_,_ + 1,.nil=>.nil
 |_,_,n + 1,.cons _ t=>Vals.drop n t
def Bq:Option V->Option Value->Prop
 |some v,some u=>RelV v u
 |none,none=>True
 |_,_=>False
def KV {κ:Type}:List (κ×V)->List (κ×Value)->Prop:=Paired λ(p:κ×V) (q:κ×Value)=>p.1=q.1/\RelV p.2 q.2
def kV:Key->V
 | .inl i=>.int i
 | .inr x=>.str x
inductive HO where
 |lst (xs:List V)
 |tup (xs:List V)
 |dK (kvs:List (Key×V)) |dT (kvs:List (List Key×V))
 |set (S:Int->Bool) (n:Nat)
 |ins (C dx:Addr) (fs:List (Str×V))
 |own (x:Addr)
 |xd (fs:List (Str×V))
 |met (f x:Addr)
 |fE (lo hi:Int)
 |aS (o:Obj) (u:HO)
 |tbl (ps:Array Value)
 |ext (φ:Heap->Prop)
abbrev Hp:=Addr->Option HO
def upd (H:Hp)(a:Addr)(o:HO):Hp:=λb=>if b=a then some o else H b
def aA {H:Hp}{a:Addr}{o:HO}:upd H a o a=some o:=by unfold upd;rw[My rfl]
def ay {H:Hp}{a b:Addr}{o:HO}(h:b≠a):upd H a o b=H b:=by unfold upd;rw[MG h]
def Fl {H:Hp}{a b:Addr}{o u:HO}(h:H a=some o)(h':H b=some u)(d:o≠u):a≠b:=by
 intro e;subst e;rw[h] at h';exact d (Option.some.inj h')
def aJ {H:Hp}{a b:Addr}{o:HO}(h:H a=some o)(h':H b=none):a≠b:=by
 intro e;subst e;rw[h] at h';cases h'
section
variable (P:Program)(w:World)
def ux (h:Heap)(a:Addr)(items:Array Value):Prop:=∃o,h.get? a=some o/\o.cls=.type "tuple"/\∃n,o.data=.seq items n/\o.dict=none
def ux.isTup {h:Heap}{a:Addr}{items:Array Value}(x:ux h a items):IsTup h a items:=let ⟨o,e,c,n,d,_⟩:=x;⟨o,e,c,n,d⟩
def ux.new (h:Heap)(items:Array Value):ux (h.push {cls:=.type "tuple",data:=.seq items}) h.objs.size items:=⟨_,MO _ rfl,rfl,_,rfl,rfl⟩
def cJ (H:Hp)(h:Heap)(a:Addr):HO->Prop
 | .lst xs=>xs.length<=sizeLine/\∃(its:List Value) (n:Nat),Vals xs its/\h.get? a=some {cls:=.type "list",data:=.seq its.toArray n}
 | .tup xs=>xs.length<=sizeLine/\∃its:List Value,Vals xs its/\ux h a its.toArray
 | .dK kvs=>kvs.length<=sizeLine/\(a == sysModules)=false/\∃vs,KV kvs vs/\h.DictOf (lY P w) a vs
 | .dT kvs=>kvs.length<=sizeLine/\(a == sysModules)=false/\∃xs:List (List Key×Addr×Value),
   Paired (λ(p:List Key×V) (q:List Key×Addr×Value)=>p.1=q.1/\(H q.2.1=some (.tup (p.1.map kV))\/∃o,H q.2.1=some (.aS o (.tup (p.1.map kV))))/\RelV p.2 q.2.2) kvs xs/\
   ∃o es ep,h.get? a=some o/\o.ExactDict/\o.data=.dict es ep/\es.toList=xs.map (entryOfKey (tupleKind (lY P w)))/\(xs.map (·.1)).Nodup
 | .set S n=>h.SetOf (intKind P w) a S n
 | .ins C dx fs=>H dx=some (.own a)/\fs.length<=1000/\dx≠a/\h.get? a=some (PySem.W.instObj C dx)/\
   ∃mA,h.Ns1 dx mA/\(∀f,Bq (fs.lookup f) (mA f))/\PySem.Within mA (fs.map (·.1))
 | .own _=>∃o,h.get? a=some o
 | .xd fs=>∃mA,h.Ns1 a mA/\∀f,Bq (fs.lookup f) (mA f)
 | .fE lo hi=>∃t u v,h.get? a=some {cls:=.type "range",data:=.fields #[.int lo t,.int hi u,.int 1 v]}
 | .aS o u=>h.get? a=some o/\cJ H h a u
 | .tbl ps=>h.get? a=some {cls:=.none,data:=.fields ps}
 | .met f x=>h.get? a=some (PySem.W.methodObj (.ref f) (.ref x))
 | .ext φ=>φ h/\(∃o,h.get? a=some o)/\∀h1 h2:Heap,φ h1->(∀o,h1.get? a=some o->h2.get? a=some o)->φ h2
def mi (H:Hp)(h:Heap):Prop:=∀a o,H a=some o->cJ P w H h a o
end
section
variable {P:Program}{w:World}{H H':Hp}{h h':Heap}{a:Addr}{o:HO}
theorem cJ.lt (x:cJ P w H h a o):a < h.objs.size:=by
 cases o with
 |lst xs=>obtain⟨_,_,_,_,e⟩:=x;exact MJ e
 |tup xs=>obtain⟨_,_,_,p⟩:=x;exact p.isTup.lt
 |dK kvs=>obtain⟨_,_,_,_,o,_,_,e,_⟩:=x;exact MJ e
 |dT kvs=>obtain⟨_,_,_,_,o,_,_,e,_⟩:=x;exact MJ e
 |set S n=>obtain⟨o,_,_,_,e,_⟩:=x;exact MJ e
 |ins C dx fs=>obtain⟨_,_,_,e,_⟩:=x;exact MJ e
 |own y=>obtain⟨_,e⟩:=x;exact MJ e
 |xd fs=>obtain⟨_,⟨_,_,_,e,_⟩,_⟩:=x;exact MJ e
 |fE lo hi=>obtain⟨_,_,_,e⟩:=x;exact MJ e
 |aS ob u=>obtain⟨e,_⟩:=x;exact MJ e
 |tbl ps=>exact MJ (show h.get? a=some _ from x)
 |met f y=>exact MJ (show h.get? a=some _ from x)
 |ext φ=>obtain⟨_,⟨_,e⟩,_⟩:=x;exact MJ e
theorem Paired.mapP {α β:Type}{F G:α->β->Prop}:∀{l₁:List α} {l₂:List β},Paired F l₁ l₂->(∀a b,F a b->G a b)->Paired G l₁ l₂
 |_,_,.nil,_=>.nil
 |_,_,.cons r t,f=>.cons (f _ _ r) (Paired.mapP t f)
theorem cJ.stay (x:cJ P w H h a o)(k:∀b u,(b=a\/H b=some (.own a))->h.get? b=some u->h'.get? b=some u)
  (ho:∀b,H b=some (.own a)->H' b=some (.own a)) (ht:∀b xs,(H b=some (.tup xs)\/∃o,H b=some (.aS o (.tup xs)))->(H' b=some (.tup xs)\/∃o,H' b=some (.aS o (.tup xs)))):cJ P w H' h' a o:=by
 induction o with
 |lst xs=>obtain⟨z,its,n,r,e⟩:=x;exact⟨z,its,n,r,k _ _ (.inl rfl) e⟩
 |tup xs=>obtain⟨z,its,r,ob,e,c⟩:=x;exact⟨z,its,r,ob,k _ _ (.inl rfl) e,c⟩
 |dK kvs=>obtain⟨z,y,vs,r,ob,es,ep,e,c⟩:=x;exact⟨z,y,vs,r,ob,es,ep,k _ _ (.inl rfl) e,c⟩
 |dT kvs=>
  obtain⟨z,y,xs,r,ob,es,ep,e,c⟩:=x
  exact⟨z,y,xs,Paired.mapP r λp q z=>⟨z.1,ht _ _ z.2.1,z.2.2⟩,ob,es,ep,k _ _ (.inl rfl) e,c⟩
 |set S n=>obtain⟨ob,es,ep,t,e,c⟩:=x;exact⟨ob,es,ep,t,k _ _ (.inl rfl) e,c⟩
 |ins C dx fs=>
  obtain⟨d,z,ne,e,mA,⟨od,es,ep,e2,c⟩,r⟩:=x
  exact⟨ho _ d,z,ne,k _ _ (.inl rfl) e,mA,⟨od,es,ep,k _ _ (.inr d) e2,c⟩,r⟩
 |own y=>obtain⟨ob,e⟩:=x;exact⟨ob,k _ _ (.inl rfl) e⟩
 |xd fs=>obtain⟨mA,⟨od,es,ep,e,c⟩,r⟩:=x;exact⟨mA,⟨od,es,ep,k _ _ (.inl rfl) e,c⟩,r⟩
 |fE lo hi=>obtain⟨t,u,v,e⟩:=x;exact⟨t,u,v,k _ _ (.inl rfl) e⟩
 |aS ob u ih=>obtain⟨e,q⟩:=x;exact⟨k _ _ (.inl rfl) e,ih q⟩
 |tbl ps=>
  have e:h.get? a=some {cls:=.none,data:=.fields ps}:=x
  show h'.get? a=some {cls:=.none,data:=.fields ps}
  exact k a _ (.inl rfl) e
 |met f y=>
  have e:h.get? a=some (PySem.W.methodObj (.ref f) (.ref y)):=x
  show h'.get? a=some (PySem.W.methodObj (.ref f) (.ref y))
  exact k a _ (.inl rfl) e
 |ext φ=>obtain⟨p,⟨o,e⟩,st⟩:=x;exact⟨st _ _ p λo q=>k _ _ (.inl rfl) q,⟨o,k _ _ (.inl rfl) e⟩,st⟩
def mi.lt (x:mi P w H h)(e:H a=some o):a < h.objs.size:=(x a o e).lt
theorem mi.fresh (x:mi P w H h)(e:h.objs.size<=a):H a=none:=by
 cases q:H a with
 |none=>rfl
 |some u=>exact absurd (M7 (x.lt q) e) (M8 _)
def mi.kept (x:mi P w H h)(k:∀b u,h.get? b=some u->h'.get? b=some u):mi P w H h':=λa o e=>
 (x a o e).stay (λb u _ q=>k b u q) (λ_ q=>q) λ_ _ q=>q
def mi.laid (x:mi P w H h)(k:∀b u,h.get? b=some u->h'.get? b=some u)(hp:h.objs.size<=a)(new:cJ P w (upd H a o) h' a o):mi P w (upd H a o) h':=λb u e=>by
 have hn:=x.fresh hp
 by_cases hb:b=a
 ·subst hb;rw[aA] at e;cases e;exact new
 ·rw[ay hb] at e
  exact (x b u e).stay (λc v _ q=>k c v q) (λc q=>by rw[ay (aJ q hn)];exact q) λc xs q=>q.imp (λq=>by rw[ay (aJ q hn)];exact q) λ⟨o,q⟩=>⟨o,by rw[ay (aJ q hn)];exact q⟩
end
def Rd (H:Hp)(a:Addr)(u:HO):Prop:=H a=some u\/∃o,H a=some (.aS o u)
def Rd.ok {P:Program}{w:World}{H:Hp}{h:Heap}{a:Addr}{u:HO}(r:Rd H a u)(x:mi P w H h):cJ P w H h a u:=by
 rcases r with r | ⟨o,r⟩
 ·exact x a u r
 ·obtain⟨_,q⟩:=x a _ r
  exact q
def Kq:Option HO->Prop
 |some (.lst _)=>True
 |some (.dK _)=>True
 |some (.dT _)=>True
 |some (.set _ _)=>True
 |some (.ins _ _ _)=>True
 |some (.ext _)=>True
 |_=>False
section
variable {P:Program}{w:World}{H:Hp}{h h':Heap}{x e:Addr}{o':HO}
def mi.write (ok:mi P w H h)(mu:Kq (H x))(he:e=x\/H e=some (.own x))(k:∀b u,b≠e->h.get? b=some u->h'.get? b=some u)(heo:∃u,h'.get? e=some u)
  (new:cJ P w (upd H x o') h' x o'):mi P w (upd H x o') h':=λb u q=>by
 have nown:∀c y,H c=some (.own y)->c≠x:=λc y r z=>by subst z;rw[r] at mu;exact mu
 have ntup:∀c xs,H c=some (.tup xs)->c≠x:=λc xs r z=>by subst z;rw[r] at mu;exact mu
 by_cases hb:b=x
 ·subst hb;rw[aA] at q;cases q;exact new
 ·rw[ay hb] at q
  by_cases hbe:b=e
  ·have q':H b=some (.own x):=by
    rcases he with z |z
    ·exact absurd (hbe.trans z) hb
    ·rw[hbe];exact z
   rw[q] at q';cases q'
   obtain⟨v,hv⟩:=heo
   exact⟨v,by rw[hbe];exact hv⟩
  ·refine (ok b u q).stay (λc v hc r=>k c v ?_ r) (λc r=>by rw[ay (nown c b r)];exact r) λc xs r=>r.imp (λr=>by rw[ay (ntup c xs r)];exact r) λ⟨o,r⟩=>⟨o,by rw[ay (λz=>by subst z;rw[r] at mu;exact mu)];exact r⟩
   rcases hc with rfl |hc
   ·exact hbe
   ·rintro rfl
    rcases he with z |z
    ·exact nown c b hc z
    ·rw[hc] at z;cases z;exact hb rfl
end
structure Un (fs ex:List Addr)(H H':Hp)(h h':Heap):Prop where
 keep:∀b o,h.get? b=some o->H b=none->b∉fs->b∉ex->h'.get? b=some o
 slot:∀b o,h.get? b=some o->H b=none->b∈fs->b∉ex->∃sl,h'.get? b=some {o with slots:=sl}
 free:∀b o,h.get? b=some o->H b=none->b∉ex->H' b=none
 there:∀b o,h.get? b=some o->b∉ex->∃o',h'.get? b=some o'
 tups:∀b xs,H b=some (.tup xs)->H' b=some (.tup xs)
 frzs:∀b o u,H b=some (.aS o u)->H' b=some (.aS o u)
 tbls:∀b ps,H b=some (.tbl ps)->∃more,H' b=some (.tbl (ps ++ more))
section
variable {fs fs' ex ex':List Addr}{H H1 H2:Hp}{h h1 h2 h':Heap}{a x e:Addr}{o:HO}
def Un.any (u:Un fs ex H H1 h h1){b:Addr}{ob:Obj}(q:h.get? b=some ob)(n:H b=none)(hx:b∉ex):∃sl,h1.get? b=some {ob with slots:=sl}:=by
 by_cases hb:b∈fs
 ·exact u.slot b ob q n hb hx
 ·exact⟨ob.slots,u.keep b ob q n hb hx⟩
def Un.kept (k:∀b u,h.get? b=some u->h'.get? b=some u):Un fs ex H H h h':=
 ⟨λb ob q _ _ _=>k b ob q,λb ob q _ _ _=>⟨ob.slots,k b ob q⟩,λ_ _ _ n _=>n,λb ob q _=>⟨ob,k b ob q⟩,λ_ _ q=>q,λ_ _ _ q=>q,λ_ ps q=>⟨#[],by rw[q];simp⟩⟩
def Un.refl:Un fs ex H H h h:=Un.kept λ_ _ q=>q
def Un.laid (k:∀b u,h.get? b=some u->h'.get? b=some u)(hp:h.objs.size<=a)(hn:H a=none):Un fs ex H (upd H a o) h h' where
 keep:=λb u q _ _ _=>k b u q
 slot:=λb u q _ _ _=>⟨u.slots,k b u q⟩
 free:=λb u q n _=>by rw[ay (Ni (M7 (MJ q) hp))];exact n
 there:=λb u q _=>⟨u,k b u q⟩
 tups:=λb xs q=>by rw[ay (aJ q hn)];exact q
 frzs:=λb u xs q=>by rw[ay (aJ q hn)];exact q
 tbls:=λb ps q=>⟨#[],by rw[ay (aJ q hn),q];simp⟩
def Un.write (mu:Kq (H x))(he:e=x\/H e=some (.own x))(k:∀b u,b≠e->h.get? b=some u->h'.get? b=some u)(heo:∃u,h'.get? e=some u):Un fs ex H (upd H x o) h h':=by
 have hx:∀b,H b=none->b≠x:=λb n z=>by subst z;rw[n] at mu;exact mu
 have hb:∀b,H b=none->b≠e:=λb n z=>by
  subst z
  rcases he with r |r
  ·exact hx b n r
  ·rw[n] at r;cases r
 have hm:∀b u,H b=some u->¬Kq (some u)->b≠x:=λb u q nm z=>by subst z;rw[q] at mu;exact nm mu
 refine⟨λb u q n _ _=>k b u (hb b n) q,λb u q n _ _=>⟨u.slots,k b u (hb b n) q⟩,λb u q n _=>by rw[ay (hx b n)];exact n,λb u q _=>?_,
  λb xs q=>by rw[ay (hm b _ q λz=>z)];exact q,λb u xs q=>by rw[ay (hm b _ q λz=>z)];exact q,λb ps q=>⟨#[],by rw[ay (hm b _ q λz=>z),q];simp⟩⟩
 by_cases hbe:b=e
 ·subst hbe;exact heo
 ·exact⟨u,k b u hbe q⟩
end
def Kh (h:Heap)(H:Hp):List Addr:=(List.range h.objs.size).filter λa=>(H a).isSome
def rF (h:Heap)(H:Hp):Heap:=PySem.W.hideAll h (Kh h H)
def AB (h:Heap)(H:Hp):(rF h H).objs.size=h.objs.size:=PySem.W.hideAll_size _ _
def CO {h:Heap}{H:Hp}{b:Addr}{o:Obj}(e:h.get? b=some o)(n:H b=none):(rF h H).get? b=some o:=
 PySem.W.hideAll_get _ e λhm=>by
  have q:(H b).isSome=true:=(ME.mp hm).2
  rw[n] at q;simp at q
theorem Er {h:Heap}{H:Hp}{b:Addr}{o:Obj}(e:(rF h H).get? b=some o):h.get? b=some o/\H b=none:=by
 have e':h.get? b=some o:=PySem.W.of_hideAll (Kh h H) e
 refine⟨e',?_⟩
 cases q:H b with
 |none=>rfl
 |some x=>
  have hm:b∈Kh h H:=ME.mpr ⟨Nb.mpr (MJ e'),by simp[q]⟩
  have z:(rF h H).get? b=none:=PySem.W.hideAll_none (Kh h H) hm
  rw[z] at e;cases e
def DX (g h:Heap)(L:Addr):List (Addr×Obj):=(List.range h.objs.size).filterMap λa=>if a=L\/(g.get? a).isSome=true then none else (h.get? a).map λo=>(a,o)
def rest (g h:Heap)(L d:Addr):List (Addr×Obj):=(DX g h L).filter λp=>decide (p.1≠d)
structure Mod (K:Frag)(mg:Str->Option Value)(base:Heap):Prop where
 kin:K.In base
 glob:base.Ns mainGlobals mg
 blt:∃mb,base.Ns builtinsNs mb/\∀x:Str,x≠"__name__"->mb x=bootBuiltins x
 nolimit:base.NoLimit
 sys:∃mm,base.Ns sysModules mm
structure Cx where
 prog:Program
 w:World
 K:Frag
 mg:Str->Option Value
 base:Heap
 A:Around
 N:List Str
 s₀:Shared
 H₀:Hp
 env:Env
 outer:List Env
 stack:List Env
 ex:List Addr
 fn:Str->Bool
 calm:Bool
 pn:List (Addr×Obj)
 xe:Value->Shared->Prop
def mS (l:List Env):List Addr:=l.filterMap (·.frame)
abbrev Cx.fs (X:Cx):List Addr:=mS X.outer
def y9 (sc:Scope)(x:Str):Prop:=sc.names.lookup x=some .local\/sc.names.lookup x=some .cell\/sc.names.lookup x=some .free
def Loc (sc:Scope)(x:Str):Prop:=sc.names.lookup x=some .local\/sc.names.lookup x=some .cell
def Look (env:Env)(h:Heap)(m:Str->Option Value)(x:Str)(u:Value):Prop:=
 (env.kindOf x=some .local/\m x=some u)\/((env.kindOf x=some .cell\/env.kindOf x=some .free)/\∃c,env.cells.lookup x=some c/\h.IsCell c (some u))
structure Cx.Ok (X:Cx):Prop where
 mod:Mod X.K X.mg X.base
 kind:X.env.scope.kind=.function
 glob:X.env.globals=mainGlobals
 blt:X.env.builtins=builtinsNs
 above:X.s₀.heap.objs.size<=X.env.locals
 inj:∀x y c,X.env.cells.lookup x=some c->X.env.cells.lookup y=some c->x=y
 has:∀x,(X.env.kindOf x=some .cell\/X.env.kindOf x=some .free)->∃c,X.env.cells.lookup x=some c
 cab:∀x c,X.fn x=true->X.env.cells.lookup x=some c->X.s₀.heap.objs.size<=c
 hd:X.calm=true->X.A.handled=none
 frames:X.A.frames=some X.stack
 stk:X.stack=X.outer\/(X.stack=X.env :: X.outer/\X.env.frame=some X.env.locals)
 exf:∀b∈X.ex,b≠X.env.locals/\∀x c,X.env.cells.lookup x=some c->c≠b
 bs:∀b o,X.base.get? b=some o->X.s₀.heap.get? b=some o/\X.H₀ b=none
 bsz:X.base.objs.size<=X.s₀.heap.objs.size
 noex:∀b o,X.base.get? b=some o->b∉X.ex
 exfs:∀b∈X.ex,b∉X.fs
 funs:X.s₀.heap.FunFrames X.base X.outer
 frf:∀b∈X.fs,X.H₀ b=none
structure Inv (X:Cx)(pins:List (Addr×Obj))(σ:List (Option V))(H:Hp)(s:Shared):Prop where
 ok:X.Ok
 os:s.os=X.s₀.os
 bare:AllBare s.gens
 base:Un X.fs X.ex X.H₀ H X.s₀.heap s.heap
 loc:∃m,s.heap.Ns X.env.locals m/\∀(i:Nat) (x:Str) (v:V),X.N[i]? =some x->σ[i]? =some (some v)->y9 X.env.scope x->∃u,RelV v u/\Look X.env s.heap m x u
 cell:∀x c,X.env.cells.lookup x=some c->∃v,s.heap.IsCell c v
 free:H X.env.locals=none
 freeC:∀x c,X.env.cells.lookup x=some c->H c=none
 pin:∀p∈X.pn ++ pins,s.heap.get? p.1=some p.2/\H p.1=none/\p.1≠X.env.locals/\p.1∉X.fs/\∀v,p.2.data≠.cell v
 hok:mi X.prog X.w H s.heap
 len:σ.length=X.N.length
section
variable {X:Cx}{pins:List (Addr×Obj)}{σ:List (Option V)}{H H':Hp}{s:Shared}{h':Heap}
def Cx.Ok.nofr (ok:X.Ok){b:Addr}{o:Obj}(e:X.base.get? b=some o):b∉X.fs:=λhb=>by
 have:=(ok.funs.mem hb).1
 rw[e] at this;cases this
def Inv.bs (I:Inv X pins σ H s):∀b o,X.base.get? b=some o->s.heap.get? b=some o/\H b=none:=λb o e=>
 ⟨I.base.keep b o (I.ok.bs b o e).1 (I.ok.bs b o e).2 (I.ok.nofr e) (I.ok.noex b o e),I.base.free b o (I.ok.bs b o e).1 (I.ok.bs b o e).2 (I.ok.noex b o e)⟩
def Inv.bk (I:Inv X pins σ H s):∀b o,X.base.get? b=some o->s.heap.get? b=some o:=λb o e=>(I.bs b o e).1
def Inv.mod (I:Inv X pins σ H s):Mod X.K X.mg X.base:=I.ok.mod
def Inv.kIn (I:Inv X pins σ H s):X.K.In s.heap:=I.ok.mod.kin.keeps I.bk
def Inv.lt (I:Inv X pins σ H s):X.env.locals < s.heap.objs.size:=let ⟨_,hn,_⟩:=I.loc;hn.lt
def Inv.sz (I:Inv X pins σ H s):X.s₀.heap.objs.size<=s.heap.objs.size:=Nx I.ok.above (N5 I.lt)
def Inv.nofs (I:Inv X pins σ H s){a:Addr}(h:s.heap.objs.size<=a):a∉X.fs:=λhb=>by
 obtain⟨_,o,ho,_⟩:=I.ok.funs.mem hb
 exact absurd (M7 (MJ ho) (Nx I.sz h)) (M8 _)
def Inv.cne (I:Inv X pins σ H s):∀x c,X.env.cells.lookup x=some c->c≠X.env.locals:=λx c e z=>by
 obtain⟨v,o,ho,hd⟩:=I.cell x c e
 obtain⟨m,⟨o',es,ep,ho',hd',_⟩,_⟩:=I.loc
 rw[z,ho'] at ho;cases ho;rw[hd'] at hd;cases hd
def Inv.funs (I:Inv X pins σ H s):s.heap.FunFrames X.base X.outer:=by
 have all:∀(l:List Env),(∀b∈mS l,b∈X.fs)->X.s₀.heap.FunFrames X.base l->s.heap.FunFrames X.base l:=by
  intro l
  induction l with
  |nil=>intro _ _;trivial
  |cons env r ih=>
   intro hs hl
   obtain⟨hk,⟨L,o,hf,hn,ho,hd⟩,hr⟩:=hl
   have hL:L∈X.fs:=hs L (by unfold mS;rw[List.filterMap_cons,hf];exact MM)
   obtain⟨sl,e⟩:=I.base.slot L o ho (I.ok.frf L hL) hL λz=>I.ok.exfs L z hL
   exact⟨hk,⟨L,_,hf,hn,e,hd⟩,ih (λb hb=>hs b (by unfold mS;rw[List.filterMap_cons,hf];exact MN _ hb)) hr⟩
 exact all X.outer (λ_ hb=>hb) I.ok.funs
def Inv.stack (I:Inv X pins σ H s):s.heap.FunFrames X.base X.stack:=by
 rcases I.ok.stk with e | ⟨e,hf⟩
 ·rw[e];exact I.funs
 ·rw[e]
  obtain⟨m,hn,_⟩:=I.loc
  refine .cons (by rw[I.ok.kind];decide) hf hn ?_ I.funs
  exact Heap.get?_none_of_le (Nx I.ok.bsz I.ok.above)
def Inv.stkSub (I:Inv X pins σ H s):∀b∈mS X.stack,b∈X.env.locals :: X.fs:=λb hb=>by
 rcases I.ok.stk with e | ⟨e,hf⟩
 ·rw[e] at hb;exact MN _ hb
 ·rw[e] at hb
  unfold mS at hb
  rw[List.filterMap_cons,hf] at hb
  exact hb
def Inv.stkFree (I:Inv X pins σ H s):∀b∈mS X.stack,H b=none:=λb hb=>by
 rcases MH.mp (I.stkSub b hb) with e |hb
 ·rw[e];exact I.free
 ·obtain⟨_,o,ho,_⟩:=I.ok.funs.mem hb
  exact I.base.free b o ho (I.ok.frf b hb) λz=>I.ok.exfs b z hb
def Inv.step {g':Array GenState}{t':Nat}{d':Drawn}{ch:List Addr}(I:Inv X pins σ H s)
  (hch:∀b∈ch,(b∈X.ex\/X.s₀.heap.objs.size<=b)/\b≠X.env.locals/\(∀x c,X.env.cells.lookup x=some c->c≠b)/\∀p∈X.pn ++ pins,p.1≠b)
  (keep:∀b o,b≠X.env.locals->b∉X.fs->b∉ch->s.heap.get? b=some o->H b=none->h'.get? b=some o)
  (slot:∀b o,b≠X.env.locals->b∈X.fs->b∉ch->s.heap.get? b=some o->H b=none->∃sl,h'.get? b=some {o with slots:=sl}) (free:∀b o,b∉ch->s.heap.get? b=some o->H b=none->H' b=none)
  (there:∀b o,b∉ch->s.heap.get? b=some o->∃o',h'.get? b=some o')
  (tups:∀b xs,H b=some (.tup xs)->H' b=some (.tup xs)) (frzs:∀b o u,H b=some (.aS o u)->H' b=some (.aS o u)) (tbls:∀b ps,H b=some (.tbl ps)->∃more,H' b=some (.tbl (ps ++ more)))
  (ns:∀m,s.heap.Ns X.env.locals m->h'.Ns X.env.locals m) (hok:mi X.prog X.w H' h') (hg:AllBare g') :
  Inv X pins σ H' {s with heap:=h',gens:=g',drawn:=d',toks:=t'}:=by
 have neL:∀b o,X.s₀.heap.get? b=some o->b≠X.env.locals:=λb o e=>Ni (M7 (MJ e) I.ok.above)
 have neC:∀b o,X.s₀.heap.get? b=some o->b∉X.ex->b∉ch:=λb o e hx hb=>by
  rcases (hch b hb).1 with z |z
  ·exact hx z
  ·exact absurd (M7 (MJ e) z) (M8 _)
 have cellK:∀x c,X.env.cells.lookup x=some c->∀v,s.heap.IsCell c v->h'.IsCell c v:=λx c e v ⟨o,ho,hd⟩=>by
  have nch:c∉ch:=λz=>(hch c z).2.2.1 x c e rfl
  by_cases hc:c∈X.fs
  ·obtain⟨sl,q⟩:=slot c o (I.cne x c e) hc nch ho (I.freeC x c e)
   exact⟨_,q,hd⟩
  ·exact⟨o,keep c o (I.cne x c e) hc nch ho (I.freeC x c e),hd⟩
 refine⟨I.ok,I.os,hg,⟨λb o e n hb hx=>?_,λb o e n hb hx=>?_,λb o e n hx=>?_,λb o e hx=>?_,λb xs e=>tups b xs (I.base.tups b xs e),λb o xs e=>frzs b o xs (I.base.frzs b o xs e),λb ps e=>?_⟩,?_,λx c e=>?_,?_,λx c e=>?_,λp hp=>?_,hok,I.len⟩
 ·exact keep b o (neL b o e) hb (neC b o e hx) (I.base.keep b o e n hb hx) (I.base.free b o e n hx)
 ·obtain⟨sl,e1⟩:=I.base.slot b o e n hb hx
  obtain⟨sl',e2⟩:=slot b _ (neL b o e) hb (neC b o e hx) e1 (I.base.free b o e n hx)
  exact⟨sl',e2⟩
 ·obtain⟨o',e1⟩:=I.base.there b o e hx
  exact free b o' (neC b o e hx) e1 (I.base.free b o e n hx)
 ·obtain⟨o',e1⟩:=I.base.there b o e hx
  exact there b o' (neC b o e hx) e1
 ·obtain⟨m1,e1⟩:=I.base.tbls b ps e
  obtain⟨m2,e2⟩:=tbls b _ e1
  exact⟨m1 ++ m2,by rw[e2,Array.append_assoc]⟩
 ·obtain⟨m,hn,hl⟩:=I.loc
  refine⟨m,ns m hn,λi x v e1 e2 e3=>?_⟩
  obtain⟨u,r,l⟩:=hl i x v e1 e2 e3
  refine⟨u,r,?_⟩
  rcases l with l | ⟨k,c,e,z⟩
  ·exact .inl l
  ·exact .inr ⟨k,c,e,cellK x c e _ z⟩
 ·obtain⟨v,z⟩:=I.cell x c e
  exact⟨v,cellK x c e v z⟩
 ·obtain⟨m,⟨o,_,_,ho,_⟩,_⟩:=I.loc
  exact free _ o (λz=>(hch _ z).2.1 rfl) ho I.free
 ·obtain⟨v,o,ho,hd⟩:=I.cell x c e
  exact free c o (λz=>(hch c z).2.2.1 x c e rfl) ho (I.freeC x c e)
 ·obtain⟨e,n,ne,nf,d⟩:=I.pin p hp
  have nch:p.1∉ch:=λz=>(hch p.1 z).2.2.2 p hp rfl
  exact⟨keep p.1 p.2 ne nf nch e n,free p.1 p.2 nch e n,ne,nf,d⟩
def Inv.un {t':Nat}(I:Inv X pins σ H s)(u:Un X.fs [] H H' s.heap h')(hok:mi X.prog X.w H' h'):Inv X pins σ H' {s with heap:=h',toks:=t'}:=by
 obtain⟨m,⟨o,es,ep,ho,r⟩,_⟩:=id I.loc
 obtain⟨sl,hL⟩:=u.any ho I.free (by simp)
 exact I.step (g':=s.gens) (d':=s.drawn) (ch:=[]) (λ_ z=>nomatch z) (λb o _ hb _ e n=>u.keep b o e n hb (by simp)) (λb o _ hb _ e n=>u.slot b o e n hb (by simp)) (λb o _ e n=>u.free b o e n (by simp)) (λb o _ e=>u.there b o e (by simp)) u.tups u.frzs u.tbls (λm' hm=>by
  obtain⟨o',es',ep',ho',r'⟩:=hm
  rw[ho] at ho';cases ho'
  exact⟨_,es',ep',hL,r'⟩) hok I.bare
def Inv.call {g':Array GenState}{t':Nat}{d':Drawn}{ch:List Addr}(I:Inv X pins σ H s)(u:Un (mS X.stack) ch H H' s.heap h')(hok:mi X.prog X.w H' h')(hg:AllBare g')
  (hch:∀b∈ch,(b∈X.ex\/X.s₀.heap.objs.size<=b)/\b≠X.env.locals/\(∀x c,X.env.cells.lookup x=some c->c≠b)/\∀p∈X.pn ++ pins,p.1≠b) :
  Inv X pins σ H' {s with heap:=h',gens:=g',drawn:=d',toks:=t'}:=by
 obtain⟨m,⟨o,es,ep,ho,r⟩,_⟩:=id I.loc
 obtain⟨sl,hL⟩:=u.any ho I.free λz=>(hch _ z).2.1 rfl
 exact I.step (ch:=ch) hch (λb o hL hb hc e n=>u.keep b o e n (λz=>(MH.mp (I.stkSub b z)).elim hL hb) hc) (λb o _ _ hc e n=>u.any e n hc) (λb o hc e n=>u.free b o e n hc) (λb o hc e=>u.there b o e hc) u.tups u.frzs u.tbls (λm' hm=>by
  obtain⟨o',es',ep',ho',r'⟩:=hm
  rw[ho] at ho';cases ho'
  exact⟨_,es',ep',hL,r'⟩) hok hg
def Inv.turned {t':Nat}{it:Addr}(I:Inv X pins σ H s)(k:∀b o,b≠it->s.heap.get? b=some o->h'.get? b=some o)(hn:H it=none)(hL:it≠X.env.locals)
  (h1:it∈X.ex\/X.s₀.heap.objs.size<=it) (h2:∀x c,X.env.cells.lookup x=some c->c≠it) (h3:∀p∈X.pn ++ pins,p.1≠it):Inv X pins σ H {s with heap:=h',toks:=t'}:=by
 have nit:∀b u,H b=some u->b≠it:=λb u e z=>by rw[z,hn] at e;cases e
 refine I.step (g':=s.gens) (d':=s.drawn) (ch:=[it]) (λb hb=>?_) (λb o _ _ hc e _=>k b o (λz=>hc (by simp[z])) e) (λb o _ _ hc e _=>⟨o.slots,k b o (λz=>hc (by simp[z])) e⟩) (λ_ _ _ _ n=>n)
  (λb o hc e=>⟨o,k b o (λz=>hc (by simp[z])) e⟩) (λ_ _ e=>e) (λ_ _ _ e=>e) (λb ps e=>⟨#[],by rw[e];simp⟩) (λm hm=>?_) (λb u e=>?_) I.bare
 ·have e:b=it:=by simpa using hb
  subst e
  exact⟨h1,hL,h2,h3⟩
 ·obtain⟨o,es,ep,ho,r⟩:=hm
  exact⟨o,es,ep,k _ o (Ne.symm hL) ho,r⟩
 ·refine (I.hok b u e).stay (λc v hc q=>k c v ?_ q) (λ_ q=>q) λ_ _ q=>q
  rcases hc with z |z
  ·rw[z];exact nit b u e
  ·exact nit c _ z
def Inv.tok (I:Inv X pins σ H s)(t:Nat):Inv X pins σ H {s with toks:=t}:=I.un (h':=s.heap) (t':=t) Un.refl I.hok
def Inv.kept {t':Nat}(I:Inv X pins σ H s)(k:∀b u,s.heap.get? b=some u->h'.get? b=some u):Inv X pins σ H {s with heap:=h',toks:=t'}:=I.un (Un.kept k) (I.hok.kept k)
def Inv.laid {a:Addr}{o:HO}{t':Nat}(I:Inv X pins σ H s)(k:∀b u,s.heap.get? b=some u->h'.get? b=some u)(hp:s.heap.objs.size<=a)(new:cJ X.prog X.w (upd H a o) h' a o) :
  Inv X pins σ (upd H a o) {s with heap:=h',toks:=t'}:=I.un (Un.laid k hp (I.hok.fresh hp)) (I.hok.laid k hp new)
def Inv.write {x e:Addr}{o:HO}{t':Nat}(I:Inv X pins σ H s)(mu:Kq (H x))(he:e=x\/H e=some (.own x))(k:∀b u,b≠e->s.heap.get? b=some u->h'.get? b=some u)(heo:∃u,h'.get? e=some u)
  (new:cJ X.prog X.w (upd H x o) h' x o):Inv X pins σ (upd H x o) {s with heap:=h',toks:=t'}:=I.un (Un.write mu he k heo) (I.hok.write mu he k heo new)
def Inv.pins_of {pins':List (Addr×Obj)}(I:Inv X pins σ H s)(h:∀p∈pins',s.heap.get? p.1=some p.2/\H p.1=none/\p.1≠X.env.locals/\p.1∉X.fs/\∀v,p.2.data≠.cell v):Inv X pins' σ H s:=
 ⟨I.ok,I.os,I.bare,I.base,I.loc,I.cell,I.free,I.freeC,λp hp=>(MU.mp hp).elim (λz=>I.pin p (Of _ z)) (h p),I.hok,I.len⟩
def va {N:List Str}(hN:N.Nodup){i j:Nat}{x:Str}(a:N[i]? =some x)(b:N[j]? =some x):i=j:=by
 obtain⟨h1,e1⟩:=MF.mp a
 obtain⟨h2,e2⟩:=MF.mp b
 exact (List.getElem_inj hN).mp (e1.trans e2.symm)
def r0 {M:Model}{A:Around}{E:Value->Shared->Prop}{i:Nat}{x:Str}{v:V}{u:Value}{Q:Unit->Shared->Prop}(I:Inv X pins σ H s)(hN:X.N.Nodup)(hi:X.N[i]? =some x)(hx:Loc X.env.scope x)(r:RelV v u)
  (h:∀s',Inv X pins (σ.set i (some v)) H s'->(∃a,Heap.SameBut a s.heap s'.heap/\(a=X.env.locals\/X.env.cells.lookup x=some a))->Q () s') (hf:X.fn x=true\/X.env.scope.names.lookup x=some .local:=by first |exact .inl rfl |exact .inr rfl |assumption):wpAny M A (storeName X.env x u) Q E s:=by
 obtain⟨m,hn,hl⟩:=id I.loc
 have hcls:(X.env.scope.kind == .class || (X.env.scope.kind == .module && X.env.locals != X.env.globals))=false:=by rw[I.ok.kind];rfl
 have hiσ:i < σ.length:=by rw[I.len];exact (MF.mp hi).1
 have cne:=I.cne
 have tracked:∀{a:Addr} {h':Heap},(∃o,s.heap.get? a=some o/\H a=none)->Heap.SameBut a s.heap h'->mi X.prog X.w H h':=λ{a h'} ha hs b ob e=>by
  obtain⟨_,_,hfree⟩:=ha
  refine (I.hok b ob e).stay (λc w' hc q=>(hs.2 c ?_).trans q) (λ_ q=>q) λ_ _ q=>q
  rintro rfl
  rcases hc with rfl |hc
  ·rw[hfree] at e;cases e
  ·rw[hfree] at hc;cases hc
 rcases hx with hk |hk
 ·refine wpAny_storeName_local hk hn (λh' hn' hs=>?_) hcls
  obtain⟨oL,_,_,hoL,_⟩:=id hn
  refine h _ ⟨I.ok,I.os,I.bare,⟨λb o e n hb hx=>?_,λb o e n hb hx=>?_,I.base.free,λb o e hx=>?_,I.base.tups,I.base.frzs,I.base.tbls⟩,⟨_,hn',λj y v' e1 e2 e3=>?_⟩,λy c e=>?_,I.free,I.freeC,λp hp=>?_,tracked ⟨oL,hoL,I.free⟩ hs,by simpa using I.len⟩ ⟨_,hs,.inl rfl⟩
  ·exact (hs.2 b (Ni (M7 (MJ e) I.ok.above))).trans (I.base.keep b o e n hb hx)
  ·obtain⟨sl,e1⟩:=I.base.slot b o e n hb hx
   exact⟨sl,(hs.2 b (Ni (M7 (MJ e) I.ok.above))).trans e1⟩
  ·obtain⟨o',e1⟩:=I.base.there b o e hx
   exact⟨o',(hs.2 b (Ni (M7 (MJ e) I.ok.above))).trans e1⟩
  ·by_cases hj:j=i
   ·subst hj
    rw[hi] at e1;cases e1
    rw[MX hiσ] at e2
    cases e2
    exact⟨u,r,.inl ⟨hk,by simp⟩⟩
   ·rw[MW (Ne.symm hj)] at e2
    obtain⟨u',r',q⟩:=hl j y v' e1 e2 e3
    refine⟨u',r',?_⟩
    rcases q with⟨k,e⟩ | ⟨k,c,e,z⟩
    ·refine .inl ⟨k,?_⟩
     have:y≠x:=λe=>hj (va hN e1 (e▸hi))
     simp[this,e]
    ·exact .inr ⟨k,c,e,z.sameBut hs (cne y c e)⟩
  ·obtain⟨w',z⟩:=I.cell y c e
   exact⟨w',z.sameBut hs (cne y c e)⟩
  ·obtain⟨e,n,ne,nf,d⟩:=I.pin p hp
   exact⟨(hs.2 p.1 ne).trans e,n,ne,nf,d⟩
 ·have hfn:X.fn x=true:=by
   rcases hf with z |z
   ·exact z
   ·rw[z] at hk;cases hk
  obtain⟨c,hc⟩:=I.ok.has x (.inl hk)
  obtain⟨w',z⟩:=I.cell x c hc
  refine wpAny_storeName_cell I.ok.kind hk hc z (λh' hc' hs=>?_)
  obtain⟨oc,hoc,hocd⟩:=id z
  refine h {s with heap:=h'} ⟨I.ok,I.os,I.bare,⟨λb o e n hb hx=>?_,λb o e n hb hx=>?_,I.base.free,λb o e hx=>?_,I.base.tups,I.base.frzs,I.base.tbls⟩,⟨m,hn.sameBut hs (Ne.symm (cne x c hc)),λj y v' e1 e2 e3=>?_⟩,λy c' e=>?_,I.free,I.freeC,λp hp=>?_,tracked ⟨oc,hoc,I.freeC x c hc⟩ hs,by simpa using I.len⟩ ⟨c,hs,.inr hc⟩
  ·exact (hs.2 b (Ni (M7 (MJ e) (I.ok.cab x c hfn hc)))).trans (I.base.keep b o e n hb hx)
  ·obtain⟨sl,e1⟩:=I.base.slot b o e n hb hx
   exact⟨sl,(hs.2 b (Ni (M7 (MJ e) (I.ok.cab x c hfn hc)))).trans e1⟩
  ·obtain⟨o',e1⟩:=I.base.there b o e hx
   exact⟨o',(hs.2 b (Ni (M7 (MJ e) (I.ok.cab x c hfn hc)))).trans e1⟩
  ·by_cases hj:j=i
   ·subst hj
    rw[hi] at e1;cases e1
    rw[MX hiσ] at e2
    cases e2
    exact⟨u,r,.inr ⟨.inl hk,c,hc,hc'⟩⟩
   ·rw[MW (Ne.symm hj)] at e2
    obtain⟨u',r',q⟩:=hl j y v' e1 e2 e3
    refine⟨u',r',?_⟩
    rcases q with q | ⟨k,c',e,z'⟩
    ·exact .inl q
    ·refine .inr ⟨k,c',e,z'.sameBut hs ?_⟩
     rintro rfl
     exact hj (va hN e1 (I.ok.inj _ _ _ e hc▸hi))
  ·by_cases hcc:c'=c
   ·subst hcc;exact⟨_,hc'⟩
   ·obtain⟨w2,z2⟩:=I.cell y c' e
    exact⟨w2,z2.sameBut hs hcc⟩
  ·obtain⟨e,n,ne,nf,d⟩:=I.pin p hp
   refine⟨(hs.2 p.1 ?_).trans e,n,ne,nf,d⟩
   intro q
   rw[q,hoc] at e
   have q':oc=p.2:=Option.some.inj e
   exact d w' (by rw[<-q'];exact hocd)
def ni {M:Model}{A:Around}{E:Value->Shared->Prop}{i:Nat}{x:Str}{v:V}{u:Value}{Q:Unit->Shared->Prop}(I:Inv X pins σ H s)(hN:X.N.Nodup)(hi:X.N[i]? =some x)(hx:Loc X.env.scope x)(r:RelV v u)
  (h:∀s',Inv X pins (σ.set i (some v)) H s'->Q () s') (hf:X.fn x=true\/X.env.scope.names.lookup x=some .local:=by first |exact .inl rfl |exact .inr rfl |assumption):wpAny M A (storeName X.env x u) Q E s:=
 r0 I hN hi hx r (λs' I' _=>h s' I') hf
def Inv.call' {s':Shared}{ch:List Addr}(I:Inv X pins σ H s)(ho:s'.os=s.os)(u:Un (mS X.stack) ch H H' s.heap s'.heap)(hok:mi X.prog X.w H' s'.heap)(hg:AllBare s'.gens)
  (hch:∀b∈ch,(b∈X.ex\/X.s₀.heap.objs.size<=b)/\b≠X.env.locals/\(∀x c,X.env.cells.lookup x=some c->c≠b)/\∀p∈X.pn ++ pins,p.1≠b):Inv X pins σ H' s':=by
 obtain⟨h',g',d',t',o'⟩:=s'
 have e:o'=s.os:=ho
 subst e
 exact I.call (g':=g') (t':=t') (d':=d') u hok hg hch
end
abbrev XK:=Value->Option Addr->Hp->Prop
abbrev St:=List (Option V)
abbrev VK:=V->Hp->Prop
abbrev TE:=St->Hp->VK->Prop
abbrev TT:=St->Hp->(Bool->Hp->Prop)->Prop
abbrev TA:=St->Hp->(List V->Hp->Prop)->Prop
structure Ends where
 nx:St->Hp->Prop
 rt:VK
 bk:St->Hp->Prop:=λ_ _=>False
 ct:St->Hp->Prop:=λ_ _=>False
abbrev TS:=Ends->St->Hp->Prop
def EP (X:Cx)(pins:List (Addr×Obj))(σ:St)(Q:VK)(u:Value)(s':Shared):Prop:=∃v H',Inv X pins σ H' s'/\RelV v u/\Q v H'
def TP (X:Cx)(pins:List (Addr×Obj))(σ:St)(Q:Bool->Hp->Prop)(b:Bool)(s':Shared):Prop:=∃H',Inv X pins σ H' s'/\Q b H'
def AP (X:Cx)(pins:List (Addr×Obj))(σ:St)(Q:List V->Hp->Prop)(us:List Value)(s':Shared):Prop:=∃vs H',Inv X pins σ H' s'/\Vals vs us/\Q vs H'
def SP (X:Cx)(pins:List (Addr×Obj))(D:Ends)(f:Flow)(s':Shared):Prop:=
 match f with
 | .next=>∃σ' H',Inv X pins σ' H' s'/\D.nx σ' H'
 | .brk=>∃σ' H',Inv X pins σ' H' s'/\D.bk σ' H'
 | .cont=>∃σ' H',Inv X pins σ' H' s'/\D.ct σ' H'
 | .ret u=>∃v σ' H',Inv X pins σ' H' s'/\RelV v u/\D.rt v H'
def PE (X:Cx)(e:Expr)(t:TE):Prop:=
 ∀(pins:List (Addr×Obj)) (s:Shared) (σ:St) (H:Hp) (Q:VK),Inv X pins σ H s->t σ H Q->wpAny (model X.prog X.w) X.A (eval e X.env) (EP X pins σ Q) X.xe s
def PT (X:Cx)(e:Expr)(t:TT):Prop:=
 ∀(pins:List (Addr×Obj)) (s:Shared) (σ:St) (H:Hp) (Q:Bool->Hp->Prop),Inv X pins σ H s->t σ H Q->wpAny (model X.prog X.w) X.A (isTrue e X.env (eval e X.env)) (TP X pins σ Q) X.xe s
def PW (X:Cx)(e:Expr)(t:TT):Prop:=
 ∀(whole:Sem Value) (pins:List (Addr×Obj)) (s:Shared) (σ:St) (H:Hp) (Q:Bool->Hp->Prop),Inv X pins σ H s->t σ H Q->wpAny (model X.prog X.w) X.A (isTrue e X.env whole) (TP X pins σ Q) X.xe s
def PW.pt {X:Cx}{e:Expr}{t:TT}(h:PW X e t):PT X e t:=h _
def PA (X:Cx)(es:List Expr)(t:TA):Prop:=
 ∀(pos:Pos) (pins:List (Addr×Obj)) (s:Shared) (σ:St) (H:Hp) (Q:List V->Hp->Prop),Inv X pins σ H s->t σ H Q->wpAny (model X.prog X.w) X.A (spliced (backTo pos (starEach es X.env))) (AP X pins σ Q) X.xe s
def PS (X:Cx)(st:Stmt)(t:TS):Prop:=
 ∀(pins:List (Addr×Obj)) (s:Shared) (σ:St) (H:Hp) (D:Ends),Inv X pins σ H s->t D σ H->wpAny (model X.prog X.w) X.A (exec st X.env) (SP X pins D) X.xe s
def rB (X:Cx)(st:List Stmt)(t:TS):Prop:=
 ∀(pins:List (Addr×Obj)) (s:Shared) (σ:St) (H:Hp) (D:Ends),Inv X pins σ H s->t D σ H->wpAny (model X.prog X.w) X.A (execs st X.env) (SP X pins D) X.xe s
def cD {α:Type}{t:Sem α}{Q Q':α->Shared->Prop}{M:Model}{A:Around}{E:Value->Shared->Prop}{s:Shared}(h:wpAny M A t Q E s)(hQ:∀a s,Q a s->Q' a s):wpAny M A t Q' E s:=NF h hQ λ_ _ x=>x
section
variable {X:Cx}
def bin {a b:Expr}{ta tb:TE}(ha:PE X a ta)(hb:PE X b tb){pins:List (Addr×Obj)}{s:Shared}{σ:St}{H:Hp}{R:V->V->Hp->Prop}(I:Inv X pins σ H s)(h:ta σ H λx H1=>tb σ H1 λy H2=>R x y H2)
  {α:Type} {Q:α->Shared->Prop} {f:Value->Value->Sem α}
  (hf:∀v u s2 x y H2,Inv X pins σ H2 s2->RelV x v->RelV y u->R x y H2->wpAny (model X.prog X.w) X.A (f v u) Q X.xe s2) :
  wpAny (model X.prog X.w) X.A (eval a X.env) (λv s₁=>wpAny (model X.prog X.w) X.A (eval b X.env) (λu s₂=>wpAny (model X.prog X.w) X.A (f v u) Q X.xe s₂) X.xe s₁) X.xe s:=by
 refine cD (ha pins s σ H _ I h) λv s1 ⟨x,H1,I1,r1,q1⟩=>?_
 refine cD (hb pins s1 σ H1 _ I1 q1) λu s2 ⟨y,H2,I2,r2,q2⟩=>?_
 exact hf v u s2 x y H2 I2 r1 r2 q2
def D6 (i:Nat):TE:=λσ H Q=>∃v,σ[i]? =some (some v)/\Q v H
def tC (v:V):TE:=λ_ H Q=>Q v H
def jR {i:Nat}{x:Str}{pos:Pos}(hN:X.N[i]? =some x)(hv:y9 X.env.scope x)(hd:(x == ("__debug__":Str))=false:=by decide)(hcd:(x == ("__classdict__":Str))=false:=by decide):PE X (.Name x pos) (D6 i):=by
 intro pins s σ H Q I h
 obtain⟨v,e,h⟩:=h
 obtain⟨m,hn,hl⟩:=I.loc
 obtain⟨u,r,l⟩:=hl i x v hN e hv
 have fin:EP X pins σ Q u s:=⟨v,H,I,r,h⟩
 rcases l with⟨hk,hm⟩ | ⟨hk,c,hc,hcell⟩
 ·exact wpAny_Name (wpAny_loadName_local I.ok.kind hk hn hm fin) hd
 ·rcases hk with hk |hk
  ·exact wpAny_Name (wpAny_loadName_cell I.ok.kind hk hc hcell fin) hd
  ·exact wpAny_Name (wpAny_loadName_free I.ok.kind hk hc hcell fin hcd) hd
def uo {i j pos}:PE X (.Constant (.int i) j pos) (tC (.int i)):=λ_ _ _ H _ I h=>wpAny_Constant_int ⟨.int i,H,I.tok _,⟨_,rfl⟩,h⟩
def yE {b j pos}:PE X (.Constant (.bool b) j pos) (tC (.bl b)):=λ_ _ _ H _ I h=>Constant_bool ⟨.bl b,H,I,rfl,h⟩
def HH {j pos}:PE X (.Constant .none j pos) (tC .non):=λ_ _ _ H _ I h=>Constant_none ⟨.non,H,I,rfl,h⟩
def GB {x j pos}:PE X (.Constant (.str x) j pos) (tC (.str x)):=λ_ _ _ H _ I h=>Calls.Constant_str ⟨.str x,H,I.tok _,⟨_,rfl⟩,h⟩
def Gl (X:Cx)(x:Str):Prop:=X.env.kindOf x=some .globalImplicit
def zh {E:Value->Shared->Prop}{pins:List (Addr×Obj)}{s:Shared}{σ:St}{H:Hp}{x:Str}{u:Value}{pos:Pos}{Q:Value->Shared->Prop}(I:Inv X pins σ H s)(hg:Gl X x)(hm:X.mg x=some u)(h:Q u s)
  (hd:(x == ("__debug__":Str))=false:=by decide):wpAny (model X.prog X.w) X.A (eval (.Name x pos) X.env) Q E s:=
 Calls.Name_function_global I.ok.kind hg (Calls.loadGlobal_global (by rw[I.ok.glob];exact I.mod.glob.keeps I.bk) hm h) hd
def nN {E:Value->Shared->Prop}{pins:List (Addr×Obj)}{s:Shared}{σ:St}{H:Hp}{x:Str}{u:Value}{pos:Pos}{Q:Value->Shared->Prop}(I:Inv X pins σ H s)(hg:Gl X x)(hm:X.mg x=none)(hv:bootBuiltins x=some u)(h:Q u s)
  (hn:x≠"__name__":=by decide) (hd:(x == ("__debug__":Str))=false:=by decide):wpAny (model X.prog X.w) X.A (eval (.Name x pos) X.env) Q E s:=by
 obtain⟨mb,h1,h2⟩:=I.mod.blt
 exact Calls.Name_function_global I.ok.kind hg (Calls.loadGlobal_builtin (by rw[I.ok.glob];exact I.mod.glob.keeps I.bk) hm (by rw[I.ok.blt];exact h1.keeps I.bk) ((h2 x hn).trans hv) h) hd
def DW {x:Str}{v:V}{u:Value}{pos:Pos}(hg:Gl X x)(hm:X.mg x=some u)(r:RelV v u)(hd:(x == ("__debug__":Str))=false:=by decide):PE X (.Name x pos) (tC v):=
 λ_ _ _ H _ I h=>zh I hg hm ⟨v,H,I,r,h⟩ hd
def D0 {x:Str}{v:V}{u:Value}{pos:Pos}(hg:Gl X x)(hm:X.mg x=none)(hv:bootBuiltins x=some u)(r:RelV v u)(hn:x≠"__name__":=by decide)(hd:(x == ("__debug__":Str))=false:=by decide):PE X (.Name x pos) (tC v):=
 λ_ _ _ H _ I h=>nN I hg hm hv ⟨v,H,I,r,h⟩ hn hd
variable {a b:Expr}{ta tb:TE}{pos:Pos}
def PC (X:Cx)(op:CmpOp)(a b:Expr)(t:TE):Prop:=
 ∀(pins:List (Addr×Obj)) (s:Shared) (σ:St) (H:Hp) (Q:VK),Inv X pins σ H s->t σ H Q->
  wpAny (model X.prog X.w) X.A (eval a X.env) (λv s₁=>wpAny (model X.prog X.w) X.A (eval b X.env) (λu s₂=>wpAny (model X.prog X.w) X.A (compareOp op v u) (EP X pins σ Q) X.xe s₂) X.xe s₁) X.xe s
def BI (b:Expr){op:CmpOp}(h:op≠.In)(h2:op≠.NotIn):behindInMarks op b=false:=by
 have e1:(op == CmpOp.In)=false:=by cases op <;> first |rfl |exact absurd rfl h
 have e2:(op == CmpOp.NotIn)=false:=by cases op <;> first |rfl |exact absurd rfl h2
 cases b <;> simp[behindInMarks,e1,e2]
def tB (t:TE):TT:=λσ H Q=>t σ H λx H1=>∃c,x=.bl c/\Q c H1
def KG {op:CmpOp}{t:TE}(h:PC X op a b t)(h1:behindInMarks op b=false:=by first |exact BI _ (by decide) (by decide) |rfl):PT X (.Compare a [op] [b] pos) (tB t):=by
 intro pins s σ H Q I hw
 refine wpAny_isTrue_Compare1 (cD (h pins s σ H _ I hw) λv s1 h1=>cD h1 λu s2 h2=>cD h2 λc s3 ⟨x,H1,I1,r1,q1⟩=>?_) h1
 obtain⟨d,rfl,q⟩:=q1
 cases r1
 exact Ny ⟨H1,I1,q⟩
def xJ {e:Expr}{t:TE}(h:PE X e t)(he:∀whole,isTrue e X.env whole=(do let v <-whole;standAt e.pos;holding [v] (truthy v)):=by intro _;rfl):PT X e (tB t):=by
 intro pins s σ H Q I hw
 refine isTrue_plain (cD (h pins s σ H _ I hw) λv s1 ⟨x,H1,I1,r1,q1⟩=>?_) (he _)
 obtain⟨d,rfl,q⟩:=q1
 cases r1
 exact Ny ⟨H1,I1,q⟩
variable {tA tB':TT}{rest:List Expr}
def KO (t u:TT):TT:=λσ H Q=>t σ H λc H1=>if c=true then u σ H1 Q else Q false H1
def Mk (t u:TT):TT:=λσ H Q=>t σ H λc H1=>if c=true then Q true H1 else u σ H1 Q
def Ls (t:TT):TT:=λσ H Q=>t σ H λc H1=>Q (!c) H1
theorem yr (ha:PT X a tA):PW X (.BoolOp .And [a] pos) tA:=by
 intro wh pins s σ H Q I h
 refine isTrue_and (cD (ha pins s σ H Q I h) λc s1 e=>?_)
 cases c with
 |true=>exact isTrue_and_nil e
 |false=>exact e
theorem Ig (ha:PT X a tA):PW X (.BoolOp .Or [a] pos) tA:=by
 intro wh pins s σ H Q I h
 refine isTrue_or (cD (ha pins s σ H Q I h) λc s1 e=>?_)
 cases c with
 |false=>exact isTrue_or_nil e
 |true=>exact e
theorem BF (ha:PT X a tA)(hb:PW X (.BoolOp .And (b :: rest) pos) tB'):PW X (.BoolOp .And (a :: b :: rest) pos) (KO tA tB'):=by
 intro wh pins s σ H Q I h
 refine isTrue_and (cD (ha pins s σ H _ I h) λc s1 ⟨H1,I1,q1⟩=>?_)
 cases c with
 |true=>exact hb wh pins s1 σ H1 Q I1 q1
 |false=>exact⟨H1,I1,q1⟩
theorem JJ (ha:PT X a tA)(hb:PW X (.BoolOp .Or (b :: rest) pos) tB'):PW X (.BoolOp .Or (a :: b :: rest) pos) (Mk tA tB'):=by
 intro wh pins s σ H Q I h
 refine isTrue_or (cD (ha pins s σ H _ I h) λc s1 ⟨H1,I1,q1⟩=>?_)
 cases c with
 |true=>exact⟨H1,I1,q1⟩
 |false=>exact hb wh pins s1 σ H1 Q I1 q1
def Gx (ha:PT X a tA):PT X (.UnaryOp .Not a pos) (Ls tA):=by
 intro pins s σ H Q I h
 exact isTrue_not (ha pins s σ H (λc H1=>Q (!c) H1) I h)
def JM (ta tb:TE):TE:=λσ H Q=>ta σ H λx H1=>∃c,x=.bl c/\if c=true then tb σ H1 Q else Q (.bl false) H1
def LC (ta tb:TE):TE:=λσ H Q=>ta σ H λx H1=>∃c,x=.bl c/\if c=true then Q (.bl true) H1 else tb σ H1 Q
def Ju (ta:TE):TE:=λσ H Q=>ta σ H λx H1=>∃c,x=.bl c/\Q (.bl (!c)) H1
def Ic {op}{t:TE}(h:PE X a t):PE X (.BoolOp op [a] pos) t:=λpins s σ H Q I hw=>BoolOp_one (h pins s σ H Q I hw)
theorem Gj (ha:PE X a ta)(hb:PE X (.BoolOp .And (b :: rest) pos) tb):PE X (.BoolOp .And (a :: b :: rest) pos) (JM ta tb):=by
 intro pins s σ H Q I h
 refine BoolOp_and (cD (ha pins s σ H _ I h) λv s1 ⟨x,H1,I1,r1,q1⟩=>?_)
 obtain⟨c,rfl,q1⟩:=q1
 cases r1
 refine Ny ?_
 cases c with
 |true=>exact hb pins s1 σ H1 Q I1 q1
 |false=>exact⟨.bl false,H1,I1,rfl,q1⟩
theorem Jg (ha:PE X a ta)(hb:PE X (.BoolOp .Or (b :: rest) pos) tb):PE X (.BoolOp .Or (a :: b :: rest) pos) (LC ta tb):=by
 intro pins s σ H Q I h
 refine BoolOp_or (cD (ha pins s σ H _ I h) λv s1 ⟨x,H1,I1,r1,q1⟩=>?_)
 obtain⟨c,rfl,q1⟩:=q1
 cases r1
 refine Ny ?_
 cases c with
 |false=>exact hb pins s1 σ H1 Q I1 q1
 |true=>exact⟨.bl true,H1,I1,rfl,q1⟩
def GH (ha:PE X a ta):PE X (.UnaryOp .Not a pos) (Ju ta):=by
 intro pins s σ H Q I h
 refine UnaryOp_ (cD (ha pins s σ H _ I h) λv s1 ⟨x,H1,I1,r1,q1⟩=>?_)
 obtain⟨c,rfl,q1⟩:=q1
 cases r1
 exact not_of (Ny ⟨.bl (!c),H1,I1,rfl,q1⟩)
def Mu (t:TT)(ta tb:TE):TE:=λσ H Q=>t σ H λc H1=>if c=true then ta σ H1 Q else tb σ H1 Q
theorem Cv {c:Expr}(hc:PT X c tA)(ha:PE X a ta)(hb:PE X b tb):PE X (.IfExp c a b pos) (Mu tA ta tb):=by
 intro pins s σ H Q I h
 refine wpAny_IfExp (cD (hc pins s σ H _ I h) λd s1 ⟨H1,I1,q1⟩=>?_)
 cases d with
 |true=>exact ha pins s1 σ H1 Q I1 q1
 |false=>exact hb pins s1 σ H1 Q I1 q1
end
def gN (K:Frag)(H:Hp)(a:Addr)(xs:List V):Prop:=
 Rd H a (.lst xs)\/
  ∃(o:Obj) (its:Array Value) (n:Nat),K.lookup a=some o/\o.cls=.type "list"/\o.dict=none/\o.data=.seq its n/\its.size<=sizeLine/\Vals xs its.toList
def gM (K:Frag)(H:Hp)(a:Addr)(xs:List V):Prop:=
 Rd H a (.tup xs)\/
  ∃(o:Obj) (its:Array Value) (n:Nat),K.lookup a=some o/\o.cls=.type "tuple"/\o.data=.seq its n/\its.size<=sizeLine/\Vals xs its.toList/\o.dict=none
def Lk:Value->Option V
 | .none=>some .non
 | .bool b=>some (.bl b)
 | .int i _=>some (.int i)
 | .str x _=>some (.str x)
 | .bytes b _=>some (.byt b)
 | .float b _=>some (.flt b)
 | .ref a=>some (.ref a)
 | .type n=>some (.ty n)
 |_=>none
theorem RelV.abs {x:V}{u:Value}(r:RelV x u):Lk u=some x:=by
 cases x with
 |non=>cases r;rfl
 |bl _=>cases r;rfl
 |int _=>obtain⟨t,rfl⟩:=r;rfl
 |str _=>obtain⟨t,rfl⟩:=r;rfl
 |byt _=>obtain⟨t,rfl⟩:=r;rfl
 |flt _=>obtain⟨t,rfl⟩:=r;rfl
 |ref _=>cases r;rfl
 |ty _=>cases r;rfl
def RelV.inj {x y:V}{u:Value}(r:RelV x u)(q:RelV y u):x=y:=Option.some.inj (r.abs.symm.trans q.abs)
theorem Vals.inj:∀{xs ys:List V} {us:List Value},Vals xs us->Vals ys us->xs=ys
 |_,_,_,.nil,.nil=>rfl
 |_,_,_,.cons r t,.cons r' t'=>by rw[r.inj r',Vals.inj t t']
section
variable {X:Cx}{pins:List (Addr×Obj)}{σ:St}{H:Hp}{s:Shared}{a:Addr}{xs ys:List V}
def Inv.list (I:Inv X pins σ H s)(h:gN X.K H a xs):∃its:List Value,Vals xs its/\PlainL s.heap a its.toArray/\xs.length<=sizeLine:=by
 rcases h with h | ⟨o,its,n,hk,hc,hd,hs,hz,r⟩
 ·obtain⟨z,its,n,r,e⟩:=h.ok I.hok
  exact⟨its,r,⟨_,n,e,rfl,rfl,rfl⟩,z⟩
 ·refine⟨its.toList,r,⟨o,n,I.kIn a o hk,hc,hd,by simpa using hs⟩,?_⟩
  have e:=r.length
  simp only[Array.length_toList] at e
  omega
def Inv.tuple (I:Inv X pins σ H s)(h:gM X.K H a xs):∃its:List Value,Vals xs its/\IsTup s.heap a its.toArray/\xs.length<=sizeLine:=by
 rcases h with h | ⟨o,its,n,hk,hc,hs,hz,r,_⟩
 ·obtain⟨z,its,r,p⟩:=h.ok I.hok
  exact⟨its,r,p.isTup,z⟩
 ·refine⟨its.toList,r,⟨o,I.kIn a o hk,hc,n,by simpa using hs⟩,?_⟩
  have e:=r.length
  simp only[Array.length_toList] at e
  omega
def Inv.list_inj (I:Inv X pins σ H s)(h:gN X.K H a xs)(h':gN X.K H a ys):xs=ys:=by
 obtain⟨its,r,⟨o,n,e,_,_,d⟩,_⟩:=I.list h
 obtain⟨its',r',⟨o',n',e',_,_,d'⟩,_⟩:=I.list h'
 rw[e] at e';cases e'
 rw[d] at d'
 injection d' with d1 _
 have:its=its':=by simpa using congrArg Array.toList d1
 subst this
 exact r.inj r'
def Inv.tuple_inj (I:Inv X pins σ H s)(h:gM X.K H a xs)(h':gM X.K H a ys):xs=ys:=by
 obtain⟨its,r,⟨o,e,_,n,d⟩,_⟩:=I.tuple h
 obtain⟨its',r',⟨o',e',_,n',d'⟩,_⟩:=I.tuple h'
 rw[e] at e';cases e'
 rw[d] at d'
 injection d' with d1 _
 have:its=its':=by simpa using congrArg Array.toList d1
 subst this
 exact r.inj r'
end
abbrev Cx.wish (X:Cx)(E:Value->Shared->Prop):Cx:={X with xe:=E}
abbrev Cx.nox (X:Cx):Cx:=X.wish λ_ _=>False
def Cx.Ok.wish {X:Cx}(ok:X.Ok)(E:Value->Shared->Prop):(X.wish E).Ok:=
 ⟨ok.mod,ok.kind,ok.glob,ok.blt,ok.above,ok.inj,ok.has,ok.cab,ok.hd,ok.frames,ok.stk,ok.exf,ok.bs,ok.bsz,ok.noex,ok.exfs,ok.funs,ok.frf⟩
def Cx.Ok.unwish {X:Cx}{E:Value->Shared->Prop}(ok:(X.wish E).Ok):X.Ok:=
 ⟨ok.mod,ok.kind,ok.glob,ok.blt,ok.above,ok.inj,ok.has,ok.cab,ok.hd,ok.frames,ok.stk,ok.exf,ok.bs,ok.bsz,ok.noex,ok.exfs,ok.funs,ok.frf⟩
section
variable {X:Cx}{pins:List (Addr×Obj)}{σ:St}{H:Hp}{s:Shared}{E:Value->Shared->Prop}
def Inv.wish (I:Inv X pins σ H s)(E:Value->Shared->Prop):Inv (X.wish E) pins σ H s:=⟨I.ok.wish E,I.os,I.bare,I.base,I.loc,I.cell,I.free,I.freeC,I.pin,I.hok,I.len⟩
def Inv.unwish (I:Inv (X.wish E) pins σ H s):Inv X pins σ H s:=⟨I.ok.unwish,I.os,I.bare,I.base,I.loc,I.cell,I.free,I.freeC,I.pin,I.hok,I.len⟩
theorem SP.unwish {D:Ends}{f:Flow}{s':Shared}(h:SP (X.wish E) pins D f s'):SP X pins D f s':=by
 cases f with
 |next=>obtain⟨σ',H',I,q⟩:=h;exact⟨σ',H',I.unwish,q⟩
 |brk=>obtain⟨σ',H',I,q⟩:=h;exact⟨σ',H',I.unwish,q⟩
 |cont=>obtain⟨σ',H',I,q⟩:=h;exact⟨σ',H',I.unwish,q⟩
 |ret u=>obtain⟨v,σ',H',I,r,q⟩:=h;exact⟨v,σ',H',I.unwish,r,q⟩
def rB.nox {st:List Stmt}{t:TS}(h:rB X.nox st t):rB X st t:=λpins s σ H D I hw=>
 NF (h pins s σ H D (I.wish _) hw) (λ_ _ q=>q.unwish) λ_ _ z=>False.elim z
end
section
variable {X:Cx}{st:Stmt}{rest:List Stmt}{t u:TS}{e:Expr}{te:TE}{pos:Pos}
def JO:TS:=λD σ H=>D.nx σ H
def LO (t u:TS):TS:=λD σ H=>t {D with nx:=u D} σ H
def yJ:rB X [] JO:=λ_ _ σ H _ I h=>wpAny_execs_nil ⟨σ,H,I,h⟩
theorem iO (h1:PS X st t)(h2:rB X rest u):rB X (st :: rest) (LO t u):=by
 intro pins s σ H D I h
 refine wpAny_execs_cons (cD (h1 pins s σ H {D with nx:=u D} I h) λf s1 q=>?_)
 cases f with
 |next=>
  obtain⟨σ',H',I',q⟩:=q
  exact h2 pins s1 σ' H' D I' q
 |ret v=>exact q
 |brk=>exact q
 |cont=>exact q
theorem jG (h1:PS X st t):rB X [st] t:=by
 intro pins s σ H D I h
 refine wpAny_execs_cons (cD (h1 pins s σ H D I h) λf s1 q=>?_)
 cases f with
 |next=>exact wpAny_execs_nil q
 |ret v=>exact q
 |brk=>exact q
 |cont=>exact q
def Inv.quiet {pins:List (Addr×Obj)}{σ:St}{H:Hp}{s:Shared}(I:Inv X pins σ H s):interactive X.env=false:=by simp[interactive,I.ok.kind]
def Ja (te:TE):TS:=λD σ H=>te σ H λ_ H1=>D.nx σ H1
def pL (he:PE X e te)(hs:swapsWith e none pos.line X.env=pure false:=by rfl):PS X (.Expr e pos) (Ja te):=by
 intro pins s σ H D I h
 exact wpAny_Expr_any (cD (he pins s σ H _ I h) λv s1 ⟨x,H1,I1,r1,q1⟩=>⟨σ,H1,I1,q1⟩) I.quiet hs
def LV (te:TE):TS:=λD σ H=>te σ H D.rt
def ou (he:PE X e te):PS X (.Return (some e) pos) (LV te):=by
 intro pins s σ H D I h
 exact wpAny_Return_some (cD (he pins s σ H _ I h) λv s1 ⟨x,H1,I1,r1,q1⟩=>⟨x,σ,H1,I1,r1,q1⟩)
def Lr (c:TT)(t u:TS):TS:=λD σ H=>c σ H λb H1=>if b=true then t D σ H1 else u D σ H1
theorem FC {c:Expr}{a b:List Stmt}{tc:TT}(hc:PT X c tc)(ha:rB X a t)(hb:rB X b u):PS X (.If c a b pos) (Lr tc t u):=by
 intro pins s σ H D I h
 refine wpAny_If (cD (hc pins s σ H _ I h) λd s1 ⟨H1,I1,q1⟩=>?_)
 cases d with
 |true=>exact ha pins s1 σ H1 D I1 q1
 |false=>exact hb pins s1 σ H1 D I1 q1
end
abbrev TG:=V->St->Hp->(St->Hp->Prop)->Prop
abbrev GW:=List V->St->Hp->(St->Hp->Prop)->Prop
def PG (X:Cx)(target:Expr)(t:TG):Prop:=
 ∀(pins:List (Addr×Obj)) (s:Shared) (σ:St) (H:Hp) (v:V) (u:Value) (Q:St->Hp->Prop),Inv X pins σ H s->RelV v u->t v σ H Q->
  wpAny (model X.prog X.w) X.A (assign target X.env u) (λ_ s'=>∃σ' H',Inv X pins σ' H' s'/\Q σ' H') X.xe s
def Kr (X:Cx)(ts:List Expr)(t:GW):Prop:=
 ∀(pins:List (Addr×Obj)) (s:Shared) (σ:St) (H:Hp) (vs:List V) (us:List Value) (Q:St->Hp->Prop),Inv X pins σ H s->Vals vs us->t vs σ H Q->
  wpAny (model X.prog X.w) X.A (assignInOrder ((assignEach ts X.env).map (·.2)) us) (λ_ s'=>∃σ' H',Inv X pins σ' H' s'/\Q σ' H') X.xe s
abbrev GI:=V->V->V->Hp->(Hp->Prop)->Prop
def B4 (X:Cx)(t:GI):Prop:=
 ∀(pins:List (Addr×Obj)) (s:Shared) (σ:St) (H:Hp) (o i v:V) (ov iv u:Value) (Q:Hp->Prop),Inv X pins σ H s->RelV o ov->RelV i iv->RelV v u->t o i v H Q->
  wpAny (model X.prog X.w) X.A (setItem ov iv u) (λ_ s'=>∃H',Inv X pins σ H' s'/\Q H') X.xe s
section
variable {X:Cx}{pos:Pos}
def l9 (i:Nat):TG:=λv σ H Q=>Q (σ.set i (some v)) H
def dg {i:Nat}{x:Str}(hN:X.N.Nodup)(hi:X.N[i]? =some x)(hx:Loc X.env.scope x)(hf:X.fn x=true\/X.env.scope.names.lookup x=some .local:=by first |exact .inl rfl |exact .inr rfl |assumption):PG X (.Name x pos) (l9 i):=by
 intro pins s σ H v u Q I r h
 exact wpAny_assign_Name (ni I hN hi hx r (λs' I'=>⟨_,H,I',h⟩) hf)
def E8:GW:=λvs σ H Q=>vs= []/\Q σ H
def qb (t:TG)(u:GW):GW:=λvs σ H Q=>∃v r,vs=v :: r/\t v σ H λσ' H'=>u r σ' H' Q
def nK:Kr X [] E8:=by
 intro pins s σ H vs us Q I r h
 obtain⟨e,h⟩:=h
 subst e
 cases r
 exact assignInOrder_nil ⟨σ,H,I,h⟩
theorem dW {e:Expr}{es:List Expr}{t:TG}{u:GW}(h1:PG X e t)(h2:Kr X es u)
  (hs:(assignEach (e :: es) X.env).map (·.2)=assign e X.env :: (assignEach es X.env).map (·.2):=by rfl):Kr X (e :: es) (qb t u):=by
 intro pins s σ H vs us Q I r h
 obtain⟨v,vr,e1,h⟩:=h
 subst e1
 cases r with
 |cons r rr=>
  rw[hs]
  refine assignInOrder_cons (cD (h1 pins s σ H _ _ _ I r h) λ_ s1 ⟨σ1,H1,I1,q1⟩=>?_)
  exact h2 pins s1 σ1 H1 _ _ Q I1 rr q1
def Fe (K:Frag)(n:Nat)(t:GW):TG:=λv σ H Q=>∃a xs,v=.ref a/\gM K H a xs/\xs.length=n/\t xs σ H Q
def qJ {es:List Expr}{k:Nat}{t:GW}{n:Nat}(hc:X.calm=true)(h:Kr X es t)
  (hn:(assignEach es X.env).length=n:=by rfl) (hst:(assignEach es X.env).findIdx? (·.1)=none:=by rfl):PG X (.Tuple es k pos) (Fe X.K n t):=by
 intro pins s σ H v u Q I r hw
 obtain⟨a,xs,e1,hq,hl,hw⟩:=hw
 subst e1
 cases r
 obtain⟨its,rv,ht,hz⟩:=I.tuple hq
 refine assign_Tuple_tuple (I.ok.hd hc) ht (by simp[hn,<-hl,rv.length]) hst λh' hx=>?_
 have I1:Inv X pins σ H {s with heap:=h'}:=I.kept (t':=s.toks) λb o e=>hx b o (Ni (MJ e)) e
 exact h pins _ σ H xs _ Q I1 (by simpa using rv) hw
def LQ (to ti:TE)(t:GI):TG:=λv σ H Q=>to σ H λo H1=>ti σ H1 λi H2=>t o i v H2 λH3=>Q σ H3
def tW {o i:Expr}{to ti:TE}{t:GI}(ho:PE X o to)(hi:PE X i ti)(hs:B4 X t)
  (ha:∀v,assign (.Subscript o i pos) X.env v=(do
   let ov <-holding [v] (eval o X.env)
   let iv <-holding [v,ov] (eval i X.env)
   standAt pos
   holding [v,ov,iv] (setItem ov iv v)
   release [v,ov,iv] []):=by intro _;rfl):PG X (.Subscript o i pos) (LQ to ti t):=by
 intro pins s σ H v u Q I r h
 rw[ha]
 refine Mz (NY (cD (ho pins s σ H _ I h) λov s1 ⟨x,H1,I1,r1,q1⟩=>?_))
 refine Mz (NY (cD (hi pins s1 σ H1 _ I1 q1) λiv s2 ⟨y,H2,I2,r2,q2⟩=>?_))
 refine Mz (wpAny_standAt (Mz (NY (cD (hs pins s2 σ H2 x y v ov iv u _ I2 r1 r2 r q2) λ_ s3 ⟨H3,I3,q3⟩=>?_))))
 exact wpAny_release ⟨σ,H3,I3,q3⟩
def Je (te:TE)(g:TG):TS:=λD σ H=>te σ H λx H1=>g x σ H1 D.nx
def p0 {tg e:Expr}{te:TE}{g:TG}(he:PE X e te)(hg:PG X tg g)(hs:swapsWithSole [tg] e pos.line X.env=pure false:=by rfl)(hw:swappedStores [tg] e X.env=pure none:=by rfl)
  (h1:(assignEach [tg] X.env).map (·.2)= [assign tg X.env]:=by rfl):PS X (.Assign [tg] e pos) (Je te g):=by
 intro pins s σ H D I h
 refine wpAny_Assign_stores (cD (he pins s σ H _ I h) λv s1 ⟨x,H1,I1,r1,q1⟩=>?_) hs hw
 rw[h1]
 exact cD (hg pins s1 σ H1 x v _ I1 r1 q1) λ_ s2 q=>q
def uG {i:Nat}{x:Str}{e:Expr}{te:TE}{pos':Pos}(hN:X.N.Nodup)(hi:X.N[i]? =some x)(hx:Loc X.env.scope x)(he:PE X e te)(hs:swapsWith e (some (.Name x pos')) pos.line X.env=pure false:=by rfl)(hf:X.fn x=true\/X.env.scope.names.lookup x=some .local:=by first |exact .inl rfl |exact .inr rfl |assumption) :
  PS X (.Assign [.Name x pos'] e pos) (Je te (l9 i)):=by
 intro pins s σ H D I h
 refine wpAny_Assign_Name (cD (he pins s σ H _ I h) λv s1 ⟨y,H1,I1,r1,q1⟩=>?_) hs
 exact ni I1 hN hi hx r1 (λs2 I2=>⟨_,H1,I2,q1⟩) hf
def LD (i j:Nat)(ta:TA):TS:=λD σ H=>ta σ H λvs H1=>∃v w,vs= [v,w]/\D.nx ((σ.set i (some v)).set j (some w)) H1
def HZ {i j:Nat}{x y:Str}{a b:Expr}{ta:TA}{px py pt:Pos}{kt k2 pt2}(hc:X.calm=true)(hN:X.N.Nodup)(hi:X.N[i]? =some x)(hj:X.N[j]? =some y)(hij:i≠j)
  (hx:X.env.scope.names.lookup x=some .local) (hy:X.env.scope.names.lookup y=some .local) (ha:PA X [a,b] ta)
  (hw:swappedStores [.Tuple [.Name x px,.Name y py] kt pt] (.Tuple [a,b] k2 pt2) X.env=pure (some [x,y]))
  (hs:swapsWithSole [.Tuple [.Name x px,.Name y py] kt pt] (.Tuple [a,b] k2 pt2) pos.line X.env=pure false:=by rfl) :
  PS X (.Assign [.Tuple [.Name x px,.Name y py] kt pt] (.Tuple [a,b] k2 pt2) pos) (LD i j ta):=by
 intro pins s σ H D I h
 rw[exec_Assign_arm]
 refine Mz (wpAny_standAt ?_)
 rw[hs]
 refine Mz (M1 ?_)
 rw[MG (by decide)]
 refine Mz (Tuple_ (cD (ha _ pins s σ H _ I h) λus s1 ⟨vs,H1,I1,r1,q1⟩=>?_))
 obtain⟨v,w,e1,q1⟩:=q1
 subst e1
 obtain⟨u1,u2,rfl,rv,rw'⟩:∃u1 u2,us= [u1,u2]/\RelV v u1/\RelV w u2:=by
  cases r1 with
  |cons p q=>
   cases q with
   |cons p' q'=>
    cases q'
    exact⟨_,_,rfl,p,p'⟩
 refine wpAny_newObj_type ?_ (by show 2<=sizeLine;decide)
 have I2:Inv X pins σ H1 {s1 with heap:=s1.heap.push {cls:=.type "tuple",data:=.seq [u1,u2].toArray}}:=I1.kept (t':=s1.toks) λb o e=>MD _ e
 rw[hw]
 refine Mz (M1 ?_)
 show wpAny (model X.prog X.w) X.A (do rule "assign.swapped-stores";let items <-unpackItems (.ref s1.heap.objs.size) 2 none;assignInOrder [λv=>bindName X.env y v,λv=>bindName X.env x v] items.reverse;pure Flow.next) _ _ _
 refine Mz (wpAny_rule (Mz (unpackItems_tuple (items:=#[u1,u2]) (I.ok.hd hc) (IsTup.new s1.heap _) λh' hx'=>?_)))
 have I3:=I2.kept (h':=h') (t':=s1.toks) λb o e=>hx' b o (Ni (MJ e)) e
 show wpAny _ _ (assignInOrder [λv=>bindName X.env y v,λv=>bindName X.env x v] [u2,u1] >>= λ_=>pure Flow.next) _ _ _
 refine Mz (assignInOrder_cons (wpAny_bindName (ni I3 hN hj (.inl hy) rw' (λs2 I4=>?_) (.inr hy))))
 refine assignInOrder_cons (wpAny_bindName (ni I4 hN hi (.inl hx) rv (λs3 I5=>assignInOrder_nil (M1 ?_)) (.inr hx)))
 rw[List.set_comm _ _ (Ne.symm hij)] at I5
 exact⟨_,H1,I5,q1⟩
end
section
variable {X:Cx}{pos:Pos}
def GN (c:TT)(tb:TS):TS:=λD σ H=>∃W:Nat->St->Hp->Prop,(∃m,W m σ H)/\∀m σ H,W m σ H->
 c σ H λb H1=>if b=true then ∃N:St->Hp->Prop,(∀σ' H',N σ' H'->∃m',m' < m/\W m' σ' H')/\tb {D with nx:=N,ct:=N,bk:=D.nx} σ H1 else D.nx σ H1
theorem Bc {c:Expr}{body:List Stmt}{tc:TT}{tb:TS}(hp:PassesOwn (model X.prog X.w) X.A X.env X.xe)(hc:PT X c tc)(hb:rB X body tb):PS X (.While c body [] pos) (GN tc tb):=by
 intro pins s σ H D I h
 obtain⟨W,⟨m0,w0⟩,turn⟩:=h
 refine wpAny_While (codeAny_whileLoop (λn s'=>∃σ' H',Inv X pins σ' H' s'/\W n σ' H') ?_ m0 ⟨σ,H,I,w0⟩)
 rintro n s1 ⟨σ1,H1,I1,w1⟩
 refine N8 hp (cD (hc pins s1 σ1 H1 _ I1 (turn n σ1 H1 w1)) λb s2 ⟨H2,I2,q2⟩=>?_)
 cases b with
 |true=>
  obtain⟨N,hN,q2⟩:=q2
  rw[My rfl]
  refine N8 hp (cD (hb pins s2 σ1 H2 _ I2 q2) λf s3 q3=>?_)
  cases f with
  |next=>
   obtain⟨σ3,H3,I3,n3⟩:=q3
   obtain⟨m',hm,w3⟩:=hN σ3 H3 n3
   exact⟨m',hm,σ3,H3,I3,w3⟩
  |cont=>
   obtain⟨σ3,H3,I3,n3⟩:=q3
   obtain⟨m',hm,w3⟩:=hN σ3 H3 n3
   exact⟨m',hm,σ3,H3,I3,w3⟩
  |brk=>exact q3
  |ret v=>exact q3
 |false=>
  rw[MG MI]
  exact wpAny_execs_nil ⟨σ1,H2,I2,q2⟩
end
structure It where
 go:Nat->Hp->Prop
 yld:Nat->Hp->V->Hp->Prop
 stop:Nat->Hp->Prop
def kF (X:Cx)(pins:List (Addr×Obj))(H:Hp)(b:Addr):Prop:=
 H b=none/\b≠X.env.locals/\b∉X.fs/\(b∈X.ex\/X.s₀.heap.objs.size<=b)/\(∀x c,X.env.cells.lookup x=some c->c≠b)/\∀p∈X.pn ++ pins,p.1≠b
def Inv.fpOk {X:Cx}{pins:List (Addr×Obj)}{σ:St}{H H':Hp}{s:Shared}{b:Addr}(I:Inv X pins σ H s)(hb:s.heap.objs.size<=b)(hn:H' b=none):kF X pins H' b:=by
 refine⟨hn,Nat.ne_of_gt (M7 I.lt hb),I.nofs hb,.inr (Nx I.sz hb),λx c e z=>?_,λp hp z=>?_⟩
 ·obtain⟨v,q⟩:=I.cell x c e
  exact absurd (M7 q.lt (by rw[z];exact hb)) (M8 _)
 ·exact absurd (M7 (MJ (I.pin p hp).1) (by rw[z];exact hb)) (M8 _)
structure Turn (P:Program)(w:World)(K:Frag)(tg:Expr)(J:It)(fp:List Addr)(it:Addr)(tn:Nat->Heap->Prop):Prop where
 mem:it∈fp
 obj:∀i h,tn i h->∀b∈fp,∃o,h.get? b=some o/\∀v,o.data≠.cell v
 keep:∀i h h',tn i h->(∀b∈fp,∀o,h.get? b=some o->h'.get? b=some o)->tn i h'
 item:∀(X:Cx),X.prog=P->X.w=w->X.K=K->X.calm=true->∀(i:Nat) (pins:List (Addr×Obj)) (s:Shared) (σ:St) (H:Hp) (E:Value->Shared->Prop),Inv X pins σ H s->(∀b∈fp,kF X pins H b)->tn i s.heap->J.go i H->
  wpAny (model P w) X.A (pyNext (.ref it)) (λr s1=>∃u,r=some u/\
   wpAny (model P w) X.A (letOwnedTupleGo tg (.ref it) u) (λ_ s2=>∃x H',Inv X pins σ H' s2/\RelV x u/\J.yld i H x H'/\tn (i + 1) s2.heap/\∀b∈fp,H' b=none) E s1) E s
 done:∀(X:Cx),X.prog=P->X.w=w->X.K=K->X.calm=true->∀(i:Nat) (pins:List (Addr×Obj)) (s:Shared) (σ:St) (H:Hp) (E:Value->Shared->Prop),Inv X pins σ H s->(∀b∈fp,kF X pins H b)->tn i s.heap->J.stop i H->
  wpAny (model P w) X.A (pyNext (.ref it)) (λr s1=>r=none/\Inv X pins σ H s1) E s
 self:∀(A:Around) (i:Nat) (s:Shared) (Q:Value->Shared->Prop) (E:Value->Shared->Prop),tn i s.heap->Q (.ref it) s->wpAny (model P w) A (pyIter (.ref it)) Q E s
abbrev TI:=St->Hp->(It->Hp->Prop)->Prop
def LY (X:Cx)(pins:List (Addr×Obj))(σ:St)(tg:Expr)(R:It->Hp->Prop)(itv:Value)(s2:Shared):Prop:=
 ∃(it:Addr) (fp:List Addr) (tn:Nat->Heap->Prop) (J:It) (H':Hp),itv=.ref it/\Inv X pins σ H' s2/\Turn X.prog X.w X.K tg J fp it tn/\tn 0 s2.heap/\(∀b∈fp,kF X pins H' b)/\R J H'
def PI (X:Cx)(tg iter:Expr)(wi:TI):Prop:=
 ∀(pins:List (Addr×Obj)) (s:Shared) (σ:St) (H:Hp) (R:It->Hp->Prop),Inv X pins σ H s->wi σ H R->
  wpAny (model X.prog X.w) X.A (eval iter X.env) (λv s1=>wpAny (model X.prog X.w) X.A (pyIter v) (LY X pins σ tg R) X.xe s1) X.xe s
def Bw {M:Model}{A:Around}{E:Value->Shared->Prop}{s:Shared}{tg:Expr}{it:Addr}{u:Value}{o:Obj}{n:String}{vs:Array Value}{Q:Unit->Shared->Prop}(ho:s.heap.get? it=some o)(hc:o.cls=.type n)(hd:o.data=.fields vs)
  (hn: ["enumerate","zip","dict_itemiterator","dict_reverseitemiterator","odict_iterator","itertools.zip_longest","itertools.pairwise"].contains n=false) (hQ:Q () s):wpAny M A (letOwnedTupleGo tg (.ref it) u) Q E s:=by
 unfold letOwnedTupleGo
 cases tg <;> first
  |exact M1 hQ
  | (cases u <;> first
    |exact M1 hQ
    | (refine Mz (wpAny_load ho ?_)
       rw[hc,hd]
       show wpAny M A (if (["enumerate","zip","dict_itemiterator","dict_reverseitemiterator","odict_iterator","itertools.zip_longest","itertools.pairwise"].contains n && vs[0]? == some (rawInt _))=true then _ else _) Q E s
       rw[MG (by intro h;rw[hn,Bool.false_and] at h;cases h)]
       exact M1 hQ))
def AH (K:Frag)(a:Addr):It:=
 ⟨λi H=>∃xs x,gN K H a xs/\xs[i]? =some x,λi H x H'=>H'=H/\∀xs,gN K H a xs->xs[i]? =some x,λi H=>∃xs,gN K H a xs/\xs.length<=i⟩
def FD (K:Frag)(a:Addr):It:=
 ⟨λi H=>∃xs x,gM K H a xs/\xs[i]? =some x,λi H x H'=>H'=H/\∀xs,gM K H a xs->xs[i]? =some x,λi H=>∃xs,gM K H a xs/\xs.length<=i⟩
def BL (lo:Int)(n:Nat):It:=⟨λi _=>i < n,λi H x H'=>H'=H/\x=.int (lo + i),λi _=>n<=i⟩
def oh {P:Program}{w:World}{K:Frag}{tg:Expr}(a it:Addr):Turn P w K tg (AH K a) [it] it (λi h=>h.IsListIter it a i) where
 mem:=by simp
 obj:=λi h st b hb=>by
  have e:b=it:=by simpa using hb
  subst e
  obtain⟨o,e,c,d⟩:=st
  exact⟨o,e,λv z=>by rw[d] at z;cases z⟩
 keep:=λi h h' st k=>st.at λo e=>k it (by simp) o e
 item:=by
  intro X hP hw hK hc i pins s σ H E I hf st hg
  subst hP hw hK
  obtain⟨xs,x,hq,hx⟩:=hg
  obtain⟨its,rv,p,hz⟩:=I.list hq
  obtain⟨u,hu,ru⟩:=rv.get hx
  obtain⟨f0,f1,f2,f3,f4,f5⟩:=hf it (by simp)
  refine wpAny_pyNext_list_item st p.isList (x:=u) (by simpa using hu) λh' st' sb=>?_
  have I1:Inv X pins σ H {s with heap:=h'}:=I.turned (t':=s.toks) (λb o hb e=>(sb.2 b hb).trans e) f0 f1 f3 f4 f5
  obtain⟨o,e,c,d⟩:=id st'
  exact⟨u,rfl,Bw (s:={s with heap:=h'}) e c d (by decide) ⟨x,H,I1,ru,⟨rfl,λys hy=>by rw[I.list_inj hy hq];exact hx⟩,st',λb hb=>(hf b hb).1⟩⟩
 done:=by
  intro X hP hw hK hc i pins s σ H E I hf st hg
  subst hP hw hK
  obtain⟨xs,hq,hx⟩:=hg
  obtain⟨its,rv,p,hz⟩:=I.list hq
  obtain⟨f0,f1,f2,f3,f4,f5⟩:=hf it (by simp)
  have hl:=rv.length
  exact wpAny_pyNext_list_end (I.ok.hd hc) st p.isList (by simp;omega) λh' eb=>⟨rfl,I.turned (t':=s.toks) (λb o hb e=>eb b o hb e) f0 f1 f3 f4 f5⟩
 self:=λ_ _ _ _ _ st h=>wpAny_pyIter_listiter st h
def p6 {P:Program}{w:World}{K:Frag}{tg:Expr}(a it:Addr):Turn P w K tg (FD K a) [it] it (λi h=>h.IsTupleIter it a i) where
 mem:=by simp
 obj:=λi h st b hb=>by
  have e:b=it:=by simpa using hb
  subst e
  obtain⟨o,e,c,d⟩:=st
  exact⟨o,e,λv z=>by rw[d] at z;cases z⟩
 keep:=λi h h' st k=>st.at λo e=>k it (by simp) o e
 item:=by
  intro X hP hw hK hc i pins s σ H E I hf st hg
  subst hP hw hK
  obtain⟨xs,x,hq,hx⟩:=hg
  obtain⟨its,rv,p,hz⟩:=I.tuple hq
  obtain⟨u,hu,ru⟩:=rv.get hx
  obtain⟨f0,f1,f2,f3,f4,f5⟩:=hf it (by simp)
  refine wpAny_pyNext_tuple_item st (show s.heap.IsTuple a its.toArray from p) (x:=u) (by simpa using hu) λh' st' sb=>?_
  have I1:Inv X pins σ H {s with heap:=h'}:=I.turned (t':=s.toks) (λb o hb e=>(sb.2 b hb).trans e) f0 f1 f3 f4 f5
  obtain⟨o,e,c,d⟩:=id st'
  exact⟨u,rfl,Bw (s:={s with heap:=h'}) e c d (by decide) ⟨x,H,I1,ru,⟨rfl,λys hy=>by rw[I.tuple_inj hy hq];exact hx⟩,st',λb hb=>(hf b hb).1⟩⟩
 done:=by
  intro X hP hw hK hc i pins s σ H E I hf st hg
  subst hP hw hK
  obtain⟨xs,hq,hx⟩:=hg
  obtain⟨its,rv,p,hz⟩:=I.tuple hq
  obtain⟨f0,f1,f2,f3,f4,f5⟩:=hf it (by simp)
  have hl:=rv.length
  exact wpAny_pyNext_tuple_end (I.ok.hd hc) st (show s.heap.IsTuple a its.toArray from p) (by simp;omega) λh' eb=>⟨rfl,I.turned (t':=s.toks) (λb o hb e=>eb b o hb e) f0 f1 f3 f4 f5⟩
 self:=λ_ _ _ _ _ st h=>wpAny_pyIter_tupleiter st h
def xt {P:Program}{w:World}{K:Frag}{tg:Expr}(it:Addr)(lo:Int)(n:Nat):Turn P w K tg (BL lo n) [it] it (λi h=>IsRangeIter h it (lo + (i:Nat) * 1) ((n:Int) - (i:Nat)) 1) where
 mem:=by simp
 obj:=λi h st b hb=>by
  have e:b=it:=by simpa using hb
  subst e
  exact⟨_,st,λv z=>by
   have z':Data.fields _=Data.cell v:=z
   cases z'⟩
 keep:=λi h h' st k=>k it (by simp) _ st
 item:=by
  intro X hP hw hK hc i pins s σ H E I hf st hg
  subst hP hw hK
  obtain⟨f0,f1,f2,f3,f4,f5⟩:=hf it (by simp)
  have W:=Walks.range (prog:=X.prog) (w:=X.w) (I.ok.hd hc) it lo 1 n
  refine W.item i s _ _ hg st λv h' tk hv st' kk=>?_
  obtain⟨t,rfl⟩:=hv
  have I1:Inv X pins σ H {s with heap:=h',toks:=tk}:=I.turned (λb o hb e=>kk b o (by simpa using hb) e) f0 f1 f3 f4 f5
  refine⟨_,rfl,Bw (s:={s with heap:=h',toks:=tk}) (n:="range_iterator") st' rfl rfl (by decide) ⟨.int (lo + i),H,I1,⟨t,?_⟩,⟨rfl,rfl⟩,st',λb hb=>(hf b hb).1⟩⟩
  rw[Int.mul_one]
 done:=by
  intro X hP hw hK hc i pins s σ H E I hf st hg
  subst hP hw hK
  obtain⟨f0,f1,f2,f3,f4,f5⟩:=hf it (by simp)
  exact wpAny_pyNext_range_end (I.ok.hd hc) st (by have:n<=i:=hg;omega) λh' eb=>⟨rfl,I.turned (t':=s.toks) (λb o hb e=>eb b o hb e) f0 f1 f3 f4 f5⟩
 self:=λ_ _ _ _ _ st h=>wpAny_pyIter_rangeiter st h
section
variable {X:Cx}{tg:Expr}
def IP (K:Frag)(tl:TE):TI:=λσ H R=>tl σ H λx H1=>∃a,x=.ref a/\(∃xs,gN K H1 a xs)/\R (AH K a) H1
def yM {l:Expr}{tl:TE}(hl:PE X l tl):PI X tg l (IP X.K tl):=by
 intro pins s σ H R I h
 refine cD (hl pins s σ H _ I h) λv s1 ⟨x,H1,I1,r1,q1⟩=>?_
 obtain⟨a,e,⟨xs,hq⟩,q⟩:=q1
 subst e
 cases r1
 obtain⟨its,rv,p,hz⟩:=I1.list hq
 refine Oc p.isList ?_
 refine⟨s1.heap.objs.size,[s1.heap.objs.size],_,_,H1,rfl,I1.kept (t':=s1.toks) λb o e=>MD _ e,oh a _,⟨_,MO _ rfl,rfl,rfl⟩,λb hb=>?_,q⟩
 have e:b=s1.heap.objs.size:=by simpa using hb
 subst e
 exact I1.fpOk (MA _) (I1.hok.fresh (MA _))
def Cz {pins:List (Addr×Obj)}{σ:St}{H:Hp}{s:Shared}{R:It->Hp->Prop}{E:Value->Shared->Prop}{lo hi:Int}{t u v:Tok}{tk:Nat}(I:Inv X pins σ H s)(h1: -(2 ^ 62)<=lo)(h2:lo < 2 ^ 62)(h3: -(2 ^ 62)<=hi)(h4:hi < 2 ^ 62)
  (q:R (BL lo (hi - lo).toNat) H):wpAny (model X.prog X.w) X.A (pyIter (.ref s.heap.objs.size)) (LY X pins σ tg R) E {s with heap:=s.heap.push {cls:=.type "range",data:=.fields #[.int lo t,.int hi u,.int 1 v]},toks:=tk}:=by
 refine wpAny_pyIter_range (IsRange.new ..) (small_one h1 h2 h3 h4) ?_
 have I1:Inv X pins σ H {s with heap:=s.heap.push {cls:=.type "range",data:=.fields #[.int lo t,.int hi u,.int 1 v]},toks:=tk}:=I.kept λb o e=>MD _ e
 refine⟨(s.heap.push {cls:=.type "range",data:=.fields #[.int lo t,.int hi u,.int 1 v]}).objs.size,[(s.heap.push {cls:=.type "range",data:=.fields #[.int lo t,.int hi u,.int 1 v]}).objs.size],_,_,H,rfl,
  I1.kept (t':=tk) λb o e=>MD _ e,xt _ lo (hi - lo).toNat,?_,λb hb=>?_,q⟩
 ·have e1:lo + ((0:Nat):Int) * 1=lo:=by simp
  have e2:(((hi - lo).toNat:Nat):Int) - ((0:Nat):Int)=Builtin.Range.rangeSize lo hi 1:=by rw[rangeSize_one];split <;> omega
  show IsRangeIter _ _ (lo + ((0:Nat):Int) * 1) ((((hi - lo).toNat:Nat):Int) - ((0:Nat):Int)) 1
  rw[e1,e2]
  exact MO _ rfl
 ·have e:b=(s.heap.push {cls:=.type "range",data:=.fields #[.int lo t,.int hi u,.int 1 v]}).objs.size:=by simpa using hb
  subst e
  exact I1.fpOk (MA _) (I1.hok.fresh (MA _))
def JC (ta:TA):TI:=λσ H R=>ta σ H λvs H1=>∃j:Int,vs= [.int j]/\ -(2 ^ 62)<=j/\j < 2 ^ 62/\R (BL 0 j.toNat) H1
theorem lR {a:Expr}{ta:TA}{p pos:Pos}(hg:Gl X "range")(hm:X.mg "range"=none)(ha:PA X [a] ta)(hs:starEach [a] X.env= [(false,eval a X.env)]:=by rfl):PI X tg (.Call (.Name "range" p) [a] [] pos) (JC ta):=by
 intro pins s σ H R I h
 refine Call_ (nN I hg hm boot_range (Ot (cD (ha pos pins s σ H _ I h) λus s1 ⟨vs,H1,I1,r1,q1⟩=>?_) hs rfl))
 obtain⟨j,e,q1,q2,q⟩:=q1
 subst e
 cases r1 with
 |cons r rr=>
  cases rr
  obtain⟨t,rfl⟩:=r
  exact call_range_1 (Cz I1 (by omega) (by omega) q1 q2 (by simpa using q))
def LN (wi:TI)(g:TG)(tb:TS):TS:=λD σ H=>wi σ H λJ H1=>∃W:Nat->Nat->St->Hp->Prop,(∃m,W 0 m σ H1)/\∀i m σ H,W i m σ H->
 (J.stop i H/\D.nx σ H)\/(J.go i H/\∃N:St->Hp->Prop,(∀σ' H',N σ' H'->∃m',m' < m/\W (i + 1) m' σ' H')/\∀x H',J.yld i H x H'->g x σ H' λσ2 H2=>tb {D with nx:=N,ct:=N,bk:=D.nx} σ2 H2)
def pX (fp:List Addr)(h:Heap):List (Addr×Obj):=fp.filterMap λb=>(h.get? b).map λo=>(b,o)
def kq {fp:List Addr}{h:Heap}{b:Addr}{o:Obj}(hb:b∈fp)(e:h.get? b=some o):(b,o)∈pX fp h:=OF.mpr ⟨b,hb,by rw[e];rfl⟩
theorem AJ {fp:List Addr}{h:Heap}{p:Addr×Obj}(hp:p∈pX fp h):p.1∈fp/\h.get? p.1=some p.2:=by
 obtain⟨b,hb,e⟩:=OF.mp hp
 cases q:h.get? b with
 |none=>rw[q] at e;cases e
 |some o=>
  rw[q] at e
  have e':(b,o)=p:=Option.some.inj e
  subst e'
  exact⟨hb,q⟩
def Inv.pinned {pins:List (Addr×Obj)}{σ:St}{H:Hp}{s:Shared}{fp:List Addr}(I:Inv X pins σ H s)(hf:∀b∈fp,kF X pins H b)(ho:∀b∈fp,∃o,s.heap.get? b=some o/\∀v,o.data≠.cell v):Inv X (pins ++ pX fp s.heap) σ H s:=
 I.pins_of λp hp=>(MU.mp hp).elim (λz=>I.pin p (M5 _ z)) λz=>by
  obtain⟨hb,e⟩:=AJ z
  obtain⟨f0,f1,f2,_⟩:=hf p.1 hb
  obtain⟨o,e',d⟩:=ho p.1 hb
  rw[e] at e';cases e'
  exact⟨e,f0,f1,f2,d⟩
def Inv.unpinned {pins pl:List (Addr×Obj)}{σ:St}{H:Hp}{s:Shared}(I:Inv X (pins ++ pl) σ H s):Inv X pins σ H s:=I.pins_of λp hp=>I.pin p (M5 _ (Of _ hp))
def uA {iter:Expr}{body:List Stmt}{wi:TI}{g:TG}{tb:TS}{pos:Pos}(hp:PassesOwn (model X.prog X.w) X.A X.env X.xe)(hc:X.calm=true)(hi:PI X tg iter wi)(hg:PG X tg g)(hb:rB X body tb)
  (hs:∀x,foldedSetIterable iter X.env x=pure x:=by intro _;rfl):PS X (.For tg iter body [] pos) (LN wi g tb):=by
 intro pins s σ H D I h
 refine wpAny_For (cD (hi pins s σ H _ I h) λv s1 h1=>cD h1 λitv s2 h2=>?_) hs
 obtain⟨it,fp,tn,J,H2,e,I2,T,st2,f2,W,⟨m0,w0⟩,turn⟩:=h2
 subst e
 have stat:∀{H':Hp},(∀b∈fp,H' b=none)->∀b∈fp,kF X pins H' b:=λhn b hb=>⟨hn b hb,(f2 b hb).2⟩
 refine codeAny_forLoop_any (λn s'=>∃i σ' H',Inv X pins σ' H' s'/\tn i s'.heap/\(∀b∈fp,H' b=none)/\W i n σ' H') ?_ m0 ⟨0,σ,H2,I2,st2,λb hb=>(f2 b hb).1,w0⟩
 rintro n s3 ⟨i,σ3,H3,I3,st3,fr3,w3⟩
 rcases turn i n σ3 H3 w3 with⟨stop,qn⟩ | ⟨go,N,hN,step⟩
 ·refine N8 hp (cD (T.done X rfl rfl rfl hc i pins s3 σ3 H3 X.xe I3 (stat fr3) st3 stop) λr s4 ⟨hr,I4⟩=>?_)
  subst hr
  exact wpAny_execs_nil ⟨σ3,H3,I4,qn⟩
 ·refine N8 hp (cD (T.item X rfl rfl rfl hc i pins s3 σ3 H3 X.xe I3 (stat fr3) st3 go) λr s4 ⟨u,hr,h4⟩=>?_)
  subst hr
  refine N8 hp (cD h4 λ_ s5 ⟨x,H5,I5,r5,y5,st5,fr5⟩=>?_)
  have I5':=I5.pinned (stat fr5) (T.obj _ _ st5)
  refine N8 hp (cD (hg _ s5 σ3 H5 x u _ I5' r5 (step x H5 y5)) λ_ s6 ⟨σ6,H6,I6,q6⟩=>?_)
  refine N8 hp (cD (hb _ s6 σ6 H6 _ I6 q6) λf s7 q7=>?_)
  have again:∀{σ7:St} {H7:Hp},Inv X (pins ++ pX fp s5.heap) σ7 H7 s7->N σ7 H7->∃m,m < n/\∃i σ' H',Inv X pins σ' H' s7/\tn i s7.heap/\(∀b∈fp,H' b=none)/\W i m σ' H':=λ{σ7 H7} I7 n7=>by
   obtain⟨m',hm,w7⟩:=hN σ7 H7 n7
   refine⟨m',hm,i + 1,σ7,H7,I7.unpinned,T.keep _ _ _ st5 λb hb o e=>(I7.pin (b,o) (M5 _ (M5 _ (kq hb e)))).1,λb hb=>?_,w7⟩
   obtain⟨o,e,d⟩:=T.obj _ _ st5 b hb
   exact (I7.pin (b,o) (M5 _ (M5 _ (kq hb e)))).2.1
  cases f with
  |next=>obtain⟨σ7,H7,I7,n7⟩:=q7;exact again I7 n7
  |cont=>obtain⟨σ7,H7,I7,n7⟩:=q7;exact again I7 n7
  |brk=>obtain⟨σ7,H7,I7,q7⟩:=q7;exact⟨σ7,H7,I7.unpinned,q7⟩
  |ret v=>obtain⟨x7,σ7,H7,I7,r7,q7⟩:=q7;exact⟨x7,σ7,H7,I7.unpinned,r7,q7⟩
end
def vD {K:Frag}{a:Addr}{xs:List V}{g:TG}{tb:TS}{D:Ends}{σ:St}{H:Hp}(Pv:Nat->St->Hp->Prop)(h0:Pv 0 σ H)(hl:∀i σ H,i<=xs.length->Pv i σ H->gN K H a xs)
  (hs:∀i x σ H,xs[i]? =some x->Pv i σ H->g x σ H λσ2 H2=>tb {D with nx:=Pv (i + 1),ct:=Pv (i + 1),bk:=D.nx} σ2 H2) (hd:∀σ H,Pv xs.length σ H->D.nx σ H) :
  ∃W:Nat->Nat->St->Hp->Prop,(∃m,W 0 m σ H)/\∀i m σ H,W i m σ H->
   ((AH K a).stop i H/\D.nx σ H)\/((AH K a).go i H/\∃N:St->Hp->Prop,(∀σ' H',N σ' H'->∃m',m' < m/\W (i + 1) m' σ' H')/\∀x H',(AH K a).yld i H x H'->g x σ H' λσ2 H2=>tb {D with nx:=N,ct:=N,bk:=D.nx} σ2 H2):=by
 refine⟨λi m σ H=>m=xs.length - i/\i<=xs.length/\Pv i σ H,⟨xs.length,by simp,Nl _,h0⟩,?_⟩
 rintro i m σ H ⟨rfl,hi,p⟩
 have q:=hl i σ H hi p
 by_cases hlt:i < xs.length
 ·refine .inr ⟨⟨xs,xs[i],q,by simp[hlt]⟩,Pv (i + 1),λσ' H' p'=>⟨xs.length - (i + 1),by omega,rfl,hlt,p'⟩,λx H' y=>?_⟩
  obtain⟨e,y⟩:=y
  subst e
  exact hs i x σ _ (y xs q) p
 ·have e:i=xs.length:=by omega
  subst e
  exact .inl ⟨⟨xs,q,MA _⟩,hd σ H p⟩
def Ef {K:Frag}{a:Addr}{xs:List V}{g:TG}{tb:TS}{D:Ends}{σ:St}{H:Hp}(Pv:Nat->St->Hp->Prop)(h0:Pv 0 σ H)(hl:∀i σ H,i<=xs.length->Pv i σ H->gM K H a xs)
  (hs:∀i x σ H,xs[i]? =some x->Pv i σ H->g x σ H λσ2 H2=>tb {D with nx:=Pv (i + 1),ct:=Pv (i + 1),bk:=D.nx} σ2 H2) (hd:∀σ H,Pv xs.length σ H->D.nx σ H) :
  ∃W:Nat->Nat->St->Hp->Prop,(∃m,W 0 m σ H)/\∀i m σ H,W i m σ H->
   ((FD K a).stop i H/\D.nx σ H)\/((FD K a).go i H/\∃N:St->Hp->Prop,(∀σ' H',N σ' H'->∃m',m' < m/\W (i + 1) m' σ' H')/\∀x H',(FD K a).yld i H x H'->g x σ H' λσ2 H2=>tb {D with nx:=N,ct:=N,bk:=D.nx} σ2 H2):=by
 refine⟨λi m σ H=>m=xs.length - i/\i<=xs.length/\Pv i σ H,⟨xs.length,by simp,Nl _,h0⟩,?_⟩
 rintro i m σ H ⟨rfl,hi,p⟩
 have q:=hl i σ H hi p
 by_cases hlt:i < xs.length
 ·refine .inr ⟨⟨xs,xs[i],q,by simp[hlt]⟩,Pv (i + 1),λσ' H' p'=>⟨xs.length - (i + 1),by omega,rfl,hlt,p'⟩,λx H' y=>?_⟩
  obtain⟨e,y⟩:=y
  subst e
  exact hs i x σ _ (y xs q) p
 ·have e:i=xs.length:=by omega
  subst e
  exact .inl ⟨⟨xs,q,MA _⟩,hd σ H p⟩
def AK {lo:Int}{n:Nat}{g:TG}{tb:TS}{D:Ends}{σ:St}{H:Hp}(Pv:Nat->St->Hp->Prop)(h0:Pv 0 σ H)
  (hs:∀i σ H,i < n->Pv i σ H->g (.int (lo + i)) σ H λσ2 H2=>tb {D with nx:=Pv (i + 1),ct:=Pv (i + 1),bk:=D.nx} σ2 H2) (hd:∀σ H,Pv n σ H->D.nx σ H) :
  ∃W:Nat->Nat->St->Hp->Prop,(∃m,W 0 m σ H)/\∀i m σ H,W i m σ H->
   ((BL lo n).stop i H/\D.nx σ H)\/((BL lo n).go i H/\∃N:St->Hp->Prop,(∀σ' H',N σ' H'->∃m',m' < m/\W (i + 1) m' σ' H')/\∀x H',(BL lo n).yld i H x H'->g x σ H' λσ2 H2=>tb {D with nx:=N,ct:=N,bk:=D.nx} σ2 H2):=by
 refine⟨λi m σ H=>m=n - i/\i<=n/\Pv i σ H,⟨n,by simp,Nl _,h0⟩,?_⟩
 rintro i m σ H ⟨rfl,hi,p⟩
 by_cases hlt:i < n
 ·refine .inr ⟨hlt,Pv (i + 1),λσ' H' p'=>⟨n - (i + 1),by omega,rfl,hlt,p'⟩,λx H' y=>?_⟩
  obtain⟨e,y⟩:=y
  subst e y
  exact hs i σ _ hlt p
 ·have e:i=n:=by omega
  subst e
  exact .inl ⟨MA _,hd σ H p⟩
abbrev R2:=V->V->Hp->VK->Prop
def kT (X:Cx)(f:Value->Value->Sem Value)(r:R2):Prop:=
 ∀(pins:List (Addr×Obj)) (s:Shared) (σ:St) (H:Hp) (x y:V) (v u:Value) (Q:VK),Inv X pins σ H s->RelV x v->RelV y u->r x y H Q->
  wpAny (model X.prog X.w) X.A (f v u) (EP X pins σ Q) X.xe s
def Kx (X:Cx)(f:Value->Sem Value)(r:V->Hp->VK->Prop):Prop:=
 ∀(pins:List (Addr×Obj)) (s:Shared) (σ:St) (H:Hp) (x:V) (v:Value) (Q:VK),Inv X pins σ H s->RelV x v->r x H Q->
  wpAny (model X.prog X.w) X.A (f v) (EP X pins σ Q) X.xe s
def dZ (X:Cx)(f:Value)(r:List V->Hp->VK->Prop):Prop:=
 ∀(pins:List (Addr×Obj)) (s:Shared) (σ:St) (H:Hp) (xs:List V) (us:List Value) (Q:VK),Inv X pins σ H s->Vals xs us->r xs H Q->
  wpAny (model X.prog X.w) X.A (call f us) (EP X pins σ Q) X.xe s
def KQ (X:Cx)(r:V->Hp->(Bool->Hp->Prop)->Prop):Prop:=
 ∀(pins:List (Addr×Obj)) (s:Shared) (σ:St) (H:Hp) (x:V) (v:Value) (Q:Bool->Hp->Prop),Inv X pins σ H s->RelV x v->r x H Q->
  wpAny (model X.prog X.w) X.A (truthy v) (TP X pins σ Q) X.xe s
def Kj (r:R2)(ta tb:TE):TE:=λσ H Q=>ta σ H λx H1=>tb σ H1 λy H2=>r x y H2 Q
def Mn (r:V->Hp->VK->Prop)(ta:TE):TE:=λσ H Q=>ta σ H λx H1=>r x H1 Q
def rI (C:Int->Int->Prop)(g:Int->Int->V):R2:=λx y H Q=>∃i j,x=.int i/\y=.int j/\C i j/\Q (g i j) H
def uX (g:Int->Int->V):R2:=λx y H Q=>∃i j,x=.int i/\y=.int j/\Q (g i j) H
def rU (g:Int->V):V->Hp->VK->Prop:=λx H Q=>∃i,x=.int i/\Q (g i) H
section
variable {X:Cx}{a b c:Expr}{ta tb tc:TE}{pos:Pos}
def Hu (ha:PE X a ta)(hb:PE X b tb){pins:List (Addr×Obj)}{s:Shared}{σ:St}{H:Hp}{R:V->V->Hp->Prop}(I:Inv X pins σ H s)
  (h:ta σ H λx H1=>tb σ H1 λy H2=>R x y H2) {Q:Value->Shared->Prop} {f:Value->Value->Sem Value}
  (hf:∀v u s2 x y H2,Inv X pins σ H2 s2->RelV x v->RelV y u->R x y H2->wpAny (model X.prog X.w) X.A (f v u) Q X.xe s2) :
  wpAny (model X.prog X.w) X.A (eval a X.env) (λv s₁=>wpAny (model X.prog X.w) X.A (eval b X.env) (λu s₂=>wpAny (model X.prog X.w) X.A (f v u) Q X.xe s₂) X.xe s₁) X.xe s:=by
 refine cD (ha pins s σ H _ I h) λv s1 ⟨x,H1,I1,r1,q1⟩=>?_
 refine cD (hb pins s1 σ H1 _ I1 q1) λu s2 ⟨y,H2,I2,r2,q2⟩=>?_
 exact hf v u s2 x y H2 I2 r1 r2 q2
def sE {op:Operator}{r:R2}(ho:kT X (binaryOp op) r)(ha:PE X a ta)(hb:PE X b tb):PE X (.BinOp a op b pos) (Kj r ta tb):=by
 intro pins s σ H Q I h
 exact wpAny_BinOp (Hu ha hb I h λv u s2 x y H2 I2 rx ry q=>ho pins s2 σ H2 x y v u Q I2 rx ry q)
def IB {op:UnaryOp}{r:V->Hp->VK->Prop}(ho:Kx X (unaryOp op) r)(ha:PE X a ta):PE X (.UnaryOp op a pos) (Mn r ta):=by
 intro pins s σ H Q I h
 exact UnaryOp_ (cD (ha pins s σ H _ I h) λv s1 ⟨x,H1,I1,r1,q1⟩=>ho pins s1 σ H1 x v Q I1 r1 q1)
def Km {f:Value->Value->Sem Value}{C:Int->Int->Prop}{g:Int->Int->Int}
  (rule:∀(i j:Int) (t u:Tok) (s:Shared) (Q:Value->Shared->Prop) (E:Value->Shared->Prop),C i j->Q (.int (g i j) s.toks) {s with toks:=s.toks + 1}->wpAny (model X.prog X.w) X.A (f (.int i t) (.int j u)) Q E s) :
  kT X f (rI C λi j=>.int (g i j)):=by
 intro pins s σ H x y v u Q I rx ry h
 obtain⟨i,j,rfl,rfl,hc,q⟩:=h
 obtain⟨t,rfl⟩:=rx
 obtain⟨t',rfl⟩:=ry
 exact rule i j t t' s _ _ hc ⟨.int (g i j),H,I.tok _,⟨_,rfl⟩,q⟩
def D8 {f:Value->Value->Sem Value}{g:Int->Int->Int}
  (rule:∀(i j:Int) (t u:Tok) (s:Shared) (Q:Value->Shared->Prop) (E:Value->Shared->Prop),Q (.int (g i j) s.toks) {s with toks:=s.toks + 1}->wpAny (model X.prog X.w) X.A (f (.int i t) (.int j u)) Q E s) :
  kT X f (uX λi j=>.int (g i j)):=by
 intro pins s σ H x y v u Q I rx ry h
 obtain⟨i,j,rfl,rfl,q⟩:=h
 obtain⟨t,rfl⟩:=rx
 obtain⟨t',rfl⟩:=ry
 exact rule i j t t' s _ _ ⟨.int (g i j),H,I.tok _,⟨_,rfl⟩,q⟩
def Gg {f:Value->Value->Sem Value}{g:Int->Int->Bool}
  (rule:∀(i j:Int) (t u:Tok) (s:Shared) (Q:Value->Shared->Prop) (E:Value->Shared->Prop),Q (.bool (g i j)) s->wpAny (model X.prog X.w) X.A (f (.int i t) (.int j u)) Q E s) :
  kT X f (uX λi j=>.bl (g i j)):=by
 intro pins s σ H x y v u Q I rx ry h
 obtain⟨i,j,rfl,rfl,q⟩:=h
 obtain⟨t,rfl⟩:=rx
 obtain⟨t',rfl⟩:=ry
 exact rule i j t t' s _ _ ⟨.bl (g i j),H,I,rfl,q⟩
def Ds (i j:Int):Prop:=0 < j/\j < 1073741824
def HJ (i j:Int):Prop:=0<=j/\j<=1000000/\i.natAbs < 2 ^ 64
def CS (i j:Int):Prop:=(-(2 ^ 64) < i/\i < 2 ^ 64)\/(-(2 ^ 64) < j/\j < 2 ^ 64)
def CS.ok {i j:Int}(h:CS i j):IntMulOk i j:=by
 rcases h with⟨h1,h2⟩ | ⟨h1,h2⟩
 ·exact .of_left (intBits_le_64 h1 h2)
 ·exact .of_right (intBits_le_64 h1 h2)
def gP:kT X (binaryOp .Add) (uX λi j=>.int (i + j)):=D8 λ_ _ _ _ _ _ _ q=>add_int q
def yb:kT X (binaryOp .Sub) (uX λi j=>.int (i - j)):=D8 λ_ _ _ _ _ _ _ q=>sub_int q
def lC:kT X (binaryOp .Mult) (rI CS λi j=>.int (i * j)):=Km λ_ _ _ _ _ _ _ hc q=>mul_int q hc.ok
def tZ:kT X (binaryOp .FloorDiv) (rI Ds λi j=>.int (i / j)):=Km λi j _ _ _ _ _ hc q=>by
 have h1:(0:Int) < j:=hc.1
 have h2:j < 1073741824:=hc.2
 exact floordiv_int (by omega) (by rw[Int.fdiv_eq_ediv_of_nonneg i (by omega)];exact q) (.inl (PyProof.noPylong_small (by omega)))
def mM:kT X (binaryOp .Mod) (rI (λ_ j=>0 < j) λi j=>.int (i % j)):=Km λi j _ _ _ _ _ hc q=>by
 have h1:(0:Int) < j:=hc
 exact mod_int' (by omega) (by rw[Int.fmod_eq_emod_of_nonneg i (by omega)];exact q)
def HX:kT X (binaryOp .LShift) (rI HJ λi j=>.int (i * 2 ^ j.toNat)):=Km λ_ _ _ _ _ _ _ hc q=>lshift_int_small hc.1 hc.2.1 hc.2.2 q
def HQ:kT X (binaryOp .BitAnd) (uX λi j=>.int (Builtin.bitAnd i j)):=D8 λ_ _ _ _ _ _ _ q=>and_int q
def Fp:kT X (binaryOp .BitOr) (uX λi j=>.int (Builtin.bitOr i j)):=D8 λ_ _ _ _ _ _ _ q=>or_int q
def Mo {f:Value->Sem Value}{g:Int->Int}
  (rule:∀(i:Int) (t:Tok) (s:Shared) (Q:Value->Shared->Prop) (E:Value->Shared->Prop),Q (.int (g i) s.toks) {s with toks:=s.toks + 1}->wpAny (model X.prog X.w) X.A (f (.int i t)) Q E s) :
  Kx X f (rU λi=>.int (g i)):=by
 intro pins s σ H x v Q I rx h
 obtain⟨i,rfl,q⟩:=h
 obtain⟨t,rfl⟩:=rx
 exact rule i t s _ _ ⟨.int (g i),H,I.tok _,⟨_,rfl⟩,q⟩
def xg:Kx X (unaryOp .USub) (rU λi=>.int (-i)):=Mo λ_ _ _ _ _ q=>neg_int q
end
def JU:V->V->Bool
 | .non,.non=>true | .non,.int _=>true | .int _,.non=>true | .non,.bl _=>true | .bl _,.non=>true | .non,.str _=>true | .str _,.non=>true
 | .int _,.int _=>true | .bl _,.bl _=>true | .str _,.str _=>true | .byt _,.byt _=>true
 | .int _,.str _=>true | .str _,.int _=>true | .bl _,.str _=>true | .str _,.bl _=>true
 |_,_=>false
def L3:R2:=λx y H Q=>JU x y=true/\Q (.bl (decide (x=y))) H
def L7:R2:=λx y H Q=>JU x y=true/\Q (.bl (!decide (x=y))) H
def y6 {i j:Int}:decide (V.int i=V.int j)=(i == j):=by
 rw[Na]
 simp
def Bg {i j:Bool}:decide (V.bl i=V.bl j)=(i == j):=by
 rw[Na]
 simp
def zo {i j:Str}:decide (V.str i=V.str j)=(i == j):=by
 rw[Na]
 simp
def yw {i j:Array UInt8}:decide (V.byt i=V.byt j)=(i.toList == j.toList):=by
 rw[Na]
 cases i
 cases j
 simp
section
variable {X:Cx}{a b c:Expr}{ta tb tc:TE}{pos:Pos}
def bL {pins:List (Addr×Obj)}{σ:St}{H:Hp}{s:Shared}{Q:VK}{k k':Bool}(I:Inv X pins σ H s)(q:Q (.bl k) H)(e:k=k'):EP X pins σ Q (.bool k') s:=by
 subst e
 exact⟨.bl k,H,I,rfl,q⟩
theorem IW:kT X (compareOp .Eq) L3:=by
 intro pins s σ H x y v u Q I rx ry h
 obtain⟨hs,q⟩:=h
 cases x with
 |non=>
  cases rx
  cases y with
  |non=>cases ry;exact PySem.EqNone.eq_none_none (bL I q (by simp))
  |bl j=>cases ry;exact PySem.EqNone.eq_none_bool (bL I q (by simp))
  |int j=>obtain⟨t',rfl⟩:=ry;exact PySem.EqNone.eq_none_int (bL I q (by simp))
  |str j=>obtain⟨t',rfl⟩:=ry;exact PySem.EqNone.eq_none_str (bL I q (by simp))
  |_=>exact absurd (show false=true from hs) MI
 |bl i=>
  cases rx
  cases y with
  |non=>cases ry;exact PySem.EqNone.eq_bool_none (bL I q (by simp))
  |bl j=>cases ry;exact eq_bool (bL I q Bg)
  |str j=>obtain⟨t',rfl⟩:=ry;exact PySem.EqMixed.eq_bool_str (bL I q (by simp))
  |_=>exact absurd (show false=true from hs) MI
 |int i=>
  obtain⟨t,rfl⟩:=rx
  cases y with
  |non=>cases ry;exact PySem.EqNone.eq_int_none (bL I q (by simp))
  |int j=>obtain⟨t',rfl⟩:=ry;exact eq_int (bL I q y6)
  |str j=>obtain⟨t',rfl⟩:=ry;exact PySem.EqMixed.eq_int_str (bL I q (by simp))
  |_=>exact absurd (show false=true from hs) MI
 |str i=>
  obtain⟨t,rfl⟩:=rx
  cases y with
  |non=>cases ry;exact PySem.EqNone.eq_str_none (bL I q (by simp))
  |bl j=>cases ry;exact PySem.EqMixed.eq_str_bool (bL I q (by simp))
  |int j=>obtain⟨t',rfl⟩:=ry;exact PySem.EqMixed.eq_str_int (bL I q (by simp))
  |str j=>obtain⟨t',rfl⟩:=ry;exact eq_str (bL I q zo)
  |_=>exact absurd (show false=true from hs) MI
 |byt i=>
  obtain⟨t,rfl⟩:=rx
  cases y with
  |byt j=>obtain⟨t',rfl⟩:=ry;exact PySem.W.eq_bytes (bL I q yw)
  |_=>exact absurd (show false=true from hs) MI
 |_=>cases y <;> exact absurd (show false=true from hs) MI
theorem J4:kT X (compareOp .NotEq) L7:=by
 intro pins s σ H x y v u Q I rx ry h
 obtain⟨hs,q⟩:=h
 cases x with
 |non=>
  cases rx
  cases y with
  |non=>cases ry;exact PySem.EqNone.ne_none_none (bL I q (by simp))
  |bl j=>cases ry;exact PySem.EqNone.ne_none_bool (bL I q (by simp))
  |int j=>obtain⟨t',rfl⟩:=ry;exact PySem.EqNone.ne_none_int (bL I q (by simp))
  |str j=>obtain⟨t',rfl⟩:=ry;exact PySem.EqNone.ne_none_str (bL I q (by simp))
  |_=>exact absurd (show false=true from hs) MI
 |bl i=>
  cases rx
  cases y with
  |non=>cases ry;exact PySem.EqNone.ne_bool_none (bL I q (by simp))
  |bl j=>cases ry;exact ne_bool (bL I q (congrArg not Bg))
  |str j=>obtain⟨t',rfl⟩:=ry;exact PySem.EqMixed.ne_bool_str (bL I q (by simp))
  |_=>exact absurd (show false=true from hs) MI
 |int i=>
  obtain⟨t,rfl⟩:=rx
  cases y with
  |non=>cases ry;exact PySem.EqNone.ne_int_none (bL I q (by simp))
  |int j=>obtain⟨t',rfl⟩:=ry;exact ne_int (bL I q (congrArg not y6))
  |str j=>obtain⟨t',rfl⟩:=ry;exact PySem.EqMixed.ne_int_str (bL I q (by simp))
  |_=>exact absurd (show false=true from hs) MI
 |str i=>
  obtain⟨t,rfl⟩:=rx
  cases y with
  |non=>cases ry;exact PySem.EqNone.ne_str_none (bL I q (by simp))
  |bl j=>cases ry;exact PySem.EqMixed.ne_str_bool (bL I q (by simp))
  |int j=>obtain⟨t',rfl⟩:=ry;exact PySem.EqMixed.ne_str_int (bL I q (by simp))
  |str j=>obtain⟨t',rfl⟩:=ry;exact ne_str (bL I q (congrArg not zo))
  |_=>exact absurd (show false=true from hs) MI
 |byt i=>
  obtain⟨t,rfl⟩:=rx
  cases y with
  |byt j=>obtain⟨t',rfl⟩:=ry;exact PySem.W.ne_bytes (bL I q (congrArg not yw))
  |_=>exact absurd (show false=true from hs) MI
 |_=>cases y <;> exact absurd (show false=true from hs) MI
def sM:kT X (compareOp .Lt) (uX λi j=>.bl (decide (i < j))):=Gg λ_ _ _ _ _ _ _ q=>lt_int q
def qU:kT X (compareOp .LtE) (uX λi j=>.bl (decide (i<=j))):=Gg λ_ _ _ _ _ _ _ q=>le_int q
def JF:kT X (compareOp .Gt) (uX λi j=>.bl (decide (j < i))):=Gg λ_ _ _ _ _ _ _ q=>gt_int q
def aY (b:Expr){op:CmpOp}(h:op≠.In:=by decide)(h2:op≠.NotIn:=by decide):behindInMarks op b=false:=by
 have e1:(op == CmpOp.In)=false:=by cases op <;> first |rfl |exact absurd rfl h
 have e2:(op == CmpOp.NotIn)=false:=by cases op <;> first |rfl |exact absurd rfl h2
 cases b <;> simp[behindInMarks,e1,e2]
def ER {op:CmpOp}{r:R2}(ho:kT X (compareOp op) r)(ha:PE X a ta)(hb:PE X b tb)(hm:behindInMarks op b=false):PE X (.Compare a [op] [b] pos) (Kj r ta tb):=by
 intro pins s σ H Q I h
 exact wpAny_Compare1 (Hu ha hb I h λv u s2 x y H2 I2 rx ry q=>ho pins s2 σ H2 x y v u Q I2 rx ry q) hm
def FO (t:TE):TT:=λσ H Q=>t σ H λx H'=>∃k,x=.bl k/\Q k H'
def DS {op:CmpOp}{r:R2}(ho:kT X (compareOp op) r)(ha:PE X a ta)(hb:PE X b tb)(hm:behindInMarks op b=false):PT X (.Compare a [op] [b] pos) (FO (Kj r ta tb)):=by
 intro pins s σ H Q I h
 refine wpAny_isTrue_Compare1 (cD (ha pins s σ H _ I h) λv s1 ⟨x,H1,I1,r1,q1⟩=>cD (hb pins s1 σ H1 _ I1 q1) λu s2 ⟨y,H2,I2,r2,q2⟩=>
  cD (ho pins s2 σ H2 x y v u _ I2 r1 r2 q2) λc s3 ⟨z,H3,I3,r3,k,e,q3⟩=>?_) hm
 subst e
 cases r3
 exact Ny ⟨H3,I3,q3⟩
def BE (r r':R2)(ta tb tc:TE):TE:=λσ H Q=>ta σ H λx H1=>tb σ H1 λy H2=>r x y H2 λz H3=>∃k,z=.bl k/\
 (if k=true then tc σ H3 λw' H4=>r' y w' H4 Q else Q (.bl false) H3)
theorem Cb {op op':CmpOp}{r r':R2}(ho:kT X (compareOp op) r)(ho':kT X (compareOp op') r')(ha:PE X a ta)(hb:PE X b tb)(hc:PE X c tc)
  (hm:lastMarks [op,op'] [b,c]=false:=by with_unfolding_all rfl):PE X (.Compare a [op,op'] [b,c] pos) (BE r r' ta tb tc):=by
 intro pins s σ H Q I h
 refine Compare_chain (cD (ha pins s σ H _ I h) λv s1 ⟨x,H1,I1,r1,q1⟩=>chain_link (cD (hb pins s1 σ H1 _ I1 q1) λu s2 ⟨y,H2,I2,r2,q2⟩=>
  cD (ho pins s2 σ H2 x y v u _ I2 r1 r2 q2) λd s3 ⟨z,H3,I3,r3,k,e,q3⟩=>?_)) hm
 subst e
 cases r3
 refine Ny ?_
 cases k with
 |false=>exact ite_ff ⟨.bl false,H3,I3,rfl,q3⟩
 |true=>exact ite_tt (chain_last (cD (hc pins s3 σ H3 _ I3 q3) λw' s4 ⟨z',H4,I4,r4,q4⟩=>ho' pins s4 σ H4 y z' u w' Q I4 r2 r4 q4))
theorem C1 {op op':CmpOp}{r r':R2}(ho:kT X (compareOp op) r)(ho':kT X (compareOp op') r')(ha:PE X a ta)(hb:PE X b tb)(hc:PE X c tc)
  (hm:lastMarks [op,op'] [b,c]=false:=by with_unfolding_all rfl):PT X (.Compare a [op,op'] [b,c] pos) (FO (BE r r' ta tb tc)):=by
 intro pins s σ H Q I h
 refine isTrue_chain (cD (ha pins s σ H _ I h) λv s1 ⟨x,H1,I1,r1,q1⟩=>test_link (cD (hb pins s1 σ H1 _ I1 q1) λu s2 ⟨y,H2,I2,r2,q2⟩=>
  cD (ho pins s2 σ H2 x y v u _ I2 r1 r2 q2) λd s3 ⟨z,H3,I3,r3,k,e,q3⟩=>?_)) hm
 subst e
 cases r3
 refine Ny ?_
 cases k with
 |false=>
  obtain⟨k',e',q'⟩:=q3
  cases e'
  exact ite_ff ⟨H3,I3,q'⟩
 |true=>
  refine ite_tt (test_last (cD (hc pins s3 σ H3 _ I3 q3) λw' s4 ⟨z',H4,I4,r4,q4⟩=>cD (ho' pins s4 σ H4 y z' u w' _ I4 r2 r4 q4) λd' s5 ⟨z2,H5,I5,r5,k2,e2,q5⟩=>?_))
  subst e2
  cases r5
  exact Ny ⟨H5,I5,q5⟩
def Jy (K:Frag)(x:V)(H:Hp)(k:Bool):Prop:=
 match x with
 | .non=>k=false
 | .bl b=>k=b
 | .int i=>k=(i != 0)
 | .str y=>y.length<=sizeLine/\k=((y.length:Int) != 0)
 | .byt y=>y.size<=sizeLine/\k=((y.size:Int) != 0)
 | .ref p=>(∃xs,gN K H p xs/\k= !xs.isEmpty)\/(∃xs,gM K H p xs/\k= !xs.isEmpty)\/∃kvs,H p=some (.dK kvs)/\k= !kvs.isEmpty
 |_=>False
def xE {κ:Type}{kvs:List (κ×V)}{vs:List (κ×Value)}(r:KV kvs vs):(!vs.isEmpty)= !kvs.isEmpty:=by
 cases r <;> rfl
def qG {xs:List V}{its:List Value}(r:Vals xs its):(!its.toArray.isEmpty)= !xs.isEmpty:=by
 cases r <;> simp
def ox:(sizeLine:Nat) < 2 ^ 63:=by rw[Nc];decide
theorem Ia:KQ X (λx H Q=>∃k,Jy X.K x H k/\Q k H):=by
 intro pins s σ H x v Q I rx h
 obtain⟨k,e,q⟩:=h
 have hl:=ox
 have hs:sizeLine=16777216:=Nc
 cases x with
 |non=>
  cases rx
  have e':k=false:=e
  subst e'
  exact truthy_none ⟨H,I,q⟩
 |bl b=>
  cases rx
  have e':k=b:=e
  subst e'
  exact Ny ⟨H,I,q⟩
 |int i=>
  obtain⟨t,rfl⟩:=rx
  have e':k=(i != 0):=e
  subst e'
  exact PySem.P.truthy_int ⟨H,I,q⟩
 |str y=>
  obtain⟨t,rfl⟩:=rx
  obtain⟨hy,e'⟩:y.length<=sizeLine/\k=((y.length:Int) != 0):=e
  subst e'
  exact PySem.P.truthy_str (by omega) ⟨H,I.tok _,q⟩
 |byt y=>
  obtain⟨t,rfl⟩:=rx
  obtain⟨hy,e'⟩:y.size<=sizeLine/\k=((y.size:Int) != 0):=e
  subst e'
  exact PySem.W.truthy_bytes (by omega) ⟨H,I.tok _,q⟩
 |ref p=>
  cases rx
  have e':(∃xs,gN X.K H p xs/\k= !xs.isEmpty)\/(∃xs,gM X.K H p xs/\k= !xs.isEmpty)\/∃kvs,H p=some (.dK kvs)/\k= !kvs.isEmpty:=e
  rcases e' with⟨xs,hx,e'⟩ | ⟨xs,hx,e'⟩ | ⟨kvs,hx,e'⟩
  ·subst e'
   obtain⟨its,r,pl,hz⟩:=I.list hx
   have hlen:=r.length
   exact wpAny_truthy_list pl.isList (by simp only[MK];omega) ⟨H,I.tok _,by rw[qG r];exact q⟩
  ·subst e'
   obtain⟨its,r,pl,hz⟩:=I.tuple hx
   have hlen:=r.length
   exact truthy_tuple pl (by simp only[MK];omega) ⟨H,I.tok _,by rw[qG r];exact q⟩
  ·subst e'
   obtain⟨hz,hS,vs,r,m⟩:kvs.length<=sizeLine/\(p == sysModules)=false/\∃vs,KV kvs vs/\s.heap.DictOf (lY X.prog X.w) p vs:=I.hok p _ hx
   have hlen:kvs.length=vs.length:=Paired.length r
   exact wpAny_truthy_dict hS m (by omega) ⟨H,I.tok _,by rw[xE r];exact q⟩
 |_=>exact (show False from e).elim
def CH (ha:PE X a ta)(he:∀whole,isTrue a X.env whole=(do let v <-whole;standAt a.pos;holding [v] (truthy v))) :
  PT X a (λσ H Q=>ta σ H λx H'=>∃k,Jy X.K x H' k/\Q k H'):=by
 intro pins s σ H Q I h
 exact isTrue_plain (cD (ha pins s σ H _ I h) λv s1 ⟨x,H1,I1,r1,q1⟩=>Ia pins s1 σ H1 x v Q I1 r1 q1) (he _)
theorem vals1 {x:V}{us:List Value}(r:Vals [x] us):∃u,us= [u]/\RelV x u:=by
 cases r with
 |cons r1 r2=>cases r2;exact⟨_,rfl,r1⟩
theorem vals2 {x y:V}{us:List Value}(r:Vals [x,y] us):∃u w',us= [u,w']/\RelV x u/\RelV y w':=by
 cases r with
 |cons r1 r2=>
  cases r2 with
  |cons r3 r4=>cases r4;exact⟨_,_,rfl,r1,r3⟩
def Ap (hc:X.calm=true):dZ X (.builtin "max") (λxs H Q=>∃i j,xs= [.int i,.int j]/\Q (.int (if j > i then j else i)) H):=by
 intro pins s σ H xs us Q I r h
 obtain⟨i,j,rfl,q⟩:=h
 obtain⟨u,w',rfl,⟨t,rfl⟩,⟨t',rfl⟩⟩:=vals2 r
 refine max_two_ints (I.ok.hd hc) λh' tk k=>⟨_,H,I.kept k,?_,q⟩
 by_cases hj:j > i
 ·rw[My hj,My hj];exact⟨_,rfl⟩
 ·rw[MG hj,MG hj];exact⟨_,rfl⟩
def z8 (hc:X.calm=true):dZ X (.builtin "min") (λxs H Q=>∃i j,xs= [.int i,.int j]/\Q (.int (if j < i then j else i)) H):=by
 intro pins s σ H xs us Q I r h
 obtain⟨i,j,rfl,q⟩:=h
 obtain⟨u,w',rfl,⟨t,rfl⟩,⟨t',rfl⟩⟩:=vals2 r
 refine min_two_ints (I.ok.hd hc) λh' tk k=>⟨_,H,I.kept k,?_,q⟩
 by_cases hj:j < i
 ·rw[My hj,My hj];exact⟨_,rfl⟩
 ·rw[MG hj,MG hj];exact⟨_,rfl⟩
def Kd (K:Frag)(x:V)(H:Hp)(n:Nat):Prop:=
 match x with
 | .str y=>y.length<=sizeLine/\n=y.length
 | .byt y=>y.size<=sizeLine/\n=y.size
 | .ref p=>(∃xs,gN K H p xs/\n=xs.length)\/∃xs,gM K H p xs/\n=xs.length
 |_=>False
theorem bI:dZ X (.builtin "len") (λxs H Q=>∃x n,xs= [x]/\Kd X.K x H n/\Q (.int n) H):=by
 intro pins s σ H xs us Q I r h
 obtain⟨x,n,rfl,e,q⟩:=h
 obtain⟨u,rfl,rx⟩:=vals1 r
 have hl:=ox
 have hs:sizeLine=16777216:=Nc
 cases x with
 |str y=>
  obtain⟨t,rfl⟩:=rx
  obtain⟨hy,e'⟩:y.length<=sizeLine/\n=y.length:=e
  subst e'
  exact len_str (by omega) ⟨.int _,H,I.tok _,⟨_,rfl⟩,q⟩
 |byt y=>
  obtain⟨t,rfl⟩:=rx
  obtain⟨hy,e'⟩:y.size<=sizeLine/\n=y.size:=e
  subst e'
  exact PySem.W.len_bytes (by omega) ⟨.int _,H,I.tok _,⟨_,rfl⟩,q⟩
 |ref p=>
  cases rx
  have e':(∃xs,gN X.K H p xs/\n=xs.length)\/∃xs,gM X.K H p xs/\n=xs.length:=e
  rcases e' with⟨xs,hx,e'⟩ | ⟨xs,hx,e'⟩
  ·subst e'
   obtain⟨its,r',pl,hz⟩:=I.list hx
   have hlen:=r'.length
   exact Calls.call_len_list pl.isList (by simp only[MK];omega) ⟨.int xs.length,H,I.tok _,⟨_,by simp only[MK];rw[hlen]⟩,q⟩
  ·subst e'
   obtain⟨its,r',pl,hz⟩:=I.tuple hx
   have hlen:=r'.length
   exact len_tuple pl (by simp only[MK];omega) ⟨.int xs.length,H,I.tok _,⟨_,by simp only[MK];rw[hlen]⟩,q⟩
 |_=>exact (show False from e).elim
def u9:dZ X (.builtin "divmod") (λxs H Q=>∃i j,xs= [.int i,.int j]/\Ds i j/\∀p,H p=none->Q (.ref p) (upd H p (.tup [.int (i / j),.int (i % j)]))):=by
 intro pins s σ H xs us Q I r h
 obtain⟨i,j,rfl,⟨h1,h2⟩,q⟩:=h
 obtain⟨u,w',rfl,⟨t,rfl⟩,⟨t',rfl⟩⟩:=vals2 r
 refine divmod_int (by omega) ?_ (.inl (PyProof.noPylong_small (by omega)))
 rw[Int.fdiv_eq_ediv_of_nonneg i (by omega),Int.fmod_eq_emod_of_nonneg i (by omega)]
 have hn:H s.heap.objs.size=none:=I.hok.fresh (MA _)
 refine⟨.ref s.heap.objs.size,_,?_,rfl,q _ hn⟩
 refine I.laid (λb o e=>MD _ e) (MA _) ⟨by simp only[Nm,List.length_nil];rw[Nc];decide,[.int (i / j) s.toks,.int (i % j) (s.toks + 1)],.cons ⟨_,rfl⟩ (.cons ⟨_,rfl⟩ .nil),?_⟩
 exact⟨_,MO s.heap rfl,rfl,0,rfl,rfl⟩
end
structure Ih (h:Heap)(x dx C:Addr)(mA:Str->Option Value):Prop where
 obj:h.get? x=some (PySem.W.instObj C dx)
 ns:h.Ns1 dx mA
 ne:dx≠x
def Au {h:Heap}{dx:Addr}{mA:Str->Option Value}(n:h.Ns1 dx mA):∃od,h.get? dx=some od/\∀name,PySem.W.lookIn name od=some (mA name):=by
 obtain⟨o,es,ep,ho,hd,hk,_,hm⟩:=n
 refine⟨o,ho,λname=>?_⟩
 have e:=hm name
 unfold nsFind findBy at e
 rw[<-Array.find?_toList] at e
 unfold PySem.W.lookIn
 rw[hd]
 dsimp only
 split
 ·rename_i y q
  rw[q] at e
  exact congrArg some e
 ·rename_i q
  rw[q] at e
  have a:es.toList.any (·.refKey)=false:=by
   rw[List.any_eq_false]
   intro y hy
   obtain⟨z,t,hkey⟩:=hk y (Array.mem_toList_iff.mp hy)
   simp[DictEntry.refKey,hkey]
  have a':¬es.toList.any (·.refKey)=true:=by rw[a];exact MI
  rw[MG a']
  exact congrArg some e
def Ih.look {h:Heap}{x dx C:Addr}{mA:Str->Option Value}(I:Ih h x dx C mA):∃od,PySem.W.InstAt h x (PySem.W.instObj C dx) C (some od)/\∀name,PySem.W.lookIn name od=some (mA name):=
 let ⟨od,ho,hl⟩:=Au I.ns
 ⟨od,⟨I.obj,rfl,rfl,ho⟩,hl⟩
section
variable {P:Program}{w:World}{H H':Hp}{h h':Heap}{a C dx:Addr}{fs fs':List (Str×V)}
def DN (hok:mi P w H h)(e:H a=some (.ins C dx fs)):∃mA,Ih h a dx C mA/\(∀f,Bq (fs.lookup f) (mA f))/\PySem.Within mA (fs.map (·.1))/\fs.length<=1000/\H dx=some (.own a):=by
 obtain⟨d,z,ne,ob,mA,n,r,q⟩:=(show cJ P w H h a (.ins C dx fs) from hok a _ e)
 exact⟨mA,⟨ob,n,ne⟩,r,q,z,d⟩
end
structure Lf (K:Frag)(C:Addr):Prop where
 pg:PySem.W.plainGet K C Str.empty=true
 hd:PySem.W.hasDictIn K C=true
 po:PySem.W.plainOver K C=true
 sa:PySem.W.findIn K (.ref C) "__setattr__"=some (some (.builtin "object.__setattr__"))
def Lf.get {K:Frag}{C:Addr}(c:Lf K C)(f:Str):PySem.W.plainGet K C f=true:=c.pg
section
variable {X:Cx}{pins:List (Addr×Obj)}{σ:St}{H:Hp}{s:Shared}{A:Around}{E:Value->Shared->Prop}{Q:Value->Shared->Prop}{c:Value}{b:Bool}
inductive o5 (K:Frag)(H:Hp):V->Value->Prop where
 |non:o5 K H .non (.type "NoneType")
 |bl (x:Bool):o5 K H (.bl x) (.type "bool")
 |int (i:Int):o5 K H (.int i) (.type "int")
 |str (x:Str):o5 K H (.str x) (.type "str")
 |flt (x:UInt64):o5 K H (.flt x) (.type "float")
 |lst {a:Addr} {xs:List V} (e:H a=some (.lst xs)):o5 K H (.ref a) (.type "list")
 |aS {a:Addr} {o:Obj} {xs:List V} (e:H a=some (.aS o (.lst xs))):o5 K H (.ref a) (.type "list")
 |tup {a:Addr} {xs:List V} (e:H a=some (.tup xs)):o5 K H (.ref a) (.type "tuple")
 |dK {a:Addr} {kvs:List (Key×V)} (e:H a=some (.dK kvs)):o5 K H (.ref a) (.type "dict")
 |dT {a:Addr} {kvs:List (List Key×V)} (e:H a=some (.dT kvs)):o5 K H (.ref a) (.type "dict")
 |ins {a C dx:Addr} {fs:List (Str×V)} (e:H a=some (.ins C dx fs)) (cl:Lf K C) (ha:PySem.W.findIn K (.ref C) "__class__"=some (some (.builtin "object.__class__")))
   (hn:PySem.W.specialIn K (.builtin "object.__class__") "__get__"=some (some (.builtin "getset_descriptor.__get__"))) (htk:PySem.W.takesIn K (.builtin "object.__class__")=some true)
   (hm:PySem.W.mroIn K C (.type "object")=some true):o5 K H (.ref a) (.ref C)
theorem j7 {x:V}{u t:Value}(I:Inv X pins σ H s)(rx:RelV x u)(ty:o5 X.K H x t)(e:PySem.W.kitOne X.K t c=some b)(h:∀tk,Q (.bool b) {s with toks:=tk}) :
  wpAny (model X.prog X.w) A (call (.builtin "isinstance") [u,c]) Q E s:=by
 cases ty with
 |non=>cases (show u=Value.none from rx);exact Nr PySem.W.kitx_none I.kIn True.intro e (λz=>nomatch z) h
 |bl y=>cases (show u=Value.bool y from rx);exact Nr PySem.W.kitx_bool I.kIn True.intro e (λz=>nomatch z) h
 |int i=>obtain⟨t,q⟩:=(show ∃t,u=Value.int i t from rx);cases q;exact Nr PySem.W.kitx_int I.kIn True.intro e (λz=>nomatch z) h
 |str y=>obtain⟨t,q⟩:=(show ∃t,u=Value.str y t from rx);cases q;exact Nr PySem.W.kitx_str I.kIn True.intro e (λz=>nomatch z) h
 |flt y=>obtain⟨t,q⟩:=(show ∃t,u=Value.float y t from rx);cases q;exact Nr PySem.W.kitx_float I.kIn True.intro e (λz=>nomatch z) h
 | @lst a xs ea=>
  cases (show u=Value.ref a from rx)
  obtain⟨_,_,n,_,h1⟩:=(show cJ X.prog X.w H s.heap a (.lst xs) from I.hok a _ ea)
  exact Nr PySem.W.kitx_list I.kIn ⟨_,h1,rfl⟩ e (λz=>nomatch z) h
 | @aS a ob xs ea=>
  cases (show u=Value.ref a from rx)
  obtain⟨_,_,_,n,_,h1⟩:=(show cJ X.prog X.w H s.heap a (.aS ob (.lst xs)) from I.hok a _ ea)
  exact Nr PySem.W.kitx_list I.kIn ⟨_,h1,rfl⟩ e (λz=>nomatch z) h
 | @tup a xs ea=>
  cases (show u=Value.ref a from rx)
  obtain⟨_,_,_,p⟩:=(show cJ X.prog X.w H s.heap a (.tup xs) from I.hok a _ ea)
  obtain⟨o,h1,h2,_⟩:=p
  exact Nr PySem.W.kitx_tuple I.kIn ⟨o,h1,h2⟩ e (λz=>nomatch z) h
 | @dK a kvs ea=>
  cases (show u=Value.ref a from rx)
  obtain⟨_,_,vs,_,p⟩:=(show cJ X.prog X.w H s.heap a (.dK kvs) from I.hok a _ ea)
  obtain⟨o,es,ep,h1,h2,_⟩:=p
  exact Nr PySem.W.kitx_dict I.kIn ⟨o,h1,h2.1⟩ e (λz=>nomatch z) h
 | @dT a kvs ea=>
  cases (show u=Value.ref a from rx)
  obtain⟨_,_,xs,_,o,es,ep,h1,h2,_⟩:=(show cJ X.prog X.w H s.heap a (.dT kvs) from I.hok a _ ea)
  exact Nr PySem.W.kitx_dict I.kIn ⟨o,h1,h2.1⟩ e (λz=>nomatch z) h
 | @ins a C dx fs ea cl ha hn htk hm=>
  cases (show u=Value.ref a from rx)
  obtain⟨mA,O,_⟩:=DN I.hok ea
  obtain⟨od,J,_⟩:=O.look
  exact Nr (PySem.W.kitx_own (cl.get _) cl.hd ha hn htk hm) I.kIn J e (λz=>nomatch z) h
end
structure dt (k:Nat)(A:Around):Prop where
 hd:A.handled=none
 dp:A.depth + 3 * k + 5 < recursionLimit
 un:A.units + 16 * k + 200 < cLine
 gd:A.guards=some []
def dt.mono {j k:Nat}{A:Around}(r:dt k A)(h:j<=k):dt j A:=⟨r.hd,by have:=r.dp;omega,by have:=r.un;omega,r.gd⟩
def dt.deeper {k:Nat}{A:Around}(r:dt (k + 1) A)(env:Env):dt k (A.deeper env):=
 ⟨r.hd,by have:=r.dp;show A.depth + 1 + 3 * k + 5 < _;omega,by have:=r.un;show A.units + 3 + 16 * k + 200 < _;omega,r.gd⟩
def dt.in1 {k:Nat}{A:Around}(r:dt (k + 1) A):dt k A.in1:=
 ⟨r.hd,by have:=r.dp;show A.depth + 3 * k + 5 < _;omega,by have:=r.un;show A.units + 1 + 16 * k + 200 < _;omega,r.gd⟩
def dt.depth {k:Nat}{A:Around}(r:dt k A):A.depth < recursionLimit:=by have:=r.dp;omega
def dt.units {k:Nat}{A:Around}(r:dt k A):A.units + 64 < cLine:=by have:=r.un;omega
def D7:TA:=λ_ H Q=>Q [] H
def yI (ta:TE)(tr:TA):TA:=λσ H Q=>ta σ H λx H1=>tr σ H1 λxs H2=>Q (x :: xs) H2
section
variable {X:Cx}{e:Expr}{es:List Expr}{te:TE}{t:TA}{pos:Pos}
def bS:PA X [] D7:=λ_ _ _ _ H Q I h=>Calls.spliced_nil ⟨[],H,I,.nil,h⟩
def aQ (ha:PE X e te)(hr:PA X es t)(hs:starEach (e :: es) X.env=(false,eval e X.env) :: starEach es X.env:=by rfl):PA X (e :: es) (yI te t):=by
 intro pos pins s σ H Q I h
 rw[hs]
 show wpAny _ _ (spliced ((false,eval e X.env) :: backTo pos (starEach es X.env))) _ _ s
 refine Calls.spliced_cons (cD (ha pins s σ H _ I h) λu s1 ⟨x,H1,I1,r1,q1⟩=>?_)
 exact cD (hr pos pins s1 σ H1 _ I1 q1) λus s2 ⟨xs,H2,I2,r2,q2⟩=>⟨x :: xs,H2,I2,.cons r1 r2,q2⟩
def Lj (t:TA):TE:=λσ H Q=>t σ H λxs H1=>xs.length<=sizeLine/\∀p,H1 p=none->Q (.ref p) (upd H1 p (.tup xs))
def LB (t:TA):TE:=λσ H Q=>t σ H λxs H1=>xs.length<=sizeLine/\∀p,H1 p=none->Q (.ref p) (upd H1 p (.lst xs))
def wQ {x1}(h:PA X es t):PE X (.Tuple es x1 pos) (Lj t):=by
 intro pins s σ H Q I hq
 refine wpAny_Tuple_spliced (cD (h pos pins s σ H _ I hq) λus s1 ⟨xs,H1,I1,r,z,q⟩=>⟨by rw[<-r.length];exact z,?_⟩)
 have hf:H1 s1.heap.objs.size=none:=I1.hok.fresh (MA _)
 refine⟨.ref s1.heap.objs.size,upd H1 s1.heap.objs.size (.tup xs),I1.laid (t':=s1.toks) (λb u e=>MD _ e) (MA _) ?_,rfl,q _ hf⟩
 exact⟨z,us,r,ux.new _ _⟩
def Bn (h:PA X es t):PE X (.List es pos) (LB t):=by
 intro pins s σ H Q I hq
 refine wpAny_List_spliced (cD (h pos pins s σ H _ I hq) λus s1 ⟨xs,H1,I1,r,z,q⟩=>⟨by rw[<-r.length];exact z,?_⟩)
 have hf:H1 s1.heap.objs.size=none:=I1.hok.fresh (MA _)
 refine⟨.ref s1.heap.objs.size,upd H1 s1.heap.objs.size (.lst xs),I1.laid (t':=s1.toks) (λb u e=>MD _ e) (MA _) ?_,rfl,q _ hf⟩
 exact⟨z,us,0,r,MO _ rfl⟩
end
abbrev Sp:=List V->Hp->VK->XK->Prop
abbrev Ag:=List Env->Hp->Shared->XK->Value->Shared->Prop
structure xI (P:Program)(w:World)(K:Frag)(mg:Str->Option Value)(base:Heap)(A:Around)(outer:List Env)(s:Shared)(H:Hp):Prop where
 frames:A.frames=some outer
 mod:Mod K mg base
 bs:∀b o,base.get? b=some o->s.heap.get? b=some o/\H b=none
 bsz:base.objs.size<=s.heap.objs.size
 funs:s.heap.FunFrames base outer
 frf:∀b∈mS outer,H b=none
 hok:mi P w H s.heap
 bare:AllBare s.gens
def CE (outer:List Env)(P:Program)(w:World)(H:Hp)(s:Shared)(Q:VK)(u:Value)(s':Shared):Prop:=
 ∃v H',s'.os=s.os/\AllBare s'.gens/\Un (mS outer) [] H H' s.heap s'.heap/\mi P w H' s'.heap/\RelV v u/\Q v H'
def CR (CX:Ag)(outer:List Env)(P:Program)(w:World)(H:Hp)(s:Shared)(Q:VK)(E:XK)(r:Result)(s':Shared):Prop:=
 match r with
 | .ok (.ret u)=>CE outer P w H s Q u s'
 | .ok _=>False
 | .error e=>CX outer H s E e s'
structure e8 (P:Program)(w:World)(K:Frag)(mg:Str->Option Value)(base:Heap)(CX:Ag)(k:Nat)(f:Addr)(fd:FuncData)(ps:List Str)(sp:Sp):Prop where
 len:∀vs H Q E,sp vs H Q E->vs.length=ps.length
 run:∀(A:Around) (outer:List Env) (s:Shared) (H:Hp) (args:Args) (us:List Value) (vs:List V) (Q:VK) (E:XK),dt k A->xI P w K mg base A outer s H->BindsTo s fd args (ps.zip us)->Vals vs us->sp vs H Q E->
  codeAny (model P w) A (.call (.ref f) args) (CR CX outer P w H s Q E) s
def e8.mono {P:Program}{w:World}{K:Frag}{mg:Str->Option Value}{base:Heap}{CX:Ag}{j k:Nat}{f:Addr}{fd:FuncData}{ps:List Str}{sp:Sp}(F:e8 P w K mg base CX j f fd ps sp)(h:j<=k) :
  e8 P w K mg base CX k f fd ps sp:=⟨F.len,λA outer s H args us vs Q E hr=>F.run A outer s H args us vs Q E (hr.mono h)⟩
def e8.imp {P:Program}{w:World}{K:Frag}{mg:Str->Option Value}{base:Heap}{CX:Ag}{k:Nat}{f:Addr}{fd:FuncData}{ps:List Str}{sp sp':Sp}(F:e8 P w K mg base CX k f fd ps sp)
  (h:∀vs H Q E,sp' vs H Q E->sp vs H Q E):e8 P w K mg base CX k f fd ps sp':=
 ⟨λvs H Q E q=>F.len vs H Q E (h _ _ _ _ q),λA outer s H args us vs Q E hr he hb hv hs=>F.run A outer s H args us vs Q E hr he hb hv (h _ _ _ _ hs)⟩
def xI.in1 {P:Program}{w:World}{K:Frag}{mg:Str->Option Value}{base:Heap}{A:Around}{outer:List Env}{s:Shared}{H:Hp}(e:xI P w K mg base A outer s H) :
  xI P w K mg base A.in1 outer s H:=⟨e.frames,e.mod,e.bs,e.bsz,e.funs,e.frf,e.hok,e.bare⟩
section
variable {X:Cx}{pins:List (Addr×Obj)}{σ:St}{H:Hp}{s s':Shared}
def Inv.env0 (I:Inv X pins σ H s):xI X.prog X.w X.K X.mg X.base X.A X.stack s H:=
 ⟨I.ok.frames,I.ok.mod,I.bs,Nx I.ok.bsz I.sz,I.stack,I.stkFree,I.hok,I.bare⟩
def Inv.after {Q:VK}{u:Value}(I:Inv X pins σ H s)(h:CE X.stack X.prog X.w H s Q u s'):EP X pins σ Q u s':=by
 obtain⟨v,H',os,bare,un,hok,r,q⟩:=h
 obtain⟨hh,g,d,t,os'⟩:=s'
 obtain rfl:os'=s.os:=os
 exact⟨v,H',I.call (h':=hh) (g':=g) (d':=d) (t':=t) (ch:=[]) un hok bare (λb z=>absurd z (by simp)),r,q⟩
end
def IT (sp:Sp)(dvs:List V)(E:XK)(t:TA):TE:=λσ H Q=>t σ H λvs H1=>sp (vs ++ dvs) H1 Q E
def Binds (K:Frag)(fd:FuncData)(ps:List Str)(ds:List Value):Prop:=
 ∀(s:Shared) (us:List Value),K.In s.heap->(us ++ ds).length=ps.length->BindsTo s fd ⟨us,[]⟩ (ps.zip (us ++ ds))
def Binds.all {K:Frag}{fd:FuncData}{ps:List Str}(h:∀us:List Value,us.length=ps.length->bindArgs fd ⟨us,[]⟩=pure (ps.zip us)):Binds K fd ps []:=λs us _ hl=>by
 rw[NU] at hl ⊢
 exact .of_eq (h us hl)
def Passes (CX:Ag)(X:Cx)(E:XK):Prop:=∀(pins:List (Addr×Obj)) (σ:St) (H:Hp) (s:Shared) (e:Value) (s':Shared),Inv X pins σ H s->CX X.stack H s E e s'->X.xe e s'
section
variable {X:Cx}{CX:Ag}{k:Nat}{f C:Addr}{fd:FuncData}{ps:List Str}{sp:Sp}{dvs:List V}{ds:List Value}{E:XK}{x m:Str}{p pos apos:Pos}{e o:Expr}{es:List Expr}{ta:TE}{t:TA}
theorem Hx {pins:List (Addr×Obj)}{σ:St}{H:Hp}{s:Shared}{Q:VK}{us:List Value}{vs:List V}(F:e8 X.prog X.w X.K X.mg X.base CX k f fd ps sp)(hr:dt k X.A)(hb:Binds X.K fd ps ds)(hd:Vals dvs ds)(hx:Passes CX X E)
  (I:Inv X pins σ H s) (r:Vals vs us) (h:sp (vs ++ dvs) H Q E):wpAny (model X.prog X.w) X.A (call (.ref f) us) (EP X pins σ Q) X.xe s:=by
 have r2:Vals (vs ++ dvs) (us ++ ds):=r.append hd
 have hl:(us ++ ds).length=ps.length:=by rw[<-r2.length];exact F.len _ _ _ _ h
 refine wpAny_call (codeAny_mono (F.run X.A X.stack s H ⟨us,[]⟩ (us ++ ds) (vs ++ dvs) Q E hr I.env0 (hb s us I.kIn hl) r2 h) λr s' hq=>?_)
 cases r with
 |error e=>exact hx pins σ H s e s' I hq
 |ok fl=>
  cases fl with
  |ret u=>exact I.after hq
  |next=>exact False.elim hq
  |brk=>exact False.elim hq
  |cont=>exact False.elim hq
def jH (F:e8 X.prog X.w X.K X.mg X.base CX k f fd ps sp)(hr:dt k X.A)(hg:Gl X x)(hm:X.mg x=some (.ref f))(hk:PySem.W.keepIn X.K (.ref f)=true)(hb:Binds X.K fd ps ds)(hd:Vals dvs ds)(hx:Passes CX X E)
  (ha:PA X (e :: es) t) (hdb:(x == ("__debug__":Str))=false:=by decide) (he:starEach (e :: es) X.env=(false,eval e X.env) :: starEach es X.env:=by rfl) (hpl:(backTo pos (starEach es X.env)).any (·.1)=false:=by rfl) :
  PE X (.Call (.Name x p) (e :: es) [] pos) (IT sp dvs E t):=by
 intro pins s σ H Q I h
 refine OG (zh I hg hm ?_ hdb)
 refine PySem.W.callWith_K (h₀:=X.base) I.ok.mod.kin hk (cD (ha pos pins s σ H _ I h) λus s1 ⟨vs,H1,I1,r,q⟩=>⟨I1.kIn,?_⟩) he hpl
 exact Hx F hr hb hd hx I1 r q
end
def PK (X:Cx)(kws:List Keyword)(t:TA):Prop:=
 ∀(pos:Pos) (pins:List (Addr×Obj)) (s:Shared) (σ:St) (H:Hp) (Q:List V->Hp->Prop),Inv X pins σ H s->t σ H Q->wpAny (model X.prog X.w) X.A (evalAll ((backToKw pos (keywordEach kws X.env)).map (·.2))) (AP X pins σ Q) X.xe s
section
variable {X:Cx}{CX:Ag}{k:Nat}{f C:Addr}{fd:FuncData}{ps ks:List Str}{sp:Sp}{E:XK}{x m:Str}{p pos apos kpos:Pos}{e o:Expr}{es:List Expr}{kws:List Keyword}{te ta:TE}{t tk:TA}{nm:Option Str}
def HB:PK X [] D7:=λ_ _ _ _ H Q I h=>wpAny_evalAll_nil ⟨[],H,I,.nil,h⟩
def DF (ha:PE X e te)(hr:PK X kws t):PK X (⟨nm,e,kpos⟩ :: kws) (yI te t):=by
 intro pos pins s σ H Q I h
 show wpAny _ _ (evalAll ((do let v <-eval e X.env;standAt pos;pure v) :: (backToKw pos (keywordEach kws X.env)).map (·.2))) _ _ s
 refine wpAny_evalAll_cons (Mz (cD (ha pins s σ H _ I h) λu s1 ⟨x,H1,I1,r1,q1⟩=>Mz (wpAny_standAt (M1 ?_))))
 exact cD (hr pos pins s1 σ H1 _ I1 q1) λus s2 ⟨xs,H2,I2,r2,q2⟩=>⟨x :: xs,H2,I2,.cons r1 r2,q2⟩
variable {g:List Value->List Value->List Value}{gV:List V->List V->List V}
end
structure aF (N P:List Str)(sc:Scope):Prop where
 kind:sc.kind=.function
 co:sc.isCoroutine=false
 gen:sc.isGenerator=false
 nd:N.Nodup
 pre:N.take P.length=P
 par:∀x∈P,sc.names.lookup x=some .local\/sc.names.lookup x=some .cell
 nofree:∀y∈sc.names,y.2≠.free
theorem sD {kindOf:Str->Option NameKind}{x:Str}:∀{binds:List (Str×Value)} {m:Str->Option Value},(∀v,(x,v)∉binds)->bindL kindOf binds m x=m x
 | [],_,_=>rfl
 | (n,v) :: r,m,h=>by
  unfold bindL
  rw[sD λw hw=>h w (MN _ hw)]
  split
  ·have:x≠n:=by rintro rfl;exact h v MM
   simp[this]
  ·rfl
theorem sL {kindOf:Str->Option NameKind}{x:Str}:∀{binds:List (Str×Value)} {m:Str->Option Value},(∀v,(x,v)∉binds)->bindC kindOf binds m x=m x
 | [],_,_=>rfl
 | (n,v) :: r,m,h=>by
  unfold bindC
  rw[sL λw hw=>h w (MN _ hw)]
  split
  ·rfl
  ·have:x≠n:=by rintro rfl;exact h v MM
   simp[this]
theorem sF {kindOf:Str->Option NameKind}{x:Str}{v:Value}:∀{P:List Str} {vs:List Value} {i:Nat} {m:Str->Option Value},P.Nodup->P[i]? =some x->vs[i]? =some v->kindOf x=some .local->
  bindL kindOf (P.zip vs) m x=some v
 | [],_,_,_,_,h,_,_=>by simp at h
 |_ :: _,[],_,_,_,_,h,_=>by simp at h
 |p :: P,w :: vs,0,m,nd,h1,h2,hk=>by
  simp at h1 h2;subst h1;subst h2
  show bindL kindOf ((p,w) :: P.zip vs) m p=_
  unfold bindL
  rw[sD λv hv=>(Nn.mp nd).1 (List.of_mem_zip hv).1,My hk]
  simp
 |p :: P,w :: vs,i + 1,m,nd,h1,h2,hk=>by
  show bindL kindOf ((p,w) :: P.zip vs) m x=_
  unfold bindL
  exact sF (i:=i) (Nn.mp nd).2 (by simpa using h1) (by simpa using h2) hk
theorem sW {kindOf:Str->Option NameKind}{x:Str}{v:Value}:∀{P:List Str} {vs:List Value} {i:Nat} {m:Str->Option Value},P.Nodup->P[i]? =some x->vs[i]? =some v->kindOf x≠some .local->
  bindC kindOf (P.zip vs) m x=some v
 | [],_,_,_,_,h,_,_=>by simp at h
 |_ :: _,[],_,_,_,_,h,_=>by simp at h
 |p :: P,w :: vs,0,m,nd,h1,h2,hk=>by
  simp at h1 h2;subst h1;subst h2
  show bindC kindOf ((p,w) :: P.zip vs) m p=_
  unfold bindC
  rw[sL λv hv=>(Nn.mp nd).1 (List.of_mem_zip hv).1,MG hk]
  simp
 |p :: P,w :: vs,i + 1,m,nd,h1,h2,hk=>by
  show bindC kindOf ((p,w) :: P.zip vs) m x=_
  unfold bindC
  exact sW (i:=i) (Nn.mp nd).2 (by simpa using h1) (by simpa using h2) hk
def start (N:List Str)(vs:List V):St:=vs.map some ++ List.replicate (N.length - vs.length) none
def o4 (CX:Ag)(P:Program)(w:World)(K:Frag)(mg:Str->Option Value)(base:Heap)(N:List Str)(qual:Str)(scope:Scope)(f:Addr)(cd:Value)(A:Around)(outer:List Env)(s:Shared)(H:Hp)(E:XK):Cx where
 prog:=P
 w:=w
 K:=K
 mg:=mg
 base:=base
 A:=A.deeper (envOfC qual scope s.heap.objs.size f cd)
 N:=N
 s₀:=s
 H₀:=H
 env:=envOfC qual scope s.heap.objs.size f cd
 outer:=outer
 stack:=envOfC qual scope s.heap.objs.size f cd :: outer
 ex:=[]
 calm:=true
 fn:=λ_=>true
 pn:=[]
 xe:=λe s'=>wpAny (model P w) (A.deeper (envOfC qual scope s.heap.objs.size f cd)) (leaving (envOfC qual scope s.heap.objs.size f cd) e) (λ_ s''=>CX outer H s E e s'') (λe' s''=>CX outer H s E e' s'') s'
def v7 {sc:Scope}{n:Nat}{x:Str}(h:sc.names.lookup x=some .cell):∃c,(cellsFrom n sc.names []).lookup x=some c:=by
 have q:=PySem.W.cellsFrom_some sc.names n [] (.inl h)
 exact Option.isSome_iff_exists.mp q
def An {CX:Ag}{P:Program}{w:World}{K:Frag}{mg:Str->Option Value}{base:Heap}{N ps:List Str}{qual:Str}{scope:Scope}{f:Addr}{cd:Value}{A:Around}{outer:List Env}{s s1:Shared}{H:Hp}{E:XK}{us:List Value}{vs:List V}
  (S:aF N ps scope) (hd:A.handled=none) (e0:xI P w K mg base A outer s H) (hl:vs.length=ps.length) (r:Vals vs us)
  (x:InCallC s s.heap.objs.size (bindL (envOfC qual scope s.heap.objs.size f cd).kindOf (ps.zip us) λ_=>none) (cellsFrom (s.heap.objs.size + 1) scope.names []) (bindC (envOfC qual scope s.heap.objs.size f cd).kindOf (ps.zip us) λ_=>none) s1) :
  Inv (o4 CX P w K mg base N qual scope f cd A outer s H E) [] (start N vs) H s1:=by
 have hpl:ps.length<=N.length:=by have:=congrArg List.length S.pre;rw[Np] at this;omega
 obtain⟨h1,tk,rfl,hk⟩:=x.done
 have noA:∀b:Addr,b∉(o4 CX P w K mg base N qual scope f cd A outer s H E).ex:=λb z=>absurd (show b∈([]:List Addr) from z) (by simp)
 refine⟨⟨e0.mod,S.kind,rfl,rfl,MA _,λy z c h1 h2=>?_,λy hy=>?_,λy c _ h=>?_,λ_=>hd,Around.frames_deeper e0.frames,.inr ⟨rfl,rfl⟩,λb z=>absurd z (noA b),e0.bs,e0.bsz,λb _ _=>noA b,λb z=>absurd z (noA b),e0.funs,e0.frf⟩,
  rfl,e0.bare,Un.kept hk,⟨_,x.toInCall.ns,λi y v h1 h2 h3=>?_⟩,λy c h=>⟨_,x.cell y c h⟩,e0.hok.fresh (MA _),λy c h=>?_,λp hp=>absurd (show p∈([]:List (Addr×Obj)) from hp) (by simp),e0.hok.kept hk,?_⟩
 ·exact name_of_addr x.apart (Nu h1) (Nu h2)
 ·have hy:scope.names.lookup y=some .cell\/scope.names.lookup y=some .free:=hy
  rcases hy with hy |hy
  ·exact v7 hy
  ·exact absurd rfl (S.nofree _ (Nu hy))
 ·exact N5 (x.above y c (Nu h))
 ·have hi:i < vs.length:=by
   unfold start at h2
   by_cases hi:i < vs.length
   ·exact hi
   ·rw[M9 (by simpa using hi)] at h2
    rw[ND] at h2
    split at h2 <;> cases h2
  have ha:vs[i]? =some v:=by
   unfold start at h2
   rw[M6 (by simpa using hi),ML] at h2
   cases e:vs[i]? with
   |none=>rw[e] at h2;cases h2
   |some a=>rw[e] at h2;cases h2;rfl
  obtain⟨u,hu,rv⟩:=r.get ha
  have hp:ps[i]? =some y:=by
   rw[<-S.pre,List.getElem?_take_of_lt (by omega)];exact h1
  have ndP:ps.Nodup:=by rw[<-S.pre];exact S.nd.sublist (List.take_sublist _ _)
  refine⟨u,rv,?_⟩
  rcases S.par y (MS hp) with k |k
  ·exact .inl ⟨k,sF ndP hp hu k⟩
  ·obtain⟨c,e⟩:=v7 (n:=s.heap.objs.size + 1) k
   refine .inr ⟨.inl k,c,e,?_⟩
   have q:=x.cell y c e
   rw[sW ndP hp hu (by show scope.names.lookup y≠_;rw[k];decide)] at q
   exact q
 ·exact e0.hok.fresh (N5 (x.above y c (Nu h)))
 ·unfold start
  show _=N.length
  rw[MY,MC,Nq]
  omega
theorem Bo {CX:Ag}{P:Program}{w:World}{K:Frag}{mg:Str->Option Value}{base:Heap}{k:Nat}{f:Addr}{name qual:Str}{params:Arguments}{body:List Stmt}{scope:Scope}{dV kV doc pm cdv ct oc:Value}{an od:Option Addr}
  {osl:Array (Option Value)} {N ps:List Str} {sp:Sp} (lk:K.lookup f=some ⟨oc,od,.func (PySem.W.fnOf name qual params body scope dV kV doc pm an cdv ct),osl⟩) (hcd:PySem.W.codeIn K cdv qual=true) (S:aF N ps scope)
  (len:∀vs H Q E,sp vs H Q E->vs.length=ps.length)
  (hbody:∀(A:Around) (outer:List Env) (s:Shared) (H:Hp) (vs:List V) (Q:VK) (E:XK),dt k (A.deeper (envOfC qual scope s.heap.objs.size f cdv))->sp vs H Q E->
   ∃t,rB (o4 CX P w K mg base N qual scope f cdv A outer s H E) body t/\t {nx:=λ_ H'=>Q .non H',rt:=Q} (start N vs) H) :
  e8 P w K mg base CX (k + 1) f (PySem.W.fnOf name qual params body scope dV kV doc pm an cdv ct) ps sp:=by
 refine⟨len,λA outer s H args us vs Q E hr e0 hb r hsp=>?_⟩
 have hl:=len _ _ _ _ hsp
 have KX:K.In s.heap:=e0.mod.kin.keeps λb o e=>(e0.bs b o e).1
 have lim:s.heap.NoLimit:=e0.mod.nolimit.keeps λb o e=>(e0.bs b o e).1
 have hkind:∀y∈ps.zip us,scope.names.lookup y.1=some .local\/(scope.names.lookup y.1=some .cell/\((cellsFrom (s.heap.objs.size + 1) scope.names []).lookup y.1).isSome=true):=λ⟨n,v⟩ hy=>by
  rcases S.par n (List.of_mem_zip hy).1 with q |q
  ·exact .inl q
  ·exact .inr ⟨q,PySem.W.cellsFrom_some _ _ _ (.inl q)⟩
 refine codeAny_call_function hr.depth (KX _ _ lk) rfl S.co S.gen rfl (PySem.W.codeRec_of KX hcd) (hb _ _ _ _ ?_)
 refine wpAny_newFunctionEnv_cells S.kind hkind λenv he s1 x=>?_
 subst he
 refine⟨lim.keeps x.toInCall.keep,codeAny_func ?_⟩
 obtain⟨t,ht,hq⟩:=hbody A outer s H vs Q E (hr.deeper _) hsp
 have I:Inv (o4 CX P w K mg base N qual scope f cdv A outer s H E) [] (start N vs) H s1:=An S hr.hd e0 hl r x
 refine NF (ht [] s1 (start N vs) H _ I hq) (λfl s' hs=>?_) λe s' hs=>hs
 have fin:∀{σ':St} {H':Hp} {v:V} {u:Value},Inv (o4 CX P w K mg base N qual scope f cdv A outer s H E) [] σ' H' s'->RelV v u->Q v H'->CE outer P w H s Q u s':=
  λ{σ' H' v u} J rv q=>⟨v,H',J.os,J.bare,J.base,J.hok,rv,q⟩
 cases fl with
 |ret u=>
  obtain⟨v,σ',H',J,rv,q⟩:=hs
  exact fin J rv q
 |next=>
  obtain⟨σ',H',J,q⟩:=hs
  exact fin (v:=V.non) (u:=Value.none) J rfl q
 |brk=>
  obtain⟨_,_,_,q⟩:=hs
  exact False.elim q
 |cont=>
  obtain⟨_,_,_,q⟩:=hs
  exact False.elim q
section
variable {X:Cx}{x:Str}{p pos:Pos}{e:Expr}{es:List Expr}{t:TA}{id T:String}{r:List V->Hp->VK->Prop}
def L1 (r:List V->Hp->VK->Prop)(t:TA):TE:=λσ H Q=>t σ H λvs H1=>r vs H1 Q
def mW (hc:dZ X (.builtin id) r)(hg:Gl X x)(hm:X.mg x=none)(hv:bootBuiltins x=some (.builtin id))(ha:PA X (e :: es) t)(hn:x≠"__name__":=by decide)(hdb:(x == ("__debug__":Str))=false:=by decide)
  (he:starEach (e :: es) X.env=(false,eval e X.env) :: starEach es X.env:=by rfl) (hpl:(backTo pos (starEach es X.env)).any (·.1)=false:=by rfl):PE X (.Call (.Name x p) (e :: es) [] pos) (L1 r t):=by
 intro pins s σ H Q I h
 refine OG (nN I hg hm hv ?_ hn hdb)
 exact PyProof.Rows.callWith_builtin1 (cD (ha pos pins s σ H _ I h) λus s1 ⟨vs,H1,I1,r1,q1⟩=>hc pins s1 σ H1 vs us Q I1 r1 q1) he hpl
def lW (hc:dZ X (.type T) r)(hg:Gl X x)(hm:X.mg x=none)(hv:bootBuiltins x=some (.type T))(ha:PA X (e :: es) t)(hn:x≠"__name__":=by decide)(hdb:(x == ("__debug__":Str))=false:=by decide)
  (he:starEach (e :: es) X.env=(false,eval e X.env) :: starEach es X.env:=by rfl) (hpl:(backTo pos (starEach es X.env)).any (·.1)=false:=by rfl):PE X (.Call (.Name x p) (e :: es) [] pos) (L1 r t):=by
 intro pins s σ H Q I h
 refine OG (nN I hg hm hv ?_ hn hdb)
 exact Ot (cD (ha pos pins s σ H _ I h) λus s1 ⟨vs,H1,I1,r1,q1⟩=>hc pins s1 σ H1 vs us Q I1 r1 q1) he hpl
end
end L2
namespace HT
open PySem PyProof.Rows
section
open PySem.SeqAt
open PySem.AutoSeq1 (wpAny_loadPart')
open PySem.MeetsSeq PySem.MeetsSeq2 PySem.MeetsSeq3
end
section
variable {prog:Program}{w:World}{A:Around}{E:Value->Shared->Prop}{s:Shared}
def DA {t b:Addr}{vs ws:List Value}{Q:Value->Shared->Prop}(ht:IsTup s.heap t vs.toArray)(hb:IsTup s.heap b ws.toArray)(hv:vs≠ [])
  (h1:ws= []->Q (.ref t) s) (h2:ws≠ []->Q (.ref s.heap.objs.size) {s with heap:=s.heap.push {cls:=.type "tuple",data:=.seq (vs ++ ws).toArray}})
  (hsz:vs.length + ws.length<=sizeLine):wpAny (model prog w) A (binaryOp .Add (.ref t) (.ref b)) Q E s:=by
 obtain⟨⟨cls,dd,data,sl⟩,ho,hc,n,hd⟩:=id ht
 obtain⟨⟨cls2,dd2,data2,sl2⟩,ho2,hc2,n2,hd2⟩:=id hb
 simp only at hc hd hc2 hd2
 subst hc hd hc2 hd2
 have e:vs.toArray ++ ws.toArray=(vs ++ ws).toArray:=by simp
 by_cases hw:ws= []
 ·exact concat_meets ⟨_,ho,rfl⟩ ⟨_,ho2,rfl⟩ noFill_tuple_add seq_tuple_add PySem.F.slot_tuple_add PySem.F.entry_tuple_add (OH _ _)
   (tuple_addW1 t b vs.toArray ws.toArray n n2 dd dd2 sl sl2 (by simpa using hv) (by simp[hw])) ⟨ho,ho2,h1 hw⟩
 ·refine concat_meets ⟨_,ho,rfl⟩ ⟨_,ho2,rfl⟩ noFill_tuple_add seq_tuple_add PySem.F.slot_tuple_add PySem.F.entry_tuple_add (OH _ _)
   (tuple_addW2 t b vs.toArray ws.toArray n n2 dd dd2 sl sl2 (by simpa using hv) (by simpa using hw) (by rw[MK,MK];exact hsz)) ⟨ho,ho2,?_⟩
  rw[e]
  exact h2 hw
def sU (n d:Nat):Option Int->Nat
 |none=>d
 |some v=>if v < 0 then (v + (n:Int)).toNat else min v.toNat n
def vU (n d:Nat):sU n d none=d:=rfl
def yB (n d k:Nat):sU n d (some (k:Int))=min k n:=by
 show (if (k:Int) < 0 then ((k:Int) + (n:Int)).toNat else min (k:Int).toNat n)=min k n
 rw[MG (by omega),Nf]
end
end HT
namespace L2
open PySem PySem.Spec PyProof.Rows
abbrev TO:=St->Hp->(Option Int->Hp->Prop)->Prop
def PO (X:Cx)(e:Option Expr)(t:TO):Prop:=
 ∀(pins:List (Addr×Obj)) (s:Shared) (σ:St) (H:Hp) (Q:Option Int->Hp->Prop),Inv X pins σ H s->t σ H Q->
  wpAny (model X.prog X.w) X.A (evalPart e X.env) (λu s'=>∃o H',Inv X pins σ H' s'/\IsPart u o/\Q o H') X.xe s
def Ez:TO:=λ_ H Q=>Q none H
def Jn (t:TE):TO:=λσ H Q=>t σ H λx H1=>∃i,x=.int i/\Q (some i) H1
theorem intsAre_of {ns:List Int}:∀{us:List Value},Vals (ns.map V.int) us->IntsAre us ns:=by
 induction ns with
 |nil=>intro us r;rw[List.map_nil] at r;cases r;exact .nil
 |cons n ns ih=>
  intro us r
  rw[NR] at r
  cases r with
  |cons r1 r2=>
   obtain⟨t,e⟩:=r1
   subst e
   exact .cons n t (ih r2)
section
variable {X:Cx}{e:Expr}{te:TE}{lo hi:Option Expr}{tl th:TO}{pos p2:Pos}
def ES:PO X none Ez:=by
 intro pins s σ H Q I h
 rw[evalPart_none]
 exact M1 ⟨none,H,I,.none,h⟩
def Eu (h:PE X e te):PO X (some e) (Jn te):=by
 intro pins s σ H Q I hw
 rw[evalPart_some]
 refine cD (h pins s σ H _ I hw) λu s1 ⟨x,H1,I1,r1,q1⟩=>?_
 obtain⟨i,rfl,q⟩:=q1
 obtain⟨t,rfl⟩:=r1
 exact⟨some i,H1,I1,.int i t,q⟩
def Mc (X:Cx)(r:V->Option Int->Option Int->Hp->VK->Prop):Prop:=
 ∀(pins:List (Addr×Obj)) (s:Shared) (σ:St) (H:Hp) (x:V) (v vl vu:Value) (lo hi:Option Int) (sl:Addr) (Q:VK),Inv X pins σ H s->RelV x v->s.heap.IsSliceOf sl vl vu .none->IsPart vl lo->IsPart vu hi->r x lo hi H Q->
  ∃T id,typeLookup (.type T) "__getitem__"=pure (some (.builtin id))/\s.TypeIs v T/\wpAny (model X.prog X.w) X.A (getItem v (.ref sl)) (EP X pins σ Q) X.xe s
def Mt (r:V->Option Int->Option Int->Hp->VK->Prop)(te:TE)(tl th:TO):TE:=λσ H Q=>te σ H λx H1=>tl σ H1 λl H2=>th σ H2 λu H3=>r x l u H3 Q
def Cy {r:V->Option Int->Option Int->Hp->VK->Prop}(hr:Mc X r)(he:PE X e te)(hl:PO X lo tl)(hu:PO X hi th):PE X (.Subscript e (.Slice lo hi none p2) pos) (Mt r te tl th):=by
 intro pins s σ H Q I h
 refine Subscript_ (cD (he pins s σ H _ I h) λv s1 ⟨x,H1,I1,r1,q1⟩=>?_)
 refine wpAny_Slice (cD (hl pins s1 σ H1 _ I1 q1) λvl s2 ⟨l,H2,I2,pl,q2⟩=>cD (hu pins s2 σ H2 _ I2 q2) λvu s3 ⟨u,H3,I3,pu,q3⟩=>?_)
 rw[evalPart_none]
 refine M1 ?_
 have I4:Inv X pins σ H3 {s3 with heap:=s3.heap.push {cls:=.type "slice",data:=.fields #[vl,vu,.none]}}:=I3.kept (t':=s3.toks) λb ob q=>MD _ q
 obtain⟨T,id,hT,ht,hg⟩:=hr pins {s3 with heap:=s3.heap.push {cls:=.type "slice",data:=.fields #[vl,vu,.none]}} σ H3 x v vl vu l u s3.heap.objs.size Q I4 r1 (Heap.IsSliceOf.new ..) pl pu q3
 show wpAny (model X.prog X.w) X.A (subscriptTail e (.Slice lo hi none p2) v (.ref s3.heap.objs.size)) (EP X pins σ Q) X.xe {s3 with heap:=s3.heap.push {cls:=.type "slice",data:=.fields #[vl,vu,.none]}}
 exact tail_any (ops:=[.ref s3.heap.objs.size,v]) ht hT hg (by with_unfolding_all rfl)
def yd (xs:List V)(lo hi:Option Int):List V:=(xs.drop (HT.sU xs.length 0 lo)).take (HT.sU xs.length xs.length hi - HT.sU xs.length 0 lo)
def vO (xs:List V)(lo hi:Option Int):(yd xs lo hi).length<=xs.length:=by
 unfold yd
 rw[Np,Ou]
 omega
def IA (K:Frag):R2:=λx y H Q=>∃a b xs ys,x=.ref a/\y=.ref b/\gM K H a xs/\gM K H b ys/\xs≠ []/\xs.length + ys.length<=sizeLine/\
 (ys= []->Q (.ref a) H)/\(ys≠ []->∀p,H p=none->Q (.ref p) (upd H p (.tup (xs ++ ys))))
theorem Vals.nil_iff {xs:List V}{us:List Value}(r:Vals xs us):us= []↔xs= []:=by
 cases r with
 |nil=>simp
 |cons _ _=>simp
def Dq:kT X (binaryOp .Add) (IA X.K):=by
 intro pins s σ H x y v u Q I rx ry h
 obtain⟨a,b,xs,ys,rfl,rfl,ha,hb,hx,hz,q1,q2⟩:=h
 cases rx
 cases ry
 obtain⟨its,r1,p1,_⟩:=I.tuple ha
 obtain⟨its2,r2,p2,_⟩:=I.tuple hb
 refine HT.DA p1 p2 (λz=>hx (r1.nil_iff.mp z)) (λz=>⟨.ref a,H,I,rfl,q1 (r2.nil_iff.mp z)⟩) (λz=>?_) (by rw[<-r1.length,<-r2.length];exact hz)
 refine⟨.ref s.heap.objs.size,_,I.laid (t':=s.toks) (o:=.tup (xs ++ ys)) (λb ob q=>MD _ q) (MA _) ?_,rfl,q2 (λw=>z (r2.nil_iff.mpr w)) _ (I.hok.fresh (MA _))⟩
 exact⟨by rw[MY];exact hz,_,r1.append r2,ux.new _ _⟩
end
def q8 (n:Nat)(i:Int):Option Nat:=if 0<=i then (if i < n then some i.toNat else none) else if -(n:Int)<=i then some (i + n).toNat else none
def k9 {α:Type}(xs:List α)(i:Int):Option α:=(q8 xs.length i).bind λj=>xs[j]?
def yL {n:Nat}{i:Int}{j:Nat}(h:q8 n i=some j):seqIndex? i n=some j/\j < n/\ -(n:Int)<=i/\i < n:=by
 unfold q8 at h
 by_cases h0:0<=i
 ·rw[My h0] at h
  by_cases h1:i < n
  ·rw[My h1] at h
   have e:i.toNat=j:=Option.some.inj h
   exact⟨by rw[seqIndex_of h0 h1,e],by omega,by omega,h1⟩
  ·rw[MG h1] at h;cases h
 ·rw[MG h0] at h
  by_cases h1: -(n:Int)<=i
  ·rw[My h1] at h
   have e:(i + n).toNat=j:=Option.some.inj h
   exact⟨by rw[seqIndex_neg (by omega) h1,e],by omega,h1,by omega⟩
  ·rw[MG h1] at h;cases h
theorem uR {α:Type}{xs:List α}{i:Int}{v:α}(h:k9 xs i=some v):∃j,seqIndex? i xs.length=some j/\xs[j]? =some v/\j < xs.length/\ -(xs.length:Int)<=i/\i < xs.length:=by
 unfold k9 at h
 cases e:q8 xs.length i with
 |none=>rw[e] at h;cases h
 |some j=>
  rw[e] at h
  obtain⟨h1,h2,h3,h4⟩:=yL e
  exact⟨j,h1,h,h2,h3,h4⟩
def iC {α:Type}{xs:List α}{j:Nat}{v:α}(h:xs[j]? =some v):k9 xs (j:Int)=some v:=by
 have hj:j < xs.length:=(MF.mp h).1
 have e:q8 xs.length (j:Int)=some j:=by
  unfold q8
  rw[My (by omega),My (by omega)];simp
 unfold k9;rw[e];exact h
def yT (b:Expr):Prop:=∀o i,subscripted b false o i=operate [o,i] (getItem o i)
def CM (X:Cx)(r:R2):Prop:=
 ∀(value slice:Expr) (pins:List (Addr×Obj)) (s:Shared) (σ:St) (H:Hp) (x y:V) (v u:Value) (Q:VK),Inv X pins σ H s->RelV x v->RelV y u->r x y H Q->
  subscripted slice false v u=operate [v,u] (getItem v u)->wpAny (model X.prog X.w) X.A (subscriptTail value slice v u) (EP X pins σ Q) X.xe s
def Mv (X:Cx)(id:String)(r:V->List V->Hp->VK->Prop):Prop:=
 ∀(pins:List (Addr×Obj)) (s:Shared) (σ:St) (H:Hp) (x:V) (xs:List V) (v:Value) (us:List Value) (Q:VK),Inv X pins σ H s->RelV x v->Vals xs us->r x xs H Q->
  wpAny (model X.prog X.w) X.A (call (.builtin id) (v :: us)) (EP X pins σ Q) X.xe s
section
variable {X:Cx}{a b:Expr}{ta tb:TE}{pos:Pos}
def CM.or {r r':R2}(h:CM X r)(h':CM X r'):CM X (λx y H Q=>r x y H Q\/r' x y H Q):=by
 intro value slice pins s σ H x y v u Q I rx ry q hs
 rcases q with q |q
 ·exact h value slice pins s σ H x y v u Q I rx ry q hs
 ·exact h' value slice pins s σ H x y v u Q I rx ry q hs
def mf {r:R2}(hr:CM X r)(ha:PE X a ta)(hb:PE X b tb)(hs:yT b):PE X (.Subscript a b pos) (Kj r ta tb):=by
 intro pins s σ H Q I h
 exact Subscript_ (Hu ha hb I h λv u s2 x y H2 I2 rx ry q=>hr a b pins s2 σ H2 x y v u Q I2 rx ry q (hs _ _))
def Il (K:Frag):R2:=λx y H Q=>∃p xs i v,x=.ref p/\y=.int i/\gN K H p xs/\k9 xs i=some v/\Q v H
def Jl (K:Frag):R2:=λx y H Q=>∃p xs i v,x=.ref p/\y=.int i/\gM K H p xs/\k9 xs i=some v/\Q v H
def J3:R2:=λx y H Q=>∃z i c,x=.str z/\y=.int i/\z.length<=sizeLine/\k9 z.cps.toList i=some c/\Q (.str ⟨#[c]⟩) H
def ij:CM X (Il X.K):=by
 intro value slice pins s σ H x y v u Q I rx ry h hs
 obtain⟨p,xs,i,z,rfl,rfl,hq,he,q⟩:=h
 cases rx
 obtain⟨t,rfl⟩:=ry
 obtain⟨its,r,pl,hz⟩:=I.list hq
 obtain⟨j,h1,h2,h3,h4,h5⟩:=uR he
 obtain⟨w,ew,rw'⟩:=r.get h2
 have hl:=r.length
 have hn:=ox
 have fin:EP X pins σ Q w s:=⟨z,H,I,rw',q⟩
 by_cases h0:0<=i
 ·have hj:i.toNat=j:=by
   rw[seqIndex_of h0 h5] at h1
   exact Option.some.inj h1
  exact item_listR pl.isList h0 (by omega) (by rw[hj];simpa using ew) fin hs
 ·have hj:(i + (its.toArray.size:Int)).toNat=j:=by
   rw[seqIndex_neg (by omega) h4] at h1
   rw[MK,<-hl]
   exact Option.some.inj h1
  exact subscriptTail_builtinR (x:=w) pl.isList.typeIs slot_list_getitem.lookup
   (wpAny_getItem_list_neg (Q:=λr s'=>r=w/\EP X pins σ Q r s') pl.isList (by omega) (by rw[MK] <;> omega) (by omega) (by rw[hj];simpa using ew) ⟨rfl,fin⟩) hs
def GZ:CM X (Jl X.K):=by
 intro value slice pins s σ H x y v u Q I rx ry h hs
 obtain⟨p,xs,i,z,rfl,rfl,hq,he,q⟩:=h
 cases rx
 obtain⟨t,rfl⟩:=ry
 obtain⟨its,r,pl,hz⟩:=I.tuple hq
 obtain⟨j,h1,h2,h3,h4,h5⟩:=uR he
 obtain⟨w,ew,rw'⟩:=r.get h2
 have hl:=r.length
 have hn:=ox
 have fin:EP X pins σ Q w s:=⟨z,H,I,rw',q⟩
 exact subscriptTail_builtinR (x:=w) pl.typeIs slot_tuple_getitem.lookup
  (getItem_tuple (j:=j) (Q:=λr s'=>r=w/\EP X pins σ Q r s') pl (by omega) (by omega) (by rw[MK,<-hl];exact h1) (by simpa using ew) ⟨rfl,fin⟩) hs
def GC:CM X J3:=by
 intro value slice pins s σ H x y v u Q I rx ry h hs
 obtain⟨z,i,c,rfl,rfl,hz,he,q⟩:=h
 obtain⟨t,rfl⟩:=rx
 obtain⟨t',rfl⟩:=ry
 obtain⟨j,h1,h2,h3,h4,h5⟩:=uR he
 have hl:z.cps.toList.length=z.length:=by simp[Str.length]
 rw[hl] at h1 h4 h5
 have hn:=ox
 exact tail_any (typeIs_str s z t) slot_str_getitem.lookup (getItem_str (c:=c) (by
  have e1:decide (i < -(2 ^ 63:Int))=false:=MR (by omega)
  have e2:decide (i>=2 ^ 63)=false:=MR (by omega)
  rw[e1,e2,Bool.or_false]) (by rw[h1];simpa using h2) ⟨.str ⟨#[c]⟩,H,I.tok _,⟨_,rfl⟩,q⟩) hs
def L6 (K:Frag):R2:=λx y H Q=>Il K x y H Q\/Jl K x y H Q\/J3 x y H Q
def aC:CM X (L6 X.K):=ij.or (GZ.or GC)
def xZ (its:List Value)(n j:Nat)(u:Value):Obj.mapSeq (·.setIfInBounds j u) {cls:=.type "list",data:=.seq its.toArray n}={cls:=.type "list",data:=.seq (its.set j u).toArray n}:=by
 simp[Obj.mapSeq]
def Inv.lst {pins:List (Addr×Obj)}{σ:St}{H:Hp}{s:Shared}{p:Addr}{xs:List V}(I:Inv X pins σ H s)(h:H p=some (.lst xs)) :
  ∃(its:List Value) (n:Nat),Vals xs its/\s.heap.get? p=some {cls:=.type "list",data:=.seq its.toArray n}/\xs.length<=sizeLine:=by
 obtain⟨z,its,n,r,e⟩:=I.hok p _ h
 exact⟨its,n,r,e,z⟩
def Inv.lstUpd {pins:List (Addr×Obj)}{σ:St}{H:Hp}{s:Shared}{p:Addr}{xs ys:List V}{its its':List Value}{n n':Nat}{f:Obj->Obj}(I:Inv X pins σ H s)(h:H p=some (.lst xs))
  (ho:s.heap.get? p=some {cls:=.type "list",data:=.seq its.toArray n}) (hf:f {cls:=.type "list",data:=.seq its.toArray n}={cls:=.type "list",data:=.seq its'.toArray n'}) (r:Vals ys its') (hz:ys.length<=sizeLine) (t:Nat) :
  Inv X pins σ (upd H p (.lst ys)) {s with heap:=s.heap.update p f,toks:=t}:=by
 have e:(s.heap.update p f).get? p=some {cls:=.type "list",data:=.seq its'.toArray n'}:=by
  rw[Heap.get?_update_self f ho (by rw[hf] <;> rfl),hf]
 refine I.write (x:=p) (e:=p) (by rw[h];trivial) (.inl rfl) (λb u hb q=>(Nz _ _ (Ne.symm hb)).trans q) ⟨_,e⟩ ?_
 exact⟨hz,its',n',r,e⟩
def IV:V->V->V->Hp->(Hp->Prop)->Prop:=λo i v H Q=>∃p xs k j,o=.ref p/\i=.int k/\H p=some (.lst xs)/\q8 xs.length k=some j/\Q (upd H p (.lst (xs.set j v)))
def set_list:B4 X IV:=by
 intro pins s σ H o i v ov iv u Q I ro ri rv h
 obtain⟨p,xs,k,j,rfl,rfl,hp,hj,q⟩:=h
 cases ro
 obtain⟨t,rfl⟩:=ri
 obtain⟨its,n,r,ho,hz⟩:=I.lst hp
 obtain⟨h1,h2,h3,h4⟩:=yL hj
 have hl:=r.length
 have hn:=ox
 have I':Inv X pins σ (upd H p (.lst (xs.set j v))) {s with heap:=s.heap.update p (Obj.mapSeq (·.setIfInBounds j u))}:=
  I.lstUpd hp ho (xZ its n j u) (r.set rv j) (by rw[N9];exact hz) s.toks
 by_cases h0:0<=k
 ·have hk:k.toNat=j:=by
   rw[seqIndex_of h0 h4] at h1
   exact Option.some.inj h1
  exact PySem.W.ki_setAt ho h0 (by omega) (by rw[MK,<-hl];exact h4) (by rw[hk];exact⟨_,I',q⟩)
 ·have hk:(k + (its.toArray.size:Int)).toNat=j:=by
   rw[seqIndex_neg (by omega) h3] at h1
   rw[MK,<-hl]
   exact Option.some.inj h1
  exact PySem.W.ki_setBack ho (by omega) (by rw[MK,<-hl];exact h3) (by omega) (by rw[hk];exact⟨_,I',q⟩)
def tI (lo hi:Option Int)(n:Nat):(sliceBounds lo hi none n).1=((HT.sU n 0 lo:Nat):Int)/\(sliceBounds lo hi none n).2.1=((HT.sU n n hi:Nat):Int)/\(sliceBounds lo hi none n).2.2=1:=by
 refine⟨?_,?_,rfl⟩
 ·cases lo with
  |none=>simp[sliceBounds,HT.sU]
  |some i=>
   simp only[sliceBounds,HT.sU,Option.getD_none,show (1:Int) > 0 by decide,NJ]
   by_cases h:i < 0
   ·simp only[h,NJ] <;> omega
   ·simp only[h,NS] <;> omega
 ·cases hi with
  |none=>simp[sliceBounds,HT.sU]
  |some i=>
   simp only[sliceBounds,HT.sU,Option.getD_none,show (1:Int) > 0 by decide,NJ]
   by_cases h:i < 0
   ·simp only[h,NJ] <;> omega
   ·simp only[h,NS] <;> omega
def rL (its:List Value)(lo hi:Option Int):slicePick its.toArray lo hi none=((its.drop (HT.sU its.length 0 lo)).take (HT.sU its.length its.length hi - HT.sU its.length 0 lo)).toArray:=by
 obtain⟨h1,h2,h3⟩:=tI lo hi its.toArray.size
 unfold slicePick
 rw[h1,h2,h3]
 simp only[sliceRange_one,pick_run,MK] <;> rfl
def KR (K:Frag):V->Option Int->Option Int->Hp->VK->Prop:=λx lo hi H Q=>∃a xs,x=.ref a/\gN K H a xs/\∀p,H p=none->Q (.ref p) (upd H p (.lst (yd xs lo hi)))
def EK:Mc X (KR X.K):=by
 intro pins s σ H x v vl vu lo hi sl Q I rx hs pl pu h
 obtain⟨a,xs,rfl,hx,q⟩:=h
 cases rx
 obtain⟨its,r,ht,hz⟩:=I.list hx
 have hlen:=r.length
 refine⟨"list",_,slot_list_getitem.lookup,ht.isList.typeIs,?_⟩
 refine wpAny_getItem_list_slice ht.isList hs pl pu .none (by simp) ?_ (by rw[MK] <;> omega)
 rw[rL,<-hlen]
 refine⟨.ref s.heap.objs.size,_,I.laid (t':=s.toks) (o:=.lst (yd xs lo hi)) (λb ob q=>MD _ q) (MA _) ?_,rfl,q _ (I.hok.fresh (MA _))⟩
 exact⟨Nx (vO xs lo hi) hz,_,0,(r.drop (HT.sU xs.length 0 lo)).take (HT.sU xs.length xs.length hi - HT.sU xs.length 0 lo),MO _ rfl⟩
def m9:dZ X (.type "list") (λxs H Q=>∃p ys,xs= [.ref p]/\(gN X.K H p ys\/gM X.K H p ys)/\∀l,H l=none->Q (.ref l) (upd H l (.lst ys))):=by
 intro pins s σ H xs us Q I r h
 obtain⟨p,ys,rfl,hq,q⟩:=h
 obtain⟨u,rfl,rx⟩:=vals1 r
 cases rx
 have fin:∀(its:List Value),Vals ys its->ys.length<=sizeLine->∀(h':Heap) (c':Nat),(∀b o',s.heap.get? b=some o'->h'.get? b=some o')->
   h'.get? s.heap.objs.size=some {cls:=.type "list",dict:=none,data:=.seq its.toArray c',slots:=#[]}->EP X pins σ Q (.ref s.heap.objs.size) {s with heap:=h'}:=λits r' hz h' c' kp e=>
  ⟨.ref s.heap.objs.size,_,I.laid (t':=s.toks) kp (MA _) (show cJ X.prog X.w _ h' _ (.lst ys) from⟨hz,its,c',r',e⟩),rfl,q _ (I.hok.fresh (MA _))⟩
 rcases hq with hq |hq
 ·obtain⟨its,r',pl,hz⟩:=I.list hq
  have hlen:=r'.length
  obtain⟨o,ho,hc,n,hd⟩:=pl.isList
  exact call_list_seq p (.inl rfl) ho hc hd (λh' c' kp e=>fin its r' hz h' c' kp e) (by simp only[MK] <;> omega)
 ·obtain⟨its,r',pl,hz⟩:=I.tuple hq
  have hlen:=r'.length
  obtain⟨o,ho,hc,n,hd⟩:=pl
  exact call_list_seq p (.inr rfl) ho hc hd (λh' c' kp e=>fin its r' hz h' c' kp e) (by simp only[MK] <;> omega)
def c7:dZ X (.type "tuple") (λxs H Q=>∃p ys,xs= [.ref p]/\((gN X.K H p ys/\∀l,H l=none->Q (.ref l) (upd H l (.tup ys)))\/(gM X.K H p ys/\Q (.ref p) H))):=by
 intro pins s σ H xs us Q I r h
 obtain⟨p,ys,rfl,h⟩:=h
 obtain⟨u,rfl,rx⟩:=vals1 r
 cases rx
 rcases h with⟨hq,q⟩ | ⟨hq,q⟩
 ·obtain⟨its,r',pl,hz⟩:=I.list hq
  have hlen:=r'.length
  refine call_tuple_list pl.isList (λh' kp=>?_) (by simp only[MK] <;> omega)
  have I1:Inv X pins σ H {s with heap:=h'}:=I.kept (t':=s.toks) kp
  have I2:Inv X pins σ (upd H h'.objs.size (.tup ys)) {s with heap:=h'.push {cls:=.type "tuple",data:=.seq its.toArray}}:=
   I1.laid (t':=s.toks) (λb o e=>MD _ e) (MA _) (show cJ X.prog X.w _ _ _ (.tup ys) from⟨hz,its,r',ux.new _ _⟩)
  exact⟨.ref h'.objs.size,_,I2,rfl,q _ (I1.hok.fresh (MA _))⟩
 ·obtain⟨its,r',pl,hz⟩:=I.tuple hq
  exact call_tuple_same pl ⟨.ref p,H,I,rfl,q⟩
def L5 (K:Frag)(T:String)(x:V)(H:Hp):Prop:=match x with
 | .str _=>T="str"
 | .int _=>T="int"
 | .ref p=>(T="list"/\∃xs,gN K H p xs)\/(T="tuple"/\∃o,K.lookup p=some o/\o.cls=.type "tuple"/\o.dict=none)\/
   (T="dict"/\((∃kvs,H p=some (.dK kvs))\/∃kvs,H p=some (.dT kvs)))\/(T="set"/\∃S n,H p=some (.set S n))
 |_=>False
theorem Gb {pins:List (Addr×Obj)}{σ:St}{H:Hp}{s:Shared}{T:String}{x:V}{v:Value}(I:Inv X pins σ H s)(r:RelV x v)(ty:L5 X.K T x H) :
  s.TypeIs v T/\∀a,v=.ref a->∃ob,s.heap.get? a=some ob/\ob.dict=none:=by
 cases x with
 |str z=>
  obtain⟨t,rfl⟩:=r
  cases (show T="str" from ty)
  exact⟨typeIs_str s z t,λ_ e=>nomatch e⟩
 |int i=>
  obtain⟨t,rfl⟩:=r
  cases (show T="int" from ty)
  exact⟨typeIs_int s i t,λ_ e=>nomatch e⟩
 |ref p=>
  cases r
  rcases ty with⟨rfl,xs,hq⟩ | ⟨rfl,o,hk,hc,hd⟩ | ⟨rfl,hk⟩ | ⟨rfl,S,n,hk⟩
  ·obtain⟨its,_,pl,_⟩:=I.list hq
   refine⟨pl.isList.typeIs,λa e=>?_⟩
   cases e
   obtain⟨o,n,e,c,hd,_⟩:=pl
   exact⟨o,e,hd⟩
  ·refine⟨⟨o,I.kIn p o hk,hc⟩,λa e=>?_⟩
   cases e
   exact⟨o,I.kIn _ o hk,hd⟩
  ·have z:∃o,s.heap.get? p=some o/\o.ExactDict:=by
    rcases hk with⟨kvs,hk⟩ | ⟨kvs,hk⟩
    ·obtain⟨_,_,_,_,o,_,_,e,ex,_⟩:=I.hok p _ hk
     exact⟨o,e,ex⟩
    ·obtain⟨_,_,_,_,o,_,_,e,ex,_⟩:=I.hok p _ hk
     exact⟨o,e,ex⟩
   obtain⟨o,e,ex⟩:=z
   refine⟨⟨o,e,ex.1⟩,λa e2=>?_⟩
   cases e2
   exact⟨o,e,ex.2.1⟩
  ·obtain⟨o,_,_,_,e,ex,_⟩:=I.hok p _ hk
   refine⟨⟨o,e,ex.1⟩,λa e2=>?_⟩
   cases e2
   exact⟨o,e,ex.2.1⟩
 |_=>exact False.elim ty
def Ml (K:Frag)(T:String)(r:V->List V->Hp->VK->Prop)(to:TE)(t:TA):TE:=λσ H Q=>to σ H λx H1=>L5 K T x H1/\t σ H1 λxs H2=>r x xs H2 Q
variable {o e:Expr}{es:List Expr}{to:TE}{t:TA}{name:Str}{apos cpos:Pos}{T id:String}{r:V->List V->Hp->VK->Prop}
def yn (pa:PlainAttrs T)(slot:Slot T name id)(hty:typeOf (.builtin id)=pure (.type "method_descriptor"))(hm:Mv X id r)(ho:PE X o to)(ha:PA X (e :: es) t)
  (hbase:attributeBase o name X.env (eval o X.env)=eval o X.env:=by rfl)
  (hfew:((backTo cpos (starEach (e :: es) X.env)).all (λx=> !x.1) && (backToKw cpos (keywordEach [] X.env)).all (λx=>x.1.isSome)
   && decide ((e :: es).length + ([]:List Keyword).length + (if ([]:List Keyword).isEmpty then 0 else 1) < 30))=true:=by rfl)
  (hline:(apos.endLine == cpos.line)=true:=by rfl) (hs:starEach (e :: es) X.env=(false,eval e X.env) :: starEach es X.env:=by rfl) (hplain:(backTo cpos (starEach es X.env)).any (·.1)=false:=by rfl) :
  PE X (.Call (.Attribute o name apos) (e :: es) [] cpos) (Ml X.K T r to t):=by
 intro pins s σ H Q I h
 refine wpAny_Call_method_late hbase hfew hline rfl (cD (ho pins s σ H _ I h) λv s1 ⟨x,H1,I1,r1,ty,q1⟩=>?_)
 obtain⟨h1,h2⟩:=Gb I1 r1 ty
 refine⟨T,id,pa,slot,hty,h1,h2,?_⟩
 have hA:=ha cpos pins s1 σ H1 _ I1 q1
 rw[hs] at hA ⊢
 refine Calls.callWith_builtin (by show (false || (backTo cpos (starEach es X.env)).any (·.1))=false;rw[hplain] <;> rfl) (Calls.evalArgs_plain ?_)
 exact cD hA λus s2 ⟨vs,H2,I2,r2,q2⟩=>hm pins s2 σ H2 x vs v us Q I2 r1 r2 q2
end
def IF (X:Cx)(id:String)(r:V->List V->Hp->VK->Prop):Prop:=
 ∀(pins:List (Addr×Obj)) (s:Shared) (σ:St) (H:Hp) (x:V) (xs:List V) (v:Value) (us:List Value) (Q:VK),Inv X pins σ H s->RelV x v->Vals xs us->r x xs H Q->
  wpAny (model X.prog X.w) X.A (call (.builtin id) (v :: us)) (EP X pins σ Q) X.xe s
theorem Vals.one:∀{x:V} {us:List Value},Vals [x] us->∃u,us= [u]/\RelV x u
 |_,_,.cons r .nil=>⟨_,rfl,r⟩
theorem Vals.eraseIdx:∀{xs:List V} {us:List Value} (i:Nat),Vals xs us->Vals (xs.eraseIdx i) (us.eraseIdx i)
 |_,_,_,.nil=>.nil
 |_,_,0,.cons _ t=>t
 |_,_,i + 1,.cons r t=>.cons r (Vals.eraseIdx i t)
theorem Vals.rep {xs:List V}{us:List Value}(h:Vals xs us):∀k:Nat,Vals (List.replicate k xs).flatten (List.replicate k us).flatten
 | 0=>.nil
 |k + 1=>by
  rw[Nw,Nw,NT,NT]
  exact Vals.append h (Vals.rep h k)
theorem si {α:Type}:∀(l:List α) (i:Nat),(l.eraseIdx i).length<=l.length
 | [],_=>MA _
 |_ :: _,0=>Oz _
 |_ :: r,i + 1=>Nat.succ_le_succ (si r i)
theorem foldl_rep (its:List Value):∀(k:Nat) (acc:List Value),
  List.foldl (λx1 x2=>x1 ++ x2) acc.toArray (List.replicate k its.toArray)=(acc ++ (List.replicate k its).flatten).toArray
 | 0,acc=>by simp
 |k + 1,acc=>by
  have e:acc.toArray ++ its.toArray=(acc ++ its).toArray:=by simp
  have e2:(acc ++ its) ++ (List.replicate k its).flatten=acc ++ (List.replicate (k + 1) its).flatten:=by
   rw[Nw,NT,N1]
  rw[<-e2,<-foldl_rep its k (acc ++ its),<-e,Nw,List.foldl_cons]
section
variable {X:Cx}{pins:List (Addr×Obj)}{σ:St}{H:Hp}{s:Shared}{l b:Addr}{xs ys zs:List V}
def Inv.lset {its its':List Value}{n:Nat}{f:Array Value->Array Value}{t':Nat}(I:Inv X pins σ H s)(hH:H l=some (.lst xs))
  (e:s.heap.get? l=some {cls:=.type "list",data:=.seq its.toArray n}) (hf:f its.toArray=its'.toArray) (hv:Vals ys its') (hz:ys.length<=sizeLine) :
  Inv X pins σ (upd H l (.lst ys)) {s with heap:=s.heap.update l (Obj.mapSeq f),toks:=t'}:=by
 have q:=PySem.IsL.update e f
 rw[hf] at q
 refine I.write (x:=l) (e:=l) (by rw[hH];exact trivial) (.inl rfl) (λb' u hb hu=>(Nz s.heap (Obj.mapSeq f) (Ne.symm hb)).trans hu) ⟨_,q⟩ ?_
 exact⟨hz,its',_,hv,q⟩
def Inv.lnew {its:List Value}{t':Nat}(I:Inv X pins σ H s)(hv:Vals ys its)(hz:ys.length<=sizeLine) :
  Inv X pins σ (upd H s.heap.objs.size (.lst ys)) {s with heap:=s.heap.push {cls:=.type "list",data:=.seq its.toArray},toks:=t'}:=
 I.laid (λ_ _ q=>MD _ q) (MA _) ⟨hz,its,0,hv,MO _ rfl⟩
def Inv.fresh (I:Inv X pins σ H s):H s.heap.objs.size=none:=I.hok.fresh (MA _)
def Inv.lstM (I:Inv X pins σ H s)(hH:H l=some (.lst xs)):xs.length<=sizeLine/\∃(its:List Value) (n:Nat),Vals xs its/\xs.length=its.length/\s.heap.get? l=some {cls:=.type "list",data:=.seq its.toArray n}:=by
 obtain⟨z,its,n,r,e⟩:=I.hok l _ hH
 exact⟨z,its,n,r,r.length,e⟩
def vT {n:Nat}(h:n<=sizeLine):Builtin.List.listTooLong n=false:=by
 unfold Builtin.List.listTooLong
 exact MR (by omega)
end
section
variable {X:Cx}
def EN:V->List V->Hp->VK->Prop:=λx vs H Q=>∃l xs y,x=.ref l/\vs= [y]/\H l=some (.lst xs)/\xs.length < sizeLine/\Q .non (upd H l (.lst (xs ++ [y])))
def nQ:IF X "list.append" EN:=by
 intro pins s σ H x vs v us Q I rx rv h
 obtain⟨l,xs,y,rfl,rfl,hH,hz,q⟩:=h
 cases rx
 obtain⟨u,rfl,ru⟩:=rv.one
 obtain⟨z,its,n,r,hl,e⟩:=I.lstM hH
 refine call_meets F.slot_list_append ⟨_,e,rfl⟩ F.entry_list_append (F.args_list_append_2 _ _) (PySem.list_append l its.toArray n u (by rw[MK];omega)) ⟨e,?_⟩
 refine⟨.non,_,I.lset (its':=its ++ [u]) hH e (by simp) (r.append (.cons ru .nil)) ?_,rfl,q⟩
 rw[MY,Nj]
 omega
def GS:V->List V->Hp->VK->Prop:=λx vs H Q=>∃l xs i k y,x=.ref l/\vs= [.int i]/\H l=some (.lst xs)/\ -(2 ^ 63)<=i/\i < 2 ^ 63/\seqIndex? i xs.length=some k/\xs[k]? =some y/\Q y (upd H l (.lst (xs.eraseIdx k)))
def BJ:IF X "list.pop" GS:=by
 intro pins s σ H x vs v us Q I rx rv h
 obtain⟨l,xs,i,k,y,rfl,rfl,hH,h1,h2,hk,hy,q⟩:=h
 cases rx
 obtain⟨u,rfl,ru⟩:=rv.one
 obtain⟨t,rfl⟩:=ru
 obtain⟨z,its,n,r,hl,e⟩:=I.lstM hH
 obtain⟨w,hw,rw'⟩:=r.get hy
 refine call_meets F.slot_list_pop ⟨_,e,rfl⟩ F.entry_list_pop (F.args_list_pop_2 _ _)
  (MeetsSeq.list_pop_at l its.toArray n i t k w (fitsIndex_both h1 h2) (by rw[MK,<-hl];exact hk) (by rw[<-Array.getElem?_toList];exact hw) (by rw[MK];omega)) ⟨e,?_⟩
 refine⟨y,_,I.lset (its':=its.eraseIdx k) hH e ?_ (r.eraseIdx k) ?_,rw',q⟩
 ·show its.toArray.eraseIdxIfInBounds k=(its.eraseIdx k).toArray
  rw[List.eraseIdxIfInBounds_toArray]
 ·have:=si xs k
  omega
def Ld:R2:=λx y H Q=>∃l k xs,x=.ref l/\y=.int k/\H l=some (.lst xs)/\ -(2 ^ 63)<=k/\k < 2 ^ 63/\xs.length * k.toNat<=sizeLine/\
 ∀p,H p=none->Q (.ref p) (upd H p (.lst (List.replicate k.toNat xs).flatten))
theorem len_rep {α:Type}(xs:List α)(k:Nat):(List.replicate k xs).flatten.length=k * xs.length:=by
 induction k with
 |zero=>simp
 |succ k ih=>rw[Nw,NT,MY,ih,Nat.succ_mul,Nat.add_comm]
def De:kT X (binaryOp .Mult) Ld:=by
 intro pins s σ H x y v u Q I rx ry h
 obtain⟨l,k,xs,rfl,rfl,hH,h1,h2,hz,q⟩:=h
 cases rx
 obtain⟨t,rfl⟩:=ry
 obtain⟨z,its,n,r,hl,e⟩:=I.lstM hH
 have hlen:its.toArray.size * k.toNat<=sizeLine:=by rw[MK,<-hl];exact hz
 have hcap:¬its.toArray.size * k.toNat > (2 ^ 63 - 1) / 8:=by
  have:(sizeLine:Nat)<=(2 ^ 63 - 1) / 8:=by decide
  omega
 have hfit:¬(!Builtin.List.listFitsIndex k)=true:=by
  rw[fitsIndex_both h1 h2]
  exact MI
 have hlong:¬Builtin.List.listTooLong (its.toArray.size * k.toNat)=true:=by
  rw[vT hlen]
  exact MI
 have hnew:List.foldl (λx1 x2=>x1 ++ x2) #[] (List.replicate (if its.toArray.isEmpty=true then 0 else k.toNat) its.toArray)=(List.replicate k.toNat its).flatten.toArray:=by
  have f0:∀m:Nat,List.foldl (λx1 x2=>x1 ++ x2) #[] (List.replicate m its.toArray)=(List.replicate m its).flatten.toArray:=λm=>by
   have:=foldl_rep its m []
   rw[List.nil_append] at this
   exact this
  rw[f0]
  cases its with
  |nil=>simp
  |cons a r'=>rw[MG (by simp)]
 refine wpAny_binaryOp_repeat_ref (T:="list") (U:="int") (by decide) ⟨_,e,rfl⟩ (λs'=>typeIs_int s' k t) noFill_list_mul F.fills_int_mul F.slot_int_rmul repeat_list F.slot_int_index.lookup
  (call_meets F.slot_int_rmul (typeIs_int s k t) F.entry_int_rmul (F.args_int_rmul_2 _ _) (int___rmul___int_list k t l its.toArray n)
   ⟨e,rfl,⟨_,e,rfl⟩,call_meets F.slot_list_mul ⟨_,e,rfl⟩ F.entry_list_mul (F.args_list_mul_2 _ _) (AutoListH.list___mul___list_int_3 l its.toArray n k t hfit hcap hlong) ⟨e,?_⟩⟩)
 rw[hnew]
 exact⟨.ref _,_,I.lnew (t':=s.toks) (r.rep k.toNat) (by rw[len_rep,Nat.mul_comm];exact hz),rfl,q _ I.fresh⟩
end
end L2
namespace Att
open PySem PySem.W PySem.Calls PyProof.Rows
theorem o7 {P:Params}{h:Heap}:∀(ns:List Int) (vs:List Value),WellAll P h vs (ns.map WData.int)->IntsAre vs ns:=by
 intro ns
 induction ns with
 |nil=>
  intro vs w
  rw[List.map_nil] at w
  cases w
  exact .nil
 |cons n ns ih=>
  intro vs w
  rw[NR] at w
  cases w with
  |cons a b=>
   cases a
   exact .cons _ _ (ih _ b)
theorem zE {l:OpenLaw}{n:Nat}(hn:l.most=some n){P:Params}{h:Heap}{args:List WData}{vals:List Value}
  (hpre:l.row.toRowW.claim.pre args=true) (hwl:WellAll P h vals args) :
  ∃a vs ns,vals= [Value.ref a]/\args= [WData.list (ns.map WData.int)]/\h.get? a=some {cls:=.type "list",data:=.seq vs.toArray}/\IntsAre vs ns/\ns.length<=n:=by
 have hsh:WShape.hasAll [] args [.list .int]=true:=(pre_splitW hpre).1
 have hc:l.pre.holds [] {args:=args}=true:=(pre_splitW hpre).2
 obtain⟨d,r,rfl,h1,h2⟩:=hasAllW_cons hsh
 obtain rfl:=hasAllW_nil h2
 obtain⟨xs,rfl,h3⟩:=hasW_list h1
 obtain⟨ns,rfl⟩:=items_int h3
 have hlen:ns.length<=n:=by
  unfold OpenLaw.pre at hc
  have h4:(WTm.not (.lt (.lit (.int (n:Int))) (.len (.arg 0)))).holds [] {args:=[.list (ns.map .int)]}=true:=by
   have h4:=(holds_andW hc).1
   rw[hn] at h4
   exact h4
  have h5:=condW_of h4 (w_not (w_lt w_lit (w_len_list (w_arg rfl))))
  rw[MC] at h5
  refine Nat.le_of_not_lt λq=>?_
  have q':(n:Int) < ((ns.length:Nat):Int):=by omega
  first
   | (rw[MB q'] at h5;exact absurd h5 (by decide))
   | (simp at h5;omega)
 cases hwl with
 |cons w1 w2=>
  cases w2
  cases w1 with
  |list ho hall=>exact⟨_,_,ns,rfl,rfl,ho,o7 ns _ hall,hlen⟩
def Az (l:OpenLaw)(args:List WData):l.row.toRowW.claim.post args (.bool true) args=true:=
 postW_of (r:=l.row.toRowW) (X:=(true == true))
  (show WShape.has [] (.bool true) .bool=true by first |rfl |decide |simp[WShape.has,WShape.arms,WShape.armsAll])
  (show (WTm.eq .res (.lit (.bool true))).value [] {args:=args,res:=some (.bool true),after:=args}=some (.bool (true == true)) from w_eq_bool (w_res rfl) w_lit) rfl
def vt {l:OpenLaw}{n:Nat}{q:Program}{loose:List Str}{XP:(Str->Option Value)->Heap->Prop}{YP:World->Heap->Prop}{d:DefRec}
  (hn:l.most=some n) (hdf:d.params.defaults= [])
  (call:∀(w:World) (s₀ s₁:Shared) (mg mb:Str->Option Value) (fa:Addr) (o:Obj) (pm cd doc:Value) (a:Addr) (vs:List Value) (ns:List Int),
   Ground q loose [] XP w s₀ mg mb s₁.heap->YP w s₁.heap->
   s₁.heap.get? fa=some o->o.data=.func (docDef d.name d.params d.body d.scope pm cd doc)->s₁.heap.CodeRec cd d.name->mg d.name=some (.ref fa)->
   s₁.heap.get? a=some {cls:=.type "list",data:=.seq vs.toArray}->IntsAre vs ns->ns.length<=n->s₁.gens=#[]->
   codeAny (model l.prog w) callerA (.call (.ref fa) ⟨[.ref a],[]⟩) (λr s'=>r=.ok (.ret (.bool true))/\OldK s₁.heap s'.heap/\s'.os=s₁.os/\AllBare s'.gens) s₁) :
  WalkO q loose XP YP l.row.toRowW d [] (λf vs=>PySem.call f vs):=by
 intro w s₀ s₁ mg mb G Y fa o pm cd doc dV kV ho hd hcd hD hmg hg args vals as hpre hlay hrd hwl hlo
 obtain rfl:dV=.none:=Dflts.none hD hdf
 obtain rfl:kV=.none:=Dflts.noKw hD
 obtain⟨a,vs,ns,rfl,rfl,hobj,hints,hlen⟩:=zE hn hpre hwl
 refine enter_call (codeAny_mono (call w s₀ s₁ mg mb fa o pm cd doc a vs ns G Y ho (fd_plain hd) hcd hmg hobj hints hlen hg) λr s' hq=>?_)
 obtain⟨rfl,h2,h3,h4⟩:=hq
 exact⟨.inl ⟨.bool true,.bool true,[],rfl,λ_=>rfl,.bool true,Az l _,λ_=>⟨List.Pairwise.nil,λ_ hm=>(nomatch hm)⟩⟩,h2,h3,h4⟩
end Att
namespace L2
open PySem PySem.Spec PyProof.Rows
theorem sV:∀{vs:List Value} {ns:List Int},IntsAre vs ns->Vals (ns.map V.int) vs
 |_,_,.nil=>.nil
 |_,_,.cons n t h=>.cons ⟨t,rfl⟩ (sV h)
def ie (s:Stmt):Arguments:=match s with
 | .FunctionDef _ a _ _ _ _ _ _ _ _=>a
 |_=>{posonlyargs:=[],args:=[],vararg:=none,kwonlyargs:=[],kw_defaults:=[],kwarg:=none,defaults:=[]}
def cU (s:Stmt):List Stmt:=match s with
 | .FunctionDef _ _ b _ _ _ _ _ _ _=>b
 |_=>[]
def ao (s:Stmt):Scope:=match s with
 | .FunctionDef _ _ _ _ _ _ sc _ _ _=>sc
 |_=>{kind:=.function,names:=[],isGenerator:=false,isCoroutine:=false}
abbrev GP:Ag:=λ_ _ _ _ _ _=>False
abbrev E0:XK:=λ_ _ _=>False
def Jc {X:Cx}:Passes GP X E0:=λ_ _ _ _ _ _ _ h=>h.elim
structure AS (K:Frag)(x qual:Str)(st:Stmt)(f:Addr)(fd:FuncData):Prop where
 ex:∃(oc:Value) (od:Option Addr) (kV doc pm:Value) (an:Option Addr) (cdv ct:Value) (osl:Array (Option Value)),
  fd=PySem.W.fnOf x qual (ie st) (cU st) (ao st) .none kV doc pm an cdv ct/\K.lookup f=some ⟨oc,od,.func fd,osl⟩/\PySem.W.codeIn K cdv qual=true
 kp:PySem.W.keepIn K (.ref f)=true
section
variable {P:Program}{w:World}{K:Frag}{mg:Str->Option Value}{base:Heap}
def AS.ok {x qual:Str}{st:Stmt}{f:Addr}{fd:FuncData}{N ps:List Str}{k:Nat}{sp:Sp}(F:AS K x qual st f fd)(S:aF N ps (ao st))(len:∀vs H Q E,sp vs H Q E->vs.length=ps.length)
  (hbody:∀(cdv:Value) (A:Around) (outer:List Env) (s:Shared) (H:Hp) (vs:List V) (Q:VK) (E:XK),dt k (A.deeper (envOfC qual (ao st) s.heap.objs.size f cdv))->sp vs H Q E->
   ∃t,rB (o4 GP P w K mg base N qual (ao st) f cdv A outer s H E).nox (cU st) t/\t {nx:=λ_ H'=>Q .non H',rt:=Q} (start N vs) H):e8 P w K mg base GP (k + 1) f fd ps sp:=by
 obtain⟨oc,od,kV,doc,pm,an,cdv,ct,osl,rfl,lk,hcd⟩:=F.ex
 refine Bo lk hcd S len λA outer s H vs Q E hr hsp=>?_
 obtain⟨t,h,q⟩:=hbody cdv A outer s H vs Q E hr hsp
 exact⟨t,h.nox,q⟩
def AS.binds {x qual:Str}{st:Stmt}{f:Addr}{fd:FuncData}{ps:List Str}(F:AS K x qual st f fd)
  (h:∀(kV doc pm:Value) (an:Option Addr) (cdv ct:Value) (us:List Value),us.length=ps.length->bindArgs (PySem.W.fnOf x qual (ie st) (cU st) (ao st) .none kV doc pm an cdv ct) ⟨us,[]⟩=pure (ps.zip us)):Binds K fd ps []:=by
 obtain⟨oc,od,kV,doc,pm,an,cdv,ct,osl,rfl,lk,hcd⟩:=F.ex
 exact .all (h kV doc pm an cdv ct)
def qi {x qual:Str}{st:Stmt}{f:Addr}{oc:Value}{od an:Option Addr}{osl:Array (Option Value)}{kV doc pm cdv ct:Value}(l:K.lookup f=some ⟨oc,od,.func (PySem.W.fnOf x qual (ie st) (cU st) (ao st) .none kV doc pm an cdv ct),osl⟩)
  (c:PySem.W.codeIn K cdv qual=true) (k:PySem.W.keepIn K (.ref f)=true):AS K x qual st f (PySem.W.fnOf x qual (ie st) (cU st) (ao st) .none kV doc pm an cdv ct):=⟨⟨oc,od,kV,doc,pm,an,cdv,ct,osl,rfl,l,c⟩,k⟩
end
section
variable {X:Cx}
def pv (i:Nat){x:Str}{pos:Pos}(hN:X.N[i]? =some x:=by rfl)(hv:y9 X.env.scope x:=by first |exact Or.inl rfl |exact Or.inr (Or.inl rfl) |exact Or.inr (Or.inr rfl))(hd:(x == ("__debug__":Str))=false:=by decide)
  (hcd:(x == ("__classdict__":Str))=false:=by decide):PE X (.Name x pos) (D6 i):=jR hN hv hd hcd
end
def p7 {A B:Prop}(h:B):if false=true then A else B:=by
 rw[MG MI]
 exact h
def qe {A B:Prop}(h:A):if true=true then A else B:=by
 rw[My rfl]
 exact h
def Eb (o:Obj):Prop:=∃vs q t,o.data=.fields vs/\vs[1]? =some (.str q t)
def Dg:List Value->Prop
 | []=>True
 | .int _ _ :: .int _ _ :: .ref _ :: r=>Dg r
 |_=>False
theorem Dg.app:∀{l m:List Value},Dg l->Dg m->Dg (l ++ m)
 | [],_,_,h=>h
 | .int _ _ :: .int _ _ :: .ref _ :: r,_,h,k=>Dg.app (l:=r) h k
def Kt (H:Hp)(b:Addr):HO->Prop
 | .tbl ps=>∃more:Array Value,H b=some (.tbl (ps ++ more))/\Dg more.toList/\∀c,Value.ref c∈more.toList->∃o,H c=some (.aS o (.own 0))/\Eb o
 |o=>H b=some o
theorem Kt.of {H:Hp}{b:Addr}{o:HO}(h:H b=some o):Kt H b o:=by
 cases o with
 |tbl ps=>exact⟨#[],by rw[h];simp,trivial,λc hc=>by simp at hc⟩
 |_=>exact h
def ah (H H':Hp):Prop:=∀b o,H b=some o->Kt H' b o
def ah.refl (H:Hp):ah H H:=λ_ _ h=>Kt.of h
theorem Kt.some {H:Hp}{b:Addr}{o:HO}(h:Kt H b o):∃u,H b=Option.some u/\((∀ps,o≠.tbl ps)->u=o)/\((∃ps,o=.tbl ps)->∃ps,u=.tbl ps):=by
 cases o with
 |tbl ps=>obtain⟨m,e,_⟩:=h;exact⟨_,e,λz=>absurd rfl (z ps),λ_=>⟨_,rfl⟩⟩
 |_=>exact⟨_,h,λ_=>rfl,λ⟨ps,z⟩=>by cases z⟩
theorem Kt.step {H H':Hp}{b:Addr}{o:HO}(h:Kt H b o)(s:ah H H'):Kt H' b o:=by
 cases o with
 |tbl ps=>
  obtain⟨m,e,t1,k⟩:=h
  obtain⟨m2,e2,t2,k2⟩:=s b _ e
  refine⟨m ++ m2,by rw[e2,Array.append_assoc],by rw[N3];exact t1.app t2,λc hc=>?_⟩
  rw[N3,MU] at hc
  rcases hc with hc |hc
  ·obtain⟨o,eo,io⟩:=k c hc;exact⟨o,s c _ eo,io⟩
  ·exact k2 c hc
 |lst xs=>exact s b _ h
 |tup xs=>exact s b _ h
 |dK xs=>exact s b _ h
 |dT xs=>exact s b _ h
 |set S n=>exact s b _ h
 |ins C dx fs=>exact s b _ h
 |own x=>exact s b _ h
 |xd fs=>exact s b _ h
 |met f x=>exact s b _ h
 |fE lo hi=>exact s b _ h
 |aS o u=>exact s b _ h
 |ext φ=>exact s b _ h
def ah.trans {H H1 H2:Hp}(a:ah H H1)(b:ah H1 H2):ah H H2:=λc o h=>(a c o h).step b
theorem ah.free {H H':Hp}(e:ah H H'){l:Addr}(h:H' l=Option.none):H l=Option.none:=by
 cases q:H l with
 |none=>rfl
 |some o=>
  obtain⟨u,z,_⟩:=(e l o q).some
  rw[z] at h
  cases h
def ah.seq {K:Frag}{H H':Hp}{a:Addr}{xs:List V}(e:ah H H')(h:gN K H a xs):gN K H' a xs:=by
 rcases h with (h | ⟨o,h⟩) |h
 ·exact .inl (.inl (e _ _ h))
 ·exact .inl (.inr ⟨o,e _ _ h⟩)
 ·exact .inr h
end L2
end
namespace L2.ST
open PySem PySem.SetTable
abbrev GV (xs:Array Nat):Prop:=xs.toList.Pairwise (· < ·)
def HS (mask:Nat)(p:Probe):Probe:=
 if p.more > 0 then {p with j:=p.j + 1,more:=p.more - 1} else
 {p with j:=(leap mask p.i p.perturb).1,more:=runEnd mask (leap mask p.i p.perturb).1 - (leap mask p.i p.perturb).1,i:=(leap mask p.i p.perturb).1,perturb:=(leap mask p.i p.perturb).2}
def Hw (mask i perturb:Nat):Probe:={j:=i,more:=runEnd mask i - i,i,perturb,dummy:=none}
def st (mask:Nat)(h:Int):Probe:=Hw mask (bits h % (mask + 1)) (bits h)
def l8 (mask:Nat):Nat->Probe->Probe
 | 0,p=>p
 |n + 1,p=>l8 mask n (HS mask p)
theorem u6 (mask:Nat):∀(n m:Nat) (p:Probe),l8 mask (n + m) p=l8 mask m (l8 mask n p)
 | 0,m,p=>by rw[NG];rfl
 |n + 1,m,p=>by rw[Nat.add_right_comm];exact u6 mask n m (HS mask p)
def Av {mask i:Nat}(h:i<=mask):i<=runEnd mask i/\runEnd mask i<=mask/\runEnd mask i - i<=9:=by
 unfold runEnd;split <;> omega
def In (mask:Nat)(p:Probe):Prop:=p.j + p.more<=mask/\p.more<=9
def zp (mask i q:Nat):(leap mask i q).1<=mask:=by
 unfold leap;exact Nat.lt_succ_iff.mp (Nat.mod_lt _ (Nat.succ_pos _))
theorem we (mask:Nat):∀(k:Nat) (p:Probe),p.more=k->l8 mask (k + 1) p={p with j:=(leap mask p.i p.perturb).1,more:=runEnd mask (leap mask p.i p.perturb).1 - (leap mask p.i p.perturb).1,i:=(leap mask p.i p.perturb).1,perturb:=(leap mask p.i p.perturb).2}
 | 0,p,h=>by
  show HS mask p=_
  unfold HS
  rw[MG (by omega)]
 |k + 1,p,h=>by
  have e:HS mask p={p with j:=p.j + 1,more:=p.more - 1}:=by unfold HS;rw[My (by omega)]
  show l8 mask (k + 1) (HS mask p)=_
  rw[e,we mask k _ (by dsimp only;omega)]
def Af (mask i q:Nat):l8 mask (runEnd mask i - i + 1) (Hw mask i q)=Hw mask (leap mask i q).1 (leap mask i q).2:=by
 exact we mask _ (Hw mask i q) rfl
def g8 (mask:Nat):Nat->Nat×Nat->Nat×Nat
 | 0,x=>x
 |k + 1,x=>g8 mask k (leap mask x.1 x.2)
theorem oH (mask:Nat):∀(k i q:Nat),i<=mask->∃n,n<=10 * k/\l8 mask n (Hw mask i q)=Hw mask (g8 mask k (i,q)).1 (g8 mask k (i,q)).2
 | 0,i,q,_=>⟨0,MA _,rfl⟩
 |k + 1,i,q,h=>by
  obtain⟨n,hn,e⟩:=oH mask k (leap mask i q).1 (leap mask i q).2 (zp _ _ _)
  have:=Av h
  refine⟨(runEnd mask i - i + 1) + n,by omega,?_⟩
  rw[u6,Af,e]
  rfl
theorem sQ (mask:Nat):∀(a b:Nat) (x:Nat×Nat),g8 mask (a + b) x=g8 mask b (g8 mask a x)
 | 0,b,x=>by rw[NG];rfl
 |a + 1,b,x=>by rw[Nat.add_right_comm];exact sQ mask a b (leap mask x.1 x.2)
theorem vc (mask:Nat):∀(k:Nat) (x:Nat×Nat),x.1<=mask->(g8 mask k x).1<=mask
 | 0,_,h=>h
 |k + 1,x,_=>vc mask k _ (zp mask x.1 x.2)
theorem mj (mask:Nat):∀(k:Nat) (x:Nat×Nat),(g8 mask k x).2=x.2 / 32 ^ k
 | 0,x=>by simp[g8]
 |k + 1,x=>by
  show (g8 mask k (leap mask x.1 x.2)).2=_
  rw[mj mask k,Nat.pow_succ,Nat.mul_comm,<-Nat.div_div_eq_div_mul]
  rfl
def nx (mask i:Nat):Nat:=(i * 5 + 1) % (mask + 1)
def AU (mask:Nat):Nat->Nat->Nat
 | 0,i=>i
 |k + 1,i=>AU mask k (nx mask i)
theorem pk (mask:Nat):∀(a b i:Nat),AU mask (a + b) i=AU mask b (AU mask a i)
 | 0,b,i=>by rw[NG];rfl
 |a + 1,b,i=>by rw[Nat.add_right_comm];exact pk mask a b (nx mask i)
theorem qD (mask:Nat):∀(k i:Nat),g8 mask k (i,0)=(AU mask k i,0)
 | 0,_=>rfl
 |k + 1,i=>by
  show g8 mask k (leap mask i 0)=_
  have:leap mask i 0=(nx mask i,0):=by simp[leap,nx]
  rw[this,qD mask k]
  rfl
def JV (mask:Nat):Prop:=mask=7\/mask=31\/mask=127
def Jt (mask:Nat)(hm:JV mask):AU mask (mask + 1) 0=0/\∀j,j<=mask->∃k,k<=mask/\AU mask k 0=j:=by
 have h7:∀j:Nat,j < 8->∃k,k < 8/\AU 7 k 0=j:=by decide +kernel
 have h31:∀j:Nat,j < 32->∃k,k < 32/\AU 31 k 0=j:=by decide +kernel
 have h127:∀j:Nat,j < 128->∃k,k < 128/\AU 127 k 0=j:=by decide +kernel
 rcases hm with rfl |rfl |rfl
 ·exact⟨by decide +kernel,λj hj=>let ⟨k,a,b⟩:=h7 j (by omega);⟨k,by omega,b⟩⟩
 ·exact⟨by decide +kernel,λj hj=>let ⟨k,a,b⟩:=h31 j (by omega);⟨k,by omega,b⟩⟩
 ·exact⟨by decide +kernel,λj hj=>let ⟨k,a,b⟩:=h127 j (by omega);⟨k,by omega,b⟩⟩
def JW {mask:Nat}(hm:JV mask){i j:Nat}(hi:i<=mask)(hj:j<=mask):∃k,k<=mask/\AU mask k i=j:=by
 obtain⟨z,o⟩:=Jt mask hm
 obtain⟨a,ha,ea⟩:=o i hi
 obtain⟨b,hb,eb⟩:=o j hj
 have back:AU mask (mask + 1 - a) i=0:=by
  rw[<-ea,<-pk,show a + (mask + 1 - a)=mask + 1 by omega];exact z
 by_cases hab:a<=b
 ·refine⟨b - a,by omega,?_⟩
  rw[<-ea,<-pk,show a + (b - a)=b by omega];exact eb
 ·refine⟨mask + 1 - a + b,by omega,?_⟩
  rw[pk,back];exact eb
def xl {mask:Nat}(hm:JV mask){i q j:Nat}(hi:i<=mask)(hq:q < 2 ^ 64)(hj:j<=mask):∃k,k<=mask + 13/\(g8 mask k (i,q)).1=j:=by
 have hz:(g8 mask 13 (i,q)).2=0:=by
  rw[mj]
  exact Nat.div_eq_of_lt (M7 hq (by decide))
 obtain⟨k,hk,e⟩:=JW hm (vc mask 13 (i,q) hi) hj
 refine⟨13 + k,by omega,?_⟩
 rw[sQ]
 have:g8 mask 13 (i,q)=((g8 mask 13 (i,q)).1,0):=Prod.ext rfl hz
 rw[this,qD]
 exact e
def Ep (h:Int):bits h < 2 ^ 64:=by
 unfold bits
 have:=N6 h (show (0:Int) < 2 ^ 64 by decide)
 have:=Oa h (show (2 ^ 64:Int)≠0 by decide)
 omega
def Cd {mask:Nat}(hm:JV mask)(h:Int){j:Nat}(hj:j<=mask):∃n,n < 10 * turns mask/\(l8 mask n (st mask h)).j=j:=by
 have hi:bits h % (mask + 1)<=mask:=Nat.lt_succ_iff.mp (Nat.mod_lt _ (Nat.succ_pos _))
 obtain⟨k,hk,e⟩:=xl hm hi (Ep h) hj
 obtain⟨n,hn,q⟩:=oH mask k (bits h % (mask + 1)) (bits h) hi
 refine⟨n,by unfold turns;omega,?_⟩
 show (l8 mask n (Hw mask _ _)).j=j
 rw[q];exact e
def Reach (mask:Nat)(L:Nat->Prop)(h:Int)(j:Nat):Prop:=∃n,n < 10 * turns mask/\(l8 mask n (st mask h)).j=j/\∀m,m < n->L (l8 mask m (st mask h)).j
structure Tab (t:SetTable)(hs:List Int):Prop where
 mask:JV t.mask
 dum:t.dummies=#[]
 rise:GV t.place
 le:∀j,j∈t.place->j<=t.mask
 size:t.place.size=hs.length
 load:t.place.size * 5 < t.mask * 3
 reach:∀(i j:Nat) (h:Int),t.place[i]? =some j->hs[i]? =some h->Reach t.mask (· ∈t.place) h j
 plain:t.plain=true
theorem fw {α:Type}[DecidableEq α]:∀{l m:List α},l.Nodup->(∀x,x∈l->x∈m)->l.length<=m.length
 | [],_,_,_=>Nl _
 |a :: l,m,hn,hs=>by
  have ha:=hs a (MM ..)
  have hl:=Nn.mp hn
  have:=fw (l:=l) (m:=m.erase a) hl.2 λx hx=>by
   refine (List.mem_erase_of_ne ?_).mpr (hs x (MN _ hx))
   rintro rfl;exact hl.1 hx
  rw[OI ha] at this
  have:0 < m.length:=List.length_pos_of_mem ha
  simp only[Nm];omega
def yi {mask:Nat}{xs:Array Nat}(hl:xs.size<=mask):∃j,j<=mask/\j∉xs:=by
 refine Classical.byContradiction λhc=>?_
 have all:∀j,j∈List.range (mask + 1)->j∈xs.toList:=λj hj=>by
  have:=Nb.mp hj
  refine Classical.byContradiction λhn=>hc ⟨j,by omega,λz=>hn (by simpa using z)⟩
 have:=fw nodup_range all
 simp at this
 omega
theorem uj {P:Nat->Prop}(h:∃n,P n):∃n,P n/\∀m,m < n->¬P m:=by
 obtain⟨n,hn⟩:=h
 induction n using Nat.strongRecOn with
 |_ n ih=>
  by_cases hc:∃m,m < n/\P m
  ·obtain⟨m,hm,hp⟩:=hc
   exact ih m hm hp
  ·exact⟨n,hn,λm hm hp=>hc ⟨m,hm,hp⟩⟩
section
variable {t:SetTable}{hs:List Int}
def Tab.load' (T:Tab t hs):t.place.size<=t.mask:=by have:=T.load;omega
def Tab.first (T:Tab t hs)(h:Int):∃n,n < 10 * turns t.mask/\(l8 t.mask n (st t.mask h)).j∉t.place/\∀m,m < n->(l8 t.mask m (st t.mask h)).j∈t.place:=by
 obtain⟨j,hj,hn⟩:=yi T.load'
 obtain⟨n,h1,h2⟩:=Cd T.mask h hj
 obtain⟨k,hk,hlt⟩:=uj (P:=λn=>(l8 t.mask n (st t.mask h)).j∉t.place) ⟨n,by rw[h2];exact hn⟩
 refine⟨k,?_,hk,λm hm=>Classical.byContradiction λz=>hlt m hm z⟩
 rcases NW n k with c |c
 ·exact absurd (show (l8 t.mask n (st t.mask h)).j∉t.place by rw[h2];exact hn) (hlt n c)
 ·omega
end
abbrev own (o:Array (Option Nat))(j:Nat):Option Nat:=o.getD j none
structure Lay (mask:Nat)(o:Array (Option Nat))(hs:List Int):Prop where
 size:o.size=mask + 1
 all:∀k h,hs[k]? =some h->∃j,own o j=some k/\Reach mask (λx=>(own o x).isSome=true) h j
 one:∀j j' k,own o j=some k->own o j'=some k->j=j'
 le:∀j k,own o j=some k->j<=mask/\k < hs.length
abbrev Pr:=Int×Int
def hp (p:Pr):Int:=reduceHash (Builtin.Tuple.tupleHashOf [hashInt p.1,hashInt p.2])
def Sm (p:Pr):Prop:=(0<=p.1/\p.1 < 8)/\(0<=p.2/\p.2 < 8)
def uD:List Pr:=(List.range 64).map λk=>(((k / 8:Nat):Int),((k % 8:Nat):Int))
def xR {p:Pr}(h:Sm p):p∈uD:=by
 unfold uD
 obtain⟨⟨a,b⟩,c,d⟩:=h
 refine MZ.mpr ⟨p.1.toNat * 8 + p.2.toNat,Nb.mpr (by omega),?_⟩
 refine Prod.ext ?_ ?_ <;> dsimp only <;> omega
def yf {l:List Pr}(hn:l.Nodup)(h:∀p,p∈l->Sm p):l.length<=64:=by
 have:=fw (m:=uD) hn λx hx=>xR (h x hx)
 simpa[uD] using this
section
variable {prog:Program}{w:World}{A:Around}{E:Value->Shared->Prop}{s:Shared}
abbrev jL (prog:Program)(w:World)(h:Heap)(p:Pr)(a:Addr):Prop:=IsTupleKey (intKind prog w) h [p.1,p.2] a
def jL.inj {h:Heap}{p q:Pr}{a:Addr}(x:jL prog w h p a)(y:jL prog w h q a):p=q:=by
 have:=IsTupleKey.inj x y
 simp at this
 exact Prod.ext this.1 this.2
structure B4 (f:Pr->Int)(prog:Program)(w:World)(led:Bool)(h:Heap)(S:Addr)(ps:List (Addr×Pr)):Prop where
 ex:∃o ep t,h.get? S=some o/\o.ExactSet/\o.data=.set (ps.map λq=>(f q.2,Value.ref q.1)).toArray ep t/\Tab t (ps.map λq=>f q.2)/\t.led=led
 at':∀q,q∈ps->jL prog w h q.2 q.1/\Sm q.2
 nd:(ps.map (·.2)).Nodup
def B4.len {f:Pr->Int}{led:Bool}{h:Heap}{S:Addr}{ps:List (Addr×Pr)}(P:B4 f prog w led h S ps):ps.length<=64:=by
 have:=yf P.nd λp hp=>by
  obtain⟨q,hq,rfl⟩:=MZ.mp hp
  exact (P.at' q hq).2
 simpa using this
end
section
variable {prog:Program}{w:World}{A:Around}{E:Value->Shared->Prop}{s:Shared}{R:Result->Shared->Prop}{I:Addr}{fp wr:List Addr}{n:Nat}{P:Nat->Value->Prop}{St:Nat->Heap->Prop}
def fP (prog:Program)(w:World)(h:Heap)(vs:List Value)(ps:List Pr):Prop:=vs.length=ps.length/\∀(i:Nat) (v:Value) (p:Pr),vs[i]? =some v->ps[i]? =some p->∃a,v=.ref a/\jL prog w h p a/\Sm p
structure Src (prog:Program)(w:World)(h:Heap)(l:Addr)(vs:List Value)(T:String)(itO:Obj)(St:Addr->Nat->Heap->Prop):Prop where
 ty:∃o,h.get? l=some o/\o.cls=.type T
 ns:isSubtype (.type T) (.type "set")=pure false
 nf:isSubtype (.type T) (.type "frozenset")=pure false
 nd:(Value.type T == Value.type "dict")=false
 it:∀(A:Around) (s1:Shared) (Q:Value->Shared->Prop) (E:Value->Shared->Prop),(∀b o,h.get? b=some o->s1.heap.get? b=some o)->Q (.ref s1.heap.objs.size) {s1 with heap:=s1.heap.push itO}->wpAny (model prog w) A (pyIter (.ref l)) Q E s1
 st:∀(h1:Heap),(∀b o,h.get? b=some o->h1.get? b=some o)->St h1.objs.size 0 (h1.push itO)
 wk:∀(A:Around) (I:Addr),A.handled=none->l≠I->Walks prog w A I [I,l] [I] vs.length (λi v=>vs[i]? =some v) (St I)
def Src.list {h:Heap}{l:Addr}{vs:List Value}(hl:h.IsList l vs.toArray):Src prog w h l vs "list" {cls:=.type "list_iterator",data:=.fields #[.ref l,.int 0 0]} (λI i h'=>h'.IsListIter I l i/\h'.IsList l vs.toArray):=by
 obtain⟨o,ho,hc,n,hd⟩:=id hl
 refine⟨⟨o,ho,hc⟩,F.sub_list_set,F.sub_list_frozenset,by decide,λA s1 Q E k hQ=>Oc ⟨o,k _ _ ho,hc,n,hd⟩ hQ,λh1 k=>⟨⟨_,MO _ rfl,rfl,rfl⟩,⟨o,MD _ (k _ _ ho),hc,n,hd⟩⟩,λA I hh hne=>?_⟩
 have:=Walks.list (prog:=prog) (w:=w) hh I l hne vs.toArray
 simpa using this
end
end L2.ST
namespace L2.SO
open PySem PySem.W PyProof.Rows
def k6 {α:Type}(lt:Nat->Nat->Bool):KasT α->α
 | .ret a=>a
 | .ask i j k=>k6 lt (k (lt i j))
theorem gn {α β:Type}(lt:Nat->Nat->Bool)(f:α->KasT β):∀t:KasT α,k6 lt (t.bind f)=k6 lt (f (k6 lt t))
 | .ret _=>rfl
 | .ask i j k=>gn lt f (k (lt i j))
def uV {α:Type}(n:Nat)(lt:Nat->Nat->Bool):KasT α->Prop
 | .ret _=>True
 | .ask i j k=>i < n/\j < n/\uV n lt (k (lt i j))
theorem iP {α β:Type}{n:Nat}{lt:Nat->Nat->Bool}{f:α->KasT β}:∀{t:KasT α},uV n lt t->uV n lt (f (k6 lt t))->uV n lt (t.bind f)
 | .ret _,_,h=>h
 | .ask i j k,h,h'=>⟨h.1,h.2.1,iP h.2.2 h'⟩
section
variable {n:Nat}{key:Nat->Int}
abbrev oQ (key:Nat->Int)(i j:Nat):Bool:=decide (key i < key j)
abbrev Kp (key:Nat->Int)(p:Array Nat)(k:Nat):Int:=key (p.getD k 0)
structure Pm (n:Nat)(p:Array Nat):Prop where
 sz:p.size=n
 nd:p.toList.Nodup
 lt:∀x,x∈p->x < n
def Pm.at {p:Array Nat}(P:Pm n p){k:Nat}(hk:k < n):p.getD k 0 < n:=by
 have h:k < p.size:=by rw[P.sz];exact hk
 simp only[Array.getD,h,dif_pos]
 exact P.lt _ (Array.getElem_mem h)
def Pm.ne {p:Array Nat}(P:Pm n p){i k:Nat}(hi:i < n)(hk:k < n)(hne:i≠k):p.getD i 0≠p.getD k 0:=by
 have h1:i < p.toList.length:=by simpa using (by rw[P.sz];exact hi:i < p.size)
 have h2:k < p.toList.length:=by simpa using (by rw[P.sz];exact hk:k < p.size)
 have h1':i < p.size:=by rw[P.sz];exact hi
 have h2':k < p.size:=by rw[P.sz];exact hk
 have a1:p.getD i 0=p.toList[i]:=by simp[Array.getD,h1']
 have a2:p.getD k 0=p.toList[k]:=by simp[Array.getD,h2']
 rw[a1,a2]
 have q:=OA.mp P.nd
 rcases NW i k with c |c
 ·exact q i k h1 h2 c
 ·exact (q k i h2 h1 (by omega)).symm
def Pm.perm {p q:Array Nat}(P:Pm n p)(h:q.Perm p):Pm n q:=by
 have h':=Array.perm_iff_toList_perm.mp h
 exact⟨by rw[h.size_eq];exact P.sz,h'.nodup_iff.mpr P.nd,λx hx=>P.lt x (by simpa using h'.mem_iff.mp (by simpa using hx))⟩
def u7 (n:Nat):Pm n (List.toArray (List.range n)):=⟨by simp,by simpa using nodup_range,λx hx=>by simpa using hx⟩
def Inj (n:Nat)(key:Nat->Int):Prop:=∀i j,i < n->j < n->key i=key j->i=j
def Pm.tri {p:Array Nat}(P:Pm n p)(hi:Inj n key){i k:Nat}(h1:i < n)(h2:k < n)(hne:i≠k):Kp key p i < Kp key p k\/Kp key p k < Kp key p i:=by
 have:Kp key p i≠Kp key p k:=λe=>P.ne h1 h2 hne (hi _ _ (P.at h1) (P.at h2) e)
 omega
def Up (key:Nat->Int)(p:Array Nat)(m:Nat):Prop:=∀i j,i < j->j < m->Kp key p i < Kp key p j
def Dn (key:Nat->Int)(p:Array Nat)(m:Nat):Prop:=∀i j,i < j->j < m->Kp key p j < Kp key p i
def Up.snoc {p:Array Nat}{m:Nat}(U:Up key p m)(h1:1<=m)(h:Kp key p (m - 1) < Kp key p m):Up key p (m + 1):=λi j hij hj=>by
 rcases NW j m with c |c
 ·exact U i j hij c
 ·have:j=m:=by omega
  subst this
  rcases NW i (j - 1) with d |d
  ·exact Int.lt_trans (U i (j - 1) d (by omega)) h
  ·have:i=j - 1:=by omega
   rw[this];exact h
def Dn.snoc {p:Array Nat}{m:Nat}(U:Dn key p m)(h1:1<=m)(h:Kp key p m < Kp key p (m - 1)):Dn key p (m + 1):=λi j hij hj=>by
 rcases NW j m with c |c
 ·exact U i j hij c
 ·have:j=m:=by omega
  subst this
  rcases NW i (j - 1) with d |d
  ·exact Int.lt_trans h (U i (j - 1) d (by omega))
  ·have:i=j - 1:=by omega
   rw[this];exact h
theorem p5 {p:Array Nat}(P:Pm n p)(hi:Inj n key):∀(f m:Nat),1<=m->m + f<=n->Up key p m->
  ∃r,(k6 (oQ key) (kas_asc p f m)=r/\uV n (oQ key) (kas_asc p f m))/\m<=r/\r<=m + f/\Up key p r/\(r < m + f->Kp key p r < Kp key p (r - 1))
 | 0,m,_,_,U=>⟨m,⟨rfl,trivial⟩,MA _,MA _,U,λh=>absurd h (M8 _)⟩
 |f + 1,m,h1,hn,U=>by
  have b1:p.getD m 0 < n:=P.at (by omega)
  have b2:p.getD (m - 1) 0 < n:=P.at (by omega)
  unfold kas_asc k6 uV
  by_cases c:Kp key p m < Kp key p (m - 1)
  ·rw[show oQ key (p.getD m 0) (p.getD (m - 1) 0)=true from MB c]
   simp only[NJ]
   exact⟨m,⟨rfl,b1,b2,trivial⟩,MA _,by omega,U,λ_=>c⟩
  ·rw[show oQ key (p.getD m 0) (p.getD (m - 1) 0)=false from MR c]
   simp only[NA,NS]
   have up:Kp key p (m - 1) < Kp key p m:=(P.tri hi (by omega) (by omega) (by omega)).resolve_right c
   obtain⟨r,⟨e,o⟩,a,b,u,d⟩:=p5 P hi f (m + 1) (by omega) (by omega) (U.snoc h1 up)
   exact⟨r,⟨e,b1,b2,o⟩,by omega,by omega,u,λh=>d (by omega)⟩
theorem sC {p:Array Nat}(P:Pm n p)(hi:Inj n key):∀(f m:Nat),1<=m->m + f<=n->Dn key p m->
  ∃r,(k6 (oQ key) (kas_desc f p m 0)=(p,r,0)/\uV n (oQ key) (kas_desc f p m 0))/\m<=r/\r<=m + f/\Dn key p r
 | 0,m,_,_,U=>⟨m,⟨rfl,trivial⟩,MA _,MA _,U⟩
 |f + 1,m,h1,hn,U=>by
  have b1:p.getD m 0 < n:=P.at (by omega)
  have b2:p.getD (m - 1) 0 < n:=P.at (by omega)
  unfold kas_desc k6 uV
  by_cases c:Kp key p m < Kp key p (m - 1)
  ·rw[show oQ key (p.getD m 0) (p.getD (m - 1) 0)=true from MB c]
   simp only[NJ,M8,gt_iff_lt,NS]
   obtain⟨r,⟨e,o⟩,a,b,u⟩:=sC P hi f (m + 1) (by omega) (by omega) (U.snoc h1 c)
   exact⟨r,⟨e,b1,b2,o⟩,by omega,by omega,u⟩
  ·rw[show oQ key (p.getD m 0) (p.getD (m - 1) 0)=false from MR c]
   simp only[NA,NS]
   unfold k6 uV
   have up:Kp key p (m - 1) < Kp key p m:=(P.tri hi (by omega) (by omega) (by omega)).resolve_right c
   rw[show oQ key (p.getD (m - 1) 0) (p.getD m 0)=true from MB up]
   simp only[NJ]
   exact⟨m,⟨rfl,b1,b2,b2,b1,trivial⟩,MA _,by omega,U⟩
def B9 {p:Array Nat}{j k:Nat}(hj:j<=p.size)(hk:k < j):(kas_rev p 0 j).getD k 0=p.getD (j - 1 - k) 0:=by
 unfold kas_rev
 rw[N7,getElem?_mirror_all hj k,My ⟨Nl _,hk⟩,N7]
 congr 2
 omega
def Gr {p:Array Nat}{m:Nat}(hm:m<=p.size)(D:Dn key p m):Up key (kas_rev p 0 m) m:=λi j hij hj=>by
 unfold Kp
 rw[B9 hm (by omega),B9 hm hj]
 exact D (m - 1 - j) (m - 1 - i) (by omega) (by omega)
def Pm.rev {p:Array Nat}(P:Pm n p)(j:Nat):Pm n (kas_rev p 0 j):=P.perm (mirror_perm ..)
def xw {p:Array Nat}(P:Pm n p)(hi:Inj n key)(h1:1<=n) :
  ∃m q,(k6 (oQ key) (kas_count n p)=(m,q)/\uV n (oQ key) (kas_count n p))/\Pm n q/\1<=m/\m<=n/\Up key q m:=by
 obtain⟨r,⟨e,o⟩,a,b,u,d⟩:=p5 P hi (n - 1) 1 (MA _) (by omega) (λi j hij hj=>by omega)
 have rest:∃m q,(k6 (oQ key) (if (r == n)=true then KasT.ret (r,p) else if r > 1 then .ask (p.getD 0 0) (p.getD (r - 1) 0) λc=>if c=true then .ret (r,p) else kas_descPart r n (kas_rev p 0 r) else kas_descPart r n p)=(m,q)/\
   uV n (oQ key) (if (r == n)=true then KasT.ret (r,p) else if r > 1 then .ask (p.getD 0 0) (p.getD (r - 1) 0) λc=>if c=true then .ret (r,p) else kas_descPart r n (kas_rev p 0 r) else kas_descPart r n p))/\Pm n q/\1<=m/\m<=n/\Up key q m:=by
  by_cases c:(r == n)=true
  ·rw[My c]
   exact⟨r,p,⟨rfl,trivial⟩,P,a,by omega,u⟩
  ·rw[MG c]
   have hrn:r≠n:=by simpa using c
   have dd:=d (by omega)
   by_cases c2:r > 1
   ·rw[My c2]
    unfold k6 uV
    rw[show oQ key (p.getD 0 0) (p.getD (r - 1) 0)=true from MB (u 0 (r - 1) (by omega) (by omega))]
    simp only[NJ]
    exact⟨r,p,⟨rfl,P.at (by omega),P.at (by omega),trivial⟩,P,a,by omega,u⟩
   ·rw[MG c2]
    have hr1:r=1:=by omega
    subst hr1
    unfold kas_descPart
    rw[gn]
    have D2:Dn key p 2:=λi j hij hj=>by
     have e1:i=0:=by omega
     have e2:j=1:=by omega
     rw[e1,e2];exact dd
    obtain⟨x,⟨e2,o2⟩,a2,b2,u2⟩:=sC P hi (n - 2) 2 (by omega) (by omega) D2
    obtain⟨y,⟨e3,o3⟩,a3,b3,u3,_⟩:=p5 (P.rev x) hi (n - x) x (by omega) (by omega) (Gr (by rw[P.sz];omega) u2)
    rw[show n - (1 + 1)=n - 2 from rfl,show (1 + 1:Nat)=2 from rfl]
    have t3:uV n (oQ key) (kas_tail3 x n p):=by
     unfold kas_tail3
     exact iP o3 trivial
    refine⟨y,kas_rev p 0 x,⟨?_,iP o2 ?_⟩,P.rev x,by omega,by omega,u3⟩
    ·rw[e2]
     simp only[M8,gt_iff_lt,NS]
     unfold kas_tail3
     rw[gn,e3]
     rfl
    ·rw[e2]
     simp only[M8,gt_iff_lt,NS]
     exact t3
 obtain⟨m,q,⟨f1,f2⟩,f3⟩:=rest
 refine⟨m,q,⟨?_,?_⟩,f3⟩
 ·unfold kas_count
  rw[gn,e]
  exact f1
 ·unfold kas_count
  refine iP o ?_
  rw[e]
  exact f2
theorem place_spec {p:Array Nat}{k:Nat}(P:Pm n p)(hi:Inj n key)(hk:k < n)(U:Up key p k):∀(f l r:Nat),l<=r->r<=k->r - l<=f->(∀i,i < l->Kp key p i < Kp key p k)->(∀i,r<=i->i < k->Kp key p k < Kp key p i)->
  ∃x,(k6 (oQ key) (kas_place p k f l r)=x/\uV n (oQ key) (kas_place p k f l r))/\x<=k/\(∀i,i < x->Kp key p i < Kp key p k)/\(∀i,x<=i->i < k->Kp key p k < Kp key p i)
 | 0,l,r,h1,h2,h3,a,b=>⟨l,⟨rfl,trivial⟩,by omega,a,λi hi=>b i (by omega)⟩
 |f + 1,l,r,h1,h2,h3,a,b=>by
  unfold kas_place
  by_cases c:l>=r
  ·rw[My c]
   exact⟨l,⟨rfl,trivial⟩,by omega,a,λi hi=>b i (by omega)⟩
  ·rw[MG c]
   have b1:p.getD k 0 < n:=P.at hk
   have b2:p.getD ((l + r) / 2) 0 < n:=P.at (by omega)
   unfold k6 uV
   by_cases d:Kp key p k < Kp key p ((l + r) / 2)
   ·rw[show oQ key (p.getD k 0) (p.getD ((l + r) / 2) 0)=true from MB d]
    simp only[NJ]
    have side:∀i,(l + r) / 2<=i->i < k->Kp key p k < Kp key p i:=λi h1 h2=>by
     rcases NW ((l + r) / 2) i with z |z
     ·exact Int.lt_trans d (U _ _ z h2)
     ·have:i=(l + r) / 2:=by omega
      rw[this];exact d
    obtain⟨x,⟨e1,e2⟩,e3⟩:=place_spec P hi hk U f l ((l + r) / 2) (by omega) (by omega) (by omega) a side
    exact⟨x,⟨e1,b1,b2,e2⟩,e3⟩
   ·rw[show oQ key (p.getD k 0) (p.getD ((l + r) / 2) 0)=false from MR d]
    simp only[NA,NS]
    have d':Kp key p ((l + r) / 2) < Kp key p k:=(P.tri hi (by omega) hk (by omega)).resolve_right d
    have side:∀i,i < (l + r) / 2 + 1->Kp key p i < Kp key p k:=λi h=>by
     rcases NW i ((l + r) / 2) with z |z
     ·exact Int.lt_trans (U _ _ z (by omega)) d'
     ·have:i=(l + r) / 2:=by omega
      rw[this];exact d'
    obtain⟨x,⟨e1,e2⟩,e3⟩:=place_spec P hi hk U f ((l + r) / 2 + 1) r (by omega) h2 (by omega) side b
    exact⟨x,⟨e1,b1,b2,e2⟩,e3⟩
def CI {p:Array Nat}{k l j:Nat}(hk:k < p.size)(hl:l<=k):(bubble p k (k - l)).getD j 0=if j=l then p.getD k 0 else if l < j/\j<=k then p.getD (j - 1) 0 else p.getD j 0:=by
 rw[N7,getElem?_bubble hk (k - l) (by omega) j,show k - (k - l)=l by omega]
 simp only[N7]
 split
 ·rfl
 ·split <;> rfl
theorem uY (hi:Inj n key):∀(f k:Nat) (p:Array Nat),Pm n p->1<=k->k + f=n->Up key p k->∃q,(k6 (oQ key) (kas_bin f p k)=q/\uV n (oQ key) (kas_bin f p k))/\Pm n q/\Up key q n
 | 0,k,p,P,_,e,U=>⟨p,⟨rfl,trivial⟩,P,by rw[<-e];exact U⟩
 |f + 1,k,p,P,h1,e,U=>by
  have hk:k < n:=by omega
  obtain⟨l,⟨el,ol⟩,hl,a,b⟩:=place_spec P hi hk U k 0 k (Nl _) (MA _) (by omega) (λi h=>by omega) (λi h h'=>by omega)
  have side:Up key (bubble p k (k - l)) (k + 1):=λi j hij hj=>by
   have hks:k < p.size:=by rw[P.sz];exact hk
   unfold Kp
   rw[CI hks hl,CI hks hl]
   by_cases i1:i=l
   ·rw[My i1,MG (by omega)]
    by_cases j2:l < j/\j<=k
    ·rw[My j2];exact b _ (by omega) (by omega)
    ·omega
   ·rw[MG i1]
    by_cases i2:l < i/\i<=k
    ·rw[My i2,MG (by omega),My (by omega)]
     exact U _ _ (by omega) (by omega)
    ·rw[MG i2]
     by_cases j1:j=l
     ·rw[My j1];exact a _ (by omega)
     ·rw[MG j1]
      by_cases j2:l < j/\j<=k
      ·rw[My j2]
       rcases NW i (j - 1) with z |z
       ·exact U _ _ z (by omega)
       ·omega
      ·rw[MG j2];exact U _ _ hij (by omega)
  obtain⟨q,⟨q1,q2⟩,q3⟩:=uY hi f (k + 1) (bubble p k (k - l)) (P.perm (bubble_perm ..)) (by omega) (by omega) side
  refine⟨q,⟨?_,?_⟩,q3⟩
  ·unfold kas_bin;rw[gn,el];exact q1
  ·unfold kas_bin;refine iP ol ?_;rw[el];exact q2
def AN (hi:Inj n key)(h2:2<=n):∃q,(k6 (oQ key) (kas_sort n)=q/\uV n (oQ key) (kas_sort n))/\Pm n q/\Up key q n:=by
 obtain⟨m,q,⟨e,o⟩,P,a,b,u⟩:=xw (u7 n) hi (by omega)
 by_cases c:m < n
 ·obtain⟨q',⟨e1,o1⟩,r⟩:=uY hi (n - m) m q P a (by omega) u
  refine⟨q',⟨?_,?_⟩,r⟩
  ·unfold kas_sort;rw[gn,e];dsimp only;rw[My c,Nat.max_eq_left a];exact e1
  ·unfold kas_sort;refine iP o ?_;rw[e];dsimp only;rw[My c,Nat.max_eq_left a];exact o1
 ·refine⟨q,⟨?_,?_⟩,P,λi j hij hj=>u i j hij (by omega)⟩
  ·unfold kas_sort;rw[gn,e];dsimp only;rw[MG c];rfl
  ·unfold kas_sort;refine iP o ?_;rw[e];dsimp only;rw[MG c];trivial
theorem wp_run {α:Type}{n:Nat}{lt:Nat->Nat->Bool}{cmp:Nat->Nat->(Bool->Shared->Prop)->Shared->Prop}{Q:α->Shared->Prop}{s:Shared} :
  ∀(t:KasT α),(∀i j C,i < n->j < n->C (lt i j) s->cmp i j C s)->uV n lt t->Q (k6 lt t) s->t.kasWp cmp Q s
 | .ret a,_,_,h=>h
 | .ask i j k,hc,ho,h=>hc i j _ ho.1 ho.2.1 (wp_run (k (lt i j)) hc ho.2.2 h)
end
end L2.SO
namespace L2.ST
open PySem PySem.SetTable PySem.W PyProof.Rows
def code (p:Pr):Int:=p.1 * 8 + p.2
def yX {p q:Pr}(h1:Sm p)(h2:Sm q):code p < code q↔p.1 < q.1\/(p.1=q.1/\p.2 < q.2):=by
 unfold code Sm at *;omega
def code_inj {p q:Pr}(h1:Sm p)(h2:Sm q)(e:code p=code q):p=q:=by
 unfold code Sm at *
 refine Prod.ext ?_ ?_ <;> omega
section
variable {prog:Program}{w:World}{A:Around}{E:Value->Shared->Prop}{s:Shared}
abbrev rl (ps:List Pr)(i:Nat):Int:=code (ps.getD i (0,0))
def BU {ps:List Pr}(nd:ps.Nodup)(hs:∀p,p∈ps->Sm p):L2.SO.Inj ps.length (rl ps):=λi j hi hj e=>by
 have a1:ps.getD i (0,0)=ps[i]:=by simp[hi]
 have a2:ps.getD j (0,0)=ps[j]:=by simp[hj]
 unfold rl at e
 rw[a1,a2] at e
 have e':=code_inj (hs _ (NO hi)) (hs _ (NO hj)) e
 have q:=OA.mp nd
 rcases Nat.lt_trichotomy i j with c |c |c
 ·exact absurd e' (q i j hi hj c)
 ·exact c
 ·exact absurd e'.symm (q j i hj hi c)
theorem E5 {a b:Addr}{p q:Pr}{Q:Bool->Shared->Prop}(ha:jL prog w s.heap p a)(hb:jL prog w s.heap q b)(hp:Sm p)(hq:Sm q)(h:Q (decide (code p < code q)) s) :
  wpAny (model prog w) A (keyLt' (tuples' true) (.ref a) (.ref b)) Q E s:=by
 obtain⟨oa,ia,na,hoa,hca,hda,hia⟩:=ha
 obtain⟨ob,ib,nb,hob,hcb,hdb,hib⟩:=hb
 obtain⟨l1,rfl⟩:∃l,ia=List.toArray l:=⟨ia.toList,by simp⟩
 obtain⟨l2,rfl⟩:∃l,ib=List.toArray l:=⟨ib.toList,by simp⟩
 simp only[List.toList_toArray] at hia hib
 cases hia with
 | @cons _ v1 _ _ h1 hia=>
  cases hia with
  | @cons _ v2 _ _ h2 hia=>
   cases hia
   cases hib with
   | @cons _ u1 _ _ g1 hib=>
    cases hib with
    | @cons _ u2 _ _ g2 hib=>
     cases hib
     obtain⟨t1,rfl⟩:=Ob h1
     obtain⟨t2,rfl⟩:=Ob h2
     obtain⟨t3,rfl⟩:=Ob g1
     obtain⟨t4,rfl⟩:=Ob g2
     refine kat_lt hoa hda hob hdb ?_
     have hc:=yX hp hq
     refine kat_cons (wpAny_eqBool_int ?_)
     by_cases e1:p.1=q.1
     ·rw[show (p.1 == q.1)=true by simpa using e1]
      refine kat_yes (kat_cons (wpAny_eqBool_int ?_))
      by_cases e2:p.2=q.2
      ·rw[show (p.2 == q.2)=true by simpa using e2]
       refine kat_yes (kat_nil ?_)
       have:decide (code p < code q)=false:=MR (by rw[hc];omega)
       rw[this] at h
       simpa using h
      ·rw[show (p.2 == q.2)=false by simpa using e2]
       refine kat_no ?_
       show wpAny _ _ (oneLt' false _ _) _ _ _
       refine kat_one _ _ (lt_int ?_)
       have:decide (code p < code q)=decide (p.2 < q.2):=by
        by_cases z:p.2 < q.2
        ·rw[MB z];exact MB (hc.mpr (.inr ⟨e1,z⟩))
        ·rw[MR z];exact MR (by rw[hc];omega)
       rw[this] at h;exact h
     ·rw[show (p.1 == q.1)=false by simpa using e1]
      refine kat_no ?_
      show wpAny _ _ (oneLt' true _ _) _ _ _
      refine oneLt_int ?_
      have:decide (code p < code q)=decide (p.1 < q.1):=by
       by_cases z:p.1 < q.1
       ·rw[MB z];exact MB (hc.mpr (.inl z))
       ·rw[MR z];exact MR (by rw[hc];omega)
      rw[this] at h;exact h
theorem yq:∀{vs:List Value} {ps:List Pr},fP prog w s.heap vs ps->∃fs,KatTups s.heap vs fs/\fs.length=vs.length/\∀v∈fs,∃(i:Int) (t:Tok),v=.int i t
 | [],ps,_=>⟨[],KatTups.nil,rfl,λv hv=>by cases hv⟩
 |v :: vs,[],h=>by have:=h.1;simp at this
 |v :: vs,p :: ps,h=>by
  obtain⟨a,rfl,⟨o,items,n,ho,hc,hd,hi⟩,_⟩:=h.2 0 v p rfl rfl
  obtain⟨fs,k,e,f⟩:=yq (vs:=vs) (ps:=ps) ⟨by simpa using h.1,λi v p h1 h2=>h.2 (i + 1) v p (by simpa using h1) (by simpa using h2)⟩
  obtain⟨l1,rfl⟩:∃l,items=List.toArray l:=⟨items.toList,by simp⟩
  simp only[List.toList_toArray] at hi
  cases hi with
  | @cons _ v1 _ _ h1 hi=>
   obtain⟨t1,rfl⟩:=Ob h1
   exact⟨_ :: fs,KatTups.cons ho hc hd rfl k,by simp[e],λv hv=>by
    rcases MH.mp hv with z |z
    ·exact⟨_,_,z⟩
    ·exact f v z⟩
def vg {a:Addr}{vs:List Value}{ps:List Pr}{n:Nat}{P:PySem.Fin->Shared->Prop}(ho:s.heap.get? a=some (seqObj "list" vs.toArray n))(hps:fP prog w s.heap vs ps)(nd:ps.Nodup)(h64:vs.length < 64)
  (h:∀(h':Heap) (c:Nat) (ix:Array Nat),L2.SO.Pm vs.length ix->L2.SO.Up (rl ps) ix vs.length->(∀b o,b≠a->s.heap.get? b=some o->h'.get? b=some o)->
   h'.get? a=some (seqObj "list" (ix.toList.map λi=>vs.getD i Value.none).toArray c)->P (.done (.ret .none)) {s with heap:=h'}) :
  wpAny (model prog w) A (Builtin.«list.sort» ⟨[.ref a],[]⟩) P E s:=by
 have ha:a < s.heap.objs.size:=MJ ho
 obtain⟨e1,ho1⟩:∃e1,(s.heap.update a (Obj.mapSeq λ_=>(#[]:Array Value))).get? a=some (seqObj "list" #[] e1):=⟨_,OB ho λ_=>#[]⟩
 generalize hH1:(s.heap.update a (Obj.mapSeq λ_=>(#[]:Array Value)))=H1 at ho1
 have sb1:Heap.SameBut a s.heap H1:=by rw[<-hH1];exact Heap.SameBut.update ..
 have kp2:∀b o,H1.get? b=some o->((H1.push (seqObj "tuple" vs.toArray 0)).push (seqObj "list" #[] 0)).get? b=some o:=λb o e=>MD _ (MD _ e)
 generalize hH2:((H1.push (seqObj "tuple" vs.toArray 0)).push (seqObj "list" #[] 0))=H2 at kp2
 have kp:∀b o,b≠a->s.heap.get? b=some o->H2.get? b=some o:=λb o hb e=>kp2 b o ((sb1.2 b hb).trans e)
 have ho2:=kp2 _ _ ho1
 have hps2:fP prog w H2 vs ps:=⟨hps.1,λi v p h1 h2=>by
  obtain⟨b,e,⟨o,it,m,hb,hc,hd,r⟩,hs⟩:=hps.2 i v p h1 h2
  refine⟨b,e,⟨o,it,m,kp b o (λz=>?_) hb,hc,hd,r⟩,hs⟩
  subst z
  rw[ho] at hb;cases hb
  exact absurd hc (by simp[seqObj])⟩
 have hz:vs.length<=sizeLine:=by rw[Nc];omega
 rw[list_sort_plain]
 refine Mz (listItems_at ho rfl (Mz (listUpdate_at ho rfl ?_ (by simpa using hz) (Nl _))))
 rw[hH1]
 refine Mz (seqEpoch_at (s:={s with heap:=H1}) ho1 rfl (Mz (wpAny_newTuple ?_ (by simpa using hz))))
 refine Mz (Ow ?_ (Nl _))
 refine NY ?_
 show wpAny (model prog w) A _ P E {s with heap:=(H1.push (seqObj "tuple" vs.toArray 0)).push (seqObj "list" #[] 0)}
 rw[hH2]
 have fin:∀(ix:Array Nat) (st:SortSt),L2.SO.Pm vs.length ix->L2.SO.Up (rl ps) ix vs.length->(arrOf st).map (·.2)=List.toArray (ix.toList.map λi=>vs.getD i Value.none)->failedOf st=none->
   wpAny (model prog w) A (do
    let sorted:=(arrOf st).map (·.2)
    let touched:=(<-seqEpoch a) != e1
    Builtin.List.listUpdate (.ref a) λ_=>sorted
    if let some e:=failedOf st then rule "list.sort.comparison-raised";throw e
    if touched then rule "list.sort.modified";raiseError "ValueError" "list modified during sort"
    ret .none) P E {s with heap:=H2}:=λix st P1 U1 hout hf=>by
  dsimp only
  rw[hout]
  have hsz:(List.toArray (ix.toList.map λi=>vs.getD i Value.none)).size=vs.length:=by simp[P1.sz]
  refine Mz (seqEpoch_at (s:={s with heap:=H2}) ho2 rfl ?_)
  refine Mz (listUpdate_at (s:={s with heap:=H2}) ho2 rfl ?_ (Nl _) (Nx (Nat.le_of_eq hsz) (Nat.le_succ_of_le hz)))
  rw[hf]
  simp only[bne_self_eq_false,NA,NS]
  obtain⟨c2,hc2⟩:∃c2,(H2.update a (Obj.mapSeq λ_=>List.toArray (ix.toList.map λi=>vs.getD i Value.none))).get? a=some (seqObj "list" (List.toArray (ix.toList.map λi=>vs.getD i Value.none)) c2):=⟨_,OB ho2 λ_=>List.toArray (ix.toList.map λi=>vs.getD i Value.none)⟩
  exact M1 (h _ c2 ix P1 U1 (λb o hb e=>((Heap.SameBut.update H2 a _).2 b hb).trans (kp b o hb e)) hc2)
 by_cases h2:vs.length < 2
 ·have h2':vs.toArray.size < 2:=by simpa using h2
  dsimp only
  rw[My h2',My h2']
  refine Mz (M1 ?_)
  rw[StateT.run_pure]
  refine Mz (M1 ?_)
  refine fin (List.toArray (List.range vs.length)) (SortSt.mk' general' (vs.toArray.zip vs.toArray) #[] 7 none) (L2.SO.u7 _) (λi j hij hj=>by omega) ?_ rfl
  have:∀{l:List Value},l.length < 2->((l.toArray.zip l.toArray).map (·.2))=List.toArray ((List.range l.length).map λi=>l.getD i Value.none):=λ{l} hl=>by
   match l,hl with
   | [],_=>simp
   | [x],_=>simp
  exact (this h2).trans (by simp)
 ·have h2':¬vs.toArray.size < 2:=by simpa using h2
  dsimp only
  rw[MG h2',MG h2']
  obtain⟨fs,kt,fl,ff⟩:=yq (s:={s with heap:=H2}) hps2
  refine Mz (kat_kind (s:={s with heap:=H2}) (T:=.type "int") kt (by omega) (λv hv=>?_) (by decide) ?_)
  ·obtain⟨i,t,rfl⟩:=ff v hv
   exact .now
  ·rw[show ((Value.type "int" != Value.type "tuple"):Bool)=true by decide]
   have hinj:L2.SO.Inj vs.length (rl ps):=by
    rw[hps.1]
    refine BU nd λp hp=>?_
    obtain⟨i,hi,e⟩:=Og.mp hp
    have hi':i < vs.length:=by rw[hps.1];exact hi
    obtain⟨_,_,_,hs⟩:=hps.2 i vs[i] p (Mw hi') (by rw[Mw hi,e])
    exact hs
   obtain⟨ix,⟨er,ok⟩,P1,U1⟩:=L2.SO.AN hinj (by omega)
   refine Mz (NF (kat_run (s:={s with heap:=H2}) (κ:=tuples' true) (ks:=vs) (Q:=λst s'=>s'={s with heap:=H2}/\arrOf st=ix.map (kas_item (vs.toArray.zip vs.toArray))/\failedOf st=none)
    (G:=λp s'=>p=ix/\s'={s with heap:=H2}) rfl (by omega) h64 (λp st s' a1 a2 a3 a4=>?_) (L2.SO.wp_run (n:=vs.length) (lt:=L2.SO.oQ (rl ps)) _ (λi j C hi hj hC=>?_) ok ⟨er,rfl⟩)) ?_ λ_ _ x=>x)
   ·obtain⟨rfl,rfl⟩:=a4
    exact⟨rfl,a2,a3⟩
   ·unfold kas_ask
    have hi':i < ps.length:=by rw[<-hps.1];exact hi
    have hj':j < ps.length:=by rw[<-hps.1];exact hj
    obtain⟨b1,eb1,hb1,s1⟩:=hps2.2 i vs[i] ps[i] (Mw hi) (Mw hi')
    obtain⟨b2,eb2,hb2,s2⟩:=hps2.2 j vs[j] ps[j] (Mw hj) (Mw hj')
    have e1:vs.getD i Value.none=.ref b1:=by rw[<-eb1];simp[hi]
    have e2:vs.getD j Value.none=.ref b2:=by rw[<-eb2];simp[hj]
    rw[e1,e2]
    refine E5 (s:={s with heap:=H2}) hb1 hb2 s1 s2 ?_
    have:L2.SO.oQ (rl ps) i j=decide (code ps[i] < code ps[j]):=by
     unfold L2.SO.oQ rl;simp[hi',hj']
    rw[<-this];exact hC
   ·rintro⟨⟨⟩,st⟩ s' ⟨rfl,har,hf⟩
    exact fin ix st P1 U1 (kat_snds rfl har) hf
end
section
variable {prog:Program}{w:World}{A:Around}{E:Value->Shared->Prop}{s:Shared}
def told (w:World)(S:Addr)(ep:Nat)(es:Array (Int×Value)):Array (Int×Value):=if w.params.followText "set-order" then pickOrder (w.params.setOrder S ep) es else es
end
end L2.ST
namespace OM
abbrev Pr:=Int×Int
def DG (p q:Pr):Prop:=p.1 < q.1\/(p.1=q.1/\p.2 < q.2)
def ky (p:Pr):¬DG p p:=by unfold DG;omega
def Aq {p q r:Pr}(a:DG p q)(b:DG q r):DG p r:=by unfold DG at *;omega
abbrev wL (l:List Pr):Prop:=l.Pairwise DG
theorem jr:∀{l m:List Pr},wL l->wL m->(∀x,x∈l↔x∈m)->l=m
 | [],[],_,_,_=>rfl
 | [],b :: m,_,_,h=>absurd ((h b).mpr (MM ..)) (by simp)
 |a :: l,[],_,_,h=>absurd ((h a).mp (MM ..)) (by simp)
 |a :: l,b :: m,hl,hm,h=>by
  have hl':=List.pairwise_cons.mp hl
  have hm':=List.pairwise_cons.mp hm
  have e:a=b:=by
   rcases MH.mp ((h a).mp (MM ..)) with e |e
   ·exact e
   ·rcases MH.mp ((h b).mpr (MM ..)) with e' |e'
    ·exact e'.symm
    ·exact absurd (Aq (hm'.1 a e) (hl'.1 b e')) (ky _)
  subst e
  congr 1
  refine jr hl'.2 hm'.2 λx=>⟨λhx=>?_,λhx=>?_⟩
  ·rcases MH.mp ((h x).mp (MN _ hx)) with e |e
   ·subst e;exact absurd (hl'.1 x hx) (ky _)
   ·exact e
  ·rcases MH.mp ((h x).mpr (MN _ hx)) with e |e
   ·subst e;exact absurd (hm'.1 x hx) (ky _)
   ·exact e
def oy {l:List Pr}(h:wL l):l.Nodup:=h.imp λ{a b} hab e=>by subst e;exact ky _ hab
def gj {l:List Pr}(p:Pr->Bool)(h:wL l):wL (l.filter p):=h.sublist List.filter_sublist
def cB (n:Nat):List Pr:=(List.range (n * n)).map λk=>(((k / n:Nat):Int),((k % n:Nat):Int))
def bC {n:Nat}{p:Pr}:p∈cB n↔(0<=p.1/\p.1 < n)/\(0<=p.2/\p.2 < n):=by
 unfold cB
 rw[MZ]
 constructor
 ·rintro⟨k,hk,rfl⟩
  have hk:=Nb.mp hk
  have hn:0 < n:=by
   rcases Nat.eq_zero_or_pos n with e |e
   ·subst e;omega
   ·exact e
  have h1:k / n < n:=Nat.div_lt_of_lt_mul hk
  have h2:k % n < n:=Nat.mod_lt _ hn
  generalize k / n=q at h1
  generalize k % n=r at h2
  exact⟨⟨Int.natCast_nonneg _,by dsimp only;omega⟩,⟨Int.natCast_nonneg _,by dsimp only;omega⟩⟩
 ·rintro⟨⟨a0,a1⟩,⟨b0,b1⟩⟩
  have hn:0 < n:=by omega
  refine⟨p.1.toNat * n + p.2.toNat,Nb.mpr ?_,?_⟩
  ·have h1:p.1.toNat + 1<=n:=by omega
   have h2:p.2.toNat < n:=by omega
   have:=Nat.mul_le_mul_right n h1
   rw[Nat.add_mul] at this
   omega
  ·have h2:p.2.toNat < n:=by omega
   have e1:(p.1.toNat * n + p.2.toNat) / n=p.1.toNat:=by
    rw[Nat.mul_comm,Nat.mul_add_div hn,Nat.div_eq_of_lt h2];rfl
   have e2:(p.1.toNat * n + p.2.toNat) % n=p.2.toNat:=by
    rw[Nat.mul_comm,Nat.mul_add_mod,Nat.mod_eq_of_lt h2]
   rw[e1,e2]
   refine Prod.ext ?_ ?_ <;> dsimp only <;> omega
def ja (n:Nat):wL (cB n):=by
 unfold cB
 refine Od.mpr (OJ ?_ List.pairwise_lt_range)
 intro a b ha hb hab
 have ha:=Nb.mp ha
 have hb:=Nb.mp hb
 have hn:0 < n:=by
  rcases Nat.eq_zero_or_pos n with e |e
  ·subst e;omega
  ·exact e
 have h1:a / n<=b / n:=Nat.div_le_div_right (N5 hab)
 have e1:=Nat.div_add_mod a n
 have e2:=Nat.div_add_mod b n
 unfold DG
 dsimp only
 rcases NW (a / n) (b / n) with c |c
 ·left;omega
 ·right
  have e:a / n=b / n:=by omega
  rw[e] at e1
  omega
open Classical in
noncomputable def iw (n:Nat)(R:Int->Int->Prop):List Pr:=(cB n).filter λp=>decide (R p.1 p.2)
def dX {n:Nat}{R:Int->Int->Prop}{p:Pr}:p∈iw n R↔((0<=p.1/\p.1 < n)/\(0<=p.2/\p.2 < n))/\R p.1 p.2:=by
 unfold iw
 rw[ME,bC]
 simp
def iQ (n:Nat)(R:Int->Int->Prop):wL (iw n R):=gj _ (ja n)
def xW {n:Nat}{R S:Int->Int->Prop}(h:∀a b:Int,0<=a->a < n->0<=b->b < n->(R a b↔S a b)):iw n R=iw n S:=by
 refine jr (iQ n R) (iQ n S) λx=>?_
 rw[dX,dX]
 constructor
 ·rintro⟨⟨⟨a,b⟩,c,d⟩,r⟩;exact⟨⟨⟨a,b⟩,c,d⟩,(h _ _ a b c d).mp r⟩
 ·rintro⟨⟨⟨a,b⟩,c,d⟩,r⟩;exact⟨⟨⟨a,b⟩,c,d⟩,(h _ _ a b c d).mpr r⟩
def Wn (n:Nat)(l:List Pr):Prop:=∀p,p∈l->(0<=p.1/\p.1 < n)/\(0<=p.2/\p.2 < n)
abbrev Mem (l:List Pr)(a b:Int):Prop:=(a,b)∈l
def zG {n:Nat}{l:List Pr}(w:Wn n l)(r:wL l):iw n (Mem l)=l:=by
 refine jr (iQ n _) r λx=>?_
 rw[dX]
 exact⟨λh=>h.2,λh=>⟨w x h,h⟩⟩
def E7 (n:Nat)(R:Int->Int->Prop):Wn n (iw n R):=λ_ h=>(dX.mp h).1
def C7 (n:Nat)(R:Int->Int->Prop):(iw n R).length<=n * n:=by
 unfold iw
 refine Nx (Nk ..) ?_
 unfold cB;simp
inductive Tr (R:Int->Int->Prop):Int->Int->Prop
 |one {a b}:R a b->Tr R a b
 |more {a b c}:R a b->Tr R b c->Tr R a c
theorem Tr.trans {R:Int->Int->Prop}{a b c:Int}(h:Tr R a b)(k:Tr R b c):Tr R a c:=by
 induction h with
 |one r=>exact .more r k
 |more r _ ih=>exact .more r (ih k)
theorem Tr.least {R S:Int->Int->Prop}(f:∀a b,R a b->S a b)(t:∀a b c,S a b->S b c->S a c){a b:Int}(h:Tr R a b):S a b:=by
 induction h with
 |one r=>exact f _ _ r
 |more r _ ih=>exact t _ _ _ (f _ _ r) ih
structure Ord (n:Nat)(l:List Pr):Prop where
 lo:1<=n
 hi:n<=8
 wn:Wn n l
 ris:wL l
 irr:∀a,(a,a)∉l
 tr:∀a b c,(a,b)∈l->(b,c)∈l->(a,c)∈l
def Ord.tr_mem {n:Nat}{l:List Pr}(O:Ord n l){a b:Int}:Tr (Mem l) a b↔(a,b)∈l:=
 ⟨λh=>h.least (λ_ _ r=>r) λa b c=>O.tr a b c,λh=>.one h⟩
def Ord.closed {n:Nat}{l:List Pr}(O:Ord n l):iw n (Tr (Mem l))=l:=by
 rw[xW (S:=Mem l) λa b _ _ _ _=>O.tr_mem,zG O.wn O.ris]
theorem C6 {l m:List Pr}(hl:l.Nodup)(h:∀x,x∈l->x∈m):l.length<=m.length:=by
 induction l generalizing m with
 |nil=>exact Nl _
 |cons a l ih=>
  have ha:=h a (MM ..)
  have hl':=Nn.mp hl
  have:=ih (m:=m.erase a) hl'.2 λx hx=>by
   refine (List.mem_erase_of_ne ?_).mpr (h x (MN _ hx))
   rintro rfl;exact hl'.1 hx
  rw[OI ha] at this
  have:0 < m.length:=List.length_pos_of_mem ha
  simp only[Nm];omega
def sub_eq {l m:List Pr}(hl:wL l)(hm:wL m)(h:∀x,x∈l->x∈m)(e:l.length=m.length):l=m:=by
 refine jr hl hm λx=>⟨h x,λhx=>Classical.byContradiction λhn=>?_⟩
 have:=C6 (l:=x :: l) (m:=m) (Nn.mpr ⟨hn,oy hl⟩) λy hy=>by
  rcases MH.mp hy with e |e
  ·subst e;exact hx
  ·exact h y e
 simp only[Nm] at this
 omega
def more (l:List Pr):List Pr:=l.flatMap λp=>(l.filter λq=>decide (q.1=p.2)).map λq=>(p.1,q.2)
abbrev Tb:=Nat->Nat->Bool
def Tb.set (M:Tb)(a b:Nat):Tb:=λx y=>if x=a/\y=b then true else M x y
def Dp (M:Tb)(m:Nat):Prop:=∀k a b,k < m->M a k=true->M k b=true->M a b=true
def Phase (M0 M:Tb)(m:Nat)(D:Nat->Nat->Prop):Prop:=∀a b,M a b=true↔M0 a b=true\/(D a b/\M0 a m=true/\M0 m b=true)
def Phase.start (M:Tb)(m:Nat):Phase M M m λ_ _=>False:=λa b=>by simp
def Phase.row {M0 M:Tb}{m:Nat}{D:Nat->Nat->Prop}(P:Phase M0 M m D)(a:Nat):M a m=true↔M0 a m=true:=by
 rw[P]
 exact⟨λh=>h.elim id λh=>h.2.1,.inl⟩
def Phase.col {M0 M:Tb}{m:Nat}{D:Nat->Nat->Prop}(P:Phase M0 M m D)(b:Nat):M m b=true↔M0 m b=true:=by
 rw[P]
 exact⟨λh=>h.elim id λh=>h.2.2,.inl⟩
def Phase.step {M0 M:Tb}{m:Nat}{D:Nat->Nat->Prop}(P:Phase M0 M m D)(x y:Nat) :
  Phase M0 (if M x m=true/\M m y=true then M.set x y else M) m (λa b=>D a b\/(a=x/\b=y)):=λa b=>by
 have r:=P.row x
 have c:=P.col y
 by_cases h:M x m=true/\M m y=true
 ·rw[My h]
  unfold Tb.set
  by_cases e:a=x/\b=y
  ·rw[My e]
   obtain⟨rfl,rfl⟩:=e
   simp only[true_iff]
   exact .inr ⟨.inr (by simp),r.mp h.1,c.mp h.2⟩
  ·rw[MG e,P]
   constructor
   ·rintro (q | ⟨d,q⟩)
    ·exact .inl q
    ·exact .inr ⟨.inl d,q⟩
   ·rintro (q | ⟨d |d,q⟩)
    ·exact .inl q
    ·exact .inr ⟨d,q⟩
    ·exact absurd d e
 ·rw[MG h,P]
  constructor
  ·rintro (q | ⟨d,q⟩)
   ·exact .inl q
   ·exact .inr ⟨.inl d,q⟩
  ·rintro (q | ⟨d | ⟨rfl,rfl⟩,q1,q2⟩)
   ·exact .inl q
   ·exact .inr ⟨d,q1,q2⟩
   ·exact absurd ⟨r.mpr q1,c.mpr q2⟩ h
def Phase.done {M0 M:Tb}{m n:Nat}{D:Nat->Nat->Prop}(P:Phase M0 M m D)(hD:∀a b,a < n->b < n->D a b)(hM:∀a b,M0 a b=true->a < n/\b < n)(T:Dp M0 m) :
  Dp M (m + 1)/\∀a b,M a b=true->a < n/\b < n:=by
 have hM':∀a b,M a b=true->a < n/\b < n:=λa b h=>by
  rcases (P a b).mp h with q | ⟨_,q1,q2⟩
  ·exact hM a b q
  ·exact⟨(hM _ _ q1).1,(hM _ _ q2).2⟩
 have put:∀a b,M0 a m=true->M0 m b=true->M a b=true:=λa b h1 h2=>(P a b).mpr (.inr ⟨hD a b (hM _ _ h1).1 (hM _ _ h2).2,h1,h2⟩)
 refine⟨λk a b hk h1 h2=>?_,hM'⟩
 rcases NW k m with c |c
 ·rcases (P a k).mp h1 with q1 | ⟨_,q1,q1'⟩
  ·rcases (P k b).mp h2 with q2 | ⟨_,q2,q2'⟩
   ·exact (P a b).mpr (.inl (T k a b c q1 q2))
   ·exact put a b (T k a m c q1 q2) q2'
  ·rcases (P k b).mp h2 with q2 | ⟨_,q2,q2'⟩
   ·exact put a b q1 (T k m b c q1' q2)
   ·exact put a b q1 q2'
 ·have e:k=m:=by omega
  subst e
  exact put a b ((P.row a).mp h1) ((P.col b).mp h2)
structure Tab (n:Nat)(ps:List Pr)(M:Tb):Prop where
 inn:∀a b,M a b=true->a < n/\b < n
 sub:∀a b:Nat,((a:Int),(b:Int))∈ps->M a b=true
 sup:∀a b:Nat,M a b=true->Tr (Mem ps) a b
def Tab.phase {n:Nat}{ps:List Pr}{M0 M:Tb}{m:Nat}{D:Nat->Nat->Prop}(T:Tab n ps M0)(P:Phase M0 M m D):Tab n ps M:=
 ⟨λa b h=>by
  rcases (P a b).mp h with q | ⟨_,q1,q2⟩
  ·exact T.inn a b q
  ·exact⟨(T.inn _ _ q1).1,(T.inn _ _ q2).2⟩,
  λa b h=>(P a b).mpr (.inl (T.sub a b h)),
  λa b h=>by
  rcases (P a b).mp h with q | ⟨_,q1,q2⟩
  ·exact T.sup a b q
  ·exact (T.sup _ _ q1).trans (T.sup _ _ q2)⟩
def Tab.all {n:Nat}{ps:List Pr}{M:Tb}(w:Wn n ps)(T:Tab n ps M)(H:Dp M n)(a b:Nat):M a b=true↔Tr (Mem ps) a b:=by
 refine⟨T.sup a b,λh=>?_⟩
 have key:∀{x y:Int},Tr (Mem ps) x y->M x.toNat y.toNat=true:=λ{x y} h=>by
  induction h with
  | @one x y r=>
   have:=w _ r
   refine T.sub _ _ ?_
   have e1:((x.toNat:Nat):Int)=x:=by simp only at this;omega
   have e2:((y.toNat:Nat):Int)=y:=by simp only at this;omega
   rw[e1,e2];exact r
  | @more x y z r _ ih=>
   have:=w _ r
   have e1:((x.toNat:Nat):Int)=x:=by simp only at this;omega
   have e2:((y.toNat:Nat):Int)=y:=by simp only at this;omega
   have q:M x.toNat y.toNat=true:=T.sub _ _ (by rw[e1,e2];exact r)
   exact H y.toNat _ _ (T.inn _ _ q).2 q ih
 have:=key h
 simpa using this
end OM
namespace L2.ST
open PySem PySem.SetTable PySem.W PyProof.Rows
section
variable {prog:Program}{w:World}{A:Around}{E:Value->Shared->Prop}{s:Shared}
def Gm {ps:List Pr}(hs:∀p,p∈ps->Sm p){ix:Array Nat}(P:L2.SO.Pm ps.length ix)(U:L2.SO.Up (rl ps) ix ps.length):OM.wL (ix.toList.map λi=>ps.getD i (0,0)):=by
 refine Od.mpr (OA.mpr λi j hi hj hij=>?_)
 have hi':i < ix.size:=by simpa using hi
 have hj':j < ix.size:=by simpa using hj
 have q:=U i j hij (by rw[<-P.sz];exact hj')
 unfold L2.SO.Kp rl at q
 have ei:ix.getD i 0=ix.toList[i]:=by simp[Array.getD,hi']
 have ej:ix.getD j 0=ix.toList[j]:=by simp[Array.getD,hj']
 rw[ei,ej] at q
 have ai:ix.toList[i] < ps.length:=P.lt _ (by simp)
 have aj:ix.toList[j] < ps.length:=P.lt _ (by simp)
 have bi:Sm (ps.getD ix.toList[i] (0,0)):=by rw[MQ,Mw ai];exact hs _ (NO ai)
 have bj:Sm (ps.getD ix.toList[j] (0,0)):=by rw[MQ,Mw aj];exact hs _ (NO aj)
 exact (yX bi bj).mp q
def Hy {n:Nat}{ix:Array Nat}(P:L2.SO.Pm n ix){k:Nat}(hk:k < n):k∈ix.toList:=by
 refine Classical.byContradiction λhn=>?_
 have:=fw (l:=k :: ix.toList) (m:=List.range n) (Nn.mpr ⟨hn,P.nd⟩) λx hx=>by
  rcases MH.mp hx with e |e
  ·rw[e];exact Nb.mpr hk
  ·exact Nb.mpr (P.lt x (by simpa using e))
 simp[P.sz] at this
 omega
theorem JN {h:Heap}{vs:List Value}{ps:List Pr}(hps:fP prog w h vs ps){ix:Array Nat}(P:L2.SO.Pm vs.length ix) :
  fP prog w h (ix.toList.map λi=>vs.getD i Value.none) (ix.toList.map λi=>ps.getD i (0,0)):=by
 refine⟨by simp,λi v p h1 h2=>?_⟩
 rw[ML] at h1 h2
 cases e:ix.toList[i]? with
 |none=>rw[e] at h1;cases h1
 |some k=>
  rw[e] at h1 h2
  have hk:k < vs.length:=P.lt k (by simpa using MS e)
  have hk':k < ps.length:=by rw[<-hps.1];exact hk
  simp[hk,hk'] at h1 h2
  exact hps.2 k v p (by rw[Mw hk,h1]) (by rw[Mw hk',h2])
def Ad {v:Value}{vs:List Value}{ps:List Pr}{Q:Value->Shared->Prop}(hps:fP prog w s.heap vs ps)(nd:ps.Nodup)(h64:vs.length < 64)
  (hcol:∀(Q':List Value->Shared->Prop),(∀h' tk,(∀b o,s.heap.get? b=some o->h'.get? b=some o)->Q' vs {s with heap:=h',toks:=tk})->wpAny (model prog w) A.in1 (collect v) Q' (λe s'=>E e s') s)
  (h:∀(h1 h':Heap) (tk:Nat) (D:Addr) (out:List Value) (qs:List Pr) (c:Nat),(∀b o,s.heap.get? b=some o->h1.get? b=some o)->D=h1.objs.size->(∀b o,h1.get? b=some o->h'.get? b=some o)->h'.get? D=some (seqObj "list" out.toArray c)->fP prog w h' out qs->(∀u,u∈out->u∈vs)->OM.wL qs->(∀p,p∈qs↔p∈ps)->
   Q (.ref D) {s with heap:=h',toks:=tk}):wpAny (model prog w) A (call (.builtin "sorted") [v]) Q E s:=by
 have hsm:∀p,p∈ps->Sm p:=λp hp=>by
  obtain⟨i,hi,e⟩:=Og.mp hp
  have hi':i < vs.length:=by rw[hps.1];exact hi
  obtain⟨_,_,_,hs⟩:=hps.2 i vs[i] p (Mw hi') (by rw[Mw hi,e])
  exact hs
 (refine Calls.call_function_entry kind_sorted plain_sorted entry_sorted (args_sorted1 _) ?_)
 unfold Builtin.«sorted»
 refine Mz (m:=checkCount "sorted" 1 1 ([v]:List Value).length) (M1 ?_)
 refine Mz (hcol _ λh1 tk1 k1=>?_)
 have hz:vs.length<=sizeLine:=by rw[Nc];omega
 refine Mz (Ow ?_ hz)
 show wpAny _ _ _ _ _ {s with heap:=h1.push (seqObj "list" vs.toArray 0),toks:=tk1}
 have hoL:(h1.push (seqObj "list" vs.toArray 0)).get? h1.objs.size=some (seqObj "list" vs.toArray 0):=MO _ rfl
 have kp:∀b o,s.heap.get? b=some o->(h1.push (seqObj "list" vs.toArray 0)).get? b=some o:=λb o e=>MD _ (k1 b o e)
 have hp1:fP prog w (h1.push (seqObj "list" vs.toArray 0)) vs ps:=⟨hps.1,λi v p a b=>by
  obtain⟨c,e,⟨o,it,n,ho,r⟩,hs⟩:=hps.2 i v p a b
  exact⟨c,e,⟨o,it,n,kp _ _ ho,r⟩,hs⟩⟩
 have hne:∀b o,s.heap.get? b=some o->b≠h1.objs.size:=λb o e=>Ni (MJ (k1 b o e))
 refine Mz (NY (wpAny_call_entry slot_list_sort ⟨_,hoL,rfl⟩ entry_list_sort ?_ (args_list_sort _)))
 refine vg (s:={s with heap:=h1.push (seqObj "list" vs.toArray 0),toks:=tk1}) hoL hp1 nd h64 λh' c ix P U hk ho=>?_
 refine⟨_,rfl,M1 ⟨_,rfl,?_⟩⟩
 have kk:∀b o,s.heap.get? b=some o->h'.get? b=some o:=λb o e=>hk b o (hne b o e) (kp b o e)
 have P':L2.SO.Pm ps.length ix:=by rw[<-hps.1];exact P
 have k2:∀b o,h1.get? b=some o->h'.get? b=some o:=λb o e=>hk b o (Ni (MJ e)) (MD _ e)
 refine h h1 h' tk1 h1.objs.size _ (ix.toList.map λi=>ps.getD i (0,0)) c k1 rfl k2 ho (JN ⟨hps.1,λi v p a b=>?_⟩ P) (λu hu=>?_) (Gm hsm P' (by rw[<-hps.1];exact U)) λp=>⟨λhp=>?_,λhp=>?_⟩
 ·obtain⟨c,e,⟨o,it,n,ho,r⟩,hs⟩:=hps.2 i v p a b
  exact⟨c,e,⟨o,it,n,kk _ _ ho,r⟩,hs⟩
 ·obtain⟨i,hi,rfl⟩:=MZ.mp hu
  have:i < vs.length:=P.lt i (by simpa using hi)
  rw[MQ,Mw this]
  exact NO this
 ·obtain⟨i,hi,rfl⟩:=MZ.mp hp
  have:i < ps.length:=P'.lt i (by simpa using hi)
  rw[MQ,Mw this]
  exact NO this
 ·obtain⟨i,hi,e⟩:=Og.mp hp
  refine MZ.mpr ⟨i,Hy P' hi,?_⟩
  rw[MQ,Mw hi,e];rfl
end
end L2.ST
namespace L2
open PySem PySem.Spec PyProof.Rows
abbrev Pr:=Int×Int
abbrev Sm:=L2.ST.Sm
section
variable {X:Cx}{pins:List (Addr×Obj)}{σ:St}{H H':Hp}{s:Shared}
def i5 (H H':Hp):Prop:=(∀b xs,H b=some (.tup xs)->H' b=some (.tup xs))/\∀b o u,H b=some (.aS o u)->H' b=some (.aS o u)
def i5.refl (H:Hp):i5 H H:=⟨λ_ _ h=>h,λ_ _ _ h=>h⟩
def i5.trans {H H1 H2:Hp}(a:i5 H H1)(b:i5 H1 H2):i5 H H2:=⟨λc xs h=>b.1 c xs (a.1 c xs h),λc o u h=>b.2 c o u (a.2 c o u h)⟩
def ah.grow {H H':Hp}(e:ah H H'):i5 H H':=⟨λb xs h=>e b _ h,λb o u h=>e b _ h⟩
def i5.new {H:Hp}{l:Addr}{o:HO}(h:H l=none):i5 H (upd H l o):=⟨λb xs e=>by rw[ay (aJ e h)];exact e,λb o' u e=>by rw[ay (aJ e h)];exact e⟩
def ah.new {H:Hp}{l:Addr}{o:HO}(h:H l=none):ah H (upd H l o):=λb u e=>Kt.of (by rw[ay (aJ e h)];exact e)
def gM.grow {K:Frag}{a:Addr}{xs:List V}(h:gM K H a xs)(g:i5 H H'):gM K H' a xs:=by
 rcases h with (h | ⟨o,h⟩) |h
 ·exact .inl (.inl (g.1 _ _ h))
 ·exact .inl (.inr ⟨o,g.2 _ _ _ h⟩)
 ·exact .inr h
def i5.list {a:Addr}{ys:List V}{o:HO}(h:H a=some (.lst ys)):i5 H (upd H a o):=
 ⟨λb xs e=>by rw[ay (Fl e h (by intro z;cases z))];exact e,λb o' u e=>by rw[ay (Fl e h (by intro z;cases z))];exact e⟩
def ba (K:Frag)(H:Hp):List V->List Pr->Prop:=Paired λv p=>∃a,v=.ref a/\gM K H a [.int p.1,.int p.2]
def ba.grow {K:Frag}{vs:List V}{ps:List Pr}(h:ba K H vs ps)(g:i5 H H'):ba K H' vs ps:=Paired.mapP h λv p ⟨a,e,q⟩=>⟨a,e,q.grow g⟩
theorem Paired.getP {α β:Type}{F:α->β->Prop}:∀{l:List α} {m:List β} {i:Nat} {x:α},Paired F l m->l[i]? =some x->∃y,m[i]? =some y/\F x y
 |_,_,_,_,.nil,e=>by simp at e
 |_,_,0,_,.cons r _,e=>by simp at e;subst e;exact⟨_,rfl,r⟩
 |_,_,i + 1,x,.cons _ t,e=>by
  obtain⟨u,h1,h2⟩:=Paired.getP (i:=i) (x:=x) t (by simpa using e)
  exact⟨u,by simpa using h1,h2⟩
theorem Paired.getQ {α β:Type}{F:α->β->Prop}:∀{l:List α} {m:List β} {i:Nat} {y:β},Paired F l m->m[i]? =some y->∃x,l[i]? =some x/\F x y
 |_,_,_,_,.nil,e=>by simp at e
 |_,_,0,_,.cons r _,e=>by simp at e;subst e;exact⟨_,rfl,r⟩
 |_,_,i + 1,x,.cons _ t,e=>by
  obtain⟨u,h1,h2⟩:=Paired.getQ (i:=i) (y:=x) t (by simpa using e)
  exact⟨u,by simpa using h1,h2⟩
theorem yZ (I:Inv X pins σ H s){a:Addr}{p:Pr}(h:gM X.K H a [.int p.1,.int p.2]):L2.ST.jL X.prog X.w s.heap p a:=by
 obtain⟨its,r,⟨o,ho,hc,n,hd⟩,_⟩:=I.tuple h
 cases r with
 |cons r1 r=>
  cases r with
  |cons r2 r=>
   cases r
   obtain⟨t1,rfl⟩:=r1
   obtain⟨t2,rfl⟩:=r2
   exact⟨o,_,n,ho,hc,hd,.cons (intKind_is ..) (.cons (intKind_is ..) .nil)⟩
def pairs_at (I:Inv X pins σ H s){vs:List V}{us:List Value}{ps:List Pr}(hv:Vals vs us)(h:ba X.K H vs ps)(hs:∀p,p∈ps->Sm p):L2.ST.fP X.prog X.w s.heap us ps:=by
 refine⟨by rw[<-hv.length];exact Paired.length h,λi u p e1 e2=>?_⟩
 obtain⟨v,ev,a,rfl,q⟩:=Paired.getQ h e2
 obtain⟨u',eu,ru⟩:=hv.get ev
 rw[e1] at eu;cases eu
 cases ru
 exact⟨a,rfl,yZ I q,hs p (MS e2)⟩
theorem qC (I:Inv X pins σ H s){vs:List V}{us:List Value}{ps:List Pr}(hv:Vals vs us)(h:ba X.K H vs ps){h':Heap}(k:∀b o,s.heap.get? b=some o->h'.get? b=some o):∀{out:List Value} {qs:List Pr},
  (∀u,u∈out->u∈us)->L2.ST.fP X.prog X.w h' out qs->∃ws,Vals ws out/\ba X.K H ws qs
 | [],[],_,_=>⟨[],.nil,.nil⟩
 | [],_ :: _,_,hp=>by have:=hp.1;simp at this
 |_ :: _,[],_,hp=>by have:=hp.1;simp at this
 |u :: out,q :: qs,hm,hp=>by
  obtain⟨ws,a1,a2⟩:=qC I hv h k (out:=out) (qs:=qs) (λx hx=>hm x (MN _ hx)) ⟨by have:=hp.1;simpa using this,λi v p e1 e2=>hp.2 (i + 1) v p (by simpa using e1) (by simpa using e2)⟩
  obtain⟨i,hi,e⟩:=Og.mp (hm u (MM ..))
  have hi':i < vs.length:=by rw[hv.length];exact hi
  obtain⟨u',eu,ru⟩:=hv.get (Mw hi')
  rw[Mw hi,e] at eu
  cases eu
  obtain⟨p,ep,a,ea,qa⟩:=Paired.getP h (Mw hi')
  rw[ea] at ru
  cases ru
  obtain⟨b,eb,hb,_⟩:=hp.2 0 (.ref a) q rfl rfl
  cases eb
  have pa:L2.ST.jL X.prog X.w h' p a:=by
   obtain⟨o,it,n,ho,r⟩:=yZ I qa
   exact⟨o,it,n,k _ _ ho,r⟩
  have:p=q:=L2.ST.jL.inj pa hb
  subst this
  exact⟨.ref a :: ws,.cons rfl a1,.cons ⟨a,rfl,qa⟩ a2⟩
def yG (K:Frag):List V->Hp->VK->Prop:=λxs H Q=>∃a vs ps,xs= [.ref a]/\gN K H a vs/\ba K H vs ps/\(∀p,p∈ps->Sm p)/\ps.Nodup/\ps.length < 64/\
 ∀l ws qs,H l=none->ba K H ws qs->OM.wL qs->(∀p,p∈qs↔p∈ps)->Q (.ref l) (upd H l (.lst ws))
def xf (I:Inv X pins σ H s){vs:List V}{us:List Value}{ps:List Pr}(hv:Vals vs us)(hp:ba X.K H vs ps)(hlen:ps.length < 64){Q:VK}
  (q:∀l ws qs,H l=none->ba X.K H ws qs->OM.wL qs->(∀p,p∈qs↔p∈ps)->Q (.ref l) (upd H l (.lst ws)))
  {h1 h':Heap} {tk:Nat} {D:Addr} {out:List Value} {qs:List Pr} {c:Nat} (k1:∀b o,s.heap.get? b=some o->h1.get? b=some o) (eD:D=h1.objs.size) (k2:∀b o,h1.get? b=some o->h'.get? b=some o)
  (ho:h'.get? D=some (seqObj "list" out.toArray c)) (hpq:L2.ST.fP X.prog X.w h' out qs) (hm:∀u,u∈out->u∈us) (hr:OM.wL qs) (hmem:∀p,p∈qs↔p∈ps):EP X pins σ Q (.ref D) {s with heap:=h',toks:=tk}:=by
 obtain⟨ws,r1,r2⟩:=qC I hv hp (λb o e=>k2 b o (k1 b o e)) hm hpq
 have I1:Inv X pins σ H {s with heap:=h1,toks:=tk}:=I.kept k1
 have hf:H D=none:=by rw[eD];exact I1.hok.fresh (MA _)
 have hz:ws.length<=sizeLine:=by
  have e1:=r1.length
  have e2:out.length=qs.length:=hpq.1
  have e3:=OM.C6 (OM.oy hr) λx hx=>(hmem x).mp hx
  rw[Nc];omega
 have I2:Inv X pins σ (upd H D (.lst ws)) {s with heap:=h',toks:=tk}:=I1.laid (t':=tk) k2 (by rw[eD];exact MA _) (show cJ X.prog X.w _ h' _ (.lst ws) from⟨hz,out,c,r1,ho⟩)
 exact⟨.ref D,_,I2,rfl,q D ws qs hf r2 hr hmem⟩
def vf:dZ X (.builtin "sorted") (yG X.K):=by
 intro pins s σ H xs us Q I r h
 obtain⟨a,vs,ps,rfl,hq,hp,hs,nd,hl,q⟩:=h
 obtain⟨u,rfl,rx⟩:=vals1 r
 cases rx
 obtain⟨its,rv,pl,hz⟩:=I.list hq
 have hpa:=pairs_at I rv hp hs
 have h64:its.length < 64:=by rw[hpa.1];exact hl
 refine L2.ST.Ad (v:=.ref a) hpa nd h64 (λQ' hQ'=>collect_list pl.isList ?_ (by rw[Nc];omega)) λh1 h' tk D out qs c k1 eD k2 ho hpq hm hr hmem=>?_
 ·exact hQ' _ s.toks λb o e=>by
   rw[Heap.get?_update_ne _ _ _ _ (Ni (MJ e)),Heap.get?_push_ne _ _ _ (Ni (MJ e))];exact e
 ·exact xf I rv hp hl q k1 eD k2 ho hpq hm hr hmem
abbrev pq (qs:List (Addr×Pr)):List Pr:=qs.map (·.2)
end
def gQ (cells:List (Str×Addr)):List (Str×NameKind)->List (Str×Addr)->List (Str×Addr)
 | [],cs=>cs
 | (n,k) :: r,cs=>gQ cells r (if k == .free then (n,(cells.lookup n).getD 0) :: cs else cs)
def mL {scope:Scope}{env:Env}(h:∀y∈scope.names,y.2=.free->∃c,env.cells.lookup y.1=some c):closureFor scope env=pure (gQ env.cells scope.names []):=by
 unfold closureFor
 have key:∀(l:List (Str×NameKind)) (cs:List (Str×Addr)),(∀y∈l,y.2=.free->∃c,env.cells.lookup y.1=some c)->
   (forIn l cs (λ(x:Str×NameKind) (r:List (Str×Addr))=>if (x.2 == NameKind.free)=true then (do let a <-cellOf env x.1;pure (ForInStep.yield ((x.1,a) :: r)):Sem _) else pure (ForInStep.yield r)):Sem (List (Str×Addr)))=pure (gQ env.cells l cs):=by
  intro l
  induction l with
  |nil=>intro cs _;rfl
  |cons y l ih=>
   intro cs hy
   obtain⟨n,k⟩:=y
   rw[List.forIn_cons]
   unfold gQ
   by_cases hk:(k == NameKind.free)=true
   ·have hk':k=.free:=by simpa using hk
    obtain⟨c,hc⟩:=hy (n,k) (MM ..) hk'
    have hce:cellOf env n=pure c:=by unfold cellOf;rw[hc]
    simp only[hk,NJ]
    have hc':env.cells.lookup n=some c:=hc
    rw[hce,hc']
    simp only[pure_bind,Option.getD_some]
    exact ih _ λz hz=>hy z (MN _ hz)
   ·simp only[hk,NS,NA]
    simp only[pure_bind]
    exact ih _ λz hz=>hy z (MN _ hz)
 have:=key scope.names [] h
 simp only[bind_pure_comp] at this ⊢
 first
  |exact this
  | (rw[this];rfl)
  | (simpa using this)
theorem l5 {cells:List (Str×Addr)}{x:Str}:∀{l:List (Str×NameKind)} {cs:List (Str×Addr)},((x,NameKind.free)∈l\/cs.lookup x=some ((cells.lookup x).getD 0))->(gQ cells l cs).lookup x=some ((cells.lookup x).getD 0)
 | [],cs,h=>by
  rcases h with h |h
  ·cases h
  ·exact h
 | (n,k) :: r,cs,h=>by
  unfold gQ
  refine l5 ?_
  by_cases hk:(k == NameKind.free)=true
  ·rw[My hk]
   by_cases hx:x=n
   ·subst hx;right;simp
   ·rcases h with h |h
    ·rcases MH.mp h with e |e
     ·injection e with e1 _;exact absurd e1 hx
     ·exact .inl e
    ·right
     rw[lookup_cons,show (x == n)=false by simpa using hx]
     exact h
  ·rw[MG hk]
   rcases h with h |h
   ·rcases MH.mp h with e |e
    ·injection e with _ e2;exact absurd (by rw[<-e2];rfl) hk
    ·exact .inl e
   ·exact .inr h
theorem lU {cells:List (Str×Addr)}{x:Str}{c:Addr}:∀{l:List (Str×NameKind)} {cs:List (Str×Addr)},(gQ cells l cs).lookup x=some c->((x,NameKind.free)∈l/\c=(cells.lookup x).getD 0)\/cs.lookup x=some c
 | [],cs,h=>.inr h
 | (n,k) :: r,cs,h=>by
  unfold gQ at h
  rcases lU h with⟨a,b⟩ |a
  ·exact .inl ⟨MN _ a,b⟩
  ·by_cases hk:(k == NameKind.free)=true
   ·rw[My hk,lookup_cons] at a
    by_cases hx:x=n
    ·subst hx
     simp at a
     have:k=.free:=by simpa using hk
     subst this
     exact .inl ⟨MM ..,a.symm⟩
    ·rw[show (x == n)=false by simpa using hx] at a
     exact .inr a
   ·rw[MG hk] at a
    exact .inr a
theorem oP {f:Str->NameKind->NameKind}{x:Str}:∀(l:List (Str×NameKind)),(l.map λy=>(y.1,f y.1 y.2)).lookup x=(l.lookup x).map (f x)
 | []=>rfl
 | (n,k) :: l=>by
  rw[NR,lookup_cons,lookup_cons]
  by_cases hx:x=n
  ·subst hx;simp
  ·have hb:(x == n)=false:=by simpa using hx
   simp only[hb]
   exact oP l
def qR (scope:Scope)(env:Env)(x:Str):(relabel scope env).names.lookup x=(scope.names.lookup x).map λk=>if (k == .free && env.scope.kind == .function && env.kindOf x == some .cell) then .cell else k:=by
 have e:(relabel scope env).names=scope.names.map λy=>(y.1,if (y.2 == .free && env.scope.kind == .function && env.kindOf y.1 == some .cell) then .cell else y.2):=by
  unfold relabel
  dsimp only
  refine NV λy _=>?_
  obtain⟨n,k⟩:=y
  dsimp only
  split <;> rfl
 rw[e]
 exact oP (f:=λn k=>if (k == .free && env.scope.kind == .function && env.kindOf n == some .cell) then .cell else k) scope.names
theorem mC:∀(l:List (Str×NameKind)) (n:Nat) (acc:List (Str×Addr)),cellsFrom n l acc=cellsFrom n l [] ++ acc
 | [],_,_=>rfl
 | (x,k) :: r,n,acc=>by
  unfold cellsFrom
  split
  ·rw[mC r (n + 1) ((x,n) :: acc),mC r (n + 1) [(x,n)],N1];rfl
  ·exact mC r n acc
theorem pU:∀{l:List (Str×NameKind)} {n:Nat} {x:Str} {c:Addr},(x,c)∈cellsFrom n l []->n<=c/\(x,NameKind.cell)∈l
 | [],_,_,_,h=>by cases h
 | (y,k) :: r,n,x,c,h=>by
  unfold cellsFrom at h
  split at h
  ·rename_i hk
   have hk:k=.cell:=by simpa using hk
   rw[mC] at h
   rcases MU.mp h with h |h
   ·have:=pU h;exact⟨by omega,MN _ this.2⟩
   ·rw[M4] at h;cases h;subst hk;exact⟨MA _,MM ..⟩
  ·have:=pU h;exact⟨this.1,MN _ this.2⟩
abbrev Ed (X:Cx)(scope:Scope)(C:Addr):List (Str×Addr):=cellsFrom (C + 1) scope.names (gQ X.env.cells scope.names [])
def DV {M:Model}{A:Around}{E:Value->Shared->Prop}{s:Shared}{scope:Scope}{g:Addr}{cl:List (Str×Addr)}{qual:Str}{env:Env}{Q:Env->Shared->Prop}
  (h:∀h',h'.Ns s.heap.objs.size (λ_=>none)->(∀b o,s.heap.get? b=some o->h'.get? b=some o)->CellsOk h' (s.heap.objs.size + 1) (cellsFrom (s.heap.objs.size + 1) scope.names [])->Q (newEnv scope s.heap.objs.size g (cellsFrom (s.heap.objs.size + 1) scope.names cl) qual none .none (some env) builtinsNs) {s with heap:=h'}) :
  wpAny M A (newFunctionEnv scope g cl [] qual none .none (some env)) Q E s:=by
 simp only[newFunctionEnv,Option.isSome_some,NJ]
 refine Mz (wpAny_alloc ?_)
 refine Mz (wpAny_layCells _ (λname kind cells=>by cases hkc:kind == NameKind.cell <;> simp[hkc]) _ _ _ _ ?_)
 have ok:=cellsFrom_ok scope.names (s.heap.push {cls:=.type "dict",data:=.dict #[]}) (s.heap.objs.size + 1) [] ⟨λ_ _ hm=>(nomatch hm),List.Pairwise.nil⟩ (by rw[Oo];exact MA _)
 rw[Oo] at ok
 rw[show ({s with heap:=s.heap.push {cls:=.type "dict",data:=.dict #[]}}:Shared).heap.objs.size=s.heap.objs.size + 1 from Oo ..]
 rw[List.forIn_nil]
 exact Mz (M1 (M1 (h _ ((Heap.Ns.new s.heap (.type "dict")).keeps (pushCells_keeps _ _)) (λb o e=>pushCells_keeps _ _ b o (MD _ e)) ok)))
def ji (X:Cx)(NB:List Str)(scope:Scope)(C:Addr)(ex:List Addr)(s3:Shared)(H3:Hp)(pn:List (Addr×Obj)):Cx:=
 {X with N:=NB,s₀:=s3,H₀:=H3,env:=compEnvC scope (Ed X scope C) C X.env,outer:=X.stack,ex:=ex,fn:=λx=>scope.names.lookup x == some .cell,pn:=pn,xe:=λ_ _=>False}
def dM (own:Nat)(ixs:List Nat)(σ:St):St:=List.replicate own none ++ ixs.map λi=>(σ[i]?).join
structure bY (X:Cx)(NB:List Str)(own:Nat)(ixs:List Nat)(scope:Scope):Prop where
 kind:scope.kind=.function
 names:∀y∈scope.names,scope.names.lookup y.1=some y.2
 frees:∀y∈scope.names,y.2=.free->X.env.kindOf y.1=some .cell\/X.env.kindOf y.1=some .free
 nd:NB.Nodup
 len:NB.length=own + ixs.length
 at':∀k,k < ixs.length->NB[own + k]? =X.N[ixs.getD k 0]?/\∀x,NB[own + k]? =some x->(x,NameKind.free)∈scope.names
section
variable {X:Cx}{NB:List Str}{own:Nat}{ixs:List Nat}{scope:Scope}{pins:List (Addr×Obj)}{σ:St}{H:Hp}{s:Shared}
def zJ (S:bY X NB own ixs scope)(I:Inv X pins σ H s){fp:List Addr}(hfp:∀b∈fp,kF X pins H b)(hob:∀b∈fp,∃o,s.heap.get? b=some o){h1:Heap}{tk:Nat}
  (hn:h1.Ns s.heap.objs.size (λ_=>none)) (hk:∀b o,s.heap.get? b=some o->h1.get? b=some o) (hcl:CellsOk h1 (s.heap.objs.size + 1) (cellsFrom (s.heap.objs.size + 1) scope.names [])) :
  Inv (ji X NB scope s.heap.objs.size fp s H (X.pn ++ pins)) [] (dM own ixs σ) H {s with heap:=h1,toks:=tk}:=by
 have stk:=I.stack
 have frees:∀{x:Str},(x,NameKind.free)∈scope.names->∃c,X.env.cells.lookup x=some c:=λ{x} hx=>I.ok.has x (S.frees _ hx rfl)
 have clE:∀{x:Str} {c:Addr},(Ed X scope s.heap.objs.size).lookup x=some c->((x,c)∈cellsFrom (s.heap.objs.size + 1) scope.names []/\s.heap.objs.size < c)\/((x,NameKind.free)∈scope.names/\X.env.cells.lookup x=some c):=λ{x c} h=>by
  unfold Ed at h
  rw[mC,List.lookup_append] at h
  cases q:(cellsFrom (s.heap.objs.size + 1) scope.names []).lookup x with
  |some c'=>
   rw[q] at h
   cases h
   have hm:=Nu q
   exact .inl ⟨hm,(pU hm).1⟩
  |none=>
   rw[q] at h
   have h:(gQ X.env.cells scope.names []).lookup x=some c:=h
   rcases lU h with⟨a,b⟩ |a
   ·obtain⟨c',e⟩:=frees a
    rw[e] at b
    exact .inr ⟨a,by rw[e,b];rfl⟩
   ·simp at a
 have clF:∀{x:Str},(x,NameKind.free)∈scope.names->(Ed X scope s.heap.objs.size).lookup x=some ((X.env.cells.lookup x).getD 0):=λ{x} hm=>by
  unfold Ed
  rw[mC,List.lookup_append]
  cases q:(cellsFrom (s.heap.objs.size + 1) scope.names []).lookup x with
  |some c'=>
   have h1:=S.names _ (pU (Nu q)).2
   have h2:=S.names _ hm
   dsimp only at h1 h2
   rw[h1] at h2
   cases h2
  |none=>exact l5 (.inl hm)
 have kindB:∀x,(ji X NB scope s.heap.objs.size fp s H (X.pn ++ pins)).env.kindOf x=(scope.names.lookup x).map λk=>if (k == .free && X.env.scope.kind == .function && X.env.kindOf x == some .cell) then .cell else k:=λx=>qR scope X.env x
 have isFree:∀{x:Str},((ji X NB scope s.heap.objs.size fp s H (X.pn ++ pins)).env.kindOf x=some .cell\/(ji X NB scope s.heap.objs.size fp s H (X.pn ++ pins)).env.kindOf x=some .free)->(x,NameKind.free)∈scope.names\/scope.names.lookup x=some .cell:=λ{x} h=>by
  rw[kindB] at h
  cases e:scope.names.lookup x with
  |none=>rw[e] at h;simp at h
  |some k=>
   have hm:=Nu e
   cases k with
   |free=>exact .inl hm
   |cell=>exact .inr rfl
   |_=>rw[e] at h;simp at h
 have neN:∀b o,s.heap.get? b=some o->b≠s.heap.objs.size:=λb o e=>Ni (MJ e)
 have cellN:∀{x:Str} {c:Addr},X.env.cells.lookup x=some c->c < s.heap.objs.size:=λ{x c} e=>by
  obtain⟨v,o,ho,_⟩:=I.cell x c e
  exact MJ ho
 have ok:(ji X NB scope s.heap.objs.size fp s H (X.pn ++ pins)).Ok:=by
  refine⟨I.ok.mod,S.kind,I.ok.glob,I.ok.blt,MA _,λx y c h1 h2=>?_,λx hx=>?_,λx c h hc=>?_,I.ok.hd,I.ok.frames,.inl rfl,λb hb=>?_,I.bs,Nx I.ok.bsz I.sz,λb o e hb=>?_,λb hb hs=>?_,stk,I.stkFree⟩
  ·rcases clE h1 with⟨a,l1⟩ | ⟨a,l1⟩
   ·rcases clE h2 with⟨b,l2⟩ | ⟨b,l2⟩
    ·exact name_of_addr hcl.apart a b
    ·exact absurd (OK l1 (cellN l2)) (M8 _)
   ·rcases clE h2 with⟨b,l2⟩ | ⟨b,l2⟩
    ·exact absurd (OK l2 (cellN l1)) (M8 _)
    ·exact I.ok.inj x y c l1 l2
  ·rcases isFree hx with hm |hm
   ·exact⟨_,clF hm⟩
   ·obtain⟨c,hc⟩:=Option.isSome_iff_exists.mp (PySem.W.cellsFrom_some scope.names (s.heap.objs.size + 1) (gQ X.env.cells scope.names []) (.inl hm))
    exact⟨c,hc⟩
  ·rcases clE hc with⟨a,l1⟩ | ⟨a,l1⟩
   ·exact N5 l1
   ·have h1:=S.names _ a
    dsimp only at h1
    have h:(scope.names.lookup x == some NameKind.cell)=true:=h
    rw[h1] at h
    cases h
  ·obtain⟨_,f1,f2,f3,f4,f5⟩:=hfp b hb
   obtain⟨o,ho⟩:=hob b hb
   refine⟨neN b o ho,λx c h z=>?_⟩
   rcases clE h with⟨a,l1⟩ | ⟨a,l1⟩
   ·rw[z] at l1
    exact M8 _ (OK l1 (MJ ho))
   ·exact f4 x c l1 z
  ·obtain⟨_,f1,f2,f3,f4,f5⟩:=hfp b hb
   rcases f3 with f3 |f3
   ·exact I.ok.noex b o e f3
   ·exact absurd (M7 (MJ e) (Nx I.ok.bsz f3)) (M8 _)
  ·obtain⟨_,f1,f2,f3,f4,f5⟩:=hfp b hb
   rcases MH.mp (I.stkSub b hs) with z |z
   ·exact f1 z
   ·exact f2 z
 refine⟨ok,rfl,I.bare,Un.kept hk,⟨_,hn,λi x v h1' h2' h3'=>?_⟩,λx c h=>?_,I.hok.fresh (MA _),λx c h=>?_,λp hp=>?_,I.hok.kept hk,?_⟩
 ·
  have h1':NB[i]? =some x:=h1'
  have hown:own<=i:=by
   refine Classical.byContradiction λhc=>?_
   have hlt:i < own:=Nat.lt_of_not_le hc
   unfold dM at h2'
   rw[M6 (by simpa using hlt),ND,My hlt] at h2'
   cases h2'
  obtain⟨k,rfl⟩:∃k,i=own + k:=⟨i - own,by omega⟩
  have hk':k < ixs.length:=by
   have:=(MF.mp h1').1
   rw[S.len] at this;omega
  obtain⟨e1,e2⟩:=S.at' k hk'
  have hm:=e2 x h1'
  unfold dM at h2'
  rw[M9 (by simp),Nq,Nat.add_sub_cancel_left,ML,Mw hk'] at h2'
  simp only[Option.map_some,Option.some.injEq] at h2'
  have hix:ixs.getD k 0=ixs[k]:=by simp[hk']
  have hσ:σ[ixs[k]]? =some (some v):=by
   cases e:σ[ixs[k]]? with
   |none=>rw[e] at h2';cases h2'
   |some o=>rw[e] at h2';simp at h2';rw[h2']
  rw[e1,hix] at h1'
  have hkind:=S.frees _ hm rfl
  have hvis:y9 X.env.scope x:=hkind.elim (λz=>.inr (.inl z)) (λz=>.inr (.inr z))
  obtain⟨m,hm',hl⟩:=I.loc
  obtain⟨u,r,look⟩:=hl _ x v h1' hσ hvis
  refine⟨u,r,.inr ⟨?_,?_⟩⟩
  ·rw[kindB]
   have hfr:scope.names.lookup x=some .free:=S.names _ hm
   rw[hfr]
   simp only[Option.map_some]
   split
   ·exact .inl rfl
   ·exact .inr rfl
  ·rcases look with⟨z,_⟩ | ⟨_,c,hc,hcell⟩
   ·rcases hkind with q |q
    ·rw[q] at z;cases z
    ·rw[q] at z;cases z
   ·refine⟨c,?_,?_⟩
    ·have:=clF hm
     rw[hc] at this
     exact this
    ·obtain⟨o,ho,hd⟩:=hcell
     exact⟨o,hk _ _ ho,hd⟩
 ·rcases clE h with⟨a,_⟩ | ⟨_,l1⟩
  ·exact⟨_,(hcl.empty _ _ a).1⟩
  ·obtain⟨v,o,ho,hd⟩:=I.cell x c l1
   exact⟨v,o,hk _ _ ho,hd⟩
 ·rcases clE h with⟨_,l1⟩ | ⟨_,l1⟩
  ·exact I.hok.fresh (N5 l1)
  ·exact I.freeC x c l1
 ·have hp':p∈X.pn ++ pins:=by
   rcases MU.mp hp with z |z
   ·exact z
   ·cases z
  obtain⟨e,n,ne,nf,d⟩:=I.pin p hp'
  refine⟨hk _ _ e,n,neN _ _ e,λz=>?_,d⟩
  rcases MH.mp (I.stkSub _ z) with q |q
  ·exact ne q
  ·exact nf q
 ·show (dM own ixs σ).length=NB.length
  unfold dM
  rw[S.len];simp
end
abbrev yv (ifs:List Expr)(env:Env):Sem Bool:=forIn ifs true λc r=>if r=true then do let ok <-isTrue c env (eval c env);pure (ForInStep.yield ok) else pure (ForInStep.yield r)
theorem AL {prog:Program}{w:World}{A:Around}{R:Result->Shared->Prop}{s:Shared}{elt target iter:Expr}{ifs:List Expr}{scope:Scope}{pos:Pos}{it acc:Value}{env:Env}(I:Nat->Shared->Prop)
  (turn:∀n s,I n s->wpAny (model prog w) A (pyNext it) (λr s1=>match r with
   |none=>R (.ok .next) s1
   |some v=>wpAny (model prog w) A (letOwnedTupleGo target it v) (λ_ s1'=>wpAny (model prog w) A (assign target env v) (λ_ s2=>
     wpAny (model prog w) A (yv ifs env) (λok s3=>
      if ok=true then wpAny (model prog w) A (eval elt env) (λx s4=>wpAny (model prog w) A (call (.builtin "list.append") [acc,x]) (λ_ s5=>∃m,m < n/\I m s5) (λ_ _=>False) s4) (λ_ _=>False) s3
      else ∃m,m < n/\I m s3) (λ_ _=>False) s2) (λ_ _=>False) s1') (λ_ _=>False) s1) (λ_ _=>False) s)
  (n:Nat) (h:I n s):codeAny (model prog w) A (.compLoop (.ListComp elt [⟨target,iter,ifs,0⟩] scope pos) 0 it acc env) R s:=by
 refine codeAny_loop rfl I (λn s hI=>?_) n h
 (show wpAny _ A ((compTurn (.ListComp elt [⟨target,iter,ifs,0⟩] scope pos) 0 it acc env).onRaise (λx=>do (noteFrame x env);theTreesLotGoes x)) _ _ s)
 refine wpAny_noted ?_
 rw[compTurn_list]
 refine Mz (wpAny_standAt (Mz (NF (turn n s hI) (λr s1 h1=>?_) λ_ _ z=>z.elim)))
 cases r with
 |none=>exact M1 h1
 |some v=>
  refine Mz (NF h1 (λ_ s1' h1'=>?_) λ_ _ z=>z.elim)
  refine Mz (NF h1' (λ_ s2 h2=>Mz (NF h2 (λok s3 h3=>?_) λ_ _ z=>z.elim)) λ_ _ z=>z.elim)
  cases ok with
  |false=>exact M1 ⟨rfl,h3⟩
  |true=>exact Mz (Mz (NF h3 (λx s4 h4=>Mz (NF h4 (λ_ s5 h5=>M1 (M1 ⟨rfl,h5⟩)) λ_ _ z=>z.elim)) λ_ _ z=>z.elim))
def Bf (X:Cx)(ifs:List Expr)(t:TT):Prop:=
 ∀(pins:List (Addr×Obj)) (s:Shared) (σ:St) (H:Hp) (Q:Bool->Hp->Prop),Inv X pins σ H s->t σ H Q->wpAny (model X.prog X.w) X.A (yv ifs X.env) (TP X pins σ Q) X.xe s
def HN:TT:=λ_ H Q=>Q true H
def uU {X:Cx}:Bf X [] HN:=λpins s σ H Q I h=>M1 ⟨H,I,h⟩
def zq {X:Cx}{c:Expr}{t:TT}(h:PT X c t):Bf X [c] t:=λpins s σ H Q I q=>wpAny_tests_one (h pins s σ H Q I q)
def yj (own:Nat)(ixs:List Nat)(wi:TI)(g:TG)(tt:TT)(te:TE)(σ:St)(H:Hp)(Q:VK):Prop:=wi σ H λJ H1=>∀D,H1 D=none->∃W:Nat->Nat->St->Hp->Prop,(∃m,W 0 m (dM own ixs σ) (upd H1 D (.lst [])))/\∀i m σ' H',W i m σ' H'->
 (J.stop i H'/\(∃acc,H' D=some (.lst acc))/\Q (.ref D) H')\/
 (J.go i H'/\∃N:St->Hp->Prop,(∀σ2 H2,N σ2 H2->∃m',m' < m/\W (i + 1) m' σ2 H2)/\∀x H2,J.yld i H' x H2->g x σ' H2 λσ3 H3=>tt σ3 H3 λb H4=>
  if b=true then te σ3 H4 λv H5=>∃acc,H5 D=some (.lst acc)/\acc.length < sizeLine/\N σ3 (upd H5 D (.lst (acc ++ [v]))) else N σ3 H4)
section
variable {X:Cx}{NB:List Str}{own:Nat}{ixs:List Nat}{scope:Scope}{elt tg iter:Expr}{ifs:List Expr}{pos:Pos}{wi:TI}{g:TG}{tt:TT}{te:TE}
def sJ (hc:X.calm=true)(S:bY X NB own ixs scope)
  (hg:∀C ex s3 H3 pn,PG (ji X NB scope C ex s3 H3 pn) tg g) (ht:∀C ex s3 H3 pn,Bf (ji X NB scope C ex s3 H3 pn) ifs tt) (he:∀C ex s3 H3 pn,PE (ji X NB scope C ex s3 H3 pn) elt te)
  {pins:List (Addr×Obj)} {σ:St} {H1:Hp} {s2:Shared} {it:Addr} {fp:List Addr} {tn:Nat->Heap->Prop} {J:It} {Q:VK} (I2:Inv X pins σ H1 s2) (T:Turn X.prog X.w X.K tg J fp it tn) (st2:tn 0 s2.heap) (f2:∀b∈fp,kF X pins H1 b)
  (hQ:∀D,H1 D=none->∃W:Nat->Nat->St->Hp->Prop,(∃m,W 0 m (dM own ixs σ) (upd H1 D (.lst [])))/\∀i m σ' H',W i m σ' H'->
   (J.stop i H'/\(∃acc,H' D=some (.lst acc))/\Q (.ref D) H')\/
   (J.go i H'/\∃N:St->Hp->Prop,(∀σ2 H2,N σ2 H2->∃m',m' < m/\W (i + 1) m' σ2 H2)/\∀x H2,J.yld i H' x H2->g x σ' H2 λσ3 H3=>tt σ3 H3 λb H4=>
    if b=true then te σ3 H4 λv H5=>∃acc,H5 D=some (.lst acc)/\acc.length < sizeLine/\N σ3 (upd H5 D (.lst (acc ++ [v]))) else N σ3 H4))
  {E:Value->Shared->Prop} {RR:Value->Addr->Result->Shared->Prop}
  (fin:∀D C H' s' m,Inv X pins σ H' s'->Q (.ref D) H'->s'.heap.Ns C m->H' C=none->C≠X.env.locals->(∀x c,X.env.cells.lookup x=some c->c≠C)->X.s₀.heap.objs.size<=C->(∀p∈X.pn ++ pins,p.1≠C)->RR (.ref D) C (.ok .next) s') :
  wpAny (model X.prog X.w) X.A (newList []) (λacc s3=>wpAny (model X.prog X.w) X.A (newFunctionEnv scope X.env.globals (gQ X.env.cells scope.names []) [] X.env.qual none .none (some X.env)) (λcenv s4=>
   codeAny (model X.prog X.w) X.A (.compStart (.ListComp elt [⟨tg,iter,ifs,0⟩] scope pos) 0 (.ref it) acc {cenv with scope:=relabel scope X.env}) (RR acc cenv.locals) s4) E s3) E s2:=by
 refine Ow ?_ (Nl _)
 have hD:H1 s2.heap.objs.size=none:=I2.hok.fresh (MA _)
 obtain⟨W,⟨m0,w0⟩,turn⟩:=hQ s2.heap.objs.size hD
 generalize hs3:({s2 with heap:=s2.heap.push (seqObj "list" ([]:List Value).toArray 0)}:Shared)=s3
 have I3:Inv X pins σ (upd H1 s2.heap.objs.size (.lst [])) s3:=by
  rw[<-hs3]
  exact I2.lnew (ys:=[]) (its:=[]) (t':=s2.toks) .nil (Nl _)
 have k3:∀b o,s2.heap.get? b=some o->s3.heap.get? b=some o:=λb o e=>by rw[<-hs3];exact MD _ e
 have sz3:s3.heap.objs.size=s2.heap.objs.size + 1:=by rw[<-hs3];exact Oo ..
 have ob2:∀b∈fp,∃o,s2.heap.get? b=some o:=λb hb=>let ⟨o,e,_⟩:=T.obj 0 _ st2 b hb;⟨o,e⟩
 have neD:∀b∈fp,b≠s2.heap.objs.size:=λb hb=>let ⟨o,e⟩:=ob2 b hb;Ni (MJ e)
 have f3:∀b∈fp,kF X pins (upd H1 s2.heap.objs.size (.lst [])) b:=λb hb=>by
  obtain⟨a1,a2⟩:=f2 b hb
  exact⟨by rw[ay (neD b hb)];exact a1,a2⟩
 have st3:tn 0 s3.heap:=T.keep _ _ _ st2 λb _ o e=>k3 b o e
 refine DV λh4 hn4 k4 ok4=>?_
 have I4:Inv (ji X NB scope s3.heap.objs.size fp s3 (upd H1 s2.heap.objs.size (.lst [])) (X.pn ++ pins)) [] (dM own ixs σ) (upd H1 s2.heap.objs.size (.lst [])) {s3 with heap:=h4}:=
  zJ S I3 f3 (λb hb=>let ⟨o,e⟩:=ob2 b hb;⟨o,k3 _ _ e⟩) hn4 k4 ok4
 have st4:tn 0 h4:=T.keep _ _ _ st3 λb _ o e=>k4 b o e
 generalize hB:ji X NB scope s3.heap.objs.size fp s3 (upd H1 s2.heap.objs.size (.lst [])) (X.pn ++ pins)=B at I4
 have hgB:PG B tg g:=by rw[<-hB];exact hg _ _ _ _ _
 have htB:Bf B ifs tt:=by rw[<-hB];exact ht _ _ _ _ _
 have heB:PE B elt te:=by rw[<-hB];exact he _ _ _ _ _
 have eP:B.prog=X.prog:=by rw[<-hB];rfl
 have eW:B.w=X.w:=by rw[<-hB];rfl
 have eK:B.K=X.K:=by rw[<-hB];rfl
 have eA:B.A=X.A:=by rw[<-hB];rfl
 have eC:B.calm=true:=by rw[<-hB];exact hc
 have eX:B.xe=λ_ _=>False:=by rw[<-hB];rfl
 have eE:B.env=compEnvC scope (Ed X scope s3.heap.objs.size) s3.heap.objs.size X.env:=by rw[<-hB];rfl
 have ex:B.ex=fp:=by rw[<-hB];rfl
 have eL:B.env.locals=s3.heap.objs.size:=by rw[eE];rfl
 have stat:∀{H':Hp},(∀b∈fp,H' b=none)->∀b∈fp,kF B [] H' b:=λ{H'} hn b hb=>by
  obtain⟨a1,a2,a3,a4,a5,a6⟩:=f3 b hb
  obtain⟨o,eo⟩:=ob2 b hb
  refine⟨hn b hb,?_,λz=>?_,.inl (by rw[ex];exact hb),λx c e z=>?_,λp hp z=>?_⟩
  ·rw[eL];exact Ni (MJ (k3 _ _ eo))
  ·have hz:b∈mS X.stack:=by rw[<-hB] at z;exact z
   rcases MH.mp (I3.stkSub b hz) with q |q
   ·exact a2 q
   ·exact a3 q
  ·rw[eE] at e
   have e:(Ed X scope s3.heap.objs.size).lookup x=some c:=e
   unfold Ed at e
   rw[mC,List.lookup_append] at e
   cases q:(cellsFrom (s3.heap.objs.size + 1) scope.names []).lookup x with
   |some c'=>
    rw[q] at e
    cases e
    have l1:=(pU (Nu q)).1
    rw[z] at l1
    exact M8 _ (OK l1 (MJ (k3 _ _ eo)))
   |none=>
    rw[q] at e
    have e:(gQ X.env.cells scope.names []).lookup x=some c:=e
    rcases lU e with⟨m1,m2⟩ |m1
    ·obtain⟨c',e'⟩:=I3.ok.has x (S.frees _ m1 rfl)
     rw[e'] at m2
     exact a5 x c' e' (by rw[<-z,m2];rfl)
    ·simp at m1
  ·have hp':p∈X.pn ++ pins:=by
    rw[<-hB] at hp
    rcases MU.mp hp with q |q
    ·exact q
    ·cases q
   exact a6 p hp' z
 have back:∀{σ':St} {H':Hp} {s':Shared},Inv B [] σ' H' s'->Inv X pins σ H' s':=λ{σ' H' s'} J'=>by
  have u:=J'.base
  have os:=J'.os
  have bare:=J'.bare
  have hok:=J'.hok
  subst hB
  exact I3.call' (ch:=fp) os u hok bare λb hb=>by
   obtain⟨a1,a2,a3,a4,a5,a6⟩:=f3 b hb
   exact⟨a4,a2,a5,a6⟩
 have loop:∀s5:Shared,s5={s3 with heap:=h4}->
   codeAny (model X.prog X.w) X.A (.compLoop (.ListComp elt [⟨tg,iter,ifs,0⟩] scope pos) 0 (.ref it) (.ref s2.heap.objs.size) (compEnvC scope (Ed X scope s3.heap.objs.size) s3.heap.objs.size X.env)) (RR (.ref s2.heap.objs.size) s3.heap.objs.size) s5:=by
  rintro s5 rfl
  refine AL (λn s'=>∃i σ' H',Inv B [] σ' H' s'/\tn i s'.heap/\(∀b∈fp,H' b=none)/\W i n σ' H') ?_ m0 ⟨0,_,_,I4,st4,λb hb=>(f3 b hb).1,w0⟩
  rintro n s6 ⟨i,σ6,H6,I6,st6,fr6,w6⟩
  rcases turn i n σ6 H6 w6 with⟨stop,⟨acc,hacc⟩,qn⟩ | ⟨go,N,hN,step⟩
  ·have:=T.done B eP eW eK eC i [] s6 σ6 H6 (λ_ _=>False) I6 (stat fr6) st6 stop
   rw[eA] at this
   refine cD this λr s7 ⟨hr,I7⟩=>?_
   subst hr
   obtain⟨m7,hn7,_⟩:=I7.loc
   rw[eL] at hn7
   have J7:=back I7
   refine fin _ _ H6 s7 m7 J7 qn hn7 (by rw[<-eL];exact I7.free) (λz=>?_) (λx c e z=>?_) ?_ λp hp z=>?_
   ·have:=I3.lt
    rw[<-z] at this
    exact M8 _ this
   ·obtain⟨v,o,ho,_⟩:=I3.cell x c e
    exact absurd (MJ ho) (by rw[z];exact M8 _)
   ·exact I3.sz
   ·have:=MJ (I3.pin p hp).1
    rw[z] at this
    exact M8 _ this
  ·have hitem:=T.item B eP eW eK eC i [] s6 σ6 H6 (λ_ _=>False) I6 (stat fr6) st6 go
   rw[eA] at hitem
   refine cD hitem λr s7 ⟨u,hr,h7⟩=>?_
   subst hr
   refine cD h7 λ_ s8 ⟨x,H8,I8,r8,y8,st8,fr8⟩=>?_
   have I8':=I8.pinned (stat fr8) (T.obj _ _ st8)
   have ha:=hgB _ s8 σ6 H8 x u _ I8' r8 (step x H8 y8)
   rw[eP,eW,eA,eE,eX] at ha
   refine cD ha λ_ s9 ⟨σ9,H9,I9,q9⟩=>?_
   have hb:=htB _ s9 σ9 H9 _ I9 q9
   rw[eP,eW,eA,eE,eX] at hb
   refine cD hb λok s10 ⟨H10,I10,q10⟩=>?_
   have again:∀{σ7:St} {H7:Hp} {s7:Shared},Inv B ([] ++ pX fp s8.heap) σ7 H7 s7->N σ7 H7->∃m,m < n/\∃i σ' H',Inv B [] σ' H' s7/\tn i s7.heap/\(∀b∈fp,H' b=none)/\W i m σ' H':=λ{σ7 H7 s7} I7 n7=>by
    obtain⟨m',hm,w7⟩:=hN σ7 H7 n7
    refine⟨m',hm,i + 1,σ7,H7,I7.unpinned,T.keep _ _ _ st8 λb hb o e=>(I7.pin (b,o) (M5 _ (M5 _ (kq hb e)))).1,λb hb=>?_,w7⟩
    obtain⟨o,e,d⟩:=T.obj _ _ st8 b hb
    exact (I7.pin (b,o) (M5 _ (M5 _ (kq hb e)))).2.1
   cases ok with
   |false=>
    simp only[NA,NS] at q10 ⊢
    exact again I10 q10
   |true=>
    simp only[NJ] at q10 ⊢
    have hv:=heB _ s10 σ9 H10 _ I10 q10
    rw[eP,eW,eA,eE,eX] at hv
    refine cD hv λy s11 ⟨v,H11,I11,r11,acc,hacc,hz,q11⟩=>?_
    have hap:=nQ (X:=B) _ s11 σ9 H11 (.ref s2.heap.objs.size) [v] (.ref s2.heap.objs.size) [y] (λz H'=>z=.non/\N σ9 H') I11 rfl (.cons r11 .nil) ⟨_,acc,v,rfl,rfl,hacc,hz,rfl,q11⟩
    rw[eP,eW,eA,eX] at hap
    exact cD hap λ_ s12 ⟨_,H12,I12,_,_,q12⟩=>again I12 q12
 exact codeAny_compStart_list (loop _ rfl) (T.self X.A 0 _ _ _ st4 (loop _ rfl))
def vj (hc:X.calm=true)(S:bY X NB own ixs scope)(hi:PI X tg iter wi)
  (hg:∀C ex s3 H3 pn,PG (ji X NB scope C ex s3 H3 pn) tg g) (ht:∀C ex s3 H3 pn,Bf (ji X NB scope C ex s3 H3 pn) ifs tt) (he:∀C ex s3 H3 pn,PE (ji X NB scope C ex s3 H3 pn) elt te)
  (hs:∀x,foldedSetIterable iter X.env x=pure x:=by intro _;rfl) :
  PE X (.ListComp elt [⟨tg,iter,ifs,0⟩] scope pos) (yj own ixs wi g tt te):=by
 intro pins s σ H Q I h
 rw[eval_ListComp]
 refine wpAny_comprehension_free (use:=none) rfl hs (mL λy hy e=>I.ok.has _ (S.frees y hy e)) S.kind (λy hy e=>by rw[S.names y hy,e]) ?_
 refine cD (hi pins s σ H _ I h) λv s1 h1=>cD h1 λitv s2 h2=>?_
 obtain⟨it,fp,tn,J,H2,e,I2,T,st2,f2,q2⟩:=h2
 subst e
 refine sJ hc S hg ht he I2 T st2 f2 q2 (RR:=λacc C=>compPost (model X.prog X.w) X.A X.xe none (EP X pins σ Q) acc C) λD C H' s' m J' q hn hC n1 n2 n3 n4=>?_
 refine⟨m,hn,λh'' sb=>⟨.ref D,H',?_,rfl,q⟩⟩
 exact J'.turned (t':=s'.toks) (it:=C) (λb o hb e=>sb.extBut b o hb e) hC n1 (.inr n3) n2 n4
def B8 {i:Nat}{y:Str}{py spos:Pos}(hc:X.calm=true)(S:bY X NB own ixs scope)(hi:PI X tg iter wi)
  (hg:∀C ex s3 H3 pn,PG (ji X NB scope C ex s3 H3 pn) tg g) (ht:∀C ex s3 H3 pn,Bf (ji X NB scope C ex s3 H3 pn) ifs tt) (he:∀C ex s3 H3 pn,PE (ji X NB scope C ex s3 H3 pn) elt te)
  (hN:X.N.Nodup) (hy:X.N[i]? =some y) (hl:X.env.scope.names.lookup y=some .local)
  (hsw:swapsWith (.ListComp elt [⟨tg,iter,ifs,0⟩] scope pos) (some (.Name y py)) spos.line X.env=pure true)
  (hs:∀x,foldedSetIterable iter X.env x=pure x:=by intro _;rfl) :
  PS X (.Assign [.Name y py] (.ListComp elt [⟨tg,iter,ifs,0⟩] scope pos) spos) (λD σ H=>yj own ixs wi g tt te σ H λv H'=>D.nx (σ.set i (some v)) H'):=by
 intro pins s σ H D I h
 rw[exec_Assign_Name_used _ _ _ _ hsw]
 refine Mz (wpAny_standAt (Mz ?_))
 show wpAny _ X.A (comprehension (.ListComp elt [⟨tg,iter,ifs,0⟩] scope pos) scope X.env _ (newList []) false (eval iter X.env) (some (assign (.Name y py) X.env)) >>= λ_=>pure ()) _ _ s
 refine Mz (NF (wpAny_comprehension_free (use:=some (assign (.Name y py) X.env)) (Q:=λ_ s'=>SP X pins D .next s') rfl hs (mL λy hy e=>I.ok.has _ (S.frees y hy e)) S.kind (λy hy e=>by rw[S.names y hy,e]) ?_)
  (λ_ s' hq=>M1 (M1 hq)) λ_ _ e=>e)
 refine cD (hi pins s σ H _ I h) λv s1 h1=>cD h1 λitv s2 h2=>?_
 obtain⟨it,fp,tn,J,H2,e,I2,T,st2,f2,q2⟩:=h2
 subst e
 refine sJ hc S hg ht he I2 T st2 f2 q2 (Q:=λv H'=>D.nx (σ.set i (some v)) H') (RR:=λacc C=>compPost (model X.prog X.w) X.A X.xe (some (assign (.Name y py) X.env)) (λ_ s'=>SP X pins D .next s') acc C) λD' C H' s' m J' q hn hC n1 n2 n3 n4=>?_
 show wpAny _ X.A (assign (.Name y py) X.env (.ref D')) _ _ s'
 refine wpAny_assign_Name (r0 J' hN hy (.inl hl) (v:=.ref D') rfl (λs'' I'' ⟨a,sb,ha⟩=>?_) (.inr hl))
 have hCa:C≠a:=by
  rcases ha with z |z
  ·rw[z];exact n1
  ·exact (n2 _ _ z).symm
 refine⟨m,hn.sameBut sb hCa,λh3 sb3=>⟨_,H',?_,q⟩⟩
 exact I''.turned (t':=s''.toks) (it:=C) (λb o hb e=>sb3.extBut b o hb e) hC n1 (.inr n3) n2 n4
end
section
variable {own:Nat}{ixs:List Nat}{g:TG}{tt:TT}{te:TE}{σ:St}{H:Hp}{Q:VK}{K:Frag}{D a:Addr}{xs:List V}
abbrev fO (g:TG)(tt:TT)(te:TE)(D:Addr)(x:V)(σ:St)(H:Hp)(N:St->Hp->Prop):Prop:=g x σ H λσ3 H3=>tt σ3 H3 λb H4=>
  if b=true then te σ3 H4 λv H5=>∃acc,H5 D=some (.lst acc)/\acc.length < sizeLine/\N σ3 (upd H5 D (.lst (acc ++ [v]))) else N σ3 H4
def zU (Pv:Nat->St->Hp->Prop)(h0:Pv 0 (dM own ixs σ) (upd H D (.lst [])))(hl:∀i σ H,i<=xs.length->Pv i σ H->gN K H a xs)
  (hs:∀i x σ H,xs[i]? =some x->Pv i σ H->fO g tt te D x σ H (Pv (i + 1))) (hd:∀σ H,Pv xs.length σ H->(∃acc,H D=some (.lst acc))/\Q (.ref D) H) :
  ∃W:Nat->Nat->St->Hp->Prop,(∃m,W 0 m (dM own ixs σ) (upd H D (.lst [])))/\∀i m σ' H',W i m σ' H'->
   ((AH K a).stop i H'/\(∃acc,H' D=some (.lst acc))/\Q (.ref D) H')\/
   ((AH K a).go i H'/\∃N:St->Hp->Prop,(∀σ2 H2,N σ2 H2->∃m',m' < m/\W (i + 1) m' σ2 H2)/\∀x H2,(AH K a).yld i H' x H2->fO g tt te D x σ' H2 N):=by
 refine⟨λi m σ H=>m=xs.length - i/\i<=xs.length/\Pv i σ H,⟨xs.length,by simp,Nl _,h0⟩,?_⟩
 rintro i m σ H ⟨rfl,hi,p⟩
 have q:=hl i σ H hi p
 by_cases hlt:i < xs.length
 ·refine .inr ⟨⟨xs,xs[i],q,by simp[hlt]⟩,Pv (i + 1),λσ' H' p'=>⟨xs.length - (i + 1),by omega,rfl,hlt,p'⟩,λx H' y=>?_⟩
  obtain⟨e,y⟩:=y
  subst e
  exact hs i x σ _ (y xs q) p
 ·have e:i=xs.length:=by omega
  subst e
  exact .inl ⟨⟨xs,q,MA _⟩,hd σ H p⟩
def xC {lo:Int}{n:Nat}(Pv:Nat->St->Hp->Prop)(h0:Pv 0 (dM own ixs σ) (upd H D (.lst [])))
  (hs:∀i σ H,i < n->Pv i σ H->fO g tt te D (.int (lo + i)) σ H (Pv (i + 1))) (hd:∀σ H,Pv n σ H->(∃acc,H D=some (.lst acc))/\Q (.ref D) H) :
  ∃W:Nat->Nat->St->Hp->Prop,(∃m,W 0 m (dM own ixs σ) (upd H D (.lst [])))/\∀i m σ' H',W i m σ' H'->
   ((BL lo n).stop i H'/\(∃acc,H' D=some (.lst acc))/\Q (.ref D) H')\/
   ((BL lo n).go i H'/\∃N:St->Hp->Prop,(∀σ2 H2,N σ2 H2->∃m',m' < m/\W (i + 1) m' σ2 H2)/\∀x H2,(BL lo n).yld i H' x H2->fO g tt te D x σ' H2 N):=by
 refine⟨λi m σ H=>m=n - i/\i<=n/\Pv i σ H,⟨n,by simp,Nl _,h0⟩,?_⟩
 rintro i m σ H ⟨rfl,hi,p⟩
 by_cases hlt:i < n
 ·refine .inr ⟨hlt,Pv (i + 1),λσ' H' p'=>⟨n - (i + 1),by omega,rfl,hlt,p'⟩,λx H' y=>?_⟩
  obtain⟨e,y⟩:=y
  subst e y
  exact hs i σ _ hlt p
 ·have e:i=n:=by omega
  subst e
  exact .inl ⟨MA _,hd σ H p⟩
end
mutual
inductive Rep (K:Frag)(H:Hp):V->PyData->Prop
 |non:Rep K H .non .none
 |bl (b:Bool):Rep K H (.bl b) (.bool b)
 |int (i:Int):Rep K H (.int i) (.int i)
 |str (x:Str):Rep K H (.str x) (.str x)
 |tup {a:Addr} {xs:List V} {ds:List PyData}:gM K H a xs->jW K H xs ds->Rep K H (.ref a) (.tuple ds)
 |lst {a:Addr} {xs:List V} {ds:List PyData}:gN K H a xs->jW K H xs ds->Rep K H (.ref a) (.list ds)
inductive jW (K:Frag)(H:Hp):List V->List PyData->Prop
 |nil:jW K H [] []
 |cons {x:V} {xs:List V} {d:PyData} {ds:List PyData}:Rep K H x d->jW K H xs ds->jW K H (x :: xs) (d :: ds)
end
section
variable {X:Cx}{pins:List (Addr×Obj)}{σ:St}{H H':Hp}{s:Shared}
mutual
theorem Rep.reads (I:Inv X pins σ H s):∀{x:V} {d:PyData} {u:Value},Rep X.K H x d->RelV x u->∃as,Reads s.heap u d as
 |_,_,_,.non,r=>by cases r;exact⟨_,.none⟩
 |_,_,_,.bl b,r=>by cases r;exact⟨_,.bool b⟩
 |_,_,_,.int i,r=>by obtain⟨t,rfl⟩:=r;exact⟨_,.int i t⟩
 |_,_,_,.str x,r=>by obtain⟨t,rfl⟩:=r;exact⟨_,.str x t⟩
 |_,_,_,.tup h hs,r=>by
  cases r
  obtain⟨its,rv,⟨o,ho,hc,n,hd⟩,_⟩:=I.tuple h
  obtain⟨as,q⟩:=jW.reads I hs rv
  exact⟨_,.tuple ho hc hd (by simpa using q)⟩
 |_,_,_,.lst h hs,r=>by
  cases r
  obtain⟨its,rv,pl,_⟩:=I.list h
  obtain⟨o,ho,hc,n,hd⟩:=pl.isList
  obtain⟨as,q⟩:=jW.reads I hs rv
  exact⟨_,.list ho hc hd (by simpa using q)⟩
theorem jW.reads (I:Inv X pins σ H s):∀{xs:List V} {ds:List PyData} {us:List Value},jW X.K H xs ds->Vals xs us->∃as,ReadsAll s.heap us ds as
 |_,_,_,.nil,r=>by cases r;exact⟨_,.nil⟩
 |_,_,_,.cons h hs,r=>by
  cases r with
  |cons r1 r2=>
   obtain⟨as,q⟩:=Rep.reads I h r1
   obtain⟨bs,q'⟩:=jW.reads I hs r2
   exact⟨_,.cons q q'⟩
end
def Hl (K:Frag)(neg:Bool):R2:=λx y H Q=>∃d e,Rep K H x d/\Rep K H y e/\SeqAt.shaped d=true/\SeqAt.shaped e=true/\Q (.bl (if neg then !PyData.eqv d e else PyData.eqv d e)) H
def dv (hu:X.A.units + 64 < cLine):kT X (compareOp .Eq) (Hl X.K false):=by
 intro pins s σ H x y v u Q I rx ry h
 obtain⟨d,e,h1,h2,s1,s2,q⟩:=h
 obtain⟨as,r1⟩:=h1.reads I rx
 obtain⟨bs,r2⟩:=h2.reads I ry
 exact SeqAt.compareEq_shaped r1 r2 s1 s2 hu ⟨.bl _,H,I,rfl,q⟩
def dR (hu:X.A.units + 64 < cLine):kT X (compareOp .NotEq) (Hl X.K true):=by
 intro pins s σ H x y v u Q I rx ry h
 obtain⟨d,e,h1,h2,s1,s2,q⟩:=h
 obtain⟨as,r1⟩:=h1.reads I rx
 obtain⟨bs,r2⟩:=h2.reads I ry
 exact SeqAt.compareNe_shaped r1 r2 s1 s2 hu ⟨.bl _,H,I,rfl,q⟩
def GA (K:Frag)(neg:Bool):R2:=λx y H Q=>∃p xs d ds,y=.ref p/\(gN K H p xs\/gM K H p xs)/\jW K H xs ds/\Rep K H x d/\SeqAt.shaped d=true/\(∀e,e∈ds->SeqAt.shaped e=true)/\
 Q (.bl (if neg then !(ds.any λe=>PyData.eqv e d) else ds.any λe=>PyData.eqv e d)) H
theorem jW.at' {K:Frag}:∀{xs:List V} {ds:List PyData} {i:Nat} {x:V},jW K H xs ds->xs[i]? =some x->∃d,ds[i]? =some d/\Rep K H x d
 |_,_,_,_,.nil,e=>by simp at e
 |_,_,0,_,.cons r _,e=>by simp at e;subst e;exact⟨_,rfl,r⟩
 |_,_,i + 1,x,.cons _ t,e=>by
  obtain⟨u,h1,h2⟩:=jW.at' (i:=i) (x:=x) t (by simpa using e)
  exact⟨u,by simpa using h1,h2⟩
theorem jW.len {K:Frag}:∀{xs:List V} {ds:List PyData},jW K H xs ds->xs.length=ds.length
 |_,_,.nil=>rfl
 |_,_,.cons _ t=>by simp[jW.len t]
open Classical in
theorem mZ (I:Inv X pins σ H s)(d:PyData):∀{xs:List V} {us:List Value} {ds:List PyData},Vals xs us->jW X.K H xs ds->(∀e,e∈ds->SeqAt.shaped e=true)->∃f:Value->Bool,us.any f=(ds.any λe=>PyData.eqv e d)/\∀u,u∈us->∃e as,e∈ds/\Reads s.heap u e as/\f u=PyData.eqv e d:=by
 intro xs us ds hv hr hs
 let f:Value->Bool:=λu=>if h:∃e as,SeqAt.shaped e=true/\Reads s.heap u e as then PyData.eqv (Classical.choose h) d else false
 have hf:∀{u:Value} {e:PyData} {as:List Addr},SeqAt.shaped e=true->Reads s.heap u e as->f u=PyData.eqv e d:=λ{u e as} h1 h2=>by
  have hx:∃e as,SeqAt.shaped e=true/\Reads s.heap u e as:=⟨e,as,h1,h2⟩
  show (if h:∃e as,SeqAt.shaped e=true/\Reads s.heap u e as then PyData.eqv (Classical.choose h) d else false)=_
  rw[dif_pos hx]
  obtain⟨bs,q1,q2⟩:=Classical.choose_spec hx
  rw[SeqAt.Reads.unique _ _ _ _ _ (NX q1) q2 h2]
 refine⟨f,?_,?_⟩
 ·induction hv generalizing ds with
  |nil=>cases hr;rfl
  | @cons x u xs us r1 r2 ih=>
   cases hr with
   | @cons _ _ e es h1 h2=>
    obtain⟨as,q⟩:=h1.reads I r1
    rw[NZ,NZ,hf (hs e (MM ..)) q,ih h2 λz hz=>hs z (MN _ hz)]
 ·intro u hu
  obtain⟨i,hi,e0⟩:=Og.mp hu
  have hi':i < xs.length:=by rw[hv.length];exact hi
  obtain⟨u',eu,ru⟩:=hv.get (Mw hi')
  rw[Mw hi,e0] at eu
  cases eu
  obtain⟨e,ee,re⟩:=jW.at' hr (Mw hi')
  obtain⟨as,q⟩:=re.reads I ru
  have hm:=MS ee
  exact⟨e,as,hm,q,hf (hs e hm) q⟩
def qI (hu:X.A.units + 100 < cLine):kT X (compareOp .In) (GA X.K false):=by
 intro pins s σ H x y v u Q I rx ry h
 obtain⟨p,xs,d,ds,rfl,hq,hs,hx,s1,s2,q⟩:=h
 cases ry
 obtain⟨bs,r2⟩:=hx.reads I rx
 have key:∀{e:PyData} {as:List Addr} {u:Value},SeqAt.shaped e=true->Reads s.heap u e as->SeqAt.EqAt X.A.in1 s u v (PyData.eqv e d):=λ{e as u} h1 h2=>by
  refine SeqAt.eqAt_reads _ _ _ _ _ _ _ _ h2 r2 (NX h1) (NX s1) ?_
  have:=SeqAt.depth_of_shaped h1
  show X.A.units + 1 + _ < _
  omega
 rcases hq with hq |hq
 ·obtain⟨its,r,pl,hz⟩:=I.list hq
  obtain⟨f,e1,e2⟩:=mZ I d r hs s2
  refine SeqAt.in_listAt f pl.isList (λw hw=>?_) ⟨.bl _,H,I,rfl,?_⟩
  ·obtain⟨e,as,hm,rd,ef⟩:=e2 w (by simpa using hw)
   rw[ef];exact key (s2 e hm) rd
  ·rw[show its.toArray.any f=its.any f by simp,e1];exact q
 ·obtain⟨its,r,pl,hz⟩:=I.tuple hq
  obtain⟨f,e1,e2⟩:=mZ I d r hs s2
  refine SeqAt.in_tupleAt f pl (λw hw=>?_) ⟨.bl _,H,I,rfl,?_⟩
  ·obtain⟨e,as,hm,rd,ef⟩:=e2 w (by simpa using hw)
   rw[ef];exact key (s2 e hm) rd
  ·rw[show its.toArray.any f=its.any f by simp,e1];exact q
inductive ET (K:Frag)(H:Hp):V->String->Prop
 |non:ET K H .non "NoneType"
 |bl (b:Bool):ET K H (.bl b) "bool"
 |int (i:Int):ET K H (.int i) "int"
 |str (x:Str):ET K H (.str x) "str"
 |tup {a:Addr} {xs:List V}:gM K H a xs->ET K H (.ref a) "tuple"
 |lst {a:Addr} {xs:List V}:gN K H a xs->ET K H (.ref a) "list"
 |dic {a:Addr} {kvs:List (Key×V)}:H a=some (.dK kvs)->ET K H (.ref a) "dict"
def LW (K:Frag):List V->Hp->VK->Prop:=λxs H Q=>∃x T t b,xs= [x,.ty T]/\ET K H x t/\PySem.W.kitOne K (.type t) (.type T)=some b/\Q (.bl b) H
theorem Ci:dZ X (.builtin "isinstance") (LW X.K):=by
 intro pins s σ H xs us Q I r h
 obtain⟨x,T,t,b,rfl,ty,e,q⟩:=h
 obtain⟨u,c,rfl,rx,rc⟩:=vals2 r
 cases rc
 have fin:∀tk,EP X pins σ Q (.bool b) {s with toks:=tk}:=λtk=>⟨.bl b,H,I.tok tk,rfl,q⟩
 cases ty with
 |non=>exact j7 I rx .non e fin
 |bl b=>exact j7 I rx (.bl b) e fin
 |int i=>exact j7 I rx (.int i) e fin
 |str z=>exact j7 I rx (.str z) e fin
 |dic hk=>exact j7 I rx (.dK hk) e fin
 |tup hq=>
  cases rx
  obtain⟨its,rv,⟨o,h1,h2,_⟩,_⟩:=I.tuple hq
  exact Nr PySem.W.kitx_tuple I.kIn ⟨o,h1,h2⟩ e (λz=>nomatch z) fin
 |lst hq=>
  cases rx
  obtain⟨its,rv,pl,_⟩:=I.list hq
  obtain⟨o,h1,h2,_⟩:=pl.isList
  exact Nr PySem.W.kitx_list I.kIn ⟨o,h1,h2⟩ e (λz=>nomatch z) fin
def vR {A:Around}{its:List Value}{bs:List Bool}(hv:Vals (bs.map V.bl) its):TruthOf X.prog X.w A (λi v=>its[i]? =some v) (λi=>bs.getD i false):=λi v s Q E hi hq=>by
 have hl:=hv.length
 have hi2:i < bs.length:=by
  have:=(MF.mp hi).1
  rw[<-hl] at this;simpa using this
 obtain⟨u,eu,ru⟩:=hv.get (i:=i) (x:=.bl bs[i]) (by simp[hi2])
 rw[hi] at eu;cases eu
 cases ru
 refine Ny ?_
 have:bs.getD i false=bs[i]:=by simp[hi2]
 rw[<-this];exact hq
theorem range_all (bs:List Bool):(List.range bs.length).all (λi=>bs.getD i false)=bs.all id:=by
 induction bs with
 |nil=>rfl
 |cons b bs ih=>
  rw[Nm,List.range_succ_eq_map,all_cons,all_map,all_cons,<-ih]
  rfl
theorem range_any (bs:List Bool):(List.range bs.length).any (λi=>bs.getD i false)=bs.any id:=by
 induction bs with
 |nil=>rfl
 |cons b bs ih=>
  rw[Nm,List.range_succ_eq_map,NZ,List.any_map,NZ,<-ih]
  rfl
def w9 (K:Frag)(f:List Bool->Bool):List V->Hp->VK->Prop:=λxs H Q=>∃a bs,xs= [.ref a]/\gN K H a (bs.map V.bl)/\Q (.bl (f bs)) H
def pY (hc:X.calm=true){a:Addr}{bs:List Bool}{Q:VK}(I:Inv X pins σ H s)(hq:gN X.K H a (bs.map V.bl)){f:List Bool->Bool}{g:(Nat->Bool)->Nat->Bool}(hfg:g (λi=>bs.getD i false) bs.length=f bs)(q:Q (.bl (f bs)) H) :
  wpAny (model X.prog X.w) X.A.in1 (pyIter (.ref a)) (λit s2=>∃Ii fp wr n P St tr,it=.ref Ii/\Walks X.prog X.w X.A.in1 Ii fp wr n P St/\St 0 s2.heap/\TruthOf X.prog X.w X.A.in1 P tr/\
   ∀h' tk,(∀b o,b∉wr->s2.heap.get? b=some o->h'.get? b=some o)->EP X pins σ Q (.bool (g tr n)) {s2 with heap:=h',toks:=tk}) X.xe s:=by
 obtain⟨its,rv,pl,hz⟩:=I.list hq
 have hh:X.A.in1.handled=none:=I.ok.hd hc
 have hlen:its.length=bs.length:=by rw[<-rv.length];simp
 obtain⟨o,ho,_⟩:=id pl.isList
 refine Oc pl.isList ?_
 have W:=Walks.list (prog:=X.prog) (w:=X.w) hh s.heap.objs.size a (Ni (MJ ho)) its.toArray
 refine⟨s.heap.objs.size,_,_,_,_,_,λi=>bs.getD i false,rfl,W,⟨⟨_,MO _ rfl,rfl,rfl⟩,pl.isList.push _⟩,?_,λh' tk k=>?_⟩
 ·have:=vR (X:=X) (A:=X.A.in1) rv
  simpa using this
 ·have e:its.toArray.size=bs.length:=by simpa using hlen
  rw[e,hfg]
  have I1:Inv X pins σ H {s with heap:=s.heap.push {cls:=.type "list_iterator",data:=.fields #[.ref a,.int 0 0]}}:=I.kept (t':=s.toks) λb o e=>MD _ e
  have hf:H s.heap.objs.size=none:=I.hok.fresh (MA _)
  have fp:=I.fpOk (H':=H) (b:=s.heap.objs.size) (MA _) hf
  refine⟨.bl _,H,I1.turned (it:=s.heap.objs.size) (t':=tk) (λb o hb e=>k b o (by simpa using hb) e) hf fp.2.1 fp.2.2.2.1 fp.2.2.2.2.1 fp.2.2.2.2.2,rfl,q⟩
def fN (hc:X.calm=true):dZ X (.builtin "all") (w9 X.K λbs=>bs.all id):=by
 intro pins s σ H xs us Q I r h
 obtain⟨a,bs,rfl,hq,q⟩:=h
 obtain⟨u,rfl,rx⟩:=vals1 r
 cases rx
 exact call_all_walk (pY hc I hq (f:=λbs=>bs.all id) (g:=λtr n=>(List.range n).all tr) (range_all bs) q)
def vX (hc:X.calm=true):dZ X (.builtin "any") (w9 X.K λbs=>bs.any id):=by
 intro pins s σ H xs us Q I r h
 obtain⟨a,bs,rfl,hq,q⟩:=h
 obtain⟨u,rfl,rx⟩:=vals1 r
 cases rx
 exact call_any_walk (pY hc I hq (f:=λbs=>bs.any id) (g:=λtr n=>(List.range n).any tr) (range_any bs) q)
def Bz:dZ X (.type "range") (λxs H Q=>∃n:Int,xs= [.int n]/\∀p,H p=none->Q (.ref p) (upd H p (.fE 0 n))):=by
 intro pins s σ H xs us Q I r h
 obtain⟨n,rfl,q⟩:=h
 obtain⟨u,rfl,rx⟩:=vals1 r
 obtain⟨t,rfl⟩:=rx
 refine call_range_1 ⟨.ref s.heap.objs.size,upd H s.heap.objs.size (.fE 0 n),?_,rfl,q _ (I.hok.fresh (MA _))⟩
 exact I.laid (λb o e=>MD _ e) (MA _) ⟨_,_,_,MO _ rfl⟩
def rE (hc:X.calm=true):dZ X (.type "list") (λxs H Q=>∃p n,xs= [.ref p]/\H p=some (.fE 0 n)/\0<=n/\n<=1000/\∀l,H l=none->Q (.ref l) (upd H l (.lst ((List.range n.toNat).map λ(i:Nat)=>V.int (i:Int))))):=by
 intro pins s σ H xs us Q I r h
 obtain⟨p,n,rfl,hp,h0,h1,q⟩:=h
 obtain⟨u,rfl,rx⟩:=vals1 r
 cases rx
 obtain⟨t,u,v,hr⟩:∃t u v,s.heap.get? p=some {cls:=.type "range",data:=.fields #[.int 0 t,.int n u,.int 1 v]}:=I.hok p _ hp
 have hsz:Builtin.Range.rangeSize 0 n 1=(n.toNat:Int):=by rw[rangeSize_one];split <;> omega
 refine call_list_range (I.ok.hd hc) hr (small_one (by omega) (by omega) (by omega) (by omega)) hsz (by omega) λh' tk acc c k hS hacc=>?_
 have hv:Vals ((List.range n.toNat).map λ(i:Nat)=>V.int (i:Int)) acc.toList:=by
  have key:∀(m:Nat) (us:List Value) (j:Nat),us.length=m->(∀(i:Nat) (v:Value),us[i]? =some v->∃t,v=Value.int ((j + i:Nat):Int) t)->Vals ((List.range' j m).map λ(i:Nat)=>V.int (i:Int)) us:=by
   intro m
   induction m with
   |zero=>intro us j hl _;cases us with
    |nil=>exact .nil
    |cons a b=>simp at hl
   |succ m ih=>
    intro us j hl hh
    cases us with
    |nil=>simp at hl
    |cons u us=>
     rw[List.range'_succ,NR]
     refine .cons (by have:=hh 0 u rfl;simp at this;exact this) (ih us (j + 1) (by simpa using hl) λi v hi=>?_)
     obtain⟨t,e⟩:=hh (i + 1) v (by simpa using hi)
     exact⟨t,by rw[e];congr 2;omega⟩
  have:=key n.toNat acc.toList 0 (by simpa using hacc.1) λi v hi=>by
   obtain⟨t,e⟩:=hacc.2 i v (by simpa using hi)
   exact⟨t,by rw[e];simp⟩
  rw[List.range_eq_range'];exact this
 refine⟨.ref s.heap.objs.size,_,I.laid (t':=tk) k (MA _) (show cJ X.prog X.w _ h' _ (.lst _) from⟨by simp;rw[Nc];omega,acc.toList,c,hv,by simpa using hS⟩),rfl,q _ (I.hok.fresh (MA _))⟩
end
def Rc (h:Heap)(e:Addr)(cls:Value)(T:Addr)(fl:Value):Prop:=∃oe vs oT ts,h.get? e=some oe/\oe.cls=cls/\oe.dict=none/\oe.data=.fields vs/\vs[1]? =some (.ref T)/\vs[2]? =some .none/\T≠e/\h.get? T=some oT/\oT.data=.fields ts/\ts[3]? =some fl
abbrev Keeps (F:List Addr)(ch:List Addr)(h h':Heap):Prop:=∀b o,h.get? b=some o->b∉F->b∉ch->h'.get? b=some o
abbrev Slots (F:List Addr)(h h':Heap):Prop:=∀b o,h.get? b=some o->b∈F->∃sl,h'.get? b=some {o with slots:=sl}
section
variable {M:Model}{A:Around}{E:Value->Shared->Prop}{s:Shared}{base:Heap}{env:Env}{outer:List Env}{L e:Addr}{cls:Value}{Q:Unit->Shared->Prop}
def Hi {oe:Obj}{vs:Array Value}{head:Value}{hadNext:Bool}(hfr:A.frames=some (env :: outer))(hl:s.heap.FunFrames base (env :: outer))(hf:env.frame=some L)(he:s.heap.get? e=some oe)(hc:oe.cls=cls)(hdd:oe.dict=none)(hd:oe.data=.fields vs)(hsz:1 < vs.size)(h2:vs[2]? =some .none)
  (h:∀h' T,Keeps (mS (env :: outer)) [e] s.heap h'->Slots (mS (env :: outer)) s.heap h'->s.heap.get? T=none->Rc h' e cls T (rawInt L)->Q () {s with heap:=h'}) :
  wpAny M A (do let a <-frameOf env;let pl <-entryPlaceOf L hadNext;let b <-EntryCells.newEntry head a .none (rawInt L) .none pl;setField (.ref e) 1 b) Q E s:=by
 have eF:e∉mS (env :: outer):=λz=>by
  obtain⟨_,o,q,n⟩:=hl.mem z
  rw[he] at q;cases q;exact n _ hd
 refine Mz (wpAny_frameOf_fun hfr hl hf λh1 s1=>?_)
 refine Mz (wpAny_entryPlaceOf λpl hpl=>?_)
 unfold EntryCells.newEntry newFields
 refine Mz (wpAny_newObj_type ?_ (hpl.sizeOk5 _ _ _ _ _))
 have e1:h1.get? e=some oe:=(s1.2.1 e eF).trans he
 have e2:=MD (h:=h1) {cls:=.type "traceback",dict:=none,data:=.fields ([head,.ref L,.none,rawInt L,.none] ++ (if pl.isEmpty then List.replicate 6 Value.none else pl)).toArray} e1
 have tn:h1.objs.size≠e:=Nat.ne_of_gt (MJ e1)
 refine wpAny_setField e2 hd hsz (h _ h1.objs.size (λb o q hb hn=>?_) (λb o q hb=>?_) ?_ ?_)
 ·have hbe:b≠e:=by simpa using hn
  have q1:h1.get? b=some o:=(s1.2.1 b hb).trans q
  rw[Nz _ _ (Ne.symm hbe)]
  exact MD _ q1
 ·obtain⟨sl,q1⟩:=s1.2.2 b o q
  have hbe:b≠e:=λz=>eF (z▸hb)
  refine⟨sl,?_⟩
  rw[Nz _ _ (Ne.symm hbe)]
  exact MD _ q1
 ·cases q:s.heap.get? h1.objs.size with
  |none=>rfl
  |some o=>obtain⟨sl,q1⟩:=s1.2.2 _ o q;exact absurd (MJ q1) (M8 _)
 ·have d3:=Obj.data_mapFields hd (·.setIfInBounds 1 (Value.ref h1.objs.size))
  have e3:=Heap.get?_update_self (Obj.mapFields (·.setIfInBounds 1 (Value.ref h1.objs.size))) e2 (Obj.isFreed_of_fields d3)
  refine⟨_,_,_,_,e3,(Obj.cls_mapFields _ _).trans hc,?_,d3,by simp[hsz],by rw[Array.getElem?_setIfInBounds_ne (by omega)];exact h2,tn,(Nz _ _ (Ne.symm tn)).trans (MO h1 rfl),rfl,?_⟩
  ·unfold Obj.mapFields
   split <;> exact hdd
  ·rcases hpl with rfl | ⟨_,_,_,_,_,_,_,rfl⟩ <;> simp
def zR {T0:Addr}(hfr:A.frames=some (env :: outer))(hl:s.heap.FunFrames base (env :: outer))(hf:env.frame=some L)(r:Rc s.heap e cls T0 .none)
  (h:∀h' T,Keeps (mS (env :: outer)) [e,T0] s.heap h'->Slots (mS (env :: outer)) s.heap h'->(s.heap.get? T=none\/T=T0)->Rc h' e cls T (rawInt L)->Q () {s with heap:=h'}):wpAny M A (noteFrame (.ref e) env) Q E s:=by
 obtain⟨oe,vs,oT,ts,he,hc,hdd,hd,h1,h2,hTe,hT,hdT,h3⟩:=r
 have tF:T0∉mS (env :: outer):=λz=>by
  obtain⟨_,o,q,n⟩:=hl.mem z
  rw[hT] at q;cases q;exact n _ hdT
 unfold noteFrame
 simp only[hf]
 refine Mz (wpAny_field he hd h1 ?_)
 rw[My (show (Value.ref T0 != Value.none)=true from by simp)]
 refine Mz (wpAny_field hT hdT h3 ?_)
 rw[MG (show ¬((Value.none == rawInt L)=true) from by simp[rawInt])]
 refine Mz (wpAny_setField hT hdT (Ox.mp h3).1 ?_)
 have oth:∀b,b≠T0->(s.heap.update T0 (Obj.mapFields (·.setIfInBounds 3 Value.none))).get? b=s.heap.get? b:=λb hb=>Nz _ _ (Ne.symm hb)
 have nf:∀b o,s.heap.get? b=some o->(∀ws,o.data≠.fields ws)->b≠T0:=λb o q n z=>by
  rw[z,hT] at q;cases q;exact n _ hdT
 refine Hi (base:=base) hfr (hl.of_keeps λb o q n=>⟨o,(oth b (nf b o q n)).trans q,rfl⟩) hf ((oth e (Ne.symm hTe)).trans he) hc hdd hd (Ox.mp h1).1 h2 λh' T kp sl tn rc=>?_
 refine h h' T (λb o q hb hn=>?_) (λb o q hb=>?_) ?_ rc
 ·simp only[MH,NP,or_false,not_or] at hn
  exact kp b o ((oth b hn.2).trans q) hb (by simp[hn.1])
 ·exact sl b o ((oth b λz=>tF (z▸hb)).trans q) hb
 ·by_cases z:T=T0
  ·exact .inr z
  ·exact .inl ((oth T z).symm.trans tn)
def EC {T:Addr}{fl:Value}(r:Rc s.heap e cls T fl)(h:∀h',Keeps [] [T] s.heap h'->Rc h' e cls T .none->Q () {s with heap:=h'}):wpAny M A (setFlight (.ref e) none) Q E s:=by
 obtain⟨oe,vs,oT,ts,he,hc,hdd,hd,h1,h2,hTe,hT,hdT,h3⟩:=r
 have sz:3 < ts.size:=(Ox.mp h3).1
 unfold setFlight
 refine Mz (wpAny_field he hd h1 ?_)
 rw[My (show (Value.ref T != Value.none)=true from by simp)]
 refine wpAny_setField hT hdT sz (h _ (λb o q _ hn=>?_) ?_)
 ·have hb:b≠T:=by simpa using hn
  exact (Nz _ _ (Ne.symm hb)).trans q
 ·have d3:=Obj.data_mapFields hdT (·.setIfInBounds 3 ((none:Option Addr).elim Value.none λf=>rawInt f))
  exact⟨oe,vs,_,_,(Nz _ _ hTe).trans he,hc,hdd,hd,h1,h2,hTe,Heap.get?_update_self _ hT (Obj.isFreed_of_fields d3),d3,by simp[sz]⟩
end
section
variable {P:Program}{w:World}
theorem cJ.there {H:Hp}{h:Heap}{a:Addr}{o:HO}(x:cJ P w H h a o):∃u,h.get? a=some u:=by
 cases o with
 |lst xs=>obtain⟨_,_,_,_,e⟩:=x;exact⟨_,e⟩
 |tup xs=>obtain⟨_,_,_,u,e,_⟩:=x;exact⟨u,e⟩
 |dK kvs=>obtain⟨_,_,_,_,o,_,_,e,_⟩:=x;exact⟨_,e⟩
 |dT kvs=>obtain⟨_,_,_,_,o,_,_,e,_⟩:=x;exact⟨_,e⟩
 |set S n=>obtain⟨o,_,_,_,e,_⟩:=x;exact⟨_,e⟩
 |ins C dx fs=>obtain⟨_,_,_,e,_⟩:=x;exact⟨_,e⟩
 |own y=>obtain⟨_,e⟩:=x;exact⟨_,e⟩
 |xd fs=>obtain⟨_,⟨_,_,_,e,_⟩,_⟩:=x;exact⟨_,e⟩
 |fE lo hi=>obtain⟨_,_,_,e⟩:=x;exact⟨_,e⟩
 |aS ob u=>obtain⟨e,_⟩:=x;exact⟨_,e⟩
 |tbl ps=>exact⟨_,show h.get? a=some _ from x⟩
 |met f y=>exact⟨_,show h.get? a=some _ from x⟩
 |ext φ=>obtain⟨_,⟨_,e⟩,_⟩:=x;exact⟨_,e⟩
end
structure Lies (h₀:Heap)(H:Hp)(h:Heap)(e:Addr)(cls:Value):Prop where
 free:H e=none
 new:h₀.get? e=none
 ob:∃T,Rc h e cls T .none/\H T=none/\h₀.get? T=none
def mO (P:Program)(w:World):Ag:=λouter H s E e s'=>∃ea cls H',e=.ref ea/\s'.os=s.os/\AllBare s'.gens/\Un (mS outer) [] H H' s.heap s'.heap/\mi P w H' s'.heap/\Lies s.heap H' s'.heap ea cls/\E cls none H'
section
variable {P:Program}{w:World}{M:Model}{A:Around}{E':Value->Shared->Prop}{s:Shared}{env:Env}{outer:List Env}{L e:Addr}{cls:Value}{base h₀:Heap}{H:Hp}{Q:Unit->Shared->Prop}
def CV {h h':Heap}(hok:mi P w H h)(k:∀b o,h.get? b=some o->(∃u,H b=some u)->h'.get? b=some o):mi P w H h':=λa o ha=>
 (hok a o ha).stay (λb u hb q=>k b u q (hb.elim (λz=>⟨o,by rw[z];exact ha⟩) λz=>⟨_,z⟩)) (λ_ q=>q) λ_ _ q=>q
def CN (hfr:A.frames=some (env :: outer))(hf:env.frame=some L)(hfn:s.heap.FunFrames base (env :: outer))(hok:mi P w H s.heap)(hff:∀b∈mS (env :: outer),H b=none)(Ly:Lies h₀ H s.heap e cls)(hex:∀b o,h₀.get? b=some o->∃o',s.heap.get? b=some o')
  (hQ:∀h',(∀b o,s.heap.get? b=some o->b∉mS (env :: outer)->((∃o0,h₀.get? b=some o0)\/∃u,H b=some u)->h'.get? b=some o)->(∀b o,s.heap.get? b=some o->b∈mS (env :: outer)->∃sl,h'.get? b=some {o with slots:=sl})->Lies h₀ H h' e cls->mi P w H h'->Q () {s with heap:=h'}) :
  wpAny M A (leaving env (.ref e)) Q E' s:=by
 obtain⟨fr,nw,T0,rc,hHT,hnT⟩:=Ly
 obtain⟨oe,vs,oT,ts,he,hc,hdd,hd,h1,h2,hTe,hT,hdT,h3⟩:=id rc
 have tF:T0∉mS (env :: outer):=λz=>by
  obtain⟨_,o,q,n⟩:=hfn.mem z
  rw[hT] at q;cases q;exact n _ hdT
 unfold leaving
 refine Mz (zR hfr hfn hf rc λh4 T kp sl tn rc4=>EC rc4 λh5 kp5 rc5=>?_)
 have nT:∀b o,s.heap.get? b=some o->b≠T0->b≠T:=λb o q n z=>by
  rcases tn with tn |tn
  ·rw[z,tn] at q;cases q
  ·exact n (z.trans tn)
 have kept:∀b o,s.heap.get? b=some o->b∉mS (env :: outer)->((∃o0,h₀.get? b=some o0)\/∃u,H b=some u)->h5.get? b=some o:=λb o q hb hor=>by
  have be:b≠e:=λz=>by subst z;rcases hor with⟨_,z⟩ | ⟨_,z⟩ <;> simp_all
  have bT:b≠T0:=λz=>by subst z;rcases hor with⟨_,z⟩ | ⟨_,z⟩ <;> simp_all
  exact kp5 b o (kp b o q hb (by simp[be,bT])) (by simp) (by simp[nT b o q bT])
 have slot:∀b o,s.heap.get? b=some o->b∈mS (env :: outer)->∃sl,h5.get? b=some {o with slots:=sl}:=λb o q hb=>by
  obtain⟨x,q4⟩:=sl b o q hb
  exact⟨x,kp5 b _ q4 (by simp) (by simp[nT b o q λz=>tF (z▸hb)])⟩
 have fresh:H T=none/\h₀.get? T=none:=by
  rcases tn with tn |tn
  ·refine⟨?_,?_⟩
   ·cases q:H T with
    |none=>rfl
    |some u=>obtain⟨o,qo⟩:=(hok T u q).there;rw[tn] at qo;cases qo
   ·cases q:h₀.get? T with
    |none=>rfl
    |some u=>obtain⟨o,qo⟩:=hex T u q;rw[tn] at qo;cases qo
  ·rw[tn];exact⟨hHT,hnT⟩
 refine hQ h5 kept slot ⟨fr,nw,T,rc5,fresh.1,fresh.2⟩ (CV hok λb o q hu=>kept b o q (λz=>?_) (.inr hu))
 obtain⟨u,hu⟩:=hu
 rw[hff b z] at hu;cases hu
end
section
variable {P:Program}{w:World}{K:Frag}{mg:Str->Option Value}{base:Heap}{N:List Str}{qual:Str}{scope:Scope}{f:Addr}{cd:Value}{A:Around}{outer:List Env}{s0:Shared}{H0:Hp}{E:XK}
def aU:Passes (mO P w) (o4 (mO P w) P w K mg base N qual scope f cd A outer s0 H0 E) E:=by
 intro pins σ H s e s' I hcx
 obtain⟨ea,cls,H',rfl,os,bare,un,hok,Ly,q⟩:=hcx
 have I':=I.call' os un hok bare (λb hb=>absurd hb (by simp))
 have old:∀{b:Addr},s.heap.get? b=none->s0.heap.get? b=none:=λ{b} hb=>by
  cases z:s0.heap.get? b with
  |none=>rfl
  |some o=>obtain⟨o',z'⟩:=I.base.there b o z (show b∉([]:List Addr) by simp);rw[hb] at z';cases z'
 have Ly0:Lies s0.heap H' s'.heap ea cls:=by
  obtain⟨fr,nw,T,rc,hHT,hnT⟩:=Ly
  exact⟨fr,old nw,T,rc,hHT,old hnT⟩
 have above:s0.heap.objs.size<=(envOfC qual scope s0.heap.objs.size f cd).locals:=I.ok.above
 refine CN (base:=base) (h₀:=s0.heap) I'.ok.frames rfl I'.stack I'.hok I'.stkFree Ly0 (λb o z=>I'.base.there b o z (show b∉([]:List Addr) by simp)) λh' kept slot Ly' hok'=>?_
 have nL:∀{b:Addr} {o:Obj},s0.heap.get? b=some o->b∉mS outer->b∉mS (envOfC qual scope s0.heap.objs.size f cd :: outer):=λ{b o} z hb hm=>by
  rcases MH.mp (I'.stkSub b hm) with e |e
  ·have:=MJ z
   rw[e] at this
   exact absurd (M7 this above) (M8 _)
  ·exact hb e
 have inn:∀{b:Addr},b∈mS outer->b∈mS (envOfC qual scope s0.heap.objs.size f cd :: outer):=λ{b} hb=>by
  obtain⟨en,h1,h2⟩:=OF.mp hb
  exact OF.mpr ⟨en,MN _ h1,h2⟩
 refine⟨ea,cls,H',rfl,os.trans I.os,bare,⟨λb o z n hb _=>?_,λb o z n hb _=>?_,λb o z n _=>I'.base.free b o z n (show b∉([]:List Addr) by simp),λb o z _=>?_,I'.base.tups,I'.base.frzs,I'.base.tbls⟩,hok',Ly',q⟩
 ·exact kept b o (I'.base.keep b o z n hb (show b∉([]:List Addr) by simp)) (nL z hb) (.inl ⟨o,z⟩)
 ·obtain⟨sl,z1⟩:=I'.base.slot b o z n hb (show b∉([]:List Addr) by simp)
  obtain⟨sl2,z2⟩:=slot b _ z1 (inn hb)
  exact⟨sl2,z2⟩
 ·obtain⟨o',z1⟩:=I'.base.there b o z (show b∉([]:List Addr) by simp)
  by_cases hb:b∈mS (envOfC qual scope s0.heap.objs.size f cd :: outer)
  ·obtain⟨sl,z2⟩:=slot b o' z1 hb
   exact⟨_,z2⟩
  ·exact⟨o',kept b o' z1 hb (.inl ⟨o,z⟩)⟩
end
def mroIn (K:Frag)(C:Addr):List Value:=match K.lookup C with
 |some ⟨_,_,.cls cd,_⟩=>cd.mro
 |_=>[]
structure CF (k:Nat)(A:Around):Prop where
 dp:A.depth + 3 * k + 5 < recursionLimit
 un:A.units + 16 * k + 200 < cLine
 gd:A.guards=some []
def dt.h {k:Nat}{A:Around}(r:dt k A):CF k A:=⟨r.dp,r.un,r.gd⟩
def CF.units {k:Nat}{A:Around}(r:CF k A):A.units + 64 < cLine:=by have:=r.un;omega
section
variable {P:Program}{w:World}{K:Frag}{mg:Str->Option Value}{base:Heap}
def AS.Fv {x qual:Str}{st:Stmt}{f:Addr}{fd:FuncData}{N ps:List Str}{k:Nat}{sp:Sp}(F:AS K x qual st f fd)(S:aF N ps (ao st))(len:∀vs H Q E,sp vs H Q E->vs.length=ps.length)
  (hbody:∀(cdv:Value) (A:Around) (outer:List Env) (s:Shared) (H:Hp) (vs:List V) (Q:VK) (E:XK),dt k (A.deeper (envOfC qual (ao st) s.heap.objs.size f cdv))->sp vs H Q E->
   ∃t,rB (o4 (mO P w) P w K mg base N qual (ao st) f cdv A outer s H E) (cU st) t/\t {nx:=λ_ H'=>Q .non H',rt:=Q} (start N vs) H):e8 P w K mg base (mO P w) (k + 1) f fd ps sp:=by
 obtain⟨oc,od,kV,doc,pm,an,cdv,ct,osl,rfl,lk,hcd⟩:=F.ex
 exact Bo lk hcd S len λA outer s H vs Q E hr hsp=>hbody cdv A outer s H vs Q E hr hsp
end
section
variable {X:Cx}
def fY (hu:X.A.units + 100 < cLine):kT X (compareOp .NotIn) (GA X.K true):=by
 intro pins s σ H x y v u Q I rx ry h
 obtain⟨p,xs,d,ds,rfl,hq,hs,hx,s1,s2,q⟩:=h
 cases ry
 obtain⟨bs,r2⟩:=hx.reads I rx
 have key:∀{e:PyData} {as:List Addr} {u:Value},SeqAt.shaped e=true->Reads s.heap u e as->SeqAt.EqAt X.A.in1 s u v (PyData.eqv e d):=λ{e as u} h1 h2=>by
  refine SeqAt.eqAt_reads _ _ _ _ _ _ _ _ h2 r2 (NX h1) (NX s1) ?_
  have:=SeqAt.depth_of_shaped h1
  show X.A.units + 1 + _ < _
  omega
 rcases hq with hq |hq
 ·obtain⟨its,r,pl,hz⟩:=I.list hq
  obtain⟨f,e1,e2⟩:=mZ I d r hs s2
  refine SeqAt.notIn_listAt f pl.isList (λw hw=>?_) ⟨.bl _,H,I,rfl,?_⟩
  ·obtain⟨e,as,hm,rd,ef⟩:=e2 w (by simpa using hw)
   rw[ef];exact key (s2 e hm) rd
  ·rw[show its.toArray.any f=its.any f by simp,e1];exact q
 ·obtain⟨its,r,pl,hz⟩:=I.tuple hq
  obtain⟨f,e1,e2⟩:=mZ I d r hs s2
  refine SeqAt.notIn_tupleAt f pl (λw hw=>?_) ⟨.bl _,H,I,rfl,?_⟩
  ·obtain⟨e,as,hm,rd,ef⟩:=e2 w (by simpa using hw)
   rw[ef];exact key (s2 e hm) rd
  ·rw[show its.toArray.any f=its.any f by simp,e1];exact q
end
abbrev D:=PyData
def kD:Key->D
 | .inl i=>.int i
 | .inr x=>.str x
mutual
inductive Rp (K:Frag)(G:Hp):V->D->Prop
 |non:Rp K G .non .none
 |bl (b:Bool):Rp K G (.bl b) (.bool b)
 |int (i:Int):Rp K G (.int i) (.int i)
 |str (x:Str):Rp K G (.str x) (.str x)
 |tup {a:Addr} {xs:List V} {ds:List D}:gM K G a xs->cj K G xs ds->Rp K G (.ref a) (.tuple ds)
 |lst {a:Addr} {xs:List V} {ds:List D}:G a=some (.lst xs)->cj K G xs ds->Rp K G (.ref a) (.list ds)
 |scr {a:Addr} {ns:List Int}:gN K G a (ns.map V.int)->Rp K G (.ref a) (.dict [(.none,.list (ns.map int))])
 |dK {a:Addr} {kvs:List (Key×V)} {ds:List (D×D)}:G a=some (.dK kvs)->zu K G kvs ds->Rp K G (.ref a) (.dict ds)
 |dT {a:Addr} {kvs:List (List Key×V)} {ds:List (D×D)}:G a=some (.dT kvs)->AX K G kvs ds->Rp K G (.ref a) (.dict ds)
inductive cj (K:Frag)(G:Hp):List V->List D->Prop
 |nil:cj K G [] []
 |cons {x:V} {xs:List V} {d:D} {ds:List D}:Rp K G x d->cj K G xs ds->cj K G (x :: xs) (d :: ds)
inductive zu (K:Frag)(G:Hp):List (Key×V)->List (D×D)->Prop
 |nil:zu K G [] []
 |cons {k:Key} {x:V} {xs:List (Key×V)} {d:D} {ds:List (D×D)}:Rp K G x d->zu K G xs ds->zu K G ((k,x) :: xs) ((kD k,d) :: ds)
inductive AX (K:Frag)(G:Hp):List (List Key×V)->List (D×D)->Prop
 |nil:AX K G [] []
 |cons {k:List Key} {x:V} {xs:List (List Key×V)} {d:D} {ds:List (D×D)}:Rp K G x d->AX K G xs ds->AX K G ((k,x) :: xs) ((.tuple (k.map kD),d) :: ds)
end
section
variable {K:Frag}{G G' H H':Hp}
def Jb {b:Addr}{o:HO}(h:Kt H b o)(hu:∀ps,o≠.tbl ps):H b=some o:=by
 obtain⟨u,e,k,_⟩:=h.some
 rw[e,k hu]
def t9 {b:Addr}{o:HO}{xs:List V}(h:Kt H b o)(e:H b=some (.lst xs)):o=.lst xs:=by
 obtain⟨u,eu,k1,k2⟩:=h.some
 rw[e] at eu
 cases eu
 by_cases c:∃ps,o=.tbl ps
 ·obtain⟨ps,z⟩:=k2 c;cases z
 ·exact (k1 λps z=>c ⟨ps,z⟩).symm
theorem lI {a b:Addr}{o u:HO}(h:Kt H b u)(hb:b≠a)(ha:∀x y,H a≠some (.aS x y)):Kt (upd H a o) b u:=by
 cases u with
 |tbl ps=>
  obtain⟨m,e,t,k⟩:=h
  refine⟨m,by rw[ay hb];exact e,t,λc hc=>?_⟩
  obtain⟨x,ex,ix⟩:=k c hc
  exact⟨x,by rw[ay (λz=>ha x _ (z▸ex))];exact ex,ix⟩
 |_=>exact (ay hb).trans h
def Rd.mono {a:Addr}{u:HO}(h:Rd G a u)(s:ah G G')(hu:∀ps,u≠.tbl ps:=by intro _ z;cases z):Rd G' a u:=h.elim (λe=>.inl (Jb (s _ _ e) hu)) λ⟨o,e⟩=>.inr ⟨o,s _ _ e⟩
mutual
theorem Rp.mono (s:ah G G'):∀{x:V} {d:D},Rp K G x d->Rp K G' x d
 |_,_,.non=>.non
 |_,_,.bl b=>.bl b
 |_,_,.int i=>.int i
 |_,_,.str x=>.str x
 |_,_,.tup h hs=>.tup (h.grow s.grow) (cj.mono s hs)
 |_,_,.lst h hs=>.lst (s _ _ h) (cj.mono s hs)
 |_,_,.scr h=>.scr (s.seq h)
 |_,_,.dK h hs=>.dK (s _ _ h) (zu.mono s hs)
 |_,_,.dT h hs=>.dT (s _ _ h) (AX.mono s hs)
theorem cj.mono (s:ah G G'):∀{xs:List V} {ds:List D},cj K G xs ds->cj K G' xs ds
 |_,_,.nil=>.nil
 |_,_,.cons h hs=>.cons (Rp.mono s h) (cj.mono s hs)
theorem zu.mono (s:ah G G'):∀{xs:List (Key×V)} {ds:List (D×D)},zu K G xs ds->zu K G' xs ds
 |_,_,.nil=>.nil
 |_,_,.cons h hs=>.cons (Rp.mono s h) (zu.mono s hs)
theorem AX.mono (s:ah G G'):∀{xs:List (List Key×V)} {ds:List (D×D)},AX K G xs ds->AX K G' xs ds
 |_,_,.nil=>.nil
 |_,_,.cons h hs=>.cons (Rp.mono s h) (AX.mono s hs)
end
theorem cj.len:∀{xs:List V} {ds:List D},cj K G xs ds->xs.length=ds.length
 |_,_,.nil=>rfl
 |_,_,.cons _ t=>by simp[cj.len t]
theorem cj.at:∀{xs:List V} {ds:List D} {i:Nat} {d:D},cj K G xs ds->ds[i]? =some d->∃x,xs[i]? =some x/\Rp K G x d
 |_,_,_,_,.nil,e=>by simp at e
 |_,_,0,_,.cons r _,e=>by simp at e;subst e;exact⟨_,rfl,r⟩
 |_,_,i + 1,x,.cons _ t,e=>by
  obtain⟨u,h1,h2⟩:=cj.at (i:=i) (d:=x) t (by simpa using e)
  exact⟨u,by simpa using h1,h2⟩
theorem cj.at':∀{xs:List V} {ds:List D} {i:Nat} {x:V},cj K G xs ds->xs[i]? =some x->∃d,ds[i]? =some d/\Rp K G x d
 |_,_,_,_,.nil,e=>by simp at e
 |_,_,0,_,.cons r _,e=>by simp at e;subst e;exact⟨_,rfl,r⟩
 |_,_,i + 1,x,.cons _ t,e=>by
  obtain⟨u,h1,h2⟩:=cj.at' (i:=i) (x:=x) t (by simpa using e)
  exact⟨u,by simpa using h1,h2⟩
theorem cj.append:∀{xs ys:List V} {ds es:List D},cj K G xs ds->cj K G ys es->cj K G (xs ++ ys) (ds ++ es)
 |_,_,_,_,.nil,s=>s
 |_,_,_,_,.cons r t,s=>.cons r (cj.append t s)
def cj.snoc {xs:List V}{ds:List D}{x:V}{d:D}(h:cj K G xs ds)(q:Rp K G x d):cj K G (xs ++ [x]) (ds ++ [d]):=h.append (.cons q .nil)
theorem cj.take:∀{xs:List V} {ds:List D} (n:Nat),cj K G xs ds->cj K G (xs.take n) (ds.take n)
 |_,_,0,_=>.nil
 |_,_,_ + 1,.nil=>.nil
 |_,_,n + 1,.cons r t=>.cons r (cj.take n t)
theorem cj.drop:∀{xs:List V} {ds:List D} (n:Nat),cj K G xs ds->cj K G (xs.drop n) (ds.drop n)
 |_,_,0,r=>r
 |_,_,_ + 1,.nil=>.nil
 |_,_,n + 1,.cons _ t=>cj.drop n t
theorem cj.set {x:V}{d:D}(r:Rp K G x d):∀{xs:List V} {ds:List D} (i:Nat),cj K G xs ds->cj K G (xs.set i x) (ds.set i d)
 |_,_,_,.nil=>.nil
 |_,_,0,.cons _ t=>.cons r t
 |_,_,i + 1,.cons q t=>.cons q (cj.set r i t)
theorem cj.rep {n:Nat}{xs:List V}{ds:List D}(h:cj K G xs ds):cj K G (List.replicate n xs).flatten (List.replicate n ds).flatten:=by
 induction n with
 |zero=>exact .nil
 |succ n ih=>rw[Nw,Nw,NT,NT];exact h.append ih
mutual
def AR:D->Bool
 | .dict _=>false
 | .list ds=>rG ds
 | .tuple ds=>rG ds
 |_=>true
def rG:List D->Bool
 | []=>true
 |d :: ds=>AR d && rG ds
end
mutual
theorem Rp.rep:∀{x:V} {d:D},Rp K G x d->AR d=true->Rep K G x d
 |_,_,.non,_=>.non
 |_,_,.bl b,_=>.bl b
 |_,_,.int i,_=>.int i
 |_,_,.str x,_=>.str x
 |_,_,.tup h hs,e=>.tup h (cj.reps hs (by simpa[AR] using e))
 |_,_,.lst h hs,e=>.lst (.inl (.inl h)) (cj.reps hs (by simpa[AR] using e))
 |_,_,.scr _,e=>by simp[AR] at e
 |_,_,.dK _ _,e=>by simp[AR] at e
 |_,_,.dT _ _,e=>by simp[AR] at e
theorem cj.reps:∀{xs:List V} {ds:List D},cj K G xs ds->rG ds=true->jW K G xs ds
 |_,_,.nil,_=>.nil
 |_,_,.cons h hs,e=>.cons (Rp.rep h (by simp[rG] at e;exact e.1)) (cj.reps hs (by simp[rG] at e;exact e.2))
end
def Own (K:Frag)(G H:Hp)(a:Addr):D->Prop
 | .list ds=>∃xs,H a=some (.lst xs)/\cj K G xs ds
 | .dict ds=>(∃kvs,H a=some (.dK kvs)/\zu K G kvs ds)\/∃kvs,H a=some (.dT kvs)/\AX K G kvs ds
 |_=>False
def Own.obj {a:Addr}{d:D}(h:Own K G H a d):∃o,H a=some o:=by
 cases d <;> first |exact h.elim |skip
 ·obtain⟨xs,e,_⟩:=h;exact⟨_,e⟩
 ·rcases h with⟨_,e,_⟩ | ⟨_,e,_⟩ <;> exact⟨_,e⟩
def Own.mono {a:Addr}{d:D}(h:Own K G H a d)(s:ah G G')(m:∀o,H a=some o->Kt H' a o):Own K G' H' a d:=by
 cases d <;> first |exact h.elim |skip
 ·obtain⟨xs,e,r⟩:=h;exact⟨xs,m _ e,r.mono s⟩
 ·rcases h with⟨k,e,r⟩ | ⟨k,e,r⟩
  ·exact .inl ⟨k,m _ e,r.mono s⟩
  ·exact .inr ⟨k,m _ e,r.mono s⟩
def Own.rp {a:Addr}{d:D}(h:Own K G H a d)(n:G a=none){G':Hp}(s:ah G G')(e:∀o,H a=some o->G' a=some o):Rp K G' (.ref a) d:=by
 cases d <;> first |exact h.elim |skip
 ·obtain⟨xs,q,r⟩:=h;exact .lst (e _ q) (r.mono s)
 ·rcases h with⟨k,q,r⟩ | ⟨k,q,r⟩
  ·exact .dK (e _ q) (r.mono s)
  ·exact .dT (e _ q) (r.mono s)
def l6 (K:Frag)(B:Option Addr)(G H:Hp)(v:V)(d:D):Prop:=Rp K G v d\/∃a,v=.ref a/\B≠some a/\Own K G H a d
def gR (B:Option Addr)(H H':Hp):Prop:=(∀b o,H b=some o->B≠some b->Kt H' b o)/\∀b o u,H b=some (.aS o u)->H' b=some (.aS o u)
def gR.refl (B:Option Addr)(H:Hp):gR B H H:=⟨λ_ _ h _=>Kt.of h,λ_ _ _ h=>h⟩
theorem qv {B:Option Addr}{b:Addr}{o:HO}(h1:Kt H b o)(y:gR B H H')(n:B≠some b):Kt H' b o:=by
 cases o with
 |tbl ps=>
  obtain⟨m,e,t,k⟩:=h1
  obtain⟨m2,e2,t2,k2⟩:=y.1 b _ e n
  refine⟨m ++ m2,by rw[e2,Array.append_assoc],by rw[N3];exact t.app t2,λc hc=>?_⟩
  rw[N3,MU] at hc
  rcases hc with hc |hc
  ·obtain⟨o,eo,io⟩:=k c hc;exact⟨o,y.2 c _ _ eo,io⟩
  ·exact k2 c hc
 |_=>exact y.1 b _ h1 n
def gR.trans {B:Option Addr}{H1:Hp}(x:gR B H H1)(y:gR B H1 H'):gR B H H':=⟨λb o h n=>qv (x.1 b o h n) y n,λb o u h=>y.2 b o u (x.2 b o u h)⟩
def ah.mov (s:ah H H')(B:Option Addr):gR B H H':=⟨λb o h _=>s b o h,λb o u h=>s b _ h⟩
def l6.mono {B:Option Addr}{v:V}{d:D}(h:l6 K B G H v d)(s:ah G G')(m:gR B H H'):l6 K B G' H' v d:=by
 rcases h with h | ⟨a,e,n,h⟩
 ·exact .inl (h.mono s)
 ·exact .inr ⟨a,e,n,h.mono s λo q=>m.1 a o q n⟩
def l6.rpH {B:Option Addr}{v:V}{d:D}(h:l6 K B G H v d)(s:ah G H):Rp K H v d:=by
 rcases h with h | ⟨a,rfl,n,h⟩
 ·exact h.mono s
 ·cases d <;> first |exact h.elim |skip
  ·obtain⟨xs,q,r⟩:=h;exact .lst q (r.mono s)
  ·rcases h with⟨k,q,r⟩ | ⟨k,q,r⟩
   ·exact .dK q (r.mono s)
   ·exact .dT q (r.mono s)
def l6.list {B:Option Addr}{v:V}{ds:List D}(h:l6 K B G H v (.list ds))(s:ah G H):∃a xs,v=.ref a/\Rd H a (.lst xs)/\cj K G xs ds:=by
 rcases h with h | ⟨a,rfl,n,xs,q,r⟩
 ·cases h with
  |lst h r=>exact⟨_,_,rfl,.inl (s _ _ h),r⟩
 ·exact⟨a,xs,rfl,.inl q,r⟩
def l6.tuple {B:Option Addr}{v:V}{ds:List D}(h:l6 K B G H v (.tuple ds))(s:ah G H):∃a xs,v=.ref a/\gM K H a xs/\cj K G xs ds:=by
 rcases h with h | ⟨a,rfl,n,h⟩
 ·cases h with
  |tup h r=>exact⟨_,_,rfl,h.grow s.grow,r⟩
 ·exact h.elim
def l6.int {B:Option Addr}{v:V}{i:Int}(h:l6 K B G H v (.int i)):v=.int i:=by
 rcases h with h | ⟨a,rfl,n,h⟩
 ·cases h;rfl
 ·exact h.elim
def l6.bool {B:Option Addr}{v:V}{b:Bool}(h:l6 K B G H v (.bool b)):v=.bl b:=by
 rcases h with h | ⟨a,rfl,n,h⟩
 ·cases h;rfl
 ·exact h.elim
def l6.str {B:Option Addr}{v:V}{x:Str}(h:l6 K B G H v (.str x)):v=.str x:=by
 rcases h with h | ⟨a,rfl,n,h⟩
 ·cases h;rfl
 ·exact h.elim
def l6.none {B:Option Addr}{v:V}(h:l6 K B G H v .none):v=.non:=by
 rcases h with h | ⟨a,rfl,n,h⟩
 ·cases h;rfl
 ·exact h.elim
end
def Fz:HO->Prop
 | .tup _=>True
 | .aS _ _=>True
 |_=>False
def Mx (H:Hp)(b:Addr):Prop:=H b≠none/\∀o,H b=some o->¬Fz o
def Mx.lst {H:Hp}{b:Addr}{xs:List V}(h:H b=some (.lst xs)):Mx H b:=⟨by rw[h];simp,λys z=>by rw[h] at z;cases z;exact λy=>y⟩
theorem Mx.same {H H':Hp}{b:Addr}(h:Mx H b)(m:∀o,H b=some o->Kt H' b o):Mx H' b:=by
 obtain⟨h1,h2⟩:=h
 cases e:H b with
 |none=>exact absurd e h1
 |some o=>
  obtain⟨u,eu,k1,k2⟩:=(m o e).some
  refine⟨by rw[eu];simp,λxs z=>?_⟩
  rw[eu] at z
  cases z
  by_cases c:∃ps,o=.tbl ps
  ·obtain⟨ps,e⟩:=k2 c;rw[e];exact λy=>y
  ·rw[k1 λps e=>c ⟨ps,e⟩];exact h2 o e
def Own.mx {K:Frag}{G H:Hp}{a:Addr}{d:D}(h:Own K G H a d):Mx H a:=by
 cases d <;> first |exact h.elim |skip
 ·obtain⟨xs,e,_⟩:=h;exact Mx.lst e
 ·rcases h with⟨k,e,_⟩ | ⟨k,e,_⟩ <;> exact⟨by rw[e];simp,λys z=>by rw[e] at z;cases z;exact λy=>y⟩
open Classical in
noncomputable def eY (G H:Hp):Hp:=λb=>match G b with
 |some o=>some o
 |none=>match H b with
  |some o=>if Fz o then some o else none
  |none=>none
def jX {G H:Hp}:ah G (eY G H):=λb o e=>Kt.of (by unfold eY;rw[e])
theorem tf {G H:Hp}(s:ah G H){b:Addr}{o:HO}(e:H b=some o)(f:Fz o):eY G H b=some o:=by
 unfold eY
 cases q:G b with
 |some u=>
  obtain⟨u',eu,k1,k2⟩:=(s b u q).some
  rw[e] at eu
  cases eu
  by_cases c:∃ps,u=.tbl ps
  ·obtain⟨ps,z⟩:=k2 c;subst z;exact f.elim
  ·rw[k1 λps z=>c ⟨ps,z⟩]
 |none=>simp only[e];rw[My f]
theorem iN {G H:Hp}(s:ah G H):ah (eY G H) H:=λb o e=>by
 unfold eY at e
 cases q:G b with
 |some u=>rw[q] at e;cases e;exact s b _ q
 |none=>
  rw[q] at e
  cases q2:H b with
  |none=>rw[q2] at e;cases e
  |some u=>
   rw[q2] at e
   dsimp only at e
   split at e
   ·cases e;exact Kt.of q2
   ·cases e
theorem pC {G H H':Hp}(hh:ah H H'){b:Addr}(m:Mx H b):eY G H' b=G b:=by
 unfold eY
 cases q:G b with
 |some u=>rfl
 |none=>
  obtain⟨h1,h2⟩:=m
  cases e:H b with
  |none=>exact absurd e h1
  |some o=>
   have hm:=(show Mx H b from⟨h1,h2⟩).same (hh b)
   cases e2:H' b with
   |none=>rfl
   |some u=>simp only;rw[MG (hm.2 u e2)]
def mV {K:Frag}{G H:Hp}(s:ah G H){a:Addr}{xs:List V}(h:gM K H a xs):gM K (eY G H) a xs:=by
 rcases h with (h | ⟨o,h⟩) |h
 ·exact .inl (.inl (tf s h trivial))
 ·exact .inl (.inr ⟨o,tf s h trivial⟩)
 ·exact .inr h
structure Fx where
 K:Frag
 H0:Hp
 G0:Hp
 par:List Addr
 ca:Str->Addr
 br:Nat->Bool
 bx:Option Addr
inductive Sl where
 |no |fz (d:D) |ow (d:D) |bx |br (d:D)
abbrev En:=List Sl
inductive Nv where
 |no |da (d:D) |bx
def Sl.val:Sl->Nv
 | .no=>.no
 | .fz d=>.da d
 | .ow d=>.da d
 | .br d=>.da d
 | .bx=>.bx
def vl (env:En):List Nv:=env.map Sl.val
def LS (Γ:Fx)(B:Option Addr)(G H:Hp)(i:Nat)(o:Option (Option V)):Sl->Prop
 | .no=>True
 | .fz d=>∃v,o=some (some v)/\Rp Γ.K G v d
 | .ow d=>∃a,o=some (some (.ref a))/\Γ.H0 a=none/\G a=none/\B≠some a/\Own Γ.K G H a d
 | .bx=>∃a,o=some (some (.ref a))/\B=some a
 | .br d=>Γ.br i=true/\∃a,o=some (some (.ref a))/\B≠some a/\a∉Γ.par/\Own Γ.K G H a d
structure SR (Γ:Fx)(B:Option Addr)(G H:Hp)(σ:St)(env:En)(β:Int):Prop where
 sub:ah G H
 old:ah Γ.G0 G
 new:∀b,Mx Γ.H0 b->Γ.G0 b=none->G b=none
 keep:∀b o,Γ.H0 b=some o->b∉Γ.par->Kt H b o
 pin:∀b,b∈Γ.par->Mx H b
 fix:∀b,Γ.bx=some b->B=some b
 box:∀b,B=some b->H b=some (.lst [.int β])/\G b=none/\(b∈Γ.par\/Γ.H0 b=none)
 len:σ.length=env.length
 slot:∀(i:Nat) (s:Sl),env[i]? =some s->LS Γ B G H i (σ[i]?) s
 sep:∀(i j:Nat) (a:Addr) (d e:D),env[i]? =some (.ow d)->env[j]? =some (.ow e)->σ[i]? =some (some (.ref a))->σ[j]? =some (some (.ref a))->i=j
structure Ext (G H G' H':Hp):Prop where
 hh:ah H H'
 gg:ah G G'
 gh:ah G' H'
 on:∀b,Mx H b->G' b=G b
def Ext.refl {G H:Hp}(s:ah G H):Ext G H G H:=⟨ah.refl _,ah.refl _,s,λ_ _=>rfl⟩
def Ext.tups {G H H':Hp}(s:ah G H)(hh:ah H H'):Ext G H (eY G H') H':=⟨hh,jX,iN (s.trans hh),λ_ m=>pC hh m⟩
def Ext.new {G H:Hp}(s:ah G H){p:Addr}{o:HO}(h:H p=none):Ext G H (upd G p o) (upd H p o):=by
 refine⟨ah.new h,ah.new (s.free h),λb u e=>?_,λb hb=>?_⟩
 ·by_cases z:b=p
  ·subst z;rw[aA] at e;exact Kt.of (by rw[aA];exact e)
  ·rw[ay z] at e;exact lI (s b u e) z (λx y w=>by rw[h] at w;cases w)
 ·exact ay (λz=>hb.1 (by rw[z];exact h))
def Ext.own {G H:Hp}(s:ah G H){p:Addr}{o:HO}(h:H p=none):Ext G H G (upd H p o):=
 ⟨ah.new h,ah.refl _,s.trans (ah.new h),λ_ _=>rfl⟩
def Ext.trans {G H G1 H1 G2 H2:Hp}(x:Ext G H G1 H1)(y:Ext G1 H1 G2 H2):Ext G H G2 H2:=by
 refine⟨x.hh.trans y.hh,x.gg.trans y.gg,y.gh,λb hb=>?_⟩
 rw[y.on b (hb.same λo e=>x.hh b o e),x.on b hb]
section
variable {Γ:Fx}{B:Option Addr}{G H G' H':Hp}{σ:St}{env:En}{β:Int}
def SR.there (I:SR Γ B G H σ env β){b:Addr}(h:Γ.H0 b≠none):H b≠none:=by
 by_cases hp:b∈Γ.par
 ·exact (I.pin b hp).1
 ·cases e:Γ.H0 b with
  |none=>exact absurd e h
  |some o=>obtain⟨u,eu,_⟩:=(I.keep b o e hp).some;rw[eu];simp
def SR.thereM (I:SR Γ B G H σ env β){b:Addr}(h:Mx Γ.H0 b):Mx H b:=by
 by_cases hp:b∈Γ.par
 ·exact I.pin b hp
 ·exact h.same λo e=>I.keep b o e hp
def SR.ext (I:SR Γ B G H σ env β)(x:Ext G H G' H'):SR Γ B G' H' σ env β:=by
 refine⟨x.gh,I.old.trans x.gg,λb h1 h2=>?_,λb o h1 h2=>(I.keep b o h1 h2).step x.hh,λb hb=>?_,I.fix,λb e=>?_,I.len,λi s e=>?_,I.sep⟩
 ·rw[x.on b (I.thereM h1)];exact I.new b h1 h2
 ·exact (I.pin b hb).same λo e=>x.hh b o e
 ·obtain⟨h1,h2,h3⟩:=I.box b e
  exact⟨x.hh b _ h1,by rw[x.on b (Mx.lst h1)];exact h2,h3⟩
 ·have q:=I.slot i s e
  cases s with
  |no=>trivial
  |fz d=>obtain⟨v,h1,h2⟩:=q;exact⟨v,h1,h2.mono x.gg⟩
  |ow d=>
   obtain⟨a,h1,h2,h3,h4,h5⟩:=q
   exact⟨a,h1,h2,by rw[x.on a h5.mx];exact h3,h4,h5.mono x.gg λo q=>x.hh a o q⟩
  |bx=>exact q
  |br d=>obtain⟨b1,a,h1,h4,hp,h5⟩:=q;exact⟨b1,a,h1,h4,hp,h5.mono x.gg λo q=>x.hh a o q⟩
def gF (env:En)(i:Nat):En:=match env[i]? with
 |some (.ow d)=>env.set i (.fz d)
 |_=>env
def aS (L:List Nat)(env:En):En:=L.foldl gF env
def bZ (L M:List Nat)(env:En):aS (L ++ M) env=aS M (aS L env):=by unfold aS;rw[List.foldl_append]
def wZ (env:En)(i:Nat)(s:Sl)(h:∀t,env[i]? =some t->t.val=s.val):vl (env.set i s)=vl env:=by
 unfold vl
 apply List.ext_getElem?
 intro j
 rw[ML,ML,List.getElem?_set]
 by_cases e:i=j
 ·subst e
  by_cases hi:i < env.length
  ·simp only[NJ,hi]
   have:=h _ (Mw hi)
   simp[Mw hi,this]
  ·simp only[NJ,hi,NS]
   rw[N0 (by omega)]
 ·simp[e]
def EV (env:En)(i:Nat):vl (gF env i)=vl env:=by
 unfold gF
 split
 ·rename_i d e
  exact wZ _ _ _ λt ht=>by rw[e] at ht;cases ht;rfl
 ·rfl
theorem dc (L:List Nat)(env:En):vl (aS L env)=vl env:=by
 unfold aS
 induction L generalizing env with
 |nil=>rfl
 |cons i L ih=>rw[List.foldl_cons,ih,EV]
theorem BG {i:Nat}{d:D}(h:(vl env)[i]? =some (.da d)):env[i]? =some (.fz d)\/env[i]? =some (.ow d)\/env[i]? =some (.br d):=by
 unfold vl at h
 rw[ML] at h
 cases e:env[i]? with
 |none=>rw[e] at h;simp at h
 |some s=>
  rw[e] at h
  cases s with
  |no=>simp[Sl.val] at h
  |fz d'=>simp[Sl.val] at h;subst h;exact .inl rfl
  |ow d'=>simp[Sl.val] at h;subst h;exact .inr (.inl rfl)
  |bx=>simp[Sl.val] at h
  |br d'=>simp[Sl.val] at h;subst h;exact .inr (.inr rfl)
theorem IM {i:Nat}(h:(vl env)[i]? =some .bx):env[i]? =some .bx:=by
 unfold vl at h
 rw[ML] at h
 cases e:env[i]? with
 |none=>rw[e] at h;simp at h
 |some s=>
  rw[e] at h
  cases s with
  |bx=>rfl
  |_=>simp[Sl.val] at h
def SR.freeze (I:SR Γ B G H σ env β)(i:Nat)(hb:Γ.br i=false){d:D}(h:(vl env)[i]? =some (.da d)):∃G' v,SR Γ B G' H σ (gF env i) β/\ah G G'/\σ[i]? =some (some v)/\Rp Γ.K G' v d:=by
 rcases BG h with e |e |e
 ·obtain⟨v,h1,h2⟩:=I.slot i _ e
  exact⟨G,v,by unfold gF;rw[e];exact I,ah.refl _,h1,h2⟩
 rotate_left
 ·obtain⟨z,_⟩:=I.slot i _ e
  rw[hb] at z;cases z
 ·obtain⟨a,h1,h2,h3,h4,h5⟩:=I.slot i _ e
  obtain⟨o,ho⟩:=h5.obj
  have sG:ah G (upd G a o):=ah.new h3
  have hi:i < env.length:=(MF.mp e).1
  have hr:Rp Γ.K (upd G a o) (.ref a) d:=h5.rp h3 sG λo' q=>by rw[ho] at q;cases q;exact aA
  refine⟨upd G a o,.ref a,?_,sG,h1,hr⟩
  unfold gF
  rw[e]
  refine⟨λb u q=>?_,I.old.trans sG,λb n1 n2=>?_,I.keep,I.pin,I.fix,λb q=>?_,by rw[N9];exact I.len,λj s q=>?_,λj k c d1 d2 q1 q2 q3 q4=>?_⟩
  ·by_cases z:b=a
   ·subst z;rw[aA] at q;cases q;exact Kt.of ho
   ·rw[ay z] at q;exact I.sub b u q
  ·rw[ay (λz=>n1.1 (by rw[z];exact h2))];exact I.new b n1 n2
  ·obtain⟨k1,k2,k3⟩:=I.box b q
   exact⟨k1,by rw[ay (λz=>h4 (by rw[<-z];exact q))];exact k2,k3⟩
  ·by_cases z:j=i
   ·subst z
    rw[MX hi] at q
    cases q
    exact⟨.ref a,h1,hr⟩
   ·rw[MW (Ne.symm z)] at q
    have w:=I.slot j s q
    cases s with
    |no=>trivial
    |fz d'=>obtain⟨v,w1,w2⟩:=w;exact⟨v,w1,w2.mono sG⟩
    |ow d'=>
     obtain⟨c,w1,w2,w3,w4,w5⟩:=w
     have ca:c≠a:=λz2=>z (I.sep j i c d' d q e w1 (by rw[z2];exact h1))
     exact⟨c,w1,w2,by rw[ay ca];exact w3,w4,w5.mono sG λo q=>Kt.of q⟩
    |bx=>exact w
    |br d'=>obtain⟨b1,c,w1,w4,wp,w5⟩:=w;exact⟨b1,c,w1,w4,wp,w5.mono sG λo q=>Kt.of q⟩
  ·have ne:∀{j:Nat} {d':D},(env.set i (Sl.fz d))[j]? =some (.ow d')->env[j]? =some (.ow d'):=λ{j d'} q=>by
    by_cases z:j=i
    ·subst z;rw[MX hi] at q;cases q
    ·rw[MW (Ne.symm z)] at q;exact q
   exact I.sep j k c d1 d2 (ne q1) (ne q2) q3 q4
theorem SR.aS (I:SR Γ B G H σ env β)(L:List Nat)(hb:∀i,i∈L->Γ.br i=false):∃G',SR Γ B G' H σ (aS L env) β/\ah G G':=by
 induction L generalizing env G with
 |nil=>exact⟨G,I,ah.refl _⟩
 |cons i L ih=>
  show ∃G',SR Γ B G' H σ (L2.aS L (gF env i)) β/\ah G G'
  have key:∃G1,SR Γ B G1 H σ (gF env i) β/\ah G G1:=by
   cases e:env[i]? with
   |none=>exact⟨G,by unfold gF;rw[e];exact I,ah.refl _⟩
   |some s=>
    cases s with
    |ow d=>
     obtain⟨G1,v,h1,h2,_⟩:=I.freeze i (hb i (MM ..)) (d:=d) (by unfold vl;rw[ML,e];rfl)
     exact⟨G1,h1,h2⟩
    |_=>exact⟨G,by unfold gF;rw[e];exact I,ah.refl _⟩
  obtain⟨G1,I1,s1⟩:=key
  obtain⟨G2,I2,s2⟩:=ih I1 λj hj=>hb j (MN _ hj)
  exact⟨G2,I2,s1.trans s2⟩
def SR.set (I:SR Γ B G H σ env β){i:Nat}(hi:i < env.length){v:V}{d:D}(h:Rp Γ.K G v d):SR Γ B G H (σ.set i (some v)) (env.set i (.fz d)) β:=by
 have hs:i < σ.length:=by rw[I.len];exact hi
 refine⟨I.sub,I.old,I.new,I.keep,I.pin,I.fix,I.box,by rw[N9,N9];exact I.len,λj s q=>?_,λj k c d1 d2 q1 q2 q3 q4=>?_⟩
 ·by_cases z:j=i
  ·subst z
   rw[MX hi] at q
   cases q
   exact⟨v,by rw[MX hs],h⟩
  ·rw[MW (Ne.symm z)] at q ⊢
   exact I.slot j s q
 ·have ne:∀{j:Nat} {d':D},(env.set i (Sl.fz d))[j]? =some (.ow d')->j≠i/\env[j]? =some (.ow d'):=λ{j d'} q=>by
   by_cases z:j=i
   ·subst z;rw[MX hi] at q;cases q
   ·rw[MW (Ne.symm z)] at q;exact⟨z,q⟩
  obtain⟨n1,e1⟩:=ne q1
  obtain⟨n2,e2⟩:=ne q2
  rw[MW (Ne.symm n1)] at q3
  rw[MW (Ne.symm n2)] at q4
  exact I.sep j k c d1 d2 e1 e2 q3 q4
def SR.setOw (I:SR Γ B G H σ env β){i:Nat}(hi:i < env.length){a:Addr}{d:D}(h0:Γ.H0 a=none)(hg:G a=none)(hb:B≠some a)(h:Own Γ.K G H a d)(hn:∀(j:Nat) (d':D),env[j]? =some (.ow d')->j≠i->σ[j]?≠some (some (.ref a))):SR Γ B G H (σ.set i (some (.ref a))) (env.set i (.ow d)) β:=by
 have hs:i < σ.length:=by rw[I.len];exact hi
 refine⟨I.sub,I.old,I.new,I.keep,I.pin,I.fix,I.box,by rw[N9,N9];exact I.len,λj s q=>?_,λj k c d1 d2 q1 q2 q3 q4=>?_⟩
 ·by_cases z:j=i
  ·subst z
   rw[MX hi] at q
   cases q
   exact⟨a,by rw[MX hs],h0,hg,hb,h⟩
  ·rw[MW (Ne.symm z)] at q ⊢
   exact I.slot j s q
 ·by_cases z1:j=i
  ·by_cases z2:k=i
   ·rw[z1,z2]
   ·subst z1
    rw[MW (Ne.symm z2)] at q2 q4
    rw[MX hs] at q3
    cases q3
    exact absurd q4 (hn k d2 q2 z2)
  ·by_cases z2:k=i
   ·subst z2
    rw[MW (Ne.symm z1)] at q1 q3
    rw[MX hs] at q4
    cases q4
    exact absurd q3 (hn j d1 q1 z1)
   ·rw[MW (Ne.symm z1)] at q1 q3
    rw[MW (Ne.symm z2)] at q2 q4
    exact I.sep j k c d1 d2 q1 q2 q3 q4
def SR.fresh (I:SR Γ B G H σ env β){a:Addr}(h:H a=none):Γ.H0 a=none/\G a=none/\B≠some a/\∀(j:Nat) (d:D),env[j]? =some (.ow d)->σ[j]?≠some (some (.ref a)):=by
 have hB:B≠some a:=λz=>by rw[(I.box a z).1] at h;cases h
 refine⟨?_,I.sub.free h,hB,λj d e z=>?_⟩
 ·cases e:Γ.H0 a with
  |none=>rfl
  |some o=>exact absurd h (I.there (by rw[e];simp))
 ·obtain⟨c,h1,_,_,_,h5⟩:=I.slot j _ e
  rw[z] at h1
  cases h1
  obtain⟨o,ho⟩:=h5.obj
  rw[h] at ho;cases ho
def SR.write (I:SR Γ B G H σ env β)(hb:∀j,Γ.br j=false){i:Nat}{a:Addr}{d d':D}{o:HO}(e:env[i]? =some (.ow d))(ea:σ[i]? =some (some (.ref a)))(h:∀H',H' a=some o->ah G H'->Own Γ.K G H' a d'):SR Γ B G (upd H a o) σ (env.set i (.ow d')) β:=by
 obtain⟨a',h1,h2,h3,h4,h5⟩:=I.slot i _ e
 rw[ea] at h1;cases h1
 have hi:i < env.length:=(MF.mp e).1
 have ha:∀x y,H a≠some (.aS x y):=λx y w=>h5.mx.2 _ w trivial
 have sub:ah G (upd H a o):=λb u q=>lI (I.sub b u q) (λz=>by rw[z,h3] at q;cases q) ha
 refine⟨sub,I.old,I.new,λb u q n=>?_,λb q=>?_,I.fix,λb q=>?_,by rw[N9];exact I.len,λj s q=>?_,λj k c d1 d2 q1 q2 q3 q4=>?_⟩
 ·exact lI (I.keep b u q n) (λz=>by rw[z,h2] at q;cases q) ha
 ·by_cases z:b=a
  ·subst z;exact (h _ aA sub).mx
  ·exact (I.pin b q).same λo e=>Kt.of (by rw[ay z];exact e)
 ·obtain⟨k1,k2,k3⟩:=I.box b q
  exact⟨by rw[ay (λz=>h4 (by rw[<-z];exact q))];exact k1,k2,k3⟩
 ·by_cases z:j=i
  ·subst z
   rw[MX hi] at q
   cases q
   exact⟨a,ea,h2,h3,h4,h _ aA sub⟩
  ·rw[MW (Ne.symm z)] at q
   have w:=I.slot j s q
   cases s with
   |no=>trivial
   |fz d1=>exact w
   |ow d1=>
    obtain⟨c,w1,w2,w3,w4,w5⟩:=w
    have ca:c≠a:=λz2=>z (I.sep j i c d1 d q e w1 (by rw[z2];exact ea))
    exact⟨c,w1,w2,w3,w4,w5.mono (ah.refl _) λo q=>Kt.of (by rw[ay ca];exact q)⟩
   |bx=>exact w
   |br d1=>obtain⟨b1,_⟩:=w;rw[hb j] at b1;cases b1
 ·have back:∀{j:Nat} {d1:D},(env.set i (Sl.ow d'))[j]? =some (.ow d1)->∃d2,env[j]? =some (.ow d2):=λ{j d1} q=>by
   by_cases z:j=i
   ·subst z;exact⟨d,e⟩
   ·rw[MW (Ne.symm z)] at q;exact⟨d1,q⟩
  obtain⟨_,b1⟩:=back q1
  obtain⟨_,b2⟩:=back q2
  exact I.sep j k c _ _ b1 b2 q3 q4
end
inductive R (α:Type) where
 |ok (a:α) (β:Int)
 |exc (c:Str)
 |bad
def R.bnd {α γ:Type}(r:R α)(k:α->Int->R γ):R γ:=match r with
 | .ok a β=>k a β
 | .exc c=>.exc c
 | .bad=>.bad
def R.of {α:Type}(o:Option α)(β:Int):R α:=match o with
 |some a=>.ok a β
 |none=>.bad
abbrev VF (α:Type):=List Nv->Int->R α
def Kp (Γ:Fx)(H':Hp):Prop:=∀b o,Γ.H0 b=some o->b∉Γ.par->Kt H' b o
def Out {α:Type}(Γ:Fx)(E:XK)(r:R α)(P:α->Int->Prop):Prop:=match r with
 | .ok a β=>P a β
 | .exc c=>∀H',Kp Γ H'->E (.ref (Γ.ca c)) none H'
 | .bad=>False
section
variable {α γ:Type}{Γ:Fx}{E:XK}
theorem Out.bnd {r:R α}{k:α->Int->R γ}{P:γ->Int->Prop}(h:Out Γ E (r.bnd k) P):Out Γ E r λa β=>Out Γ E (k a β) P:=by
 cases r with
 |ok a β=>exact h
 |exc c=>exact h
 |bad=>exact h
theorem Out.imp {r:R α}{P P':α->Int->Prop}(h:Out Γ E r P)(i:∀a β,P a β->P' a β):Out Γ E r P':=by
 cases r with
 |ok a β=>exact i a β h
 |exc c=>exact h
 |bad=>exact h
theorem Out.of {o:Option α}{β:Int}{P:α->Int->Prop}(h:Out Γ E (R.of o β) P):∃a,o=some a/\P a β:=by
 cases o with
 |none=>exact h.elim
 |some a=>exact⟨a,rfl,h⟩
end
inductive Md where
 |b |v |w
def VO (K:Frag)(B:Option Addr)(H G' H':Hp):Md->D->V->Prop
 | .b,d,v=>l6 K B G' H' v d
 | .v,d,v=>Rp K G' v d
 | .w,d,v=>∃a,v=.ref a/\H a=none/\G' a=none/\Own K G' H' a d
def pT (Γ:Fx)(E:XK)(f:VF D)(L:List Nat)(md:Md):TE:=λσ H Q=>∃env G B β,SR Γ B G H σ env β/\
 Out Γ E (f (vl env) β) λd β'=>∀v G' H',SR Γ B G' H' σ (aS L env) β'->ah G G'->gR B H H'->VO Γ.K B H G' H' md d v->Q v H'
def SE (X:Cx)(Γ:Fx)(E:XK)(e:Expr)(f:VF D)(L:List Nat)(md:Md):Prop:=PE X e (pT Γ E f L md)
def qT (Γ:Fx)(E:XK)(f:VF Bool)(L:List Nat):TT:=λσ H Q=>∃env G B β,SR Γ B G H σ env β/\
 Out Γ E (f (vl env) β) λc β'=>∀G' H',SR Γ B G' H' σ (aS L env) β'->ah G G'->gR B H H'->Q c H'
def zf (X:Cx)(Γ:Fx)(E:XK)(e:Expr)(f:VF Bool)(L:List Nat):Prop:=PT X e (qT Γ E f L)
def oR (X:Cx)(Γ:Fx)(E:XK)(e:Expr)(f:VF Bool)(L:List Nat):Prop:=PW X e (qT Γ E f L)
def aT (Γ:Fx)(E:XK)(f:VF (List D))(L:List Nat):TA:=λσ H Q=>∃env G B β,SR Γ B G H σ env β/\
 Out Γ E (f (vl env) β) λds β'=>∀vs G' H',SR Γ B G' H' σ (aS L env) β'->ah G G'->gR B H H'->cj Γ.K G' vs ds->Q vs H'
def SA (X:Cx)(Γ:Fx)(E:XK)(es:List Expr)(f:VF (List D))(L:List Nat):Prop:=PA X es (aT Γ E f L)
def PE.post' {X:Cx}{e:Expr}{t u:TE}(h:PE X e t)(m:∀σ H Q,u σ H Q->t σ H Q):PE X e u:=λpins s σ H Q I q=>h pins s σ H Q I (m σ H Q q)
def PT.post {X:Cx}{e:Expr}{t u:TT}(h:PT X e t)(m:∀σ H Q,u σ H Q->t σ H Q):PT X e u:=λpins s σ H Q I q=>h pins s σ H Q I (m σ H Q q)
def PW.post {X:Cx}{e:Expr}{t u:TT}(h:PW X e t)(m:∀σ H Q,u σ H Q->t σ H Q):PW X e u:=λwh pins s σ H Q I q=>h wh pins s σ H Q I (m σ H Q q)
def PA.post {X:Cx}{es:List Expr}{t u:TA}(h:PA X es t)(m:∀σ H Q,u σ H Q->t σ H Q):PA X es u:=λpos pins s σ H Q I q=>h pos pins s σ H Q I (m σ H Q q)
def PS.post {X:Cx}{st:Stmt}{t u:TS}(h:PS X st t)(m:∀D σ H,u D σ H->t D σ H):PS X st u:=λpins s σ H D I q=>h pins s σ H D I (m D σ H q)
def dat:Option Nv->Option D
 |some (.da d)=>some d
 |_=>none
def gv (i:Nat):VF D:=λvs β=>R.of (dat vs[i]?) β
def cst (d:D):VF D:=λ_ β=>.ok d β
section
variable {X:Cx}{Γ:Fx}{E:XK}{e a b c:Expr}{f fa fb fc:VF D}{L La Lb Lc:List Nat}{md ma mb mc:Md}{pos:Pos}
theorem join_some {o:Option Nv}{d:D}(h:dat o=some d):o=some (.da d):=by
 cases o with
 |none=>cases h
 |some o=>cases o with
  |da x=>cases h;rfl
  |_=>cases h
def SR.letIn {B:Option Addr}{G H:Hp}{σ:St}{env:En}{β:Int}(I:SR Γ B G H σ env β){p:Addr}{d:D}(h0:Γ.H0 p=none)(hg:G p=none)(hb:B≠some p)(hn:∀(j:Nat) (d':D),env[j]? =some (.ow d')->σ[j]?≠some (some (.ref p)))(h:Own Γ.K G H p d) :
  ∃G',SR Γ B G' H σ env β/\ah G G'/\Rp Γ.K G' (.ref p) d:=by
 obtain⟨o,ho⟩:=h.obj
 have sG:ah G (upd G p o):=ah.new hg
 refine⟨upd G p o,⟨λb u q=>?_,I.old.trans sG,λb n1 n2=>?_,I.keep,I.pin,I.fix,λb q=>?_,I.len,λj s q=>?_,I.sep⟩,sG,h.rp hg sG λo' q=>by rw[ho] at q;cases q;exact aA⟩
 ·by_cases z:b=p
  ·subst z;rw[aA] at q;cases q;exact Kt.of ho
  ·rw[ay z] at q;exact I.sub b u q
 ·rw[ay (λz=>n1.1 (by rw[z];exact h0))];exact I.new b n1 n2
 ·obtain⟨k1,k2,k3⟩:=I.box b q
  exact⟨k1,by rw[ay (λz=>hb (by rw[<-z];exact q))];exact k2,k3⟩
 ·have w:=I.slot j s q
  cases s with
  |no=>trivial
  |fz d'=>obtain⟨v,w1,w2⟩:=w;exact⟨v,w1,w2.mono sG⟩
  |ow d'=>
   obtain⟨c,w1,w2,w3,w4,w5⟩:=w
   have ca:c≠p:=λz2=>hn j d' q (by rw[<-z2];exact w1)
   exact⟨c,w1,w2,by rw[ay ca];exact w3,w4,w5.mono sG λo q=>Kt.of q⟩
  |bx=>exact w
  |br d'=>obtain⟨b1,c,w1,w4,wp,w5⟩:=w;exact⟨b1,c,w1,w4,wp,w5.mono sG λo q=>Kt.of q⟩
def tv {env:En}{i j:Nat}{d:D}(h:(gF env i)[j]? =some (.ow d)):env[j]? =some (.ow d):=by
 unfold gF at h
 split at h
 ·rename_i d' e
  by_cases z:i=j
  ·subst z
   rw[MX (MF.mp e).1] at h;cases h
  ·rw[MW z] at h;exact h
 ·exact h
theorem og {L:List Nat}{env:En}{j:Nat}{d:D}(h:(aS L env)[j]? =some (.ow d)):env[j]? =some (.ow d):=by
 unfold aS at h
 induction L generalizing env with
 |nil=>exact h
 |cons i L ih=>exact tv (ih h)
def SR.letW {B:Option Addr}{G H G' H':Hp}{σ:St}{env:En}{β β':Int}{L:List Nat}{d:D}{v:V}(I:SR Γ B G H σ env β)(I':SR Γ B G' H' σ (L2.aS L env) β')(h:VO Γ.K B H G' H' .w d v):∃G2,SR Γ B G2 H' σ (L2.aS L env) β'/\ah G' G2/\Rp Γ.K G2 v d:=by
 obtain⟨p,rfl,h1,h2,h3⟩:=h
 obtain⟨q1,q2,q3,q4⟩:=I.fresh h1
 exact I'.letIn q1 h2 q3 (λj d' e=>q4 j d' (og e)) h3
def SE.wv (h:SE X Γ E e f L .w):SE X Γ E e f L .v:=by
 refine PE.post' h λσ H Q ⟨env,G,B,β,I,o⟩=>⟨env,G,B,β,I,o.imp λd β' k v G' H' I' s m vo=>?_⟩
 obtain⟨G2,I2,s2,r⟩:=I.letW I' vo
 exact k v G2 H' I2 (s.trans s2) m r
theorem VO.brw {B:Option Addr}{H G' H':Hp}{d:D}{v:V}{K:Frag}(h:VO K B H G' H' md d v)(hB:∀x,B=some x->H x≠none):l6 K B G' H' v d:=by
 cases md with
 |b=>exact h
 |v=>exact .inl h
 |w=>
  obtain⟨p,rfl,h1,h2,h3⟩:=h
  exact .inr ⟨p,rfl,λz=>hB p z h1,h3⟩
def SR.boxThere {B:Option Addr}{G H:Hp}{σ:St}{env:En}{β:Int}(I:SR Γ B G H σ env β):∀x,B=some x->H x≠none:=λx e=>by rw[(I.box x e).1];simp
def ae (i:Nat){x:Str}(hN:X.N[i]? =some x:=by rfl)(hv:y9 X.env.scope x:=by first |exact Or.inl rfl |exact Or.inr (Or.inl rfl) |exact Or.inr (Or.inr rfl))(hd:(x == ("__debug__":Str))=false:=by decide)
  (hcd:(x == ("__classdict__":Str))=false:=by decide):SE X Γ E (.Name x pos) (gv i) [] .b:=by
 refine PE.post' (jR hN hv hd hcd) λσ H Q ⟨env,G,B,β,I,o⟩=>?_
 obtain⟨d,e,k⟩:=o.of
 have e:=join_some e
 rcases BG e with q |q |q
 ·obtain⟨v,h1,h2⟩:=I.slot i _ q
  exact⟨v,h1,k v G H I (ah.refl _) (gR.refl _ _) (.inl h2)⟩
 ·obtain⟨p,h1,h2,h3,h4,h5⟩:=I.slot i _ q
  exact⟨.ref p,h1,k _ G H I (ah.refl _) (gR.refl _ _) (.inr ⟨p,rfl,h4,h5⟩)⟩
 ·obtain⟨_,p,h1,h4,_,h5⟩:=I.slot i _ q
  exact⟨.ref p,h1,k _ G H I (ah.refl _) (gR.refl _ _) (.inr ⟨p,rfl,h4,h5⟩)⟩
def av (i:Nat)(hb:Γ.br i=false){x:Str}(hN:X.N[i]? =some x:=by rfl)(hv:y9 X.env.scope x:=by first |exact Or.inl rfl |exact Or.inr (Or.inl rfl) |exact Or.inr (Or.inr rfl))(hd:(x == ("__debug__":Str))=false:=by decide)
  (hcd:(x == ("__classdict__":Str))=false:=by decide):SE X Γ E (.Name x pos) (gv i) [i] .v:=by
 refine PE.post' (jR hN hv hd hcd) λσ H Q ⟨env,G,B,β,I,o⟩=>?_
 obtain⟨d,e,k⟩:=o.of
 obtain⟨G',v,I',s,h1,h2⟩:=I.freeze i hb (join_some e)
 exact⟨v,h1,k v G' H I' s (gR.refl _ _) h2⟩
def B6 {v:V}{d:D}(h:PE X e (tC v))(r:∀G,Rp Γ.K G v d):SE X Γ E e (cst d) [] .v:=by
 refine PE.post' h λσ H Q ⟨env,G,B,β,I,o⟩=>?_
 exact o v G H I (ah.refl _) (gR.refl _ _) (r G)
def ak {i:Int}{j}:SE X Γ E (.Constant (.int i) j pos) (cst (.int i)) [] .v:=B6 uo λ_=>.int i
def fo {i:Bool}{j}:SE X Γ E (.Constant (.bool i) j pos) (cst (.bool i)) [] .v:=B6 yE λ_=>.bl i
def Hh {j}:SE X Γ E (.Constant .none j pos) (cst .none) [] .v:=B6 HH λ_=>.non
def lE {x:Str}{j}:SE X Γ E (.Constant (.str x) j pos) (cst (.str x)) [] .v:=B6 GB λ_=>.str x
def yW {x:Str}{i:Int}{t:Tok}(hg:Gl X x)(hm:X.mg x=some (.int i t))(hd:(x == ("__debug__":Str))=false:=by decide):SE X Γ E (.Name x pos) (cst (.int i)) [] .v:=B6 (DW hg hm (show RelV (.int i) _ from⟨_,rfl⟩) hd) λ_=>.int i
def two {W:V->V->Hp->Prop}{B:Option Addr}{G H:Hp}{σ:St}{env:En}{β:Int}(I:SR Γ B G H σ env β)
  (h:Out Γ E (fa (vl env) β) λd1 β1=>Out Γ E (fb (vl env) β1) λd2 β2=>∀x y G2 H2,SR Γ B G2 H2 σ (aS (La ++ Lb) env) β2->ah G G2->gR B H H2->l6 Γ.K B G2 H2 x d1->l6 Γ.K B G2 H2 y d2->W x y H2) :
  pT Γ E fa La ma σ H λx H1=>pT Γ E fb Lb mb σ H1 λy H2=>W x y H2:=by
 refine⟨env,G,B,β,I,h.imp λd1 β1 h x G1 H1 I1 s1 m1 vx=>⟨aS La env,G1,B,β1,I1,?_⟩⟩
 rw[dc]
 refine h.imp λd2 β2 k y G2 H2 I2 s2 m2 vy=>?_
 refine k x y G2 H2 (by rw[bZ];exact I2) (s1.trans s2) (m1.trans m2) ((vx.brw I.boxThere).mono s2 m2) (vy.brw I1.boxThere)
def l7 (K:Frag)(r:R2)(g:D->D->Option D)(md:Md):Prop:=∀(B:Option Addr) (G H:Hp) (x y:V) (dx dy d:D) (Q:VK),ah G H->(∀x,B=some x->H x≠none)->l6 K B G H x dx->l6 K B G H y dy->g dx dy=some d->
 (∀v G' H',Ext G H G' H'->VO K B H G' H' md d v->Q v H')->r x y H Q
def f2 (fa fb:VF D)(g:D->D->Option D):VF D:=λvs β=>(fa vs β).bnd λx β1=>(fb vs β1).bnd λy β2=>R.of (g x y) β2
theorem fx {B:Option Addr}{H H2:Hp}(m:gR B H H2)(hB:∀x,B=some x->H2 x≠none){p:Addr}(h:H2 p=none):H p=none:=by
 cases e:H p with
 |none=>rfl
 |some o=>obtain⟨u,eu,_⟩:=(m.1 p o e λz=>hB p z h).some;rw[eu] at h;cases h
theorem VO.back {K:Frag}{B:Option Addr}{H H2 G' H':Hp}{d:D}{v:V}(h:VO K B H2 G' H' md d v)(m:gR B H H2)(hB:∀x,B=some x->H2 x≠none):VO K B H G' H' md d v:=by
 cases md with
 |b=>exact h
 |v=>exact h
 |w=>obtain⟨p,e,h1,h2,h3⟩:=h;exact⟨p,e,fx m hB h1,h2,h3⟩
def m8 {r:R2}{g:D->D->Option D}{Q:VK}(pr:l7 Γ.K r g md){B:Option Addr}{G H:Hp}{σ:St}{env:En}{β:Int}(I:SR Γ B G H σ env β)
  (h:Out Γ E (f2 fa fb g (vl env) β) λd β'=>∀v G' H',SR Γ B G' H' σ (aS (La ++ Lb) env) β'->ah G G'->gR B H H'->VO Γ.K B H G' H' md d v->Q v H') :
  pT Γ E fa La ma σ H λx H1=>pT Γ E fb Lb mb σ H1 λy H2=>r x y H2 Q:=by
 refine two I (h.bnd.imp λd1 β1 h=>h.bnd.imp λd2 β2 h x y G2 H2 I2 s2 m2 bx by'=>?_)
 obtain⟨d,e,k⟩:=h.of
 refine pr B G2 H2 x y d1 d2 d Q I2.sub I2.boxThere bx by' e λv G' H' x' vo=>?_
 exact k v G' H' (I2.ext x') (s2.trans x'.gg) (m2.trans (x'.hh.mov B)) (vo.back m2 I2.boxThere)
def bD {op:Operator}{r:R2}{g:D->D->Option D}(ho:kT X (binaryOp op) r)(pr:l7 Γ.K r g md)(ha:SE X Γ E a fa La ma)(hb:SE X Γ E b fb Lb mb):SE X Γ E (.BinOp a op b pos) (f2 fa fb g) (La ++ Lb) md:=
 PE.post' (sE ho ha hb) λσ H Q ⟨env,G,B,β,I,o⟩=>m8 pr I o
def de {op:CmpOp}{r:R2}{g:D->D->Option D}(ho:kT X (compareOp op) r)(pr:l7 Γ.K r g md)(ha:SE X Γ E a fa La ma)(hb:SE X Γ E b fb Lb mb)(hm:behindInMarks op b=false):SE X Γ E (.Compare a [op] [b] pos) (f2 fa fb g) (La ++ Lb) md:=
 PE.post' (ER ho ha hb hm) λσ H Q ⟨env,G,B,β,I,o⟩=>m8 pr I o
def aM {r:R2}{g:D->D->Option D}(hr:CM X r)(pr:l7 Γ.K r g md)(ha:SE X Γ E a fa La ma)(hb:SE X Γ E b fb Lb mb)(hs:yT b):SE X Γ E (.Subscript a b pos) (f2 fa fb g) (La ++ Lb) md:=
 PE.post' (mf hr ha hb hs) λσ H Q ⟨env,G,B,β,I,o⟩=>m8 pr I o
def AV (K:Frag)(r:V->Hp->VK->Prop)(g:D->Option D)(md:Md):Prop:=∀(B:Option Addr) (G H:Hp) (x:V) (dx d:D) (Q:VK),ah G H->(∀x,B=some x->H x≠none)->l6 K B G H x dx->g dx=some d->
 (∀v G' H',Ext G H G' H'->VO K B H G' H' md d v->Q v H')->r x H Q
def f1 (fa:VF D)(g:D->Option D):VF D:=λvs β=>(fa vs β).bnd λx β1=>R.of (g x) β1
def lX {r:V->Hp->VK->Prop}{g:D->Option D}{Q:VK}(pr:AV Γ.K r g md){B:Option Addr}{G H:Hp}{σ:St}{env:En}{β:Int}(I:SR Γ B G H σ env β)
  (h:Out Γ E (f1 fa g (vl env) β) λd β'=>∀v G' H',SR Γ B G' H' σ (aS La env) β'->ah G G'->gR B H H'->VO Γ.K B H G' H' md d v->Q v H') :
  pT Γ E fa La ma σ H λx H1=>r x H1 Q:=by
 refine⟨env,G,B,β,I,h.bnd.imp λd1 β1 h x G1 H1 I1 s1 m1 vx=>?_⟩
 obtain⟨d,e,k⟩:=h.of
 refine pr B G1 H1 x d1 d Q I1.sub I1.boxThere (vx.brw I.boxThere) e λv G' H' x' vo=>?_
 exact k v G' H' (I1.ext x') (s1.trans x'.gg) (m1.trans (x'.hh.mov B)) (vo.back m1 I1.boxThere)
def Cc {op:UnaryOp}{r:V->Hp->VK->Prop}{g:D->Option D}(ho:Kx X (unaryOp op) r)(pr:AV Γ.K r g md)(ha:SE X Γ E a fa La ma):SE X Γ E (.UnaryOp op a pos) (f1 fa g) La md:=
 PE.post' (IB ho ha) λσ H Q ⟨env,G,B,β,I,o⟩=>lX pr I o
def aP {id:String}{r:List V->Hp->VK->Prop}{g:D->Option D}{x:Str}{p:Pos}(hc:dZ X (.builtin id) r)(pr:AV Γ.K (λx=>r [x]) g md)(hg:Gl X x)(hm:X.mg x=none)(hv:bootBuiltins x=some (.builtin id))(ha:SE X Γ E a fa La ma)(hn:x≠"__name__":=by decide)(hdb:(x == ("__debug__":Str))=false:=by decide)
  (he:starEach [a] X.env=(false,eval a X.env) :: starEach [] X.env:=by rfl):SE X Γ E (.Call (.Name x p) [a] [] pos) (f1 fa g) La md:=
 PE.post' (mW hc hg hm hv (aQ ha bS he) hn hdb he) λσ H Q ⟨env,G,B,β,I,o⟩=>lX (r:=λx=>r [x]) pr I o
def i6 {id:String}{r:List V->Hp->VK->Prop}{g:D->Option D}{x:Str}{p:Pos}(hc:dZ X (.type id) r)(pr:AV Γ.K (λx=>r [x]) g md)(hg:Gl X x)(hm:X.mg x=none)(hv:bootBuiltins x=some (.type id))(ha:SE X Γ E a fa La ma)(hn:x≠"__name__":=by decide)(hdb:(x == ("__debug__":Str))=false:=by decide)
  (he:starEach [a] X.env=(false,eval a X.env) :: starEach [] X.env:=by rfl):SE X Γ E (.Call (.Name x p) [a] [] pos) (f1 fa g) La md:=
 PE.post' (lW hc hg hm hv (aQ ha bS he) hn hdb he) λσ H Q ⟨env,G,B,β,I,o⟩=>lX (r:=λx=>r [x]) pr I o
def wH {id:String}{r:List V->Hp->VK->Prop}{g:D->D->Option D}{x:Str}{p:Pos}(hc:dZ X (.builtin id) r)(pr:l7 Γ.K (λx y=>r [x,y]) g md)(hg:Gl X x)(hm:X.mg x=none)(hv:bootBuiltins x=some (.builtin id))(ha:SE X Γ E a fa La ma)(hb:SE X Γ E b fb Lb mb)(hn:x≠"__name__":=by decide)(hdb:(x == ("__debug__":Str))=false:=by decide)
  (he:starEach [a,b] X.env=(false,eval a X.env) :: starEach [b] X.env:=by rfl) (he2:starEach [b] X.env=(false,eval b X.env) :: starEach [] X.env:=by rfl) (hpl:(backTo pos (starEach [b] X.env)).any (·.1)=false:=by rfl):SE X Γ E (.Call (.Name x p) [a,b] [] pos) (f2 fa fb g) (La ++ Lb) md:=
 PE.post' (mW hc hg hm hv (aQ ha (aQ hb bS he2) he) hn hdb he hpl) λσ H Q ⟨env,G,B,β,I,o⟩=>m8 (r:=λx y=>r [x,y]) pr I o
def gK (fa fb:VF D):VF D:=λvs β=>(fa vs β).bnd λx β1=>match x with
 | .bool true=>fb vs β1
 | .bool false=>.ok (.bool false) β1
 |_=>.bad
def G6 (fa fb:VF D):VF D:=λvs β=>(fa vs β).bnd λx β1=>match x with
 | .bool false=>fb vs β1
 | .bool true=>.ok (.bool true) β1
 |_=>.bad
def je {op}(h:SE X Γ E a fa La md):SE X Γ E (.BoolOp op [a] pos) fa La md:=Ic h
theorem i9 {rest:List Expr}(ha:SE X Γ E a fa La ma)(hb:SE X Γ E (.BoolOp .And (b :: rest) pos) fb Lb .v)(hbr:∀i,i∈Lb->Γ.br i=false):SE X Γ E (.BoolOp .And (a :: b :: rest) pos) (gK fa fb) (La ++ Lb) .v:=by
 refine PE.post' (Gj ha hb) λσ H Q ⟨env,G,B,β,I,o⟩=>?_
 refine⟨env,G,B,β,I,o.bnd.imp λd1 β1 h x G1 H1 I1 s1 m1 vx=>?_⟩
 have bx:=vx.brw I.boxThere
 cases d1 with
 |bool c=>
  obtain rfl:=bx.bool
  refine⟨c,rfl,?_⟩
  cases c with
  |true=>exact qe ⟨_,G1,B,β1,I1,by rw[dc];exact h.imp λd β' k v G' H' I' s' m' vo=>k v G' H' (by rw[bZ];exact I') (s1.trans s') (m1.trans m') vo⟩
  |false=>
   obtain⟨G2,I2,s2⟩:=I1.aS Lb hbr
   exact p7 (h _ G2 H1 (by rw[bZ];exact I2) (s1.trans s2) m1 (.bl false))
 |_=>exact h.elim
theorem FN {rest:List Expr}(ha:SE X Γ E a fa La ma)(hb:SE X Γ E (.BoolOp .Or (b :: rest) pos) fb Lb .v)(hbr:∀i,i∈Lb->Γ.br i=false):SE X Γ E (.BoolOp .Or (a :: b :: rest) pos) (G6 fa fb) (La ++ Lb) .v:=by
 refine PE.post' (Jg ha hb) λσ H Q ⟨env,G,B,β,I,o⟩=>?_
 refine⟨env,G,B,β,I,o.bnd.imp λd1 β1 h x G1 H1 I1 s1 m1 vx=>?_⟩
 have bx:=vx.brw I.boxThere
 cases d1 with
 |bool c=>
  obtain rfl:=bx.bool
  refine⟨c,rfl,?_⟩
  cases c with
  |true=>
   obtain⟨G2,I2,s2⟩:=I1.aS Lb hbr
   exact qe (h _ G2 H1 (by rw[bZ];exact I2) (s1.trans s2) m1 (.bl true))
  |false=>exact p7 ⟨_,G1,B,β1,I1,by rw[dc];exact h.imp λd β' k v G' H' I' s' m' vo=>k v G' H' (by rw[bZ];exact I') (s1.trans s') (m1.trans m') vo⟩
 |_=>exact h.elim
def Am:D->Option D
 | .bool c=>some (.bool (!c))
 |_=>none
theorem wR (ha:SE X Γ E a fa La ma):SE X Γ E (.UnaryOp .Not a pos) (f1 fa Am) La .v:=by
 refine PE.post' (GH ha) λσ H Q ⟨env,G,B,β,I,o⟩=>?_
 refine lX (r:=λx H1 Q=>∃c,x=.bl c/\Q (.bl (!c)) H1) ?_ I o
 intro B G H x dx d Q s hB bx e k
 cases dx with
 |bool c=>
  obtain rfl:=bx.bool
  cases e
  exact⟨c,rfl,k _ G H (Ext.refl s) (.bl _)⟩
 |_=>cases e
def Gv:D->Option Bool
 | .none=>some false
 | .bool b=>some b
 | .int i=>some (i != 0)
 | .str y=>if y.length<=sizeLine then some ((y.length:Int) != 0) else none
 | .list ds=>some (!ds.isEmpty)
 | .tuple ds=>some (!ds.isEmpty)
 | .dict _=>none
def eZ (fa:VF D):VF Bool:=λvs β=>(fa vs β).bnd λx β1=>R.of (Gv x) β1
def oK {K:Frag}{G:Hp}{xs:List V}{ds:List D}(r:cj K G xs ds):(!ds.isEmpty)= !xs.isEmpty:=by cases r <;> rfl
theorem bA (hK:X.K=Γ.K)(ha:SE X Γ E a fa La ma)(he:∀whole,isTrue a X.env whole=(do let v <-whole;standAt a.pos;holding [v] (truthy v)):=by intro _;rfl):zf X Γ E a (eZ fa) La:=by
 refine PT.post (CH ha he) λσ H Q ⟨env,G,B,β,I,o⟩=>?_
 refine⟨env,G,B,β,I,o.bnd.imp λd1 β1 h x G1 H1 I1 s1 m1 vx=>?_⟩
 obtain⟨c,e,k⟩:=h.of
 have bx:=vx.brw I.boxThere
 refine⟨c,?_,k G1 H1 I1 s1 m1⟩
 rw[hK]
 cases d1 with
 |none=>obtain rfl:=bx.none;cases e;rfl
 |bool b=>obtain rfl:=bx.bool;cases e;rfl
 |int i=>obtain rfl:=bx.int;cases e;rfl
 |str y=>
  obtain rfl:=bx.str
  simp only[Gv] at e
  split at e
  ·cases e;exact⟨by assumption,rfl⟩
  ·cases e
 |list ds=>obtain⟨p,xs,rfl,hq,r⟩:=bx.list I1.sub;cases e;exact .inl ⟨xs,.inl hq,oK r⟩
 |tuple ds=>obtain⟨p,xs,rfl,hq,r⟩:=bx.tuple I1.sub;cases e;exact .inr (.inl ⟨xs,hq,oK r⟩)
 |dict ds=>cases e
def cC (fa:VF D):VF Bool:=λvs β=>(fa vs β).bnd λx β1=>match x with
 | .bool c=>.ok c β1
 |_=>.bad
theorem bg {op:CmpOp}{r:R2}{g:D->D->Option D}(ho:kT X (compareOp op) r)(pr:l7 Γ.K r g .v)(ha:SE X Γ E a fa La ma)(hb:SE X Γ E b fb Lb mb)(hm:behindInMarks op b=false):zf X Γ E (.Compare a [op] [b] pos) (cC (f2 fa fb g)) (La ++ Lb):=by
 refine PT.post (DS ho ha hb hm) λσ H Q ⟨env,G,B,β,I,o⟩=>?_
 refine m8 pr I (o.bnd.imp λd β' h v G' H' I' s' m' vo=>?_)
 cases d with
 |bool c=>cases vo;exact⟨c,rfl,h G' H' I' s' m'⟩
 |_=>exact h.elim
def j9 (t:VF Bool):VF Bool:=λvs β=>(t vs β).bnd λc β1=>.ok (!c) β1
def yA (t u:VF Bool):VF Bool:=λvs β=>(t vs β).bnd λc β1=>if c=true then u vs β1 else .ok false β1
def gf (t u:VF Bool):VF Bool:=λvs β=>(t vs β).bnd λc β1=>if c=true then .ok true β1 else u vs β1
variable {ta tb tc:VF Bool}
def bP (ha:zf X Γ E a ta La):zf X Γ E (.UnaryOp .Not a pos) (j9 ta) La:=by
 refine PT.post (Gx ha) λσ H Q ⟨env,G,B,β,I,o⟩=>?_
 exact⟨env,G,B,β,I,o.bnd.imp λc β1 h=>h⟩
def oR.t (h:oR X Γ E e ta La):zf X Γ E e ta La:=PW.pt h
def sY (ha:zf X Γ E a ta La):oR X Γ E (.BoolOp .And [a] pos) ta La:=yr ha
def eV (ha:zf X Γ E a ta La):oR X Γ E (.BoolOp .Or [a] pos) ta La:=Ig ha
theorem xm {rest:List Expr}(ha:zf X Γ E a ta La)(hb:oR X Γ E (.BoolOp .And (b :: rest) pos) tb Lb)(hbr:∀i,i∈Lb->Γ.br i=false):oR X Γ E (.BoolOp .And (a :: b :: rest) pos) (yA ta tb) (La ++ Lb):=by
 refine PW.post (BF ha hb) λσ H Q ⟨env,G,B,β,I,o⟩=>?_
 refine⟨env,G,B,β,I,o.bnd.imp λc β1 h G1 H1 I1 s1 m1=>?_⟩
 cases c with
 |true=>exact qe ⟨_,G1,B,β1,I1,by rw[dc];exact Out.imp h λd β' k G' H' I' s' m'=>k G' H' (by rw[bZ];exact I') (s1.trans s') (m1.trans m')⟩
 |false=>
  obtain⟨G2,I2,s2⟩:=I1.aS Lb hbr
  exact p7 (h G2 H1 (by rw[bZ];exact I2) (s1.trans s2) m1)
theorem fM {rest:List Expr}(ha:zf X Γ E a ta La)(hb:oR X Γ E (.BoolOp .Or (b :: rest) pos) tb Lb)(hbr:∀i,i∈Lb->Γ.br i=false):oR X Γ E (.BoolOp .Or (a :: b :: rest) pos) (gf ta tb) (La ++ Lb):=by
 refine PW.post (JJ ha hb) λσ H Q ⟨env,G,B,β,I,o⟩=>?_
 refine⟨env,G,B,β,I,o.bnd.imp λc β1 h G1 H1 I1 s1 m1=>?_⟩
 cases c with
 |true=>
  obtain⟨G2,I2,s2⟩:=I1.aS Lb hbr
  exact qe (h G2 H1 (by rw[bZ];exact I2) (s1.trans s2) m1)
 |false=>exact p7 ⟨_,G1,B,β1,I1,by rw[dc];exact Out.imp h λd β' k G' H' I' s' m'=>k G' H' (by rw[bZ];exact I') (s1.trans s') (m1.trans m')⟩
def Kl (t:VF Bool)(fa fb:VF D):VF D:=λvs β=>(t vs β).bnd λc β1=>if c=true then fa vs β1 else fb vs β1
theorem II (hc:zf X Γ E c tc Lc)(ha:SE X Γ E a fa La md)(hb:SE X Γ E b fb Lb md)(hbr:∀i,i∈La ++ Lb->Γ.br i=false):SE X Γ E (.IfExp c a b pos) (Kl tc fa fb) (Lc ++ (La ++ Lb)) md:=by
 refine PE.post' (Cv hc ha hb) λσ H Q ⟨env,G,B,β,I,o⟩=>?_
 refine⟨env,G,B,β,I,o.bnd.imp λc β1 h G1 H1 I1 s1 m1=>?_⟩
 obtain⟨G2,I2,s2⟩:=I1.aS (La ++ Lb) hbr
 have idem:∀M:List Nat,(∀i,i∈M->i∈La ++ Lb)->aS M (aS (La ++ Lb) (aS Lc env))=aS (La ++ Lb) (aS Lc env):=by
  have key:∀(M:List Nat) (en:En) (k:Nat),k∈M->∀d',(aS M en)[k]?≠some (.ow d'):=by
   intro M
   induction M with
   |nil=>intro en k hm;cases hm
   |cons i M ih=>
    intro en k hm d' z
    rcases MH.mp hm with y |y
    ·subst y
     have z1:(gF en k)[k]? =some (.ow d'):=og (L:=M) z
     have z2:=tv z1
     unfold gF at z1
     rw[z2] at z1
     dsimp only at z1
     rw[MX (MF.mp z2).1] at z1;cases z1
    ·exact ih (gF en i) k y d' z
  intro M
  induction M with
  |nil=>intro _;rfl
  |cons i M ih=>
   intro hM
   show aS M (gF _ i)=_
   have:gF (aS (La ++ Lb) (aS Lc env)) i=aS (La ++ Lb) (aS Lc env):=by
    have hn:=key (La ++ Lb) (aS Lc env) i (hM i (MM ..))
    generalize aS (La ++ Lb) (aS Lc env)=en at hn ⊢
    unfold gF
    split
    ·rename_i d e;exact absurd e (hn d)
    ·rfl
   rw[this]
   exact ih λj hj=>hM j (MN _ hj)
 have go:∀{f:VF D} {M:List Nat},(∀i,i∈M->i∈La ++ Lb)->Out Γ E (f (vl env) β1) (λd β'=>∀v G' H',SR Γ B G' H' σ (aS (Lc ++ (La ++ Lb)) env) β'->ah G G'->gR B H H'->VO Γ.K B H G' H' md d v->Q v H')->pT Γ E f M md σ H1 Q:=λ{f M} hM h=>by
  refine⟨_,G2,B,β1,I2,?_⟩
  rw[dc,dc]
  refine h.imp λd β' k v G' H' I' s' m' vo=>?_
  rw[idem M hM,<-bZ] at I'
  exact k v G' H' I' ((s1.trans s2).trans s') (m1.trans m') (vo.back m1 I1.boxThere)
 cases c with
 |true=>exact qe (go (λi hi=>Of _ hi) h)
 |false=>exact p7 (go (λi hi=>M5 _ hi) h)
def ag:VF (List D):=λ_ β=>.ok [] β
def aa (fa:VF D)(fr:VF (List D)):VF (List D):=λvs β=>(fa vs β).bnd λx β1=>(fr vs β1).bnd λxs β2=>.ok (x :: xs) β2
variable {fr:VF (List D)}{es:List Expr}
def af:SA X Γ E [] ag []:=PA.post bS λσ H Q ⟨env,G,B,β,I,o⟩=>o [] G H I (ah.refl _) (gR.refl _ _) .nil
def ab (ha:SE X Γ E a fa La .v)(hr:SA X Γ E es fr Lb)(hs:starEach (a :: es) X.env=(false,eval a X.env) :: starEach es X.env:=by rfl):SA X Γ E (a :: es) (aa fa fr) (La ++ Lb):=by
 refine PA.post (aQ ha hr hs) λσ H Q ⟨env,G,B,β,I,o⟩=>?_
 refine⟨env,G,B,β,I,o.bnd.imp λd1 β1 h x G1 H1 I1 s1 m1 vx=>⟨aS La env,G1,B,β1,I1,?_⟩⟩
 rw[dc]
 refine h.bnd.imp λds β2 k xs G2 H2 I2 s2 m2 r=>?_
 exact k (x :: xs) G2 H2 (by rw[bZ];exact I2) (s1.trans s2) (m1.trans m2) (.cons (vx.mono s2) r)
def cq (fr:VF (List D)):VF D:=λvs β=>(fr vs β).bnd λds β1=>if ds.length<=sizeLine then .ok (.tuple ds) β1 else .bad
def cY (fr:VF (List D)):VF D:=λvs β=>(fr vs β).bnd λds β1=>if ds.length<=sizeLine then .ok (.list ds) β1 else .bad
def cz {x1}(h:SA X Γ E es fr L):SE X Γ E (.Tuple es x1 pos) (cq fr) L .v:=by
 refine PE.post' (wQ h) λσ H Q ⟨env,G,B,β,I,o⟩=>?_
 refine⟨env,G,B,β,I,o.bnd.imp λds β1 k xs G1 H1 I1 s1 m1 r=>?_⟩
 by_cases hz:ds.length<=sizeLine
 ·rw[My hz] at k
  refine⟨by rw[r.len];exact hz,λp hp=>?_⟩
  have x:=Ext.new I1.sub (o:=.tup xs) hp
  exact k _ _ _ (I1.ext x) (s1.trans x.gg) (m1.trans (x.hh.mov B)) (.tup (.inl (.inl aA)) (r.mono x.gg))
 ·rw[MG hz] at k;exact k.elim
def cA (h:SA X Γ E es fr L):SE X Γ E (.List es pos) (cY fr) L .w:=by
 refine PE.post' (Bn h) λσ H Q ⟨env,G,B,β,I,o⟩=>?_
 refine⟨env,G,B,β,I,o.bnd.imp λds β1 k xs G1 H1 I1 s1 m1 r=>?_⟩
 by_cases hz:ds.length<=sizeLine
 ·rw[My hz] at k
  refine⟨by rw[r.len];exact hz,λp hp=>?_⟩
  have x:=Ext.own I1.sub (o:=.lst xs) hp
  exact k _ _ _ (I1.ext x) s1 (m1.trans (x.hh.mov B)) ⟨p,rfl,fx m1 I1.boxThere hp,I1.sub.free hp,xs,aA,r⟩
 ·rw[MG hz] at k;exact k.elim
inductive FR where
 |ok (d:D) (fresh:Bool)
 |exc (c:Str)
 |bad
def FV (K:Frag)(H G' H':Hp)(fr:Bool)(d:D)(v:V):Prop:=if fr=true then ∃a,v=.ref a/\H a=none/\G' a=none/\Own K G' H' a d else Rp K G' v d
def BQ (K:Frag)(ca:Str->Addr)(n:Nat)(F:List D->FR):Sp:=λvs H Q E=>∃G ds,ah G H/\ds.length=n/\cj K G vs ds/\match F ds with
 | .ok d fr=>∀v G' H',ah H H'->ah G G'->ah G' H'->(∀b,Mx H b->G b=none->G' b=none)->FV K H G' H' fr d v->Q v H'
 | .exc c=>∀H',ah H H'->E (.ref (ca c)) none H'
 | .bad=>False
structure cn (P:Program)(w:World)(K:Frag)(mg:Str->Option Value)(base:Heap)(ca:Str->Addr)(x:Str)(ps:List Str)(k:Nat)(F:List D->FR):Prop where
 ex:∃f fd,mg x=some (.ref f)/\PySem.W.keepIn K (.ref f)=true/\Binds K fd ps []/\e8 P w K mg base (mO P w) k f fd ps (BQ K ca ps.length F)
 len:∀ds,F ds≠.bad->ds.length=ps.length
def aw (F:List D->FR)(fr:VF (List D)):VF D:=λvs β=>(fr vs β).bnd λds β1=>match F ds with
 | .ok d _=>.ok d β1
 | .exc c=>.exc c
 | .bad=>.bad
def oJ (F:List D->FR)(fr:VF (List D)):VF D:=λvs β=>(fr vs β).bnd λds β1=>match F ds with
 | .ok d true=>.ok d β1
 | .ok _ false=>.bad
 | .exc c=>.exc c
 | .bad=>.bad
def SR.called {B:Option Addr}{G1 H1 G2 H2:Hp}{σ:St}{env:En}{β:Int}(I1:SR Γ B G1 H1 σ env β)(h:ah H1 H2)(g:ah G1 G2)(s:ah G2 H2)(n:∀b,Mx H1 b->G1 b=none->G2 b=none):SR Γ B G2 H2 σ env β/\gR B H1 H2:=by
 refine⟨⟨s,I1.old.trans g,λb n1 n2=>?_,λb o e np=>(I1.keep b o e np).step h,λb hb=>?_,I1.fix,λb e=>?_,I1.len,λi t e=>?_,I1.sep⟩,h.mov B⟩
 ·exact n b (I1.thereM n1) (I1.new b n1 n2)
 ·exact (I1.pin b hb).same λo e=>h b o e
 ·obtain⟨h1,h2,h3⟩:=I1.box b e
  exact⟨h b _ h1,n b (Mx.lst h1) h2,h3⟩
 ·have q:=I1.slot i t e
  cases t with
  |no=>trivial
  |fz d=>obtain⟨v,h1,h2⟩:=q;exact⟨v,h1,h2.mono g⟩
  |ow d=>
   obtain⟨p,h1,h2,h3,h4,h5⟩:=q
   exact⟨p,h1,h2,n p h5.mx h3,h4,h5.mono g λo q=>h p o q⟩
  |bx=>exact q
  |br d=>obtain⟨b1,p,h1,h4,hp,h5⟩:=q;exact⟨b1,p,h1,h4,hp,h5.mono g λo q=>h p o q⟩
def SR.kp {B:Option Addr}{G H H':Hp}{σ:St}{env:En}{β:Int}(I:SR Γ B G H σ env β)(h:ah H H'):Kp Γ H':=λb o e n=>(I.keep b o e n).step h
theorem sx {F:List D->FR}{ps:List Str}{Q:VK}{B:Option Addr}{G H:Hp}{σ:St}{env:En}{β:Int}(I:SR Γ B G H σ env β)(hK:X.K=Γ.K){wv:Bool}
  (h:Out Γ E (if wv=true then oJ F fr (vl env) β else aw F fr (vl env) β) λd β'=>∀v G' H',SR Γ B G' H' σ (aS L env) β'->ah G G'->gR B H H'->VO Γ.K B H G' H' (if wv=true then .w else .v) d v->Q v H') (hl:∀ds,F ds≠.bad->ds.length=ps.length) :
  aT Γ E fr L σ H λvs H1=>BQ X.K Γ.ca ps.length F vs H1 Q E:=by
 refine⟨env,G,B,β,I,?_⟩
 have h:Out Γ E (fr (vl env) β) λds β1=>Out Γ E (match F ds with
   | .ok d true=>.ok d β1
   | .ok d false=>if wv=true then .bad else .ok d β1
   | .exc c=>.exc c
   | .bad=>.bad) λd β'=>∀v G' H',SR Γ B G' H' σ (aS L env) β'->ah G G'->gR B H H'->VO Γ.K B H G' H' (if wv=true then .w else .v) d v->Q v H':=by
  cases wv with
  |true=>
   simp only[NJ] at h ⊢
   refine h.bnd.imp λds β1 h=>?_
   cases q:F ds with
   |ok d b=>rw[q] at h;cases b <;> exact h
   |exc c=>rw[q] at h;exact h
   |bad=>rw[q] at h;exact h
  |false=>
   simp only[NA,NS] at h ⊢
   refine h.bnd.imp λds β1 h=>?_
   cases q:F ds with
   |ok d b=>rw[q] at h;cases b <;> exact h
   |exc c=>rw[q] at h;exact h
   |bad=>rw[q] at h;exact h
 refine h.imp λds β1 k vs G1 H1 I1 s1 m1 r=>?_
 refine⟨G1,ds,I1.sub,?_,by rw[hK];exact r,?_⟩
 ·exact hl ds λz=>by rw[z] at k;exact k
 cases q:F ds with
 |bad=>rw[q] at k;exact k
 |exc c=>rw[q] at k;exact λH' s=>k H' (I1.kp s)
 |ok d b=>
  rw[q] at k
  intro v G' H' hh hg hs hn fv
  obtain⟨I2,m2⟩:=I1.called hh hg hs hn
  cases b with
  |true=>
   obtain⟨p,rfl,p1,p2,p3⟩:∃a,v=.ref a/\H1 a=none/\G' a=none/\Own X.K G' H' a d:=fv
   rw[hK] at p3
   have hp:=fx m1 I1.boxThere p1
   cases wv with
   |true=>exact k _ G' H' I2 (s1.trans hg) (m1.trans m2) ⟨p,rfl,hp,p2,p3⟩
   |false=>
    obtain⟨q1,q2,q3,q4⟩:=I1.fresh p1
    obtain⟨G3,I3,s3,r3⟩:=I2.letIn q1 p2 q3 q4 p3
    exact k _ G3 H' I3 ((s1.trans hg).trans s3) (m1.trans m2) r3
  |false=>
   cases wv with
   |true=>exact k.elim
   |false=>
    have fv:Rp X.K G' v d:=fv
    rw[hK] at fv
    exact k _ G' H' I2 (s1.trans hg) (m1.trans m2) fv
def aG {x:Str}{ps:List Str}{k:Nat}{F:List D->FR}{p:Pos}(hf:cn X.prog X.w X.K X.mg X.base Γ.ca x ps k F)(hr:dt k X.A)(hx:Passes (mO X.prog X.w) X E)(hK:X.K=Γ.K)(hg:Gl X x)(ha:SA X Γ E (a :: es) fr L)(hdb:(x == ("__debug__":Str))=false:=by decide)
  (he:starEach (a :: es) X.env=(false,eval a X.env) :: starEach es X.env:=by rfl) (hpl:(backTo pos (starEach es X.env)).any (·.1)=false:=by rfl):SE X Γ E (.Call (.Name x p) (a :: es) [] pos) (aw F fr) L .v:=by
 obtain⟨f,fd,hm,hk,hb,hF⟩:=hf.ex
 refine PE.post' (jH (dvs:=[]) hF hr hg hm hk hb .nil hx ha hdb he hpl) λσ H Q ⟨env,G,B,β,I,o⟩=>?_
 show aT Γ E fr L σ H λvs H1=>BQ X.K Γ.ca ps.length F (vs ++ []) H1 Q E
 have:=sx (Q:=Q) (wv:=false) (ps:=ps) I hK o hf.len
 simpa using this
def BH {x:Str}{ps:List Str}{k:Nat}{F:List D->FR}{p:Pos}(hf:cn X.prog X.w X.K X.mg X.base Γ.ca x ps k F)(hr:dt k X.A)(hx:Passes (mO X.prog X.w) X E)(hK:X.K=Γ.K)(hg:Gl X x)(ha:SA X Γ E (a :: es) fr L)(hdb:(x == ("__debug__":Str))=false:=by decide)
  (he:starEach (a :: es) X.env=(false,eval a X.env) :: starEach es X.env:=by rfl) (hpl:(backTo pos (starEach es X.env)).any (·.1)=false:=by rfl):SE X Γ E (.Call (.Name x p) (a :: es) [] pos) (oJ F fr) L .w:=by
 obtain⟨f,fd,hm,hk,hb,hF⟩:=hf.ex
 refine PE.post' (jH (dvs:=[]) hF hr hg hm hk hb .nil hx ha hdb he hpl) λσ H Q ⟨env,G,B,β,I,o⟩=>?_
 show aT Γ E fr L σ H λvs H1=>BQ X.K Γ.ca ps.length F (vs ++ []) H1 Q E
 have:=sx (Q:=Q) (wv:=true) (ps:=ps) I hK o hf.len
 simpa using this
end
inductive SO where
 |nx (env:En) (β:Int)
 |bk (env:En) (β:Int)
 |ct (env:En) (β:Int)
 |rt (d:D) (fr:Bool) (β:Int)
 |exc (c:Str)
 |bad
abbrev SF:=En->Int->SO
def RV (Γ:Fx)(G' H':Hp)(fr:Bool)(d:D)(v:V):Prop:=if fr=true then ∃a,v=.ref a/\Γ.H0 a=none/\G' a=none/\Own Γ.K G' H' a d else Rp Γ.K G' v d
def rV (Γ:Fx)(E:XK)(G:Hp)(N:Ends):SO->Prop
 | .nx env β=>∀B G' H' σ,SR Γ B G' H' σ env β->ah G G'->N.nx σ H'
 | .bk env β=>∀B G' H' σ,SR Γ B G' H' σ env β->ah G G'->N.bk σ H'
 | .ct env β=>∀B G' H' σ,SR Γ B G' H' σ env β->ah G G'->N.ct σ H'
 | .rt d fr β=>∀B G' H' σ env v,SR Γ B G' H' σ env β->ah G G'->RV Γ G' H' fr d v->N.rt v H'
 | .exc c=>∀H',Kp Γ H'->E (.ref (Γ.ca c)) none H'
 | .bad=>False
def sT (Γ:Fx)(E:XK)(m:SF):TS:=λN σ H=>∃env G B β,SR Γ B G H σ env β/\rV Γ E G N (m env β)
def SS (X:Cx)(Γ:Fx)(E:XK)(st:Stmt)(m:SF):Prop:=PS X st (sT Γ E m)
def Ca (X:Cx)(Γ:Fx)(E:XK)(st:List Stmt)(m:SF):Prop:=rB X st (sT Γ E m)
def rB.post {X:Cx}{st:List Stmt}{t u:TS}(h:rB X st t)(m:∀D σ H,u D σ H->t D σ H):rB X st u:=λpins s σ H D I q=>h pins s σ H D I (m D σ H q)
def aH (m m':SF):SF:=λenv β=>match m env β with
 | .nx env' β'=>m' env' β'
 |r=>r
def jU:SF:=λenv β=>.nx env β
section
variable {X:Cx}{Γ:Fx}{E:XK}{e a b c:Expr}{f fa fb:VF D}{L La Lb:List Nat}{md ma mb:Md}{pos:Pos}{st:Stmt}{sts:List Stmt}{m m':SF}{ta:VF Bool}
theorem rV.weak {G G1:Hp}{N:Ends}{r:SO}(h:rV Γ E G N r)(s:ah G G1):rV Γ E G1 N r:=by
 cases r with
 |nx env β=>exact λB G' H' σ I s'=>h B G' H' σ I (s.trans s')
 |bk env β=>exact λB G' H' σ I s'=>h B G' H' σ I (s.trans s')
 |ct env β=>exact λB G' H' σ I s'=>h B G' H' σ I (s.trans s')
 |rt d fr β=>exact λB G' H' σ env v I s'=>h B G' H' σ env v I (s.trans s')
 |exc c=>exact h
 |bad=>exact h
def bH:Ca X Γ E [] jU:=rB.post yJ λN σ H ⟨env,G,B,β,I,o⟩=>o B G H σ I (ah.refl _)
theorem aq (h:SS X Γ E st m)(h':Ca X Γ E sts m'):Ca X Γ E (st :: sts) (aH m m'):=by
 refine rB.post (iO h h') λN σ H ⟨env,G,B,β,I,o⟩=>?_
 refine⟨env,G,B,β,I,?_⟩
 unfold aH at o
 cases q:m env β with
 |nx env' β'=>rw[q] at o;exact λB' G' H' σ' I' s'=>⟨env',G',B',β',I',o.weak s'⟩
 |bk env' β'=>rw[q] at o;exact o
 |ct env' β'=>rw[q] at o;exact o
 |rt d fr β'=>rw[q] at o;exact o
 |exc c=>rw[q] at o;exact o
 |bad=>rw[q] at o;exact o
def az (h:SS X Γ E st m):Ca X Γ E [st] m:=jG h
def toS {α:Type}(r:R α)(k:α->Int->SO):SO:=match r with
 | .ok x β=>k x β
 | .exc c=>.exc c
 | .bad=>.bad
theorem cL {α:Type}{G:Hp}{N:Ends}{r:R α}{k:α->Int->SO}{P:α->Int->Prop}(h:rV Γ E G N (toS r k))(i:∀x β,rV Γ E G N (k x β)->P x β):Out Γ E r P:=by
 cases r with
 |ok x β=>exact i x β h
 |exc c=>exact h
 |bad=>exact h
def SR.set' {B:Option Addr}{G H:Hp}{σ:St}{env:En}{β:Int}(I:SR Γ B G H σ env β)(i:Nat){v:V}{d:D}(h:Rp Γ.K G v d):SR Γ B G H (σ.set i (some v)) (env.set i (.fz d)) β:=by
 by_cases hi:i < env.length
 ·exact I.set hi h
 ·have h1:env.set i (.fz d)=env:=NQ (by omega)
  have h2:σ.set i (some v)=σ:=NQ (by rw[I.len];omega)
  rw[h1,h2];exact I
def SR.setOw' {B:Option Addr}{G H:Hp}{σ:St}{env:En}{β:Int}(I:SR Γ B G H σ env β)(i:Nat){a:Addr}{d:D}(h0:Γ.H0 a=none)(hg:G a=none)(hb:B≠some a)(h:Own Γ.K G H a d)(hn:∀(j:Nat) (d':D),env[j]? =some (.ow d')->σ[j]?≠some (some (.ref a))):SR Γ B G H (σ.set i (some (.ref a))) (env.set i (.ow d)) β:=by
 by_cases hi:i < env.length
 ·exact I.setOw hi h0 hg hb h λj d' e _=>hn j d' e
 ·have h1:env.set i (.ow d)=env:=NQ (by omega)
  have h2:σ.set i (some (.ref a))=σ:=NQ (by rw[I.len];omega)
  rw[h1,h2];exact I
def bQ (i:Nat)(L:List Nat)(f:VF D):SF:=λenv β=>toS (f (vl env) β) λd β'=>.nx ((aS L env).set i (.fz d)) β'
def bf {i:Nat}{x:Str}{pos':Pos}(he:SE X Γ E e f L .v)(hN:X.N.Nodup)(hi:X.N[i]? =some x:=by rfl)(hx:Loc X.env.scope x:=by first |exact Or.inl rfl |exact Or.inr rfl)(hs:swapsWith e (some (.Name x pos')) pos.line X.env=pure false:=by rfl)(hf:X.fn x=true\/X.env.scope.names.lookup x=some .local:=by first |exact .inl rfl |exact .inr rfl |assumption) :
  SS X Γ E (.Assign [.Name x pos'] e pos) (bQ i L f):=by
 refine PS.post (uG hN hi hx he hs hf) λN σ H ⟨env,G,B,β,I,o⟩=>?_
 refine⟨env,G,B,β,I,cL o λd β' k v G' H' I' s' m' vo=>?_⟩
 exact k B G' H' _ (I'.set' i vo) s'
def kY (i:Nat)(L:List Nat)(f:VF D):SF:=λenv β=>toS (f (vl env) β) λd β'=>.nx ((aS L env).set i (.ow d)) β'
def jk {i:Nat}{x:Str}{pos':Pos}(he:SE X Γ E e f L .w)(hN:X.N.Nodup)(hi:X.N[i]? =some x:=by rfl)(hx:Loc X.env.scope x:=by first |exact Or.inl rfl |exact Or.inr rfl)(hs:swapsWith e (some (.Name x pos')) pos.line X.env=pure false:=by rfl)(hf:X.fn x=true\/X.env.scope.names.lookup x=some .local:=by first |exact .inl rfl |exact .inr rfl |assumption) :
  SS X Γ E (.Assign [.Name x pos'] e pos) (kY i L f):=by
 refine PS.post (uG hN hi hx he hs hf) λN σ H ⟨env,G,B,β,I,o⟩=>?_
 refine⟨env,G,B,β,I,cL o λd β' k v G' H' I' s' m' vo=>?_⟩
 obtain⟨p,rfl,h1,h2,h3⟩:=vo
 obtain⟨q1,q2,q3,q4⟩:=I.fresh h1
 exact k B G' H' _ (I'.setOw' i q1 h2 q3 h3 λj d' z=>q4 j d' (og z)) s'
def oB (L:List Nat)(f:VF D):SF:=λenv β=>toS (f (vl env) β) λ_ β'=>.nx (aS L env) β'
def pe (he:SE X Γ E e f L md)(hs:swapsWith e none pos.line X.env=pure false:=by rfl):SS X Γ E (.Expr e pos) (oB L f):=by
 refine PS.post (pL he hs) λN σ H ⟨env,G,B,β,I,o⟩=>?_
 exact⟨env,G,B,β,I,cL o λd β' k v G' H' I' s' m' vo=>k B G' H' _ I' s'⟩
def bo (f:VF D):SF:=λenv β=>toS (f (vl env) β) λd β'=>.rt d false β'
def aN (he:SE X Γ E e f L .v):SS X Γ E (.Return (some e) pos) (bo f):=by
 refine PS.post (ou he) λN σ H ⟨env,G,B,β,I,o⟩=>?_
 exact⟨env,G,B,β,I,cL o λd β' k v G' H' I' s' m' vo=>k B G' H' σ _ v I' s' vo⟩
def oO (f:VF D):SF:=λenv β=>toS (f (vl env) β) λd β'=>.rt d true β'
def l0 (he:SE X Γ E e f L .w):SS X Γ E (.Return (some e) pos) (oO f):=by
 refine PS.post (ou he) λN σ H ⟨env,G,B,β,I,o⟩=>?_
 refine⟨env,G,B,β,I,cL o λd β' k v G' H' I' s' m' vo=>?_⟩
 obtain⟨p,rfl,h1,h2,h3⟩:=vo
 obtain⟨q1,_⟩:=I.fresh h1
 exact k B G' H' σ _ _ I' s' ⟨p,rfl,q1,h2,h3⟩
def sR (i:Nat):SF:=λenv β=>match env[i]? with
 |some (.fz d)=>.rt d false β
 |some (.ow d)=>.rt d true β
 |_=>.bad
theorem o9 (i:Nat){x:Str}{p:Pos}(hN:X.N[i]? =some x:=by rfl)(hv:y9 X.env.scope x:=by first |exact Or.inl rfl |exact Or.inr (Or.inl rfl) |exact Or.inr (Or.inr rfl))(hd:(x == ("__debug__":Str))=false:=by decide)
  (hcd:(x == ("__classdict__":Str))=false:=by decide):SS X Γ E (.Return (some (.Name x p)) pos) (sR i):=by
 refine PS.post (ou (jR hN hv hd hcd)) λN σ H ⟨env,G,B,β,I,o⟩=>?_
 unfold sR at o
 cases q:env[i]? with
 |none=>rw[q] at o;exact o.elim
 |some s=>
  rw[q] at o
  cases s with
  |no=>exact o.elim
  |bx=>exact o.elim
  |br d=>exact o.elim
  |fz d=>
   obtain⟨v,h1,h2⟩:=I.slot i _ q
   exact⟨v,h1,o B G H σ env v I (ah.refl _) h2⟩
  |ow d=>
   obtain⟨p,h1,h2,h3,h4,h5⟩:=I.slot i _ q
   exact⟨_,h1,o B G H σ env _ I (ah.refl _) ⟨p,rfl,h2,h3,h5⟩⟩
def iL (L:List Nat)(t:VF Bool)(m m':SF):SF:=λenv β=>toS (t (vl env) β) λc β'=>if c=true then m (aS L env) β' else m' (aS L env) β'
theorem cw {x y:List Stmt}(hc:zf X Γ E c ta L)(ha:Ca X Γ E x m)(hb:Ca X Γ E y m'):SS X Γ E (.If c x y pos) (iL L ta m m'):=by
 refine PS.post (FC hc ha hb) λN σ H ⟨env,G,B,β,I,o⟩=>?_
 refine⟨env,G,B,β,I,cL o λd β' k G' H' I' s' m'=>?_⟩
 cases d with
 |true=>exact qe ⟨_,G',B,β',I',rV.weak k s'⟩
 |false=>exact p7 ⟨_,G',B,β',I',rV.weak k s'⟩
def gW (L:List Nat)(t:VF Bool)(m:SF):Nat->SF
 | 0=>λ_ _=>.bad
 |n + 1=>λenv β=>toS (t (vl env) β) λc β'=>if c=true then (match m (aS L env) β' with
   | .nx env2 β2=>gW L t m n env2 β2
   | .ct env2 β2=>gW L t m n env2 β2
   | .bk env2 β2=>.nx env2 β2
   |r=>r) else .nx (aS L env) β'
theorem nu {x:List Stmt}(n:Nat)(hp:PassesOwn (model X.prog X.w) X.A X.env X.xe)(hc:zf X Γ E c ta L)(hb:Ca X Γ E x m):SS X Γ E (.While c x [] pos) (gW L ta m n):=by
 refine PS.post (Bc hp hc hb) λN σ H ⟨env,G,B,β,I,o⟩=>?_
 refine⟨λk σ H=>∃env G1 B β,SR Γ B G1 H σ env β/\ah G G1/\rV Γ E G1 N (gW L ta m k env β),⟨n,env,G,B,β,I,ah.refl _,o⟩,?_⟩
 rintro k σ H ⟨env,G1,B,β,I,sG,o⟩
 cases k with
 |zero=>exact o.elim
 |succ k=>
  refine⟨env,G1,B,β,I,cL o λd β' q G' H' I' s' m'=>?_⟩
  cases d with
  |false=>exact p7 (q B G' H' σ I' s')
  |true=>
   refine qe ⟨λσ H=>∃env G1 B β,SR Γ B G1 H σ env β/\ah G G1/\rV Γ E G1 N (gW L ta m k env β),λσ' H' h=>⟨k,Nat.lt_succ_self k,h⟩,aS L env,G',B,β',I',?_⟩
   rw[My rfl] at q
   cases r:m (aS L env) β' with
   |nx env2 β2=>rw[r] at q;exact λB2 G2 H2 σ2 I2 s2=>⟨env2,G2,B2,β2,I2,(sG.trans s').trans s2,rV.weak q (s'.trans s2)⟩
   |ct env2 β2=>rw[r] at q;exact λB2 G2 H2 σ2 I2 s2=>⟨env2,G2,B2,β2,I2,(sG.trans s').trans s2,rV.weak q (s'.trans s2)⟩
   |bk env2 β2=>rw[r] at q;exact λB2 G2 H2 σ2 I2 s2=>q B2 G2 H2 σ2 I2 (s'.trans s2)
   |rt d fr β2=>rw[r] at q;exact rV.weak q s'
   |exc c=>rw[r] at q;exact q
   |bad=>rw[r] at q;exact q
def Walk (K:Frag)(B:Option Addr)(G H1:Hp)(ds:List D)(J:It):Prop:=∀Gc H (i:Nat),ah G Gc->ah Gc H->gR B H1 H->
 (i < ds.length->J.go i H/\∀x H',J.yld i H x H'->∃G' d,Ext Gc H G' H'/\ds[i]? =some d/\Rp K G' x d)/\(ds.length<=i->J.stop i H)
def Walk.any {K:Frag}{B:Option Addr}{G H1:Hp}{ds:List D}{J:It}(h:Walk K B G (λ_=>none) ds J):Walk K B G H1 ds J:=λGc H i s1 s2 _=>h Gc H i s1 s2 ⟨(λb o e=>by cases e),λb o u e=>by cases e⟩
def iT (Γ:Fx)(E:XK)(f:VF (List D))(L:List Nat)(md:Md):TI:=λσ H Rr=>∃env G B β,SR Γ B G H σ env β/\
 Out Γ E (f (vl env) β) λds β'=>∀J G' H',SR Γ B G' H' σ (aS L env) β'->ah G G'->gR B H H'->Walk Γ.K B G' (match md with | .b=>H' |_=>λ_=>none) ds J->Rr J H'
def SI (X:Cx)(Γ:Fx)(E:XK)(tg e:Expr)(f:VF (List D))(L:List Nat)(md:Md):Prop:=PI X tg e (iT Γ E f L md)
def PI.post {X:Cx}{tg e:Expr}{t u:TI}(h:PI X tg e t)(m:∀σ H Q,u σ H Q->t σ H Q):PI X tg e u:=λpins s σ H Q I q=>h pins s σ H Q I (m σ H Q q)
variable {tg:Expr}
def mB:D->Option (List D)
 | .list ds=>some ds
 | .tuple ds=>some ds
 |_=>none
def bK (fa:VF D):VF (List D):=λvs β=>(fa vs β).bnd λx β1=>R.of (mB x) β1
end
def Mm (K:Frag)(tl:TE):TI:=λσ H R=>tl σ H λx H1=>∃a xs,x=.ref a/\((gN K H1 a xs/\R (AH K a) H1)\/(gM K H1 a xs/\R (FD K a) H1))
section
variable {X:Cx}{tg l:Expr}{tl:TE}
def Fq (hl:PE X l tl):PI X tg l (Mm X.K tl):=by
 intro pins s σ H R I h
 refine cD (hl pins s σ H _ I h) λv s1 ⟨x,H1,I1,r1,q1⟩=>?_
 obtain⟨a,xs,e,q⟩:=q1
 subst e
 cases r1
 rcases q with⟨hq,q⟩ | ⟨hq,q⟩
 ·obtain⟨its,rv,p,hz⟩:=I1.list hq
  refine Oc p.isList ?_
  refine⟨s1.heap.objs.size,[s1.heap.objs.size],_,_,H1,rfl,I1.kept (t':=s1.toks) λb o e=>MD _ e,oh a _,⟨_,MO _ rfl,rfl,rfl⟩,λb hb=>?_,q⟩
  have e:b=s1.heap.objs.size:=by simpa using hb
  subst e
  exact I1.fpOk (MA _) (I1.hok.fresh (MA _))
 ·obtain⟨its,rv,p,hz⟩:=I1.tuple hq
  refine wpAny_pyIter_tuple (show s1.heap.IsTuple a its.toArray from p) ?_
  refine⟨s1.heap.objs.size,[s1.heap.objs.size],_,_,H1,rfl,I1.kept (t':=s1.toks) λb o e=>MD _ e,p6 a _,⟨_,MO _ rfl,rfl,rfl⟩,λb hb=>?_,q⟩
  have e:b=s1.heap.objs.size:=by simpa using hb
  subst e
  exact I1.fpOk (MA _) (I1.hok.fresh (MA _))
end
section
variable {X:Cx}{Γ:Fx}{E:XK}{e a b c:Expr}{f fa fb:VF D}{L La Lb:List Nat}{md ma mb:Md}{pos:Pos}{st:Stmt}{sts:List Stmt}{m m':SF}{ta:VF Bool}{tg:Expr}
def oj {K:Frag}{B:Option Addr}{G H1:Hp}{p:Addr}{xs:List V}{ds:List D}(h:∀Gc H,ah G Gc->ah Gc H->gR B H1 H->gN K H p xs)(r:cj K G xs ds):Walk K B G H1 ds (AH K p):=λGc H i s1 s2 m=>by
 have hq:=h Gc H s1 s2 m
 refine⟨λhi=>⟨?_,λx H' y=>?_⟩,λhi=>⟨xs,hq,by rw[r.len];exact hi⟩⟩
 ·have hi':i < xs.length:=by rw[r.len];exact hi
  exact⟨xs,xs[i],hq,by simp[hi']⟩
 ·obtain⟨rfl,y⟩:=y
  obtain⟨d,e,q⟩:=r.at' (y xs hq)
  exact⟨Gc,d,Ext.refl s2,e,q.mono s1⟩
def wI {K:Frag}{B:Option Addr}{G H1:Hp}{p:Addr}{xs:List V}{ds:List D}(h:∀Gc H,ah G Gc->ah Gc H->gR B H1 H->gM K H p xs)(r:cj K G xs ds):Walk K B G H1 ds (FD K p):=λGc H i s1 s2 m=>by
 have hq:=h Gc H s1 s2 m
 refine⟨λhi=>⟨?_,λx H' y=>?_⟩,λhi=>⟨xs,hq,by rw[r.len];exact hi⟩⟩
 ·have hi':i < xs.length:=by rw[r.len];exact hi
  exact⟨xs,xs[i],hq,by simp[hi']⟩
 ·obtain⟨rfl,y⟩:=y
  obtain⟨d,e,q⟩:=r.at' (y xs hq)
  exact⟨Gc,d,Ext.refl s2,e,q.mono s1⟩
theorem Ke (hK:X.K=Γ.K)(ha:SE X Γ E a fa La .v):SI X Γ E tg a (bK fa) La .v:=by
 refine PI.post (Fq ha) λσ H Q ⟨env,G,B,β,I,o⟩=>?_
 refine⟨env,G,B,β,I,o.bnd.imp λd1 β1 h x G1 H1 I1 s1 m1 vx=>?_⟩
 obtain⟨ds,e,k⟩:=h.of
 rw[hK]
 have vx:Rp Γ.K G1 x d1:=vx
 cases d1 with
 |list l=>
  cases e
  cases vx with
  | @lst p xs _ hq r=>exact⟨p,xs,rfl,.inl ⟨.inl (Rd.mono (.inl hq) I1.sub),k _ G1 H1 I1 s1 m1 (oj (λGc H t1 t2 _=>.inl (Rd.mono (.inl hq) (t1.trans t2))) r)⟩⟩
 |tuple l=>
  cases e
  cases vx with
  | @tup p xs _ hq r=>exact⟨p,xs,rfl,.inr ⟨hq.grow I1.sub.grow,k _ G1 H1 I1 s1 m1 (wI (λGc H t1 t2 _=>hq.grow (t1.trans t2).grow) r)⟩⟩
 |_=>cases e
theorem jZ (hK:X.K=Γ.K)(ha:SE X Γ E a fa La ma):SI X Γ E tg a (bK fa) La .b:=by
 refine PI.post (Fq ha) λσ H Q ⟨env,G,B,β,I,o⟩=>?_
 refine⟨env,G,B,β,I,o.bnd.imp λd1 β1 h x G1 H1 I1 s1 m1 vx=>?_⟩
 obtain⟨ds,e,k⟩:=h.of
 rw[hK]
 have vx:=vx.brw I.boxThere
 cases d1 with
 |list l=>
  cases e
  rcases vx with vx | ⟨p,rfl,hb,xs,q,r⟩
  ·cases vx with
   | @lst p xs _ hq r=>exact⟨p,xs,rfl,.inl ⟨.inl (Rd.mono (.inl hq) I1.sub),k _ G1 H1 I1 s1 m1 (oj (λGc H t1 t2 _=>.inl (Rd.mono (.inl hq) (t1.trans t2))) r)⟩⟩
  ·exact⟨p,xs,rfl,.inl ⟨.inl (.inl q),k _ G1 H1 I1 s1 m1 (oj (λGc H t1 t2 mv=>.inl (.inl (mv.1 p _ q hb))) r)⟩⟩
 |tuple l=>
  cases e
  rcases vx with vx | ⟨p,rfl,hb,q⟩
  ·cases vx with
   | @tup p xs _ hq r=>exact⟨p,xs,rfl,.inr ⟨hq.grow I1.sub.grow,k _ G1 H1 I1 s1 m1 (wI (λGc H t1 t2 _=>hq.grow (t1.trans t2).grow) r)⟩⟩
  ·exact q.elim
 |_=>cases e
def dP (lo:Int)(n:Nat):List D:=(List.range n).map λ(k:Nat)=>int (lo + k)
def dJ (lo:Int)(n:Nat):(dP lo n).length=n:=by unfold dP;simp
def BR {K:Frag}{B:Option Addr}{G H1:Hp}(lo:Int)(n:Nat):Walk K B G H1 (dP lo n) (BL lo n):=λGc H i s1 s2 m=>by
 rw[dJ]
 refine⟨λhi=>⟨hi,λx H' y=>?_⟩,λhi=>hi⟩
 obtain⟨rfl,rfl⟩:=y
 refine⟨Gc,.int (lo + i),Ext.refl s2,?_,.int _⟩
 unfold dP
 rw[ML,Oi hi];rfl
def Fv (j:Int):Bool:=Nat.ble j.natAbs 1000000
def Bh {j:Int}(h:Fv j=true): -(2 ^ 62)<=j/\j < 2 ^ 62:=by
 have:=Nat.le_of_ble_eq_true h
 omega
def Ac {j:Int}(h: -1000<=j)(h2:j<=10000):Fv j=true:=Nat.ble_eq_true_of_le (by omega)
def cN (fa:VF D):VF (List D):=λvs β=>(fa vs β).bnd λx β1=>match x with
 | .int j=>if Fv j=true then .ok (dP 0 j.toNat) β1 else .bad
 |_=>.bad
theorem j4 {p:Pos}(hg:Gl X "range")(hm:X.mg "range"=none)(ha:SE X Γ E a fa La ma)(hs:starEach [a] X.env= [(false,eval a X.env)]:=by rfl)(hs':starEach [a] X.env=(false,eval a X.env) :: starEach [] X.env:=by rfl):SI X Γ E tg (.Call (.Name "range" p) [a] [] pos) (cN fa) La md:=by
 refine PI.post (lR hg hm (aQ ha bS hs') hs) λσ H Q ⟨env,G,B,β,I,o⟩=>?_
 refine⟨env,G,B,β,I,o.bnd.imp λd1 β1 h x G1 H1 I1 s1 m1 vx=>?_⟩
 have vx:=vx.brw I.boxThere
 cases d1 with
 |int j=>
  obtain rfl:=vx.int
  dsimp only at h
  by_cases hj:Fv j=true
  ·rw[My hj] at h
   exact⟨j,rfl,(Bh hj).1,(Bh hj).2,h _ G1 H1 I1 s1 m1 (BR 0 _)⟩
  ·rw[MG hj] at h;exact h.elim
 |_=>exact h.elim
inductive Tg where
 |nm (i:Nat)
 |two (i j:Nat)
def pairD:D->Option (D×D)
 | .tuple [x,y]=>some (x,y)
 |_=>none
def Cm {d x y:D}(h:pairD d=some (x,y)):d=.tuple [x,y]:=by
 unfold pairD at h
 split at h
 ·cases h;rfl
 ·cases h
def gJ:Tg->D->En->Option En
 | .nm i,d,env=>some (env.set i (.fz d))
 | .two i j,d,env=>(pairD d).map λp=>(env.set i (.fz p.1)).set j (.fz p.2)
def mY:Tg->D->List Nv->Option (List Nv)
 | .nm i,d,vs=>some (vs.set i (.da d))
 | .two i j,d,vs=>(pairD d).map λp=>(vs.set i (.da p.1)).set j (.da p.2)
def xu (env:En)(i:Nat)(s:Sl):vl (env.set i s)=(vl env).set i s.val:=by unfold vl;rw[List.map_set]
theorem Eo (t:Tg)(d:D)(env:En):(gJ t d env).map vl=mY t d (vl env):=by
 cases t with
 |nm i=>show some (vl _)=some _;rw[xu];rfl
 |two i j=>
  show ((pairD d).map _).map vl=(pairD d).map _
  cases pairD d with
  |none=>rfl
  |some p=>show some (vl _)=some _;rw[xu,xu];rfl
def gT (Γ:Fx)(t:Tg):TG:=λv σ H Q=>∃env G B β d env',SR Γ B G H σ env β/\Rp Γ.K G v d/\gJ t d env=some env'/\∀σ',SR Γ B G H σ' env' β->Q σ' H
def SG (X:Cx)(Γ:Fx)(tg:Expr)(t:Tg):Prop:=PG X tg (gT Γ t)
def PG.post {X:Cx}{tg:Expr}{t u:TG}(h:PG X tg t)(m:∀v σ H Q,u v σ H Q->t v σ H Q):PG X tg u:=λpins s σ H v uu Q I r q=>h pins s σ H v uu Q I r (m v σ H Q q)
def cP {i:Nat}{x:Str}(hN:X.N.Nodup)(hi:X.N[i]? =some x:=by rfl)(hx:Loc X.env.scope x:=by first |exact Or.inl rfl |exact Or.inr rfl)(hf:X.fn x=true\/X.env.scope.names.lookup x=some .local:=by first |exact .inl rfl |exact .inr rfl |assumption):SG X Γ (.Name x pos) (.nm i):=by
 refine PG.post (dg hN hi hx hf) λv σ H Q ⟨env,G,B,β,d,env',I,r,e,k⟩=>?_
 cases e
 exact k _ (I.set' i r)
theorem jd {i j:Nat}{x y:Str}{px py:Pos}{n:Nat}(hN:X.N.Nodup)(hc:X.calm=true:=by rfl)(hK:X.K=Γ.K:=by rfl)(hi:X.N[i]? =some x:=by rfl)(hj:X.N[j]? =some y:=by rfl)(hx:Loc X.env.scope x:=by first |exact Or.inl rfl |exact Or.inr rfl)(hy:Loc X.env.scope y:=by first |exact Or.inl rfl |exact Or.inr rfl)
  (hf:X.fn x=true\/X.env.scope.names.lookup x=some .local:=by first |exact .inl rfl |exact .inr rfl |assumption) (hf':X.fn y=true\/X.env.scope.names.lookup y=some .local:=by first |exact .inl rfl |exact .inr rfl |assumption):SG X Γ (.Tuple [.Name x px,.Name y py] n pos) (.two i j):=by
 refine PG.post (qJ (n:=2) hc (dW (dg hN hi hx hf) (dW (dg hN hj hy hf') nK))) λv σ H Q ⟨env,G,B,β,d,env',I,r,e,k⟩=>?_
 rw[hK]
 have e:(pairD d).map (λp=>(env.set i (.fz p.1)).set j (.fz p.2))=some env':=e
 cases q:pairD d with
 |none=>rw[q] at e;cases e
 |some p=>
  obtain⟨dx,dy⟩:=p
  rw[q] at e
  cases e
  obtain rfl:=Cm q
  cases r with
  | @tup p xs _ hq r=>
   cases r with
   |cons r1 r=>
    cases r with
    |cons r2 r=>
     cases r
     exact⟨p,_,rfl,hq.grow I.sub.grow,rfl,_,_,rfl,_,_,rfl,rfl,k _ ((I.set' i r1).set' j r2)⟩
def k0 (t:Tg)(m:SF):List D->SF
 | []=>λenv β=>.nx env β
 |d :: ds=>λenv β=>match gJ t d env with
  |none=>.bad
  |some env1=>match m env1 β with
   | .nx env2 β2=>k0 t m ds env2 β2
   | .ct env2 β2=>k0 t m ds env2 β2
   | .bk env2 β2=>.nx env2 β2
   |r=>r
def hJ (t:Tg)(L:List Nat)(fi:VF (List D))(m:SF):SF:=λenv β=>toS (fi (vl env) β) λds β'=>k0 t m ds (aS L env) β'
def jN {t:Tg}{fi:VF (List D)}{x:List Stmt}(hp:PassesOwn (model X.prog X.w) X.A X.env X.xe)(hc:X.calm=true)(hi:SI X Γ E tg e fi L .v)(hg:SG X Γ tg t)(hb:Ca X Γ E x m)(hs:∀x,foldedSetIterable e X.env x=pure x:=by intro _;rfl):SS X Γ E (.For tg e x [] pos) (hJ t L fi m):=by
 refine PS.post (uA hp hc hi hg hb hs) λN σ H ⟨env,G,B,β,I,o⟩=>?_
 refine⟨env,G,B,β,I,cL o λds β' q J G' H' I' s' m' w=>?_⟩
 have w:Walk Γ.K B G' (λ_=>none) ds J:=w
 refine⟨λi n σ H=>n=ds.length - i/\i<=ds.length/\∃env G1 B β,SR Γ B G1 H σ env β/\ah G' G1/\rV Γ E G1 N (k0 t m (ds.drop i) env β),⟨ds.length,by simp,Nl _,aS L env,G',B,β',I',ah.refl _,by rw[List.drop_zero];exact rV.weak q s'⟩,?_⟩
 rintro i n σ H ⟨rfl,hi,env,G1,B1,β1,I1,s1,q⟩
 obtain⟨w1,w2⟩:=w G1 H i s1 I1.sub ⟨(λb o e=>by cases e),λb o u e=>by cases e⟩
 by_cases hlt:i < ds.length
 ·obtain⟨go,yl⟩:=w1 hlt
  refine .inr ⟨go,λσ H=>∃env G2 B β,SR Γ B G2 H σ env β/\ah G' G2/\rV Γ E G2 N (k0 t m (ds.drop (i + 1)) env β),λσ2 H2 h=>⟨ds.length - (i + 1),by omega,rfl,hlt,h⟩,λx H2 y=>?_⟩
  obtain⟨G2,d,x2,ed,rd⟩:=yl x H2 y
  have I2:=I1.ext x2
  have q:=rV.weak q x2.gg
  rw[OC hlt] at q
  have ed':ds[i]=d:=by rw[Mw hlt] at ed;exact Option.some.inj ed
  rw[ed'] at q
  unfold k0 at q
  cases eb:gJ t d env with
  |none=>rw[eb] at q;exact q.elim
  |some env1=>
   rw[eb] at q
   refine⟨env,G2,B1,β1,d,env1,I2,rd,eb,λσ3 I3=>⟨env1,G2,B1,β1,I3,?_⟩⟩
   have s2:=s1.trans x2.gg
   dsimp only at q
   cases r:m env1 β1 with
   |nx env2 β2=>rw[r] at q;exact λB2 G3 H3 σ2 I2 s3=>⟨env2,G3,B2,β2,I2,s2.trans s3,rV.weak q s3⟩
   |ct env2 β2=>rw[r] at q;exact λB2 G3 H3 σ2 I2 s3=>⟨env2,G3,B2,β2,I2,s2.trans s3,rV.weak q s3⟩
   |bk env2 β2=>rw[r] at q;exact λB2 G3 H3 σ2 I2 s3=>q B2 G3 H3 σ2 I2 s3
   |rt d fr β2=>rw[r] at q;exact q
   |exc c=>rw[r] at q;exact q
   |bad=>rw[r] at q;exact q
 ·have e:i=ds.length:=by omega
  subst e
  rw[drop_length] at q
  exact .inl ⟨w2 (MA _),q B1 G1 H σ I1 (ah.refl _)⟩
end
abbrev Fx.ji (Γ:Fx)(H0 G0:Hp)(par:List Addr)(br:Nat->Bool)(bx:Option Addr):Fx:=⟨Γ.K,H0,G0,par,Γ.ca,br,bx⟩
def fL (own:Nat)(ixs:List Nat)(vs:List Nv):List Nv:=List.replicate own .no ++ ixs.map λi=>(vs[i]?).getD .no
def I0:Option Sl->Sl
 |some (.ow d)=>.br d
 |some s=>s
 |none=>.no
def benv (own:Nat)(ixs:List Nat)(env:En):En:=List.replicate own .no ++ ixs.map λi=>I0 env[i]?
theorem DE (o:Option Sl):(I0 o).val=(o.map Sl.val).getD .no:=by
 cases o with
 |none=>rfl
 |some s=>cases s <;> rfl
def E4 (own:Nat)(ixs:List Nat)(env:En):vl (benv own ixs env)=fL own ixs (vl env):=by
 unfold vl benv fL
 rw[Nh,List.map_replicate,OL]
 congr 1
 refine NV λi _=>?_
 show (I0 env[i]?).val=_
 rw[DE,ML]
def xq (env:En):Prop:=∀(i:Nat) (d:D),env[i]?≠some (.ow d)
theorem wK {env:En}(h:xq env)(L:List Nat):aS L env=env:=by
 unfold aS
 induction L with
 |nil=>rfl
 |cons i L ih=>
  rw[List.foldl_cons]
  have:gF env i=env:=by
   unfold gF
   split
   ·rename_i d e;exact absurd e (h i d)
   ·rfl
  rw[this];exact ih
def r6 (own:Nat)(ixs:List Nat)(env:En):xq (benv own ixs env):=λi d e=>by
 unfold benv at e
 have hm:=MS e
 rcases MU.mp hm with h |h
 ·have:=NK h;cases this
 ·obtain⟨k,_,hk⟩:=MZ.mp h
  cases q:env[k]? with
  |none=>rw[q] at hk;cases hk
  |some s=>rw[q] at hk;cases s <;> cases hk
def qM {env:En}(h:xq env)(i:Nat)(d:D):xq (env.set i (.fz d)):=λj d' e=>by
 by_cases z:i=j
 ·subst z
  by_cases hi:i < env.length
  ·rw[MX hi] at e;cases e
  ·rw[NQ (by omega)] at e;exact h _ _ e
 ·rw[MW z] at e;exact h _ _ e
theorem zy {env env1:En}{t:Tg}{d:D}(h:xq env)(e:gJ t d env=some env1):xq env1:=by
 cases t with
 |nm i=>cases e;exact qM h i d
 |two i j=>
  have e:(pairD d).map _=some env1:=e
  cases q:pairD d with
  |none=>rw[q] at e;cases e
  |some p=>rw[q] at e;cases e;exact qM (qM h _ _) _ _
theorem zV {env env1:En}{t:Tg}{d:D}(e:gJ t d env=some env1)(d':D):gJ t d' env1=gJ t d' env:=by
 cases t with
 |nm i=>cases e;show some _=some _;rw[set_set]
 |two i j=>
  have e:(pairD d).map _=some env1:=e
  cases q:pairD d with
  |none=>rw[q] at e;cases e
  |some p=>
   rw[q] at e;cases e
   show (pairD d').map _=(pairD d').map _
   cases pairD d' with
   |none=>rfl
   |some p'=>
    show some _=some _
    congr 1
    dsimp only
    by_cases z:i=j
    ·subst z;simp[set_set]
    ·rw[List.set_comm _ _ (Ne.symm z),set_set,set_set]
def Ext.mov {G H G' H':Hp}(x:Ext G H G' H')(B:Option Addr):gR B H H':=x.hh.mov B
section
variable {Γ:Fx}{B:Option Addr}{G H G1 H1 Gc Hc:Hp}{σ σ':St}{env envb:En}{β β':Int}{own:Nat}{ixs:List Nat}{Da:Addr}{acc:List V}
def xp (envb:En):Nat->Bool:=λj=>match envb[j]? with
 |some (.br _)=>true
 |_=>false
def SR.block (I:SR Γ B G H σ env β)(own:Nat)(ixs:List Nat)(hD:H Da=none):SR (Γ.ji (upd H Da (.lst [])) G (Da :: B.toList) (xp (benv own ixs env)) B) B G (upd H Da (.lst [])) (dM own ixs σ) (benv own ixs env) β:=by
 obtain⟨q1,q2,q3,q4⟩:=I.fresh hD
 have nB:∀b,B=some b->b≠Da:=λb e z=>q3 (by rw[<-z];exact e)
 refine⟨I.sub.trans (ah.new hD),ah.refl _,λb _ h=>h,λb o h _=>Kt.of h,λb hb=>?_,λb e=>e,λb e=>?_,?_,λi s e=>?_,λi j c d d' e=>absurd e (r6 own ixs env i d)⟩
 ·rcases MH.mp hb with z |z
  ·subst z;exact Mx.lst aA
  ·have z':B=some b:=by simpa using z
   exact Mx.lst (by rw[ay (nB b z')];exact (I.box b z').1)
 ·obtain⟨h1,h2,_⟩:=I.box b e
  exact⟨by rw[ay (nB b e)];exact h1,h2,.inl (MN _ (by simpa using e))⟩
 ·unfold dM benv;simp
 ·by_cases hi:i < own
  ·unfold benv at e
   rw[M6 (by simpa using hi),ND,My hi] at e
   cases e;trivial
  ·have e0:=e
   unfold benv at e
   rw[M9 (by simpa using hi),Nq,ML] at e
   cases ek:ixs[i - own]? with
   |none=>rw[ek] at e;cases e
   |some k=>
    rw[ek] at e
    have e:I0 env[k]? =s:=Option.some.inj e
    have es:(dM own ixs σ)[i]? =some ((σ[k]?).join):=by
     unfold dM
     rw[M9 (by simpa using hi),Nq,ML,ek];rfl
    rw[es]
    cases q:env[k]? with
    |none=>rw[q] at e;subst e;trivial
    |some t=>
     rw[q] at e
     have w:=I.slot k t q
     cases t with
     |no=>subst e;trivial
     |fz d=>subst e;obtain⟨v,h1,h2⟩:=w;exact⟨v,by rw[h1];rfl,h2⟩
     |bx=>subst e;obtain⟨a,h1,h2⟩:=w;exact⟨a,by rw[h1];rfl,h2⟩
     |ow d=>
      subst e
      obtain⟨a,h1,h2,h3,h4,h5⟩:=w
      obtain⟨o,ho⟩:=h5.obj
      have aD:a≠Da:=aJ ho hD
      refine⟨by show xp _ i=true;unfold xp;rw[e0];rfl,a,by rw[h1];rfl,h4,?_,h5.mono (ah.refl _) λo q=>Kt.of (by rw[ay aD];exact q)⟩
      intro hm
      rcases MH.mp hm with z |z
      ·exact aD z
      ·exact h4 (by simpa using z)
     |br d=>
      subst e
      obtain⟨b1,a,h1,h4,hp,h5⟩:=w
      obtain⟨o,ho⟩:=h5.obj
      have aD:a≠Da:=aJ ho hD
      refine⟨by show xp _ i=true;unfold xp;rw[e0];rfl,a,by rw[h1];rfl,h4,?_,h5.mono (ah.refl _) λo q=>Kt.of (by rw[ay aD];exact q)⟩
      intro hm
      rcases MH.mp hm with z |z
      ·exact aD z
      ·exact h4 (by simpa using z)
def SR.unblock (I:SR Γ B G H σ env β){br:Nat->Bool}(hD:H Da=none)(J:SR (Γ.ji (upd H Da (.lst [])) G (Da :: B.toList) br B) B Gc Hc σ' envb β'):SR Γ B Gc Hc σ env β'/\gR B H Hc/\Gc Da=none:=by
 obtain⟨q1,q2,q3,q4⟩:=I.fresh hD
 have up:∀{b:Addr},Mx H b->Mx (upd H Da (.lst [])) b:=λ{b} h=>h.same λo e=>Kt.of (by rw[ay (aJ e hD)];exact e)
 have mv0:∀b o,H b=some o->B≠some b->Kt Hc b o:=λb o e n=>J.keep b o (show upd H Da (.lst []) b=some o by rw[ay (aJ e hD)];exact e) λhm=>by
  rcases MH.mp hm with z |z
  ·rw[z,hD] at e;cases e
  ·exact n (by simpa using z)
 have mv:gR B H Hc:=⟨mv0,λb o u e=>mv0 b _ e λz=>by rw[(I.box b z).1] at e;cases e⟩
 refine⟨⟨J.sub,I.old.trans J.old,λb h1 h2=>J.new b (up (I.thereM h1)) (I.new b h1 h2),λb o h1 h2=>qv (I.keep b o h1 h2) mv λz=>?_,λb hb=>J.thereM (up (I.pin b hb)),I.fix,λb e=>?_,I.len,λi s e=>?_,I.sep⟩,mv,J.new Da (Mx.lst (show upd H Da (.lst []) Da=some (.lst []) from aA)) q2⟩
 ·obtain⟨_,_,h3⟩:=I.box b z
  rcases h3 with h3 |h3
  ·exact h2 h3
  ·rw[h1] at h3;cases h3
 ·obtain⟨j1,j2,_⟩:=J.box b e
  exact⟨j1,j2,(I.box b e).2.2⟩
 ·have w:=I.slot i s e
  cases s with
  |no=>trivial
  |fz d=>obtain⟨v,h1,h2⟩:=w;exact⟨v,h1,h2.mono J.old⟩
  |bx=>exact w
  |ow d=>
   obtain⟨a,h1,h2,h3,h4,h5⟩:=w
   exact⟨a,h1,h2,J.new a (up h5.mx) h3,h4,h5.mono J.old λo q=>mv.1 a o q h4⟩
  |br d=>
   obtain⟨b1,a,h1,h4,hp,h5⟩:=w
   exact⟨b1,a,h1,h4,hp,h5.mono J.old λo q=>mv.1 a o q h4⟩
def SR.updD {ys:List V}(J:SR Γ B G H σ env β)(hp:Da∈Γ.par)(h0:Mx Γ.H0 Da)(g0:Γ.G0 Da=none)(hB:B≠some Da):SR Γ B G (upd H Da (.lst ys)) σ env β:=by
 have gD:=J.new Da h0 g0
 have ha:∀x y,H Da≠some (.aS x y):=λx y w=>(J.pin Da hp).2 _ w trivial
 refine⟨λb u q=>lI (J.sub b u q) (λz=>by rw[z,gD] at q;cases q) ha,J.old,J.new,λb u q n=>lI (J.keep b u q n) (λz=>n (by rw[z];exact hp)) ha,λb hb=>?_,J.fix,λb e=>?_,J.len,λi s e=>?_,J.sep⟩
 ·by_cases z:b=Da
  ·subst z;exact Mx.lst aA
  ·exact (J.pin b hb).same λo e=>Kt.of (by rw[ay z];exact e)
 ·obtain⟨h1,h2⟩:=J.box b e
  exact⟨by rw[ay (λz=>hB (by rw[<-z];exact e))];exact h1,h2⟩
 ·have w:=J.slot i s e
  cases s with
  |no=>trivial
  |fz d=>exact w
  |bx=>exact w
  |ow d=>
   obtain⟨a,h1,h2,h3,h4,h5⟩:=w
   have aD:a≠Da:=λz=>h0.1 (by rw[<-z];exact h2)
   exact⟨a,h1,h2,h3,h4,h5.mono (ah.refl _) λo q=>Kt.of (by rw[ay aD];exact q)⟩
  |br d=>
   obtain⟨b1,a,h1,h4,hpa,h5⟩:=w
   have aD:a≠Da:=λz=>hpa (by rw[z];exact hp)
   exact⟨b1,a,h1,h4,hpa,h5.mono (ah.refl _) λo q=>Kt.of (by rw[ay aD];exact q)⟩
end
def R.okb {α γ:Type}(r:R α)(k:α->Int->R γ):R γ:=match r with
 | .ok a β=>k a β
 |_=>.bad
def gH (t:Tg)(ft:VF Bool)(fe:VF D)(vs:List Nv):List D->Int->R (List D)
 | [],β=>.ok [] β
 |d :: ds,β=>match mY t d vs with
  |none=>.bad
  |some vs1=>(ft vs1 β).okb λc β1=>if c=true then (fe vs1 β1).okb λx β2=>(gH t ft fe vs ds β2).okb λxs β3=>.ok (x :: xs) β3 else gH t ft fe vs ds β1
def aL (own:Nat)(ixs:List Nat)(t:Tg)(fi:VF (List D))(ft:VF Bool)(fe:VF D):VF D:=λvs β=>(fi vs β).bnd λds β1=>if ds.length<=sizeLine then (gH t ft fe (fL own ixs vs) ds β1).okb λxs β2=>.ok (.list xs) β2 else .bad
def jT:VF Bool:=λ_ β=>.ok true β
def FE (own:Nat)(ixs Lc:List Nat)(j:Nat):Bool:=decide (j < own) || (match ixs[j - own]? with
 |some i=>Lc.contains i
 |none=>false)
theorem D1 {α γ:Type}{Γ:Fx}{E:XK}{r:R α}{k:α->Int->R γ}{P:γ->Int->Prop}(h:Out Γ E (r.okb k) P):∃a β,r=.ok a β/\Out Γ E (k a β) P:=by
 cases r with
 |ok a β=>exact⟨a,β,rfl,h⟩
 |exc c=>exact h.elim
 |bad=>exact h.elim
section
variable {X:Cx}{Γ:Fx}{E:XK}{tg iter elt:Expr}{ifs:List Expr}{scope:Scope}{NB:List Str}{own:Nat}{ixs Li Lc Lt Le:List Nat}{t:Tg}{fi:VF (List D)}{ft:VF Bool}{fe:VF D}{pos:Pos}
def cX {X:Cx}{Γ:Fx}{E:XK}:Bf X [] (qT Γ E jT []):=λpins s σ H Q I ⟨env,G,B,β,J,o⟩=>uU pins s σ H Q I (o G H J (ah.refl _) (gR.refl _ _))
def eN {X:Cx}{Γ:Fx}{E:XK}{c:Expr}{ta:VF Bool}{L:List Nat}(h:zf X Γ E c ta L):Bf X [c] (qT Γ E ta L):=zq h
def j6 {NB:List Str}{scope:Scope}{C:Addr}{ex:List Addr}{s3:Shared}{H3:Hp}{pn:List (Addr×Obj)}{P:Program}{w:World}:Passes (mO P w) (ji X NB scope C ex s3 H3 pn) E0:=λpins σ H s e s' I h=>by
 obtain⟨_,_,_,_,_,_,_,_,_,q⟩:=h
 exact q.elim
abbrev gU (Γ:Fx)(t:Tg):TG:=λv σ H Q=>∃H0 G0 par br bx,gT (Γ.ji H0 G0 par br bx) t v σ H Q
abbrev tU (Γ:Fx)(own:Nat)(ixs Lc:List Nat)(ft:VF Bool)(Lt:List Nat):TT:=λσ H Q=>∃H0 G0 par br bx,(∀j,FE own ixs Lc j=true->br j=false)/\qT (Γ.ji H0 G0 par br bx) E0 ft Lt σ H Q
abbrev eU (Γ:Fx)(own:Nat)(ixs Lc:List Nat)(fe:VF D)(Le:List Nat):TE:=λσ H Q=>∃H0 G0 par br bx,(∀j,FE own ixs Lc j=true->br j=false)/\pT (Γ.ji H0 G0 par br bx) E0 fe Le .v σ H Q
def FJ {σ:St}{H:Hp}{Q:VK}(hLc:∀i,i∈Lc->Γ.br i=false)(h:pT Γ E (aL own ixs t fi ft fe) (Li ++ Lc) .w σ H Q):yj own ixs (iT Γ E fi Li .b) (gU Γ t) (tU Γ own ixs Lc ft Lt) (eU Γ own ixs Lc fe Le) σ H Q:=by
 obtain⟨env,G,B,β,I,o⟩:=h
 refine⟨env,G,B,β,I,o.bnd.imp λds β1 h J G1 H1 I1 s1 m1 wk Da hD=>?_⟩
 have wk:Walk Γ.K B G1 H1 ds J:=wk
 by_cases hz:ds.length<=sizeLine
 case neg=>rw[MG hz] at h;exact h.elim
 rw[My hz] at h
 obtain⟨xs0,β0,e0,h⟩:=D1 h
 have h:∀v G' H',SR Γ B G' H' σ (aS (Li ++ Lc) env) β0->ah G G'->gR B H H'->VO Γ.K B H G' H' .w (.list xs0) v->Q v H':=h
 obtain⟨G2,I2,s2⟩:=I1.aS Lc hLc
 rw[<-bZ] at I2
 obtain⟨q1,q2,q3,q4⟩:=I2.fresh hD
 have Ib0:=I2.block own ixs hD
 generalize hbr:xp (benv own ixs (aS (Li ++ Lc) env))=br at Ib0
 have hbo:∀j,FE own ixs Lc j=true->br j=false:=by
  intro j hj
  rw[<-hbr]
  unfold xp
  split
  ·rename_i d e
   exfalso
   unfold benv at e
   by_cases hjo:j < own
   ·rw[M6 (by simpa using hjo),ND,My hjo] at e;cases e
   ·rw[M9 (by simpa using hjo),Nq,ML] at e
    unfold FE at hj
    rw[MR hjo,Bool.false_or] at hj
    cases ek:ixs[j - own]? with
    |none=>rw[ek] at hj;cases hj
    |some k=>
     rw[ek] at hj e
     have hk:k∈Lc:=by simpa using hj
     have e:I0 (aS (Li ++ Lc) env)[k]? =.br d:=Option.some.inj e
     cases q:(aS (Li ++ Lc) env)[k]? with
     |none=>rw[q] at e;cases e
     |some s=>
      rw[q] at e
      cases s with
      |no=>cases e
      |fz _=>cases e
      |bx=>cases e
      |br d'=>
       obtain⟨b1,_⟩:=I2.slot k _ q
       rw[hLc k hk] at b1;cases b1
      |ow d'=>
       rw[bZ] at q
       have key:∀(M:List Nat) (en:En),k∈M->∀d',(aS M en)[k]?≠some (.ow d'):=by
        intro M
        induction M with
        |nil=>intro en hm;cases hm
        |cons i M ih=>
         intro en hm d' z
         rcases MH.mp hm with y |y
         ·subst y
          have z1:(gF en k)[k]? =some (.ow d'):=og (L:=M) z
          have z2:=tv z1
          unfold gF at z1
          rw[z2] at z1
          dsimp only at z1
          rw[MX (MF.mp z2).1] at z1;cases z1
         ·exact ih (gF en i) y d' z
       exact key Lc _ hk d' q
  ·rfl
 have evb:vl (benv own ixs (aS (Li ++ Lc) env))=fL own ixs (vl env):=by rw[E4,dc]
 refine⟨λi n σ' H'=>n=ds.length - i/\i<=ds.length/\∃envb Gc β' acc accd,SR (Γ.ji (upd H1 Da (.lst [])) G2 (Da :: B.toList) br B) B Gc H' σ' envb β'/\(envb=benv own ixs (aS (Li ++ Lc) env)\/∃d,gJ t d (benv own ixs (aS (Li ++ Lc) env))=some envb)/\
   H' Da=some (.lst acc)/\cj Γ.K Gc acc accd/\accd.length<=i/\∃xs,gH t ft fe (fL own ixs (vl env)) (ds.drop i) β'=.ok xs β0/\accd ++ xs=xs0,
  ⟨ds.length,by simp,Nl _,_,G2,β1,[],[],Ib0,.inl rfl,aA,.nil,Nl _,xs0,by rw[List.drop_zero];exact e0,rfl⟩,?_⟩
 rintro i n σ' H' ⟨rfl,hi',envb,Gc,β',acc,accd,Ib,eb,hacc,racc,lacc,xs,ec,exs⟩
 obtain⟨Io,mv,gD⟩:=I2.unblock hD Ib
 obtain⟨w1,w2⟩:=wk Gc H' i (s2.trans Ib.old) Ib.sub mv
 by_cases hlt:i < ds.length
 ·obtain⟨go,yl⟩:=w1 hlt
  refine .inr ⟨go,λσ' H'=>∃envb Gc β' acc accd,SR (Γ.ji (upd H1 Da (.lst [])) G2 (Da :: B.toList) br B) B Gc H' σ' envb β'/\(envb=benv own ixs (aS (Li ++ Lc) env)\/∃d,gJ t d (benv own ixs (aS (Li ++ Lc) env))=some envb)/\
   H' Da=some (.lst acc)/\cj Γ.K Gc acc accd/\accd.length<=i + 1/\∃xs,gH t ft fe (fL own ixs (vl env)) (ds.drop (i + 1)) β'=.ok xs β0/\accd ++ xs=xs0,λσ2 H2 hh=>⟨ds.length - (i + 1),by omega,rfl,hlt,hh⟩,λx H2 y=>?_⟩
  obtain⟨G3,d,x3,ed,rd⟩:=yl x H2 y
  have I3:=Ib.ext x3
  have ed':ds[i]=d:=by rw[Mw hlt] at ed;exact Option.some.inj ed
  rw[OC hlt,ed'] at ec
  unfold gH at ec
  cases ebv:mY t d (fL own ixs (vl env)) with
  |none=>rw[ebv] at ec;cases ec
  |some vs1=>
   rw[ebv] at ec
   dsimp only at ec
   obtain⟨env1,eb1,ev1⟩:∃env1,gJ t d (benv own ixs (aS (Li ++ Lc) env))=some env1/\vl env1=vs1:=by
    have:=Eo t d (benv own ixs (aS (Li ++ Lc) env))
    rw[evb,ebv] at this
    cases q:gJ t d (benv own ixs (aS (Li ++ Lc) env)) with
    |none=>rw[q] at this;cases this
    |some env1=>rw[q] at this;exact⟨env1,rfl,Option.some.inj this⟩
   have eb2:gJ t d envb=some env1:=by
    rcases eb with rfl | ⟨d0,eb⟩
    ·exact eb1
    ·rw[zV eb];exact eb1
   have no1:xq env1:=zy (r6 _ _ _) eb1
   have a2:H2 Da=some (.lst acc):=x3.hh _ _ hacc
   refine⟨_,_,_,_,_,envb,G3,B,β',d,env1,I3,rd,eb2,λσ3 I4=>?_⟩
   refine⟨_,_,_,_,_,hbo,env1,G3,B,β',I4,?_⟩
   rw[ev1]
   cases et:ft vs1 β' with
   |exc c=>rw[et] at ec;cases ec
   |bad=>rw[et] at ec;cases ec
   |ok c β2=>
    rw[et] at ec
    intro G4 H4 I5 s4 m4
    rw[wK no1] at I5
    have a4:H4 Da=some (.lst acc):=m4.1 _ _ a2 q3
    cases c with
    |false=>
     refine p7 ⟨env1,G4,β2,acc,accd,I5,.inr ⟨d,eb1⟩,a4,racc.mono (x3.gg.trans s4),by omega,xs,?_,exs⟩
     exact ec
    |true=>
     refine qe ⟨_,_,_,_,_,hbo,env1,G4,B,β2,I5,?_⟩
     rw[ev1]
     have ec:((fe vs1 β2).okb λx β3=>(gH t ft fe (fL own ixs (vl env)) (ds.drop (i + 1)) β3).okb λxs β4=>R.ok (x :: xs) β4)=R.ok xs β0:=ec
     cases ee:fe vs1 β2 with
     |exc c=>rw[ee] at ec;cases ec
     |bad=>rw[ee] at ec;cases ec
     |ok dx β3=>
      rw[ee] at ec
      intro v G5 H5 I6 s5 m5 vo
      rw[wK no1] at I6
      have a5:H5 Da=some (.lst acc):=m5.1 _ _ a4 q3
      have ec:((gH t ft fe (fL own ixs (vl env)) (ds.drop (i + 1)) β3).okb λxs β4=>R.ok (dx :: xs) β4)=R.ok xs β0:=ec
      cases er:gH t ft fe (fL own ixs (vl env)) (ds.drop (i + 1)) β3 with
      |exc c=>rw[er] at ec;cases ec
      |bad=>rw[er] at ec;cases ec
      |ok ys β4=>
       rw[er] at ec
       cases ec
       refine⟨acc,a5,by rw[racc.len];omega,env1,G5,β3,acc ++ [v],accd ++ [dx],?_,.inr ⟨d,eb1⟩,aA,(racc.mono ((x3.gg.trans s4).trans s5)).snoc vo,by rw[MY];simp;omega,ys,er,by rw[<-exs,N1];rfl⟩
       refine I6.updD (MM ..) (Mx.lst (show upd H1 Da (.lst []) Da=some (.lst []) from aA)) (I2.sub.free hD) q3
 ·have e:i=ds.length:=by omega
  subst e
  rw[drop_length] at ec
  cases ec
  rw[NU] at exs
  subst exs
  refine .inl ⟨w2 (MA _),⟨acc,hacc⟩,h _ Gc H' Io ((s1.trans s2).trans Ib.old) (m1.trans mv) ⟨Da,rfl,fx m1 I1.boxThere hD,gD,acc,hacc,racc⟩⟩
def bU (hg:∀H0 G0 par br bx C ex s3 H3 pn,SG (ji X NB scope C ex s3 H3 pn) (Γ.ji H0 G0 par br bx) tg t)(C:Addr)(ex:List Addr)(s3:Shared)(H3:Hp)(pn:List (Addr×Obj)):PG (ji X NB scope C ex s3 H3 pn) tg (gU Γ t):=by
 rintro pins s σ H v u Q I r ⟨H0,G0,par,br,bx,q⟩
 exact hg H0 G0 par br bx C ex s3 H3 pn pins s σ H v u Q I r q
def bR (Lc:List Nat)(hc:X.calm=true)(S:bY X NB own ixs scope)(hLc:∀i,i∈Lc->Γ.br i=false)(hi:SI X Γ E tg iter fi Li .b)
  (hg:∀H0 G0 par br bx C ex s3 H3 pn,SG (ji X NB scope C ex s3 H3 pn) (Γ.ji H0 G0 par br bx) tg t)
  (ht:∀H0 G0 par br bx C ex s3 H3 pn,(∀j,FE own ixs Lc j=true->br j=false)->Bf (ji X NB scope C ex s3 H3 pn) ifs (qT (Γ.ji H0 G0 par br bx) E0 ft Lt))
  (he:∀H0 G0 par br bx C ex s3 H3 pn,(∀j,FE own ixs Lc j=true->br j=false)->SE (ji X NB scope C ex s3 H3 pn) (Γ.ji H0 G0 par br bx) E0 elt fe Le .v)
  (hs:∀x,foldedSetIterable iter X.env x=pure x:=by intro _;rfl) :
  SE X Γ E (.ListComp elt [⟨tg,iter,ifs,0⟩] scope pos) (aL own ixs t fi ft fe) (Li ++ Lc) .w:=by
 refine PE.post' (vj (g:=gU Γ t) (tt:=tU Γ own ixs Lc ft Lt) (te:=eU Γ own ixs Lc fe Le) hc S hi (bU hg) (λC ex s3 H3 pn=>?_) (λC ex s3 H3 pn=>?_) hs) λσ H Q h=>FJ hLc h
 ·rintro pins s σ H Q I ⟨H0,G0,par,br,bx,b,q⟩
  exact ht H0 G0 par br bx C ex s3 H3 pn b pins s σ H Q I q
 ·rintro pins s σ H Q I ⟨H0,G0,par,br,bx,b,q⟩
  exact he H0 G0 par br bx C ex s3 H3 pn b pins s σ H Q I q
def mT {i:Nat}{y:Str}{py spos:Pos}(Lc:List Nat)(hc:X.calm=true)(S:bY X NB own ixs scope)(hLc:∀i,i∈Lc->Γ.br i=false)(hi:SI X Γ E tg iter fi Li .b)
  (hg:∀H0 G0 par br bx C ex s3 H3 pn,SG (ji X NB scope C ex s3 H3 pn) (Γ.ji H0 G0 par br bx) tg t)
  (ht:∀H0 G0 par br bx C ex s3 H3 pn,(∀j,FE own ixs Lc j=true->br j=false)->Bf (ji X NB scope C ex s3 H3 pn) ifs (qT (Γ.ji H0 G0 par br bx) E0 ft Lt))
  (he:∀H0 G0 par br bx C ex s3 H3 pn,(∀j,FE own ixs Lc j=true->br j=false)->SE (ji X NB scope C ex s3 H3 pn) (Γ.ji H0 G0 par br bx) E0 elt fe Le .v)
  (hN:X.N.Nodup) (hy:X.N[i]? =some y:=by rfl) (hl:X.env.scope.names.lookup y=some .local:=by rfl)
  (hsw:swapsWith (.ListComp elt [⟨tg,iter,ifs,0⟩] scope pos) (some (.Name y py)) spos.line X.env=pure true:=by rfl)
  (hs:∀x,foldedSetIterable iter X.env x=pure x:=by intro _;rfl) :
  SS X Γ E (.Assign [.Name y py] (.ListComp elt [⟨tg,iter,ifs,0⟩] scope pos) spos) (bQ i (Li ++ Lc) (aL own ixs t fi ft fe)):=by
 refine PS.post (B8 (g:=gU Γ t) (tt:=tU Γ own ixs Lc ft Lt) (te:=eU Γ own ixs Lc fe Le) hc S hi (bU hg) (λC ex s3 H3 pn=>?_) (λC ex s3 H3 pn=>?_) hN hy hl hsw hs) λN σ H ⟨env,G,B,β,I,o⟩=>?_
 ·rintro pins s σ H Q I ⟨H0,G0,par,br,bx,b,q⟩
  exact ht H0 G0 par br bx C ex s3 H3 pn b pins s σ H Q I q
 ·rintro pins s σ H Q I ⟨H0,G0,par,br,bx,b,q⟩
  exact he H0 G0 par br bx C ex s3 H3 pn b pins s σ H Q I q
 refine FJ hLc ⟨env,G,B,β,I,cL o λd β' k v G' H' I' s' m' vo=>?_⟩
 obtain⟨G2,I2,s2,r⟩:=I.letW I' vo
 exact k B G2 H' _ (I2.set' i r) (s'.trans s2)
end
def fin:SO->FR
 | .nx _ _=>.ok .none false
 | .rt d fr _=>.ok d fr
 | .exc c=>.exc c
 |_=>.bad
def x9 (n:Nat)(ds:List D):En:=ds.map Sl.fz ++ List.replicate (n - ds.length) .no
def aV (n p:Nat)(m:SF):List D->FR:=λds=>if ds.length=p then fin (m (x9 n ds) 0) else .bad
abbrev Fx.fn (K:Frag)(H G:Hp)(ca:Str->Addr):Fx:=⟨K,H,G,[],ca,λ_=>false,none⟩
def SR.start {K:Frag}{H G:Hp}{ca:Str->Addr}{N:List Str}{vs:List V}{ds:List D}(s:ah G H)(r:cj K G vs ds)(hn:ds.length<=N.length):SR (Fx.fn K H G ca) none G H (start N vs) (x9 N.length ds) 0:=by
 have hl:=r.len
 refine⟨s,ah.refl _,λb _ h=>h,λb o h _=>Kt.of h,λb h=>(by cases h),λb h=>(by cases h),λb h=>(by cases h),?_,λi t e=>?_,λi j a d e h=>?_⟩
 ·unfold L2.start x9;simp;omega
 ·unfold x9 at e
  by_cases hi:i < ds.length
  ·rw[M6 (by simpa using hi),ML,Mw hi] at e
   cases e
   obtain⟨x,hx,rx⟩:=r.at (Mw hi)
   refine⟨x,?_,rx⟩
   unfold L2.start
   rw[M6 (by simpa[hl] using hi),ML,hx];rfl
  ·rw[M9 (by simpa using hi),ND] at e
   split at e
   ·cases e;trivial
   ·cases e
 ·unfold x9 at h
  have hm:=MS h
  rcases MU.mp hm with z |z
  ·obtain⟨_,_,z⟩:=MZ.mp z;cases z
  ·have:=NK z;cases this
section
variable {P:Program}{w:World}{K:Frag}{mg:Str->Option Value}{base:Heap}{ca:Str->Addr}
def aW {x qual:Str}{st:Stmt}{f:Addr}{fd:FuncData}{N ps:List Str}{k:Nat}{m:SF}(F:AS K x qual st f fd)(S:aF N ps (ao st))
  (hbody:∀(cdv:Value) (A:Around) (outer:List Env) (s:Shared) (H G:Hp) (E:XK),dt k (A.deeper (envOfC qual (ao st) s.heap.objs.size f cdv))->Ca (o4 (mO P w) P w K mg base N qual (ao st) f cdv A outer s H E) (Fx.fn K H G ca) E (cU st) m) :
  e8 P w K mg base (mO P w) (k + 1) f fd ps (BQ K ca ps.length (aV N.length ps.length m)):=by
 have hpn:ps.length<=N.length:=by have:=congrArg List.length S.pre;rw[Np] at this;omega
 refine F.Fv S (λvs H Q E h=>?_) (λcdv A outer s H vs Q E hr h=>?_)
 ·obtain⟨G,ds,sG,hl,r,_⟩:=h
  rw[r.len];exact hl
 ·obtain⟨G,ds,sG,hl,r,h⟩:=h
  refine⟨_,hbody cdv A outer s H G E hr,?_⟩
  have I:=SR.start (ca:=ca) (N:=N) sG r (by omega)
  refine⟨_,G,none,0,I,?_⟩
  unfold aV at h
  rw[My hl] at h
  have fin':∀{B G' H' σ env β},SR (Fx.fn K H G ca) B G' H' σ env β->ah H H':=λJ b o e=>J.keep b o e (λz=>by cases z)
  cases q:m (x9 N.length ds) 0 with
  |nx env β=>rw[q] at h;exact λB G' H' σ J s'=>h .non G' H' (fin' J) s' J.sub (λb h1 h2=>J.new b h1 h2) Rp.non
  |bk env β=>rw[q] at h;exact h.elim
  |ct env β=>rw[q] at h;exact h.elim
  |rt d fr β=>
   rw[q] at h
   refine λB G' H' σ env v J s' rv=>h v G' H' (fin' J) s' J.sub (λb h1 h2=>J.new b h1 h2) ?_
   cases fr with
   |true=>exact rv
   |false=>exact rv
  |exc c=>rw[q] at h;exact λH' kp=>h H' λb o e=>kp b o e (λz=>by cases z)
  |bad=>rw[q] at h;exact h.elim
def Dc {f:Addr}{fd:FuncData}{ps:List Str}{k:Nat}:e8 P w K mg base (mO P w) k f fd ps (BQ K ca ps.length λ_=>.bad):=
 ⟨λvs H Q E h=>by obtain⟨_,_,_,_,_,h⟩:=h;exact h.elim,λA outer s H args us vs Q E _ _ _ _ h=>by obtain⟨_,_,_,_,_,h⟩:=h;exact h.elim⟩
def Em {n:Nat}{F F':List D->FR}(h:∀ds,ds.length=n->F' ds≠.bad->F ds=F' ds){vs:List V}{H:Hp}{Q:VK}{E:XK}(q:BQ K ca n F' vs H Q E):BQ K ca n F vs H Q E:=by
 obtain⟨G,ds,s,hl,r,q⟩:=q
 refine⟨G,ds,s,hl,r,?_⟩
 by_cases hb:F' ds=.bad
 ·rw[hb] at q;exact q.elim
 ·rw[h ds hl hb];exact q
def cn.imp {x:Str}{ps:List Str}{k:Nat}{F F':List D->FR}(h:cn P w K mg base ca x ps k F)(i:∀ds,F' ds≠.bad->F ds=F' ds):cn P w K mg base ca x ps k F':=by
 obtain⟨f,fd,a,b,c,d⟩:=h.ex
 exact⟨⟨f,fd,a,b,c,d.imp λvs H Q E q=>Em (λds _=>i ds) q⟩,λds hn=>h.len ds (by rw[i ds hn];exact hn)⟩
def aK {n p:Nat}{m:SF}(ds:List D)(h:aV n p m ds≠.bad):ds.length=p:=by
 unfold aV at h
 by_cases hl:ds.length=p
 ·exact hl
 ·rw[MG hl] at h;exact absurd rfl h
end
section
variable {X:Cx}{Γ:Fx}{E:XK}{e a b c:Expr}{f fa fb:VF D}{L La Lb:List Nat}{md ma mb:Md}{pos apos cpos np:Pos}
def qH:Option Sl->Bool
 |some (.ow (.list _))=>true
 |_=>false
theorem mU {o:Option Sl}(h:qH o=true):∃ds,o=some (.ow (.list ds)):=by
 cases o with
 |none=>cases h
 |some s=>
  cases s with
  |ow d=>cases d with
   |list ds=>exact⟨ds,rfl⟩
   |_=>cases h
  |_=>cases h
def FU (i:Nat)(env:En)(β:Int)(g:List D->Option (List D)):SO:=match env[i]? with
 |some (.ow (.list ds))=>(match g ds with
  |some es=>.nx (env.set i (.ow (.list es))) β
  |none=>.bad)
 |_=>.bad
def mH (i:Nat)(L:List Nat)(f:VF D):SF:=λenv β=>if qH env[i]? =true then toS (f (vl env) β) λd β'=>FU i (aS L env) β' λds=>if ds.length < sizeLine then some (ds ++ [d]) else none else .bad
def pJ {Γ:Fx}{E:XK}{G:Hp}{N:Ends}{i:Nat}{env:En}{β:Int}{g:List D->Option (List D)}(h:rV Γ E G N (FU i env β g)):∃ds es,env[i]? =some (.ow (.list ds))/\g ds=some es/\rV Γ E G N (.nx (env.set i (.ow (.list es))) β):=by
 unfold FU at h
 split at h
 ·rename_i ds q
  cases e:g ds with
  |none=>rw[e] at h;exact h.elim
  |some es=>rw[e] at h;exact⟨ds,es,q,e,h⟩
 ·exact h.elim
def jV (i:Nat){x:Str}(hb:∀j,Γ.br j=false)(he:SE X Γ E e f L .v)(hN:X.N[i]? =some x:=by rfl)(hv:y9 X.env.scope x:=by first |exact Or.inl rfl |exact Or.inr (Or.inl rfl) |exact Or.inr (Or.inr rfl))(hd:(x == ("__debug__":Str))=false:=by decide)
  (hcd:(x == ("__classdict__":Str))=false:=by decide)
  (hbase:attributeBase (.Name x np) "append" X.env (eval (.Name x np) X.env)=eval (.Name x np) X.env:=by rfl)
  (hfew:((backTo cpos (starEach [e] X.env)).all (λx=> !x.1) && (backToKw cpos (keywordEach [] X.env)).all (λx=>x.1.isSome)
   && decide ([e].length + ([]:List Keyword).length + (if ([]:List Keyword).isEmpty then 0 else 1) < 30))=true:=by rfl)
  (hline:(apos.endLine == cpos.line)=true:=by rfl) (hs:starEach [e] X.env=(false,eval e X.env) :: starEach [] X.env:=by rfl)
  (hsw:swapsWith (.Call (.Attribute (.Name x np) "append" apos) [e] [] cpos) none pos.line X.env=pure false:=by rfl) :
  SS X Γ E (.Expr (.Call (.Attribute (.Name x np) "append" apos) [e] [] cpos) pos) (mH i L f):=by
 refine PS.post (pL (yn Oj PySem.F.slot_list_append PySem.F.type_list_append nQ (jR hN hv hd hcd) (aQ he bS hs) hbase hfew hline hs rfl) hsw) λN σ H ⟨env,G,B,β,I,o⟩=>?_
 unfold mH at o
 by_cases hO:qH env[i]? =true
 case neg=>rw[MG hO] at o;exact o.elim
 rw[My hO] at o
 obtain⟨ds0,q0⟩:=mU hO
 obtain⟨p,h1,_,_,_,xs,h5,_⟩:=I.slot i _ q0
 refine⟨_,h1,.inl ⟨rfl,xs,.inl (.inl h5)⟩,?_⟩
 refine⟨env,G,B,β,I,cL o λd β' k v G' H' I' s' m' vo=>?_⟩
 obtain⟨ds,es,q,eg,k⟩:=pJ k
 by_cases hz:ds.length < sizeLine
 case neg=>rw[MG hz] at eg;cases eg
 rw[My hz] at eg
 cases eg
 obtain⟨p',g1,_,_,_,ys,g5,g6⟩:=I'.slot i _ q
 rw[h1] at g1;cases g1
 refine⟨p,ys,v,rfl,rfl,g5,by rw[g6.len];exact hz,?_⟩
 exact k B G' _ σ (I'.write hb q h1 λH2 e2 s2=>⟨_,e2,g6.snoc vo⟩) s'
def Jr:V->List V->Hp->VK->Prop:=λx vs H Q=>∃l b xs zs,x=.ref l/\vs= [.ref b]/\H l=some (.lst xs)/\Rd H b (.lst zs)/\xs.length + zs.length<=sizeLine/\Q .non (upd H l (.lst (xs ++ zs)))
def Inv.lstR {pins:List (Addr×Obj)}{σ:St}{H:Hp}{s:Shared}{l:Addr}{xs:List V}(I:Inv X pins σ H s)(hH:Rd H l (.lst xs)):xs.length<=sizeLine/\∃(its:List Value) (n:Nat),Vals xs its/\xs.length=its.length/\s.heap.get? l=some {cls:=.type "list",data:=.seq its.toArray n}:=by
 obtain⟨z,its,n,r,e⟩:=hH.ok I.hok
 exact⟨z,its,n,r,r.length,e⟩
def DJ:IF X "list.extend" Jr:=by
 intro pins s σ H x vs v us Q I rx rv h
 obtain⟨l,b,xs,zs,rfl,rfl,hH,hB,hz,q⟩:=h
 cases rx
 obtain⟨u,rfl,ru⟩:=rv.one
 cases ru
 obtain⟨z,its,n,r,hl,e⟩:=I.lstM hH
 obtain⟨z2,its2,n2,r2,hl2,e2⟩:=I.lstR hB
 have hsz:its.toArray.size + its2.toArray.size<=sizeLine:=by rw[MK,MK];omega
 have hlong:¬(!its.toArray.isEmpty && Builtin.List.listTooLong (its.toArray.size + its2.toArray.size))=true:=by
  rw[vT hsz,Bool.and_false]
  exact MI
 refine call_meets F.slot_list_extend ⟨_,e,rfl⟩ F.entry_list_extend (F.args_list_extend_2 _ _)
  (AutoSeq1.list_extend_list_list_0 l its.toArray n b its2.toArray n2 hlong (by rw[MK];omega) (by omega)) ⟨e,e2,?_⟩
 refine⟨.non,_,I.lset (its':=its ++ its2) hH e (by simp) (r.append r2) ?_,rfl,q⟩
 rw[MY]
 omega
def z5 (i:Nat)(L:List Nat)(f:VF D):SF:=λenv β=>if qH env[i]? =true then toS (f (vl env) β) λd β'=>FU i (aS L env) β' λds=>match d with
 | .list es=>if ds.length + es.length<=sizeLine then some (ds ++ es) else none
 |_=>none else .bad
theorem zt (i:Nat){x:Str}(hb:∀j,Γ.br j=false)(he:SE X Γ E e f L md)(hN:X.N[i]? =some x:=by rfl)(hv:y9 X.env.scope x:=by first |exact Or.inl rfl |exact Or.inr (Or.inl rfl) |exact Or.inr (Or.inr rfl))(hd:(x == ("__debug__":Str))=false:=by decide)
  (hcd:(x == ("__classdict__":Str))=false:=by decide)
  (hbase:attributeBase (.Name x np) "extend" X.env (eval (.Name x np) X.env)=eval (.Name x np) X.env:=by rfl)
  (hfew:((backTo cpos (starEach [e] X.env)).all (λx=> !x.1) && (backToKw cpos (keywordEach [] X.env)).all (λx=>x.1.isSome)
   && decide ([e].length + ([]:List Keyword).length + (if ([]:List Keyword).isEmpty then 0 else 1) < 30))=true:=by rfl)
  (hline:(apos.endLine == cpos.line)=true:=by rfl) (hs:starEach [e] X.env=(false,eval e X.env) :: starEach [] X.env:=by rfl)
  (hsw:swapsWith (.Call (.Attribute (.Name x np) "extend" apos) [e] [] cpos) none pos.line X.env=pure false:=by rfl) :
  SS X Γ E (.Expr (.Call (.Attribute (.Name x np) "extend" apos) [e] [] cpos) pos) (z5 i L f):=by
 refine PS.post (pL (yn Oj PySem.F.slot_list_extend PySem.F.type_list_extend DJ (jR hN hv hd hcd) (aQ he bS hs) hbase hfew hline hs rfl) hsw) λN σ H ⟨env,G,B,β,I,o⟩=>?_
 unfold z5 at o
 by_cases hO:qH env[i]? =true
 case neg=>rw[MG hO] at o;exact o.elim
 rw[My hO] at o
 obtain⟨ds0,q0⟩:=mU hO
 obtain⟨p,h1,_,_,_,xs,h5,_⟩:=I.slot i _ q0
 refine⟨_,h1,.inl ⟨rfl,xs,.inl (.inl h5)⟩,?_⟩
 refine⟨env,G,B,β,I,cL o λd β' k v G' H' I' s' m' vo=>?_⟩
 obtain⟨ds,es,q,eg,k⟩:=pJ k
 cases d with
 |list fs=>
  dsimp only at eg
  by_cases hz:ds.length + fs.length<=sizeLine
  case neg=>rw[MG hz] at eg;cases eg
  rw[My hz] at eg
  cases eg
  obtain⟨p',g1,_,_,_,ys,g5,g6⟩:=I'.slot i _ q
  rw[h1] at g1;cases g1
  obtain⟨pb,zs,rfl,hq,rz⟩:=(vo.brw I.boxThere).list I'.sub
  refine⟨p,pb,ys,zs,rfl,rfl,g5,hq,by rw[g6.len,rz.len];exact hz,?_⟩
  exact k B G' _ σ (I'.write hb q h1 λH2 e2 s2=>⟨_,e2,g6.append rz⟩) s'
 |_=>cases eg
def vZ (i:Nat)(Le Li:List Nat)(fe fi:VF D):SF:=λenv β=>toS (fe (vl env) β) λd β1=>if qH (aS Le env)[i]? =true then toS (fi (vl env) β1) λk β2=>FU i (aS (Le ++ Li) env) β2 λds=>match k with
 | .int j=>(q8 ds.length j).map λn=>ds.set n d
 |_=>none else .bad
theorem Dr (i:Nat){x:Str}{spos:Pos}(hb:∀j,Γ.br j=false)(he:SE X Γ E e f La .v)(hi:SE X Γ E a fa Lb mb)(hN:X.N[i]? =some x:=by rfl)(hv:y9 X.env.scope x:=by first |exact Or.inl rfl |exact Or.inr (Or.inl rfl) |exact Or.inr (Or.inr rfl))(hd:(x == ("__debug__":Str))=false:=by decide)
  (hcd:(x == ("__classdict__":Str))=false:=by decide)
  (hA:∀v,assign (.Subscript (.Name x np) a spos) X.env v=(do
   let ov <-holding [v] (eval (.Name x np) X.env)
   let iv <-holding [v,ov] (eval a X.env)
   standAt spos
   holding [v,ov,iv] (setItem ov iv v)
   release [v,ov,iv] []):=by intro _;rfl)
  (hs:swapsWithSole [.Subscript (.Name x np) a spos] e pos.line X.env=pure false:=by rfl) (hw:swappedStores [.Subscript (.Name x np) a spos] e X.env=pure none:=by rfl)
  (h1:(assignEach [.Subscript (.Name x np) a spos] X.env).map (·.2)= [assign (.Subscript (.Name x np) a spos) X.env]:=by rfl) :
  SS X Γ E (.Assign [.Subscript (.Name x np) a spos] e pos) (vZ i La Lb f fa):=by
 refine PS.post (p0 he (tW (jR hN hv hd hcd) hi set_list hA) hs hw h1) λN σ H ⟨env,G,B,β,I,o⟩=>?_
 refine⟨env,G,B,β,I,cL o λd β1 o v G1 H1 I1 s1 m1 vo=>?_⟩
 by_cases hO:qH (aS La env)[i]? =true
 case neg=>rw[MG hO] at o;exact o.elim
 rw[My hO] at o
 obtain⟨ds0,q0⟩:=mU hO
 obtain⟨p,h1,_,_,_,xs,h5,_⟩:=I1.slot i _ q0
 refine⟨_,h1,aS La env,G1,B,β1,I1,?_⟩
 rw[dc]
 refine cL o λk β2 o w G2 H2 I2 s2 m2 vi=>?_
 rw[<-bZ] at I2
 obtain⟨ds,es,q,eg,o⟩:=pJ o
 cases k with
 |int j=>
  dsimp only at eg
  obtain rfl:=(vi.brw I1.boxThere).int
  obtain⟨p',g1,_,_,_,ys,g5,g6⟩:=I2.slot i _ q
  rw[h1] at g1;cases g1
  cases en:q8 ds.length j with
  |none=>rw[en] at eg;cases eg
  |some n=>
   rw[en] at eg
   cases eg
   have vo:Rp Γ.K G1 v d:=vo
   refine⟨p,ys,j,n,rfl,rfl,g5,by rw[g6.len];exact en,?_⟩
   exact o B G2 _ σ (I2.write hb q h1 λH3 e3 s3=>⟨_,e3,g6.set (vo.mono s2) n⟩) (s1.trans s2)
 |_=>cases eg
end
section
variable {K:Frag}{X:Cx}
def qP {g:Int->Int->V}{gd:D->D->Option D}(h:∀dx dy d,gd dx dy=some d->∃i j,dx=.int i/\dy=.int j/\∀G,Rp K G (g i j) d):l7 K (uX g) gd .v:=by
 intro B G H x y dx dy d Q s hB bx by' e k
 obtain⟨i,j,rfl,rfl,r⟩:=h _ _ _ e
 obtain rfl:=bx.int
 obtain rfl:=by'.int
 exact⟨i,j,rfl,rfl,k _ G H (Ext.refl s) (r G)⟩
def zr {C:Int->Int->Prop}{g:Int->Int->V}{gd:D->D->Option D}(h:∀dx dy d,gd dx dy=some d->∃i j,dx=.int i/\dy=.int j/\C i j/\∀G,Rp K G (g i j) d):l7 K (rI C g) gd .v:=by
 intro B G H x y dx dy d Q s hB bx by' e k
 obtain⟨i,j,rfl,rfl,c,r⟩:=h _ _ _ e
 obtain rfl:=bx.int
 obtain rfl:=by'.int
 exact⟨i,j,rfl,rfl,c,k _ G H (Ext.refl s) (r G)⟩
def gI (c:Int->Int->Bool)(g:Int->Int->D):D->D->Option D
 | .int i,.int j=>if c i j=true then some (g i j) else none
 |_,_=>none
def vq (g:Int->Int->D):D->D->Option D
 | .int i,.int j=>some (g i j)
 |_,_=>none
def ze {c:Int->Int->Bool}{g:Int->Int->D}{dx dy d:D}(h:gI c g dx dy=some d):∃i j,dx=.int i/\dy=.int j/\c i j=true/\d=g i j:=by
 unfold gI at h
 split at h
 ·split at h
  ·cases h;exact⟨_,_,rfl,rfl,by assumption,rfl⟩
  ·cases h
 ·cases h
def ku {g:Int->Int->D}{dx dy d:D}(h:vq g dx dy=some d):∃i j,dx=.int i/\dy=.int j/\d=g i j:=by
 unfold vq at h
 split at h
 ·cases h;exact⟨_,_,rfl,rfl,rfl⟩
 ·cases h
def nh:D->D->Option D:=vq λi j=>.int (i - j)
def Bm:l7 K (uX λi j=>.int (i - j)) nh .v:=qP λdx dy d h=>by obtain⟨i,j,rfl,rfl,rfl⟩:=ku h;exact⟨i,j,rfl,rfl,λ_=>.int _⟩
def GG:D->D->Option D:=gI (λ_ j=>decide (0 < j) && decide (j < 1073741824)) λi j=>.int (i / j)
def Ji:l7 K (rI Ds λi j=>.int (i / j)) GG .v:=zr λdx dy d h=>by obtain⟨i,j,rfl,rfl,c,rfl⟩:=ze h;exact⟨i,j,rfl,rfl,by simpa[Ds] using c,λ_=>.int _⟩
def kZ:D->D->Option D:=gI (λ_ j=>decide (0 < j)) λi j=>.int (i % j)
def sd:l7 K (rI (λ_ j=>0 < j) λi j=>.int (i % j)) kZ .v:=zr λdx dy d h=>by obtain⟨i,j,rfl,rfl,c,rfl⟩:=ze h;exact⟨i,j,rfl,rfl,by simpa using c,λ_=>.int _⟩
def Gh (i j:Int):Bool:=decide (0<=j) && decide (j<=1000000) && decide (i.natAbs < 2 ^ 64)
def EF {i j:Int}(h:Gh i j=true):HJ i j:=by
 unfold Gh at h
 simp only[MP,MT] at h
 exact⟨h.1.1,h.1.2,h.2⟩
def G7:D->D->Option D:=gI Gh λi j=>.int (i * 2 ^ j.toNat)
def ID:l7 K (rI HJ λi j=>.int (i * 2 ^ j.toNat)) G7 .v:=zr λdx dy d h=>by obtain⟨i,j,rfl,rfl,c,rfl⟩:=ze h;exact⟨i,j,rfl,rfl,EF c,λ_=>.int _⟩
def C3:D->D->Option D:=vq λi j=>.int (Builtin.bitAnd i j)
def IY:l7 K (uX λi j=>.int (Builtin.bitAnd i j)) C3 .v:=qP λdx dy d h=>by obtain⟨i,j,rfl,rfl,rfl⟩:=ku h;exact⟨i,j,rfl,rfl,λ_=>.int _⟩
def Ko:D->D->Option D:=vq λi j=>.int (Builtin.bitOr i j)
def IG:l7 K (uX λi j=>.int (Builtin.bitOr i j)) Ko .v:=qP λdx dy d h=>by obtain⟨i,j,rfl,rfl,rfl⟩:=ku h;exact⟨i,j,rfl,rfl,λ_=>.int _⟩
def sX:D->D->Option D:=vq λi j=>.bool (decide (i < j))
def vK:D->D->Option D:=vq λi j=>.bool (decide (i<=j))
def Mj:D->D->Option D:=vq λi j=>.bool (decide (j < i))
def Aw:l7 K (uX λi j=>.bl (decide (i < j))) sX .v:=qP λdx dy d h=>by obtain⟨i,j,rfl,rfl,rfl⟩:=ku h;exact⟨i,j,rfl,rfl,λ_=>.bl _⟩
def yh:l7 K (uX λi j=>.bl (decide (i<=j))) vK .v:=qP λdx dy d h=>by obtain⟨i,j,rfl,rfl,rfl⟩:=ku h;exact⟨i,j,rfl,rfl,λ_=>.bl _⟩
def Ln:l7 K (uX λi j=>.bl (decide (j < i))) Mj .v:=qP λdx dy d h=>by obtain⟨i,j,rfl,rfl,rfl⟩:=ku h;exact⟨i,j,rfl,rfl,λ_=>.bl _⟩
mutual
theorem yy:∀d:D,d.canLay0=true->AR d=true
 | .none,_=>rfl
 | .bool _,_=>rfl
 | .int _,_=>rfl
 | .str _,_=>rfl
 | .list ds,h=>by simp only[PyData.canLay0] at h;simp only[AR];exact qK ds h
 | .tuple ds,h=>by simp only[PyData.canLay0] at h;simp only[AR];exact qK ds h
 | .dict _,h=>by simp[PyData.canLay0] at h
theorem qK:∀ds:List D,PyData.canLayAll0 ds=true->rG ds=true
 | [],_=>rfl
 |d :: ds,h=>by
  simp only[PyData.canLayAll0,MP] at h
  simp only[rG,MP]
  exact⟨yy d h.1,qK ds h.2⟩
end
def uq {d:D}(h:SeqAt.shaped d=true):AR d=true:=yy d (NX h)
theorem yK:∀{ds:List D},(ds.all SeqAt.shaped)=true->rG ds=true
 | [],_=>rfl
 |d :: ds,h=>by
  rw[all_cons,MP] at h
  simp only[rG,MP]
  exact⟨uq h.1,yK h.2⟩
def cR (neg:Bool)(x y:D):Option D:=if (SeqAt.shaped x && SeqAt.shaped y)=true then some (.bool (if neg then !PyData.eqv x y else PyData.eqv x y)) else none
def dQ {neg:Bool}:l7 K (Hl K neg) (cR neg) .v:=by
 intro B G H x y dx dy d Q s hB bx by' e k
 unfold cR at e
 split at e
 ·rename_i h
  rw[MP] at h
  cases e
  exact⟨dx,dy,(bx.rpH s).rep (uq h.1),(by'.rpH s).rep (uq h.2),h.1,h.2,k _ G H (Ext.refl s) (.bl _)⟩
 ·cases e
def lQ (neg:Bool)(x y:D):Option D:=match mB y with
 |some ds=>if (SeqAt.shaped x && ds.all SeqAt.shaped)=true then some (.bool (if neg then !(ds.any λe=>PyData.eqv e x) else ds.any λe=>PyData.eqv e x)) else none
 |none=>none
theorem l6.seq {B:Option Addr}{G H:Hp}{v:V}{d:D}{ds:List D}(h:l6 K B G H v d)(e:mB d=some ds)(s:ah G H):∃a xs,v=.ref a/\(gN K H a xs\/gM K H a xs)/\cj K G xs ds:=by
 cases d with
 |list l=>cases e;obtain⟨a,xs,e,q,r⟩:=h.list s;exact⟨a,xs,e,.inl (.inl q),r⟩
 |tuple l=>cases e;obtain⟨a,xs,e,q,r⟩:=h.tuple s;exact⟨a,xs,e,.inr q,r⟩
 |_=>cases e
theorem oU {neg:Bool}:l7 K (GA K neg) (lQ neg) .v:=by
 intro B G H x y dx dy d Q s hB bx by' e k
 unfold lQ at e
 cases q:mB dy with
 |none=>rw[q] at e;cases e
 |some ds=>
  rw[q] at e
  dsimp only at e
  split at e
  ·rename_i h
   rw[MP] at h
   cases e
   obtain⟨a,xs,rfl,hq,r⟩:=by'.seq q s
   refine⟨a,xs,dx,ds,rfl,hq,(r.mono s).reps (yK h.2),(bx.rpH s).rep (uq h.1),h.1,λe he=>MV.mp h.2 e he,k _ G H (Ext.refl s) (.bl _)⟩
  ·cases e
def D5:D->Bool
 | .none=>true
 |_=>false
theorem cj.ints {G:Hp}:∀ns:List Int,cj K G (ns.map V.int) (ns.map int)
 | []=>.nil
 |n :: ns=>.cons (.int n) (cj.ints ns)
theorem zu.noNone {G:Hp}{kvs:List (Key×V)}{d:D}{r:List (D×D)}(h:zu K G kvs ((.none,d) :: r)):False:=by
 generalize e:(PyData.none,d) :: r=l at h
 cases h with
 |nil=>cases e
 | @cons k x xs d' ds _ _=>
  injection e with e1 _
  injection e1 with e2 _
  cases k <;> cases e2
theorem AX.noNone {G:Hp}{kvs:List (List Key×V)}{d:D}{r:List (D×D)}(h:AX K G kvs ((.none,d) :: r)):False:=by
 generalize e:(PyData.none,d) :: r=l at h
 cases h with
 |nil=>cases e
 | @cons k x xs d' ds _ _=>
  injection e with e1 _
  injection e1 with e2 _
  cases e2
def l6.scr {B:Option Addr}{G H:Hp}{v:V}{ds:List D}(h:l6 K B G H v (.dict [(.none,.list ds)]))(s:ah G H):∃a xs,v=.ref a/\gN K H a xs/\cj K G xs ds:=by
 rcases h with h | ⟨a,rfl,n,h⟩
 ·cases h with
  | @scr a ns q=>exact⟨a,_,rfl,s.seq q,cj.ints ns⟩
  |dK _ r=>exact r.noNone.elim
  |dT _ r=>exact r.noNone.elim
 ·rcases h with⟨_,_,r⟩ | ⟨_,_,r⟩
  ·exact r.noNone.elim
  ·exact r.noNone.elim
def a8:D->D->Option D
 | .list ds,.int i=>k9 ds i
 | .tuple ds,.int i=>k9 ds i
 | .str z,.int i=>if z.length<=sizeLine then (k9 z.cps.toList i).map λc=>.str ⟨#[c]⟩ else none
 | .dict [(.none,.list ds)],.int i=>k9 ds i
 |_,_=>none
theorem tL {G:Hp}{xs:List V}{ds:List D}{i:Int}{d:D}(r:cj K G xs ds)(h:k9 ds i=some d):∃x,k9 xs i=some x/\Rp K G x d:=by
 unfold k9 at h ⊢
 rw[r.len]
 cases e:q8 ds.length i with
 |none=>rw[e] at h;cases h
 |some j=>rw[e] at h;exact r.at h
theorem a9:l7 K (L6 K) a8 .v:=by
 intro B G H x y dx dy d Q s hB bx by' e k
 cases dx with
 |list ds=>
  cases dy with
  |int i=>
   obtain rfl:=by'.int
   obtain⟨a,xs,rfl,q,r⟩:=bx.list s
   obtain⟨v,ev,rv⟩:=tL r e
   exact .inl ⟨a,xs,i,v,rfl,rfl,.inl q,ev,k _ G H (Ext.refl s) rv⟩
  |_=>cases e
 |tuple ds=>
  cases dy with
  |int i=>
   obtain rfl:=by'.int
   obtain⟨a,xs,rfl,q,r⟩:=bx.tuple s
   obtain⟨v,ev,rv⟩:=tL r e
   exact .inr (.inl ⟨a,xs,i,v,rfl,rfl,q,ev,k _ G H (Ext.refl s) rv⟩)
  |_=>cases e
 |str z=>
  cases dy with
  |int i=>
   obtain rfl:=by'.int
   obtain rfl:=bx.str
   simp only[a8] at e
   split at e
   ·rename_i hz
    cases q:k9 z.cps.toList i with
    |none=>rw[q] at e;cases e
    |some c=>rw[q] at e;cases e;exact .inr (.inr ⟨z,i,c,rfl,rfl,hz,q,k _ G H (Ext.refl s) (.str _)⟩)
   ·cases e
  |_=>cases e
 |none=>cases dy <;> cases e
 |bool b=>cases dy <;> cases e
 |int b=>cases dy <;> cases e
 |dict b=>
  obtain⟨ds,i,rfl,rfl,e⟩:∃ds i,b= [(.none,.list ds)]/\dy=.int i/\k9 ds i=some d:=by
   unfold a8 at e
   split at e
   ·contradiction
   ·contradiction
   ·contradiction
   ·rename_i h;cases h;exact⟨_,_,rfl,rfl,e⟩
   ·cases e
  obtain rfl:=by'.int
  obtain⟨a,xs,rfl,q,r⟩:=bx.scr s
  obtain⟨v,ev,rv⟩:=tL r e
  exact .inl ⟨a,xs,i,v,rfl,rfl,q,ev,k _ G H (Ext.refl s) rv⟩
def cy:D->Option D
 | .list ds=>some (.int ds.length)
 | .tuple ds=>some (.int ds.length)
 | .str z=>if z.length<=sizeLine then some (.int z.length) else none
 | .dict [(.none,.list ds)]=>some (.int ds.length)
 |_=>none
def LX (K:Frag):List V->Hp->VK->Prop:=λxs H Q=>∃x n,xs= [x]/\Kd K x H n/\Q (.int n) H
def fC:AV K (λx=>LX K [x]) cy .v:=by
 intro B G H x dx d Q s hB bx e k
 unfold cy at e
 split at e
 ·cases e;obtain⟨a,xs,rfl,q,r⟩:=bx.list s;exact⟨_,_,rfl,.inl ⟨xs,.inl q,r.len.symm⟩,k _ G H (Ext.refl s) (.int _)⟩
 ·cases e;obtain⟨a,xs,rfl,q,r⟩:=bx.tuple s;exact⟨_,_,rfl,.inr ⟨xs,q,r.len.symm⟩,k _ G H (Ext.refl s) (.int _)⟩
 ·obtain rfl:=bx.str
  split at e
  ·rename_i hz;cases e;exact⟨_,_,rfl,⟨hz,rfl⟩,k _ G H (Ext.refl s) (.int _)⟩
  ·cases e
 ·cases e;obtain⟨a,xs,rfl,q,r⟩:=bx.scr s;exact⟨_,_,rfl,.inl ⟨xs,q,r.len.symm⟩,k _ G H (Ext.refl s) (.int _)⟩
 ·cases e
def n8:D->Option D
 | .list ds=>some (.tuple ds)
 | .tuple ds=>some (.tuple ds)
 |_=>none
theorem nz:AV K (λx H Q=>∃p ys,[x]= [.ref p]/\((gN K H p ys/\∀l,H l=none->Q (.ref l) (upd H l (.tup ys)))\/(gM K H p ys/\Q (.ref p) H))) n8 .v:=by
 intro B G H x dx d Q s hB bx e k
 cases dx with
 |list ds=>
  cases e
  obtain⟨a,xs,rfl,q,r⟩:=bx.list s
  refine⟨a,xs,rfl,.inl ⟨.inl q,λl hl=>?_⟩⟩
  have x:=Ext.new s (o:=.tup xs) hl
  exact k _ _ _ x (.tup (.inl (.inl aA)) (r.mono x.gg))
 |tuple ds=>
  cases e
  rcases bx with bx | ⟨_,_,_,z⟩
  ·cases bx with
   | @tup a xs _ hq r=>exact⟨a,xs,rfl,.inr ⟨hq.grow s.grow,k _ G H (Ext.refl s) (.tup hq r)⟩⟩
  ·exact z.elim
 |_=>cases e
def CA:D->Option D
 | .list ds=>some (.list ds)
 | .tuple ds=>some (.list ds)
 |_=>none
def B0:AV K (λx H Q=>∃p ys,[x]= [.ref p]/\(gN K H p ys\/gM K H p ys)/\∀l,H l=none->Q (.ref l) (upd H l (.lst ys))) CA .w:=by
 intro B G H x dx d Q s hB bx e k
 obtain⟨ds,e1,rfl⟩:∃ds,mB dx=some ds/\d=.list ds:=by
  cases dx <;> cases e <;> exact⟨_,rfl,rfl⟩
 obtain⟨a,xs,rfl,hq,r⟩:=bx.seq e1 s
 refine⟨a,xs,rfl,hq,λl hl=>?_⟩
 exact k _ _ _ (Ext.own s (o:=.lst xs) hl) ⟨l,rfl,hl,s.free hl,xs,aA,r⟩
def lJ:List D->Option (List Bool)
 | []=>some []
 | .bool b :: ds=>(lJ ds).map (b :: ·)
 |_=>none
theorem rX {G:Hp}:∀{ds:List D} {bs:List Bool} {xs:List V},lJ ds=some bs->cj K G xs ds->xs=bs.map V.bl
 | [],bs,xs,e,r=>by cases e;cases r;rfl
 | .bool b :: ds,bs,xs,e,r=>by
  cases r with
  |cons r1 r2=>
   cases r1
   simp only[lJ] at e
   cases q:lJ ds with
   |none=>rw[q] at e;cases e
   |some cs=>rw[q] at e;cases e;rw[rX q r2];rfl
 | .none :: _,_,_,e,_=>by cases e
 | .int _ :: _,_,_,e,_=>by cases e
 | .str _ :: _,_,_,e,_=>by cases e
 | .list _ :: _,_,_,e,_=>by cases e
 | .tuple _ :: _,_,_,e,_=>by cases e
 | .dict _ :: _,_,_,e,_=>by cases e
def bB (f:List Bool->Bool):D->Option D
 | .list ds=>(lJ ds).map λbs=>.bool (f bs)
 |_=>none
theorem fQ {f:List Bool->Bool}:AV K (λx=>w9 K f [x]) (bB f) .v:=by
 intro B G H x dx d Q s hB bx e k
 cases dx with
 |list ds=>
  simp only[bB] at e
  cases q:lJ ds with
  |none=>rw[q] at e;cases e
  |some bs=>
   rw[q] at e
   cases e
   obtain⟨a,xs,rfl,hq,r⟩:=bx.list s
   obtain rfl:=rX q r
   exact⟨a,bs,rfl,.inl hq,k _ G H (Ext.refl s) (.bl _)⟩
 |_=>cases e
def Fs:R2:=λx y H Q=>∃l b xs zs,x=.ref l/\y=.ref b/\Rd H l (.lst xs)/\Rd H b (.lst zs)/\xs.length + zs.length<=sizeLine/\∀p,H p=none->Q (.ref p) (upd H p (.lst (xs ++ zs)))
def jt:kT X (binaryOp .Add) Fs:=by
 intro pins s σ H x y v u Q I rx ry h
 obtain⟨l,b,xs,zs,rfl,rfl,hH,hB,hz,q⟩:=h
 cases rx
 cases ry
 obtain⟨z,its,n,r,hl,e⟩:=I.lstR hH
 obtain⟨z2,its2,n2,r2,hl2,e2⟩:=I.lstR hB
 refine PySem.P.add_list e e2 ?_ (by rw[MK,MK];omega)
 have ea:its.toArray ++ its2.toArray=(its ++ its2).toArray:=by simp
 rw[ea]
 exact⟨.ref _,_,I.lnew (t':=s.toks) (r.append r2) (by rw[MY];omega),rfl,q _ I.fresh⟩
def ka:D->D->Option D
 | .list a,.list b=>if a.length + b.length<=sizeLine then some (.list (a ++ b)) else none
 |_,_=>none
def oF:l7 K Fs ka .w:=by
 intro B G H x y dx dy d Q s hB bx by' e k
 cases dx <;> cases dy <;> first | (cases e;done) |skip
 rename_i a b
 simp only[ka] at e
 split at e
 ·rename_i hz
  cases e
  obtain⟨p,xs,rfl,q1,r1⟩:=bx.list s
  obtain⟨p2,ys,rfl,q2,r2⟩:=by'.list s
  refine⟨p,p2,xs,ys,rfl,rfl,q1,q2,by rw[r1.len,r2.len];exact hz,λl hl=>?_⟩
  exact k _ _ _ (Ext.own s (o:=.lst (xs ++ ys)) hl) ⟨l,rfl,hl,s.free hl,_,aA,r1.append r2⟩
 ·cases e
def cx:D->D->Option D:=vq λi j=>.int (i + j)
def gY:l7 K (uX λi j=>.int (i + j)) cx .v:=qP λdx dy d h=>by obtain⟨i,j,rfl,rfl,rfl⟩:=ku h;exact⟨i,j,rfl,rfl,λ_=>.int _⟩
def df:D->D->Option D:=gI (λi j=>(decide (-(2 ^ 64) < i) && decide (i < 2 ^ 64)) || (decide (-(2 ^ 64) < j) && decide (j < 2 ^ 64))) λi j=>.int (i * j)
def my:l7 K (rI CS λi j=>.int (i * j)) df .v:=zr λdx dy d h=>by obtain⟨i,j,rfl,rfl,c,rfl⟩:=ze h;exact⟨i,j,rfl,rfl,by simpa[CS] using c,λ_=>.int _⟩
def uL:D->D->Option D
 | .list a,.int k=>if -(2 ^ 63)<=k/\k < 2 ^ 63/\a.length * k.toNat<=sizeLine then some (.list (List.replicate k.toNat a).flatten) else none
 |_,_=>none
def Bx {a b:Expr}{fa fb:VF D}{La Lb:List Nat}{mb:Md}{Γ:Fx}{E:XK}{pos:Pos}(ha:SE X Γ E a fa La .w)(hb:SE X Γ E b fb Lb mb):SE X Γ E (.BinOp a .Mult b pos) (f2 fa fb uL) (La ++ Lb) .w:=by
 refine PE.post' (sE De ha hb) λσ H Q ⟨env,G,B,β,I,o⟩=>?_
 refine⟨env,G,B,β,I,o.bnd.imp λd1 β1 h x G1 H1 I1 s1 m1 vx=>⟨aS La env,G1,B,β1,I1,?_⟩⟩
 rw[dc]
 refine h.bnd.imp λd2 β2 h y G2 H2 I2 s2 m2 vy=>?_
 obtain⟨d,e,k⟩:=h.of
 rw[<-bZ] at I2
 obtain⟨p,rfl,p1,p2,p3⟩:=vx
 have by':=vy.brw I1.boxThere
 cases d1 <;> cases d2 <;> first | (cases e;done) |skip
 rename_i l j
 obtain rfl:=by'.int
 simp only[uL] at e
 split at e
 ·rename_i hz
  cases e
  obtain⟨xs,q,r⟩:=p3
  obtain⟨q1,q2,q3,q4⟩:=I.fresh p1
  have r2:=r.mono s2
  refine⟨p,j,xs,rfl,rfl,m2.1 _ _ q q3,hz.1,hz.2.1,by rw[r.len];exact hz.2.2,λl hl=>?_⟩
  have x:=Ext.own I2.sub (o:=.lst (List.replicate j.toNat xs).flatten) hl
  exact k _ _ _ (I2.ext x) ((s1.trans s2).trans x.gg) ((m1.trans m2).trans (x.hh.mov B)) ⟨l,rfl,fx (m1.trans m2) I2.boxThere hl,I2.sub.free hl,_,aA,r2.rep⟩
 ·cases e
def o8:D->Option D
 | .int i=>some (.int (-i))
 |_=>none
theorem Bs:AV K (rU λi=>.int (-i)) o8 .v:=by
 intro B G H x dx d Q s hB bx e k
 cases dx with
 |int i=>cases e;obtain rfl:=bx.int;exact⟨i,rfl,k _ G H (Ext.refl s) (.int _)⟩
 |_=>cases e
def Jj:D->String
 | .none=>"NoneType"
 | .bool _=>"bool"
 | .int _=>"int"
 | .str _=>"str"
 | .list _=>"list"
 | .tuple _=>"tuple"
 | .dict _=>"dict"
def By (d:D)(T:String):Bool:=Jj d == T || (T == "int" && Jj d == "bool")
def fA:D->Bool
 | .dict ((.none,_) :: _)=>true
 |_=>false
def fV (T:String)(d:D):Option D:=if fA d=true then none else some (.bool (By d T))
def Mf (K:Frag)(H:Hp)(x:V)(t:String):Prop:=ET K H x t\/(t="dict"/\∃a kvs,x=.ref a/\H a=some (.dT kvs))
def Jm (K:Frag):List V->Hp->VK->Prop:=λxs H Q=>∃x T t b,xs= [x,.ty T]/\Mf K H x t/\PySem.W.kitOne K (.type t) (.type T)=some b/\Q (.bl b) H
def Bd:dZ X (.builtin "isinstance") (Jm X.K):=by
 intro pins s σ H xs us Q I r h
 obtain⟨x,T,t,b,rfl,ty,e,q⟩:=h
 rcases ty with ty | ⟨rfl,a,kvs,rfl,hk⟩
 ·exact Ci pins s σ H _ us Q I r ⟨x,T,t,b,rfl,ty,e,q⟩
 ·obtain⟨u,c,rfl,rx,rc⟩:=vals2 r
  cases rc
  cases rx
  obtain⟨_,_,_,_,o,_,_,e2,ex,_⟩:=I.hok a _ hk
  exact Nr PySem.W.kitx_dict I.kIn ⟨o,e2,ex.1⟩ e (λz=>nomatch z) λtk=>⟨.bl b,H,I.tok tk,rfl,q⟩
theorem l6.ty {B:Option Addr}{G H:Hp}{v:V}{d:D}(h:l6 K B G H v d)(s:ah G H)(n:fA d=false):Mf K H v (Jj d):=by
 cases d with
 |none=>obtain rfl:=h.none;exact .inl .non
 |bool b=>obtain rfl:=h.bool;exact .inl (.bl b)
 |int b=>obtain rfl:=h.int;exact .inl (.int b)
 |str b=>obtain rfl:=h.str;exact .inl (.str b)
 |list b=>obtain⟨a,xs,rfl,q,_⟩:=h.list s;exact .inl (.lst (.inl q))
 |tuple b=>obtain⟨a,xs,rfl,q,_⟩:=h.tuple s;exact .inl (.tup q)
 |dict b=>
  rcases h with h | ⟨a,rfl,_,h⟩
  ·cases h with
   |scr _=>cases n
   |dK q _=>exact .inl (.dic (s _ _ q))
   |dT q _=>exact .inr ⟨rfl,_,_,rfl,s _ _ q⟩
  ·rcases h with⟨_,q,_⟩ | ⟨_,q,_⟩
   ·exact .inl (.dic q)
   ·exact .inr ⟨rfl,_,_,rfl,q⟩
theorem Iy {d:D}{T:String}(hT:T∈ ["int","bool","str","list","tuple","dict"]):PySem.W.kitOne K (.type (Jj d)) (.type T)=some (By d T):=by
 simp only[MH,NP,or_false] at hT
 cases d with
 |dict l=>rcases hT with rfl |rfl |rfl |rfl |rfl |rfl <;> rfl
 |none=>rcases hT with rfl |rfl |rfl |rfl |rfl |rfl <;> rfl
 |bool _=>rcases hT with rfl |rfl |rfl |rfl |rfl |rfl <;> rfl
 |int _=>rcases hT with rfl |rfl |rfl |rfl |rfl |rfl <;> rfl
 |str _=>rcases hT with rfl |rfl |rfl |rfl |rfl |rfl <;> rfl
 |list _=>rcases hT with rfl |rfl |rfl |rfl |rfl |rfl <;> rfl
 |tuple _=>rcases hT with rfl |rfl |rfl |rfl |rfl |rfl <;> rfl
def gc {a:Expr}{fa:VF D}{La:List Nat}{ma:Md}{Γ:Fx}{E:XK}{pos p p2:Pos}(T:String){y:Str}(hT:T∈ ["int","bool","str","list","tuple","dict"])(hK:X.K=Γ.K)(hg:Gl X "isinstance")(hm:X.mg "isinstance"=none)(hgT:Gl X y)(hmT:X.mg y=none)(hvT:bootBuiltins y=some (.type T))(ha:SE X Γ E a fa La ma)
  (hnT:y≠"__name__":=by decide) (hdT:(y == ("__debug__":Str))=false:=by decide)
  (he:starEach [a,.Name y p2] X.env=(false,eval a X.env) :: starEach [.Name y p2] X.env:=by rfl) (he2:starEach [.Name y p2] X.env=(false,eval (.Name y p2) X.env) :: starEach [] X.env:=by rfl) (hpl:(backTo pos (starEach [.Name y p2] X.env)).any (·.1)=false:=by rfl) :
  SE X Γ E (.Call (.Name "isinstance" p) [a,.Name y p2] [] pos) (f1 fa (fV T)) La .v:=by
 refine PE.post' (mW Bd hg hm (by decide +kernel) (aQ ha (aQ (D0 hgT hmT hvT (show RelV (.ty T) _ from rfl) hnT hdT) bS he2) he) (by decide) (by decide) he hpl) λσ H Q ⟨env,G,B,β,I,o⟩=>?_
 refine lX (r:=λx H1 Q=>Jm X.K [x,.ty T] H1 Q) ?_ I o
 intro B G H x dx d Q s hB bx e k
 unfold fV at e
 split at e
 ·cases e
 ·rename_i hn
  cases e
  rw[hK]
  exact⟨x,T,Jj dx,By dx T,rfl,bx.ty s (by simpa using hn),Iy hT,k _ G H (Ext.refl s) (.bl _)⟩
def fH (fa fb fc:VF D)(g g':D->D->Option D):VF D:=λvs β=>(fa vs β).bnd λx β1=>(fb vs β1).bnd λy β2=>match g x y with
 |some (.bool true)=>(fc vs β2).bnd λz β3=>R.of (g' y z) β3
 |some (.bool false)=>.ok (.bool false) β2
 |_=>.bad
theorem pM {a b c:Expr}{fa fb fc:VF D}{ma mb mc:Md}{Γ:Fx}{E:XK}{pos:Pos}{op op':CmpOp}{r r':R2}{g g':D->D->Option D}(ho:kT X (compareOp op) r)(ho':kT X (compareOp op') r')(pr:l7 Γ.K r g .v)(pr':l7 Γ.K r' g' .v)(ha:SE X Γ E a fa [] ma)(hb:SE X Γ E b fb [] mb)(hc:SE X Γ E c fc [] mc)
  (hm:lastMarks [op,op'] [b,c]=false:=by with_unfolding_all rfl):SE X Γ E (.Compare a [op,op'] [b,c] pos) (fH fa fb fc g g') [] .v:=by
 refine PE.post' (Cb ho ho' ha hb hc hm) λσ H Q ⟨env,G,B,β,I,o⟩=>?_
 refine two (W:=λx y H2=>r x y H2 λz H3=>∃k,z=.bl k/\(if k=true then pT Γ E fc [] mc σ H3 λw' H4=>r' y w' H4 Q else Q (.bl false) H3)) I (o.bnd.imp λd1 β1 h=>h.bnd.imp λd2 β2 h x y G2 H2 I2 s2 m2 bx by'=>?_)
 obtain⟨cb,ec,h⟩:∃cb,g d1 d2=some (.bool cb)/\Out Γ E (if cb=true then (fc (vl env) β2).bnd λz β3=>R.of (g' d2 z) β3 else .ok (.bool false) β2) λd β'=>∀v G' H',SR Γ B G' H' σ (aS [] env) β'->ah G G'->gR B H H'->VO Γ.K B H G' H' .v d v->Q v H':=by
  split at h
  ·rename_i q;exact⟨true,q,by rw[My rfl];exact h⟩
  ·rename_i q;exact⟨false,q,by rw[MG MI];exact h⟩
  ·exact h.elim
 refine pr B G2 H2 x y d1 d2 _ _ I2.sub I2.boxThere bx by' ec λv G' H' x' vo=>?_
 cases vo
 refine⟨cb,rfl,?_⟩
 have I3:=I2.ext x'
 cases cb with
 |false=>rw[MG MI] at h;exact p7 (h _ G' H' I3 (s2.trans x'.gg) (m2.trans (x'.mov B)) (.bl false))
 |true=>
  rw[My rfl] at h
  refine qe ⟨env,G',B,β2,I3,h.bnd.imp λd3 β3 h z G4 H4 I4 s4 m4 vz=>?_⟩
  obtain⟨d,e,k⟩:=h.of
  refine pr' B G4 H4 y z d2 d3 d Q I4.sub I4.boxThere (by'.mono (x'.gg.trans s4) ((x'.mov B).trans m4)) (vz.brw I3.boxThere) e λv G5 H5 x5 vo=>?_
  exact k v G5 H5 (I4.ext x5) (((s2.trans x'.gg).trans s4).trans x5.gg) (((m2.trans (x'.mov B)).trans m4).trans (x5.mov B)) vo
end
def dt.u1 {k:Nat}{A:Around}(r:dt k A):A.units + 100 < cLine:=by have:=r.un;omega
def Mg (N:List Str)(sc:Scope)(NB:List Str)(own:Nat)(ixs:List Nat)(scope:Scope):Bool:=
 decide (scope.kind=.function) && (scope.names.all λy=>decide (scope.names.lookup y.1=some y.2)) &&
 (scope.names.all λy=>decide (y.2=.free->(sc.names.lookup y.1=some .cell\/sc.names.lookup y.1=some .free))) && decide NB.Nodup && decide (NB.length=own + ixs.length) &&
 ((List.range ixs.length).all λk=>decide (NB[own + k]? =N[ixs.getD k 0]?) && (match NB[own + k]? with |some x=>decide ((x,NameKind.free)∈scope.names) |none=>true))
def bM {X:Cx}{NB:List Str}{own:Nat}{ixs:List Nat}{scope:Scope}(h:Mg X.N X.env.scope NB own ixs scope=true):bY X NB own ixs scope:=by
 unfold Mg at h
 simp only[MP,MV,MT,Nb] at h
 obtain⟨⟨⟨⟨⟨h1,h3⟩,h4⟩,h5⟩,h6⟩,h7⟩:=h
 refine⟨h1,h3,h4,h5,h6,λk hk=>⟨(h7 k hk).1,λx hx=>?_⟩⟩
 have:=(h7 k hk).2
 rw[hx] at this
 simpa using this
section
variable {X:Cx}{Γ:Fx}{E:XK}{e a b c:Expr}{f fa fb fc:VF D}{L La Lb:List Nat}{md ma mb mc:Md}{pos:Pos}{K:Frag}
theorem vm {op op':CmpOp}{r r':R2}{g g':D->D->Option D}(ho:kT X (compareOp op) r)(ho':kT X (compareOp op') r')(pr:l7 Γ.K r g .v)(pr':l7 Γ.K r' g' .v)(ha:SE X Γ E a fa [] ma)(hb:SE X Γ E b fb [] mb)(hc:SE X Γ E c fc [] mc)
  (hm:lastMarks [op,op'] [b,c]=false:=by with_unfolding_all rfl):zf X Γ E (.Compare a [op,op'] [b,c] pos) (cC (fH fa fb fc g g')) []:=by
 refine PT.post (C1 ho ho' ha hb hc hm) λσ H Q ⟨env,G,B,β,I,o⟩=>?_
 refine two (W:=λx y H2=>r x y H2 λz H3=>∃k,z=.bl k/\(if k=true then pT Γ E fc [] mc σ H3 λw' H4=>r' y w' H4 (λx H'=>∃k,x=.bl k/\Q k H') else ∃k,V.bl false=.bl k/\Q k H3)) I (o.bnd.bnd.imp λd1 β1 h=>h.bnd.imp λd2 β2 h x y G2 H2 I2 s2 m2 bx by'=>?_)
 obtain⟨cb,ec,h⟩:∃cb,g d1 d2=some (.bool cb)/\Out Γ E (if cb=true then (fc (vl env) β2).bnd λz β3=>R.of (g' d2 z) β3 else .ok (.bool false) β2) λd β'=>Out Γ E (match d with | .bool c=>R.ok c β' |_=>.bad) λc β'=>∀G' H',SR Γ B G' H' σ (aS [] env) β'->ah G G'->gR B H H'->Q c H':=by
  split at h
  ·rename_i q;exact⟨true,q,by rw[My rfl];exact h⟩
  ·rename_i q;exact⟨false,q,by rw[MG MI];exact h⟩
  ·exact h.elim
 refine pr B G2 H2 x y d1 d2 _ _ I2.sub I2.boxThere bx by' ec λv G' H' x' vo=>?_
 cases vo
 refine⟨cb,rfl,?_⟩
 have I3:=I2.ext x'
 cases cb with
 |false=>rw[MG MI] at h;exact p7 ⟨false,rfl,h G' H' I3 (s2.trans x'.gg) (m2.trans (x'.mov B))⟩
 |true=>
  rw[My rfl] at h
  refine qe ⟨env,G',B,β2,I3,h.bnd.imp λd3 β3 h z G4 H4 I4 s4 m4 vz=>?_⟩
  obtain⟨d,e,k⟩:=h.of
  refine pr' B G4 H4 y z d2 d3 d _ I4.sub I4.boxThere (by'.mono (x'.gg.trans s4) ((x'.mov B).trans m4)) (vz.brw I3.boxThere) e λv G5 H5 x5 vo=>?_
  cases d with
  |bool c=>cases vo;exact⟨c,rfl,k G5 H5 (I4.ext x5) (((s2.trans x'.gg).trans s4).trans x5.gg) (((m2.trans (x'.mov B)).trans m4).trans (x5.mov B))⟩
  |_=>exact k.elim
def tN (fa:VF D)(neg:Bool):VF Bool:=λvs β=>(fa vs β).bnd λx β1=>.ok (if neg then !D5 x else D5 x) β1
def oT (Γ:Fx)(E:XK)(f:VF (Option Int))(L:List Nat):TO:=λσ H Q=>∃env G B β,SR Γ B G H σ env β/\
 Out Γ E (f (vl env) β) λd β'=>∀G' H',SR Γ B G' H' σ (aS L env) β'->ah G G'->gR B H H'->Q d H'
def Kg (X:Cx)(Γ:Fx)(E:XK)(e:Option Expr)(f:VF (Option Int))(L:List Nat):Prop:=PO X e (oT Γ E f L)
def pd:Kg X Γ E none (λ_ β=>.ok none β) []:=λpins s σ H Q I ⟨env,G,B,β,J,o⟩=>ES pins s σ H Q I (o G H J (ah.refl _) (gR.refl _ _))
def C0 (fa:VF D):VF (Option Int):=λvs β=>(fa vs β).bnd λx β1=>match x with
 | .int i=>.ok (some i) β1
 |_=>.bad
theorem pA (ha:SE X Γ E a fa La ma):Kg X Γ E (some a) (C0 fa) La:=λpins s σ H Q I ⟨env,G,B,β,J,o⟩=>by
 refine Eu ha pins s σ H Q I ⟨env,G,B,β,J,o.bnd.imp λd1 β1 h x G1 H1 I1 s1 m1 vx=>?_⟩
 cases d1 with
 |int i=>exact⟨i,(vx.brw J.boxThere).int,h G1 H1 I1 s1 m1⟩
 |_=>exact h.elim
def cutD (xs:List D)(lo hi:Option Int):List D:=(xs.drop (HT.sU xs.length 0 lo)).take (HT.sU xs.length xs.length hi - HT.sU xs.length 0 lo)
def Eg {G:Hp}{xs:List V}{ds:List D}(r:cj K G xs ds)(lo hi:Option Int):cj K G (yd xs lo hi) (cutD ds lo hi):=by
 unfold yd cutD
 rw[r.len]
 exact (r.drop _).take _
def BA (fa:VF D)(fl fh:VF (Option Int)):VF D:=λvs β=>(fa vs β).bnd λx β1=>(fl vs β1).bnd λl β2=>(fh vs β2).bnd λh β3=>match x with
 | .list ds=>.ok (.list (cutD ds l h)) β3
 |_=>.bad
theorem nj {lo hi:Option Expr}{fl fh:VF (Option Int)}{Ll Lh:List Nat}{p2:Pos}(hK:X.K=Γ.K)(ha:SE X Γ E a fa La ma)(hl:Kg X Γ E lo fl Ll)(hh:Kg X Γ E hi fh Lh):SE X Γ E (.Subscript a (.Slice lo hi none p2) pos) (BA fa fl fh) (La ++ Ll ++ Lh) .w:=by
 refine PE.post' (Cy EK ha hl hh) λσ H Q ⟨env,G,B,β,I,o⟩=>?_
 refine⟨env,G,B,β,I,o.bnd.imp λd1 β1 h x G1 H1 I1 s1 m1 vx=>⟨aS La env,G1,B,β1,I1,?_⟩⟩
 rw[dc]
 refine h.bnd.imp λl β2 h G2 H2 I2 s2 m2=>⟨aS Ll (aS La env),G2,B,β2,I2,?_⟩
 rw[dc,dc]
 refine h.bnd.imp λu β3 h G3 H3 I3 s3 m3=>?_
 rw[<-bZ,<-bZ,<-N1] at I3
 have bx:=((vx.brw I.boxThere).mono s2 m2).mono s3 m3
 cases d1 with
 |list ds=>
  obtain⟨p,xs,rfl,hq,r⟩:=bx.list I3.sub
  rw[hK]
  refine⟨p,xs,rfl,.inl hq,λq hn=>?_⟩
  have x:=Ext.own I3.sub (o:=.lst (yd xs l u)) hn
  exact h _ _ _ (I3.ext x) ((s1.trans s2).trans s3) (((m1.trans m2).trans m3).trans (x.mov B)) ⟨q,rfl,fx ((m1.trans m2).trans m3) I3.boxThere hn,I3.sub.free hn,_,aA,Eg r l u⟩
 |_=>exact h.elim
def FX:l7 K (λx y H Q=>∃i j,[x,y]= [.int i,.int j]/\Q (.int (if j > i then j else i)) H) (vq λi j=>.int (if j > i then j else i)) .v:=by
 intro B G H x y dx dy d Q s hB bx by' e k
 obtain⟨i,j,rfl,rfl,rfl⟩:=ku e
 obtain rfl:=bx.int
 obtain rfl:=by'.int
 exact⟨i,j,rfl,k _ G H (Ext.refl s) (.int _)⟩
def Im:l7 K (λx y H Q=>∃i j,[x,y]= [.int i,.int j]/\Q (.int (if j < i then j else i)) H) (vq λi j=>.int (if j < i then j else i)) .v:=by
 intro B G H x y dx dy d Q s hB bx by' e k
 obtain⟨i,j,rfl,rfl,rfl⟩:=ku e
 obtain rfl:=bx.int
 obtain rfl:=by'.int
 exact⟨i,j,rfl,k _ G H (Ext.refl s) (.int _)⟩
end
structure gO (K:Frag)(mg:Str->Option Value)(x:Str)(st:Stmt)(ps:List Str)(f:Addr)(fd:FuncData):Prop where
 mg:mg x=some (.ref f)
 F:AS K x x st f fd
 b:Binds K fd ps []
structure Exc (K:Frag)(mg:Str->Option Value)(ca:Str->Addr)(x:Str):Prop where
 mg:mg x=some (.ref (ca x))
 ex:PySem.W.excIn K (ca x) [.type "ValueError",.type "Exception",.type "BaseException",.type "object"] "ValueError.__new__"=true
def Exc.ca {K:Frag}{mg:Str->Option Value}{ca:Str->Addr}{x:Str}(h:Exc K mg ca x):ca x=ca x:=rfl
structure i7 (mg:Str->Option Value):Prop where
 len:mg "len"=none
 range:mg "range"=none
 enumerate:mg "enumerate"=none
 zip:mg "zip"=none
 min:mg "min"=none
 max:mg "max"=none
 sum:mg "sum"=none
 abs:mg "abs"=none
 sorted:mg "sorted"=none
 reversed:mg "reversed"=none
 int:mg "int"=none
 str:mg "str"=none
 bool:mg "bool"=none
 list:mg "list"=none
 tuple:mg "tuple"=none
 dict:mg "dict"=none
 set:mg "set"=none
 isinstance:mg "isinstance"=none
 repr:mg "repr"=none
 any:mg "any"=none
 all:mg "all"=none
 divmod:mg "divmod"=none
inductive FB where
 |ok (d:D) (fresh:Bool) (β:Int)
 |bad
def uW (K:Frag)(n:Nat)(F:List D->Int->FB):Sp:=λvs H Q _=>∃b rest G ds β,vs=.ref b :: rest/\H b=some (.lst [.int β])/\G b=none/\ah G H/\ds.length=n/\cj K G rest ds/\match F ds β with
 | .ok d fr β'=>∀v G' H',gR (some b) H H'->H' b=some (.lst [.int β'])->ah G G'->ah G' H'->(∀c,Mx H c->G c=none->G' c=none)->FV K H G' H' fr d v->Q v H'
 | .bad=>False
structure oY (P:Program)(w:World)(K:Frag)(mg:Str->Option Value)(base:Heap)(x:Str)(ps:List Str)(k:Nat)(F:List D->Int->FB):Prop where
 ex:∃f fd,mg x=some (.ref f)/\PySem.W.keepIn K (.ref f)=true/\Binds K fd ps []/\e8 P w K mg base (mO P w) k f fd ps (uW K (ps.length - 1) F)
 len:∀ds β,F ds β≠.bad->ds.length=ps.length - 1
def ya (vs:List Nv)(i:Nat):Bool:=match vs[i]? with
 |some .bx=>true
 |_=>false
def qz (i:Nat)(F:List D->Int->FB)(fr:VF (List D)):VF D:=λvs β=>if ya vs i=true then (fr vs β).bnd λds β1=>match F ds β1 with
 | .ok d _ β2=>.ok d β2
 | .bad=>.bad else .bad
def K9 (i:Nat)(F:List D->Int->FB)(fr:VF (List D)):VF D:=λvs β=>if ya vs i=true then (fr vs β).bnd λds β1=>match F ds β1 with
 | .ok d true β2=>.ok d β2
 |_=>.bad else .bad
section
variable {X:Cx}{Γ:Fx}{E:XK}{e a b c:Expr}{f fa fb fc:VF D}{L La Lb:List Nat}{md ma mb mc:Md}{pos:Pos}{K:Frag}{es:List Expr}{fr:VF (List D)}
def DM {env:En}{i:Nat}(h:ya (vl env) i=true):env[i]? =some .bx:=by
 unfold ya at h
 split at h
 ·exact IM (by assumption)
 ·cases h
def DR {env:En}{i j:Nat}{d:D}(h:(gF env i)[j]? =some (.br d)):env[j]? =some (.br d):=by
 unfold gF at h
 split at h
 ·rename_i d' e
  by_cases z:i=j
  ·subst z
   rw[MX (MF.mp e).1] at h;cases h
  ·rw[MW z] at h;exact h
 ·exact h
theorem HA {L:List Nat}{env:En}{j:Nat}{d:D}(h:(aS L env)[j]? =some (.br d)):env[j]? =some (.br d):=by
 unfold aS at h
 induction L generalizing env with
 |nil=>exact h
 |cons i L ih=>exact DR (ih h)
def SR.calledB {p:Addr}{β β':Int}{G1 H1 G2 H2:Hp}{σ:St}{env:En}(I1:SR Γ (some p) G1 H1 σ env β)(h:gR (some p) H1 H2)(hp:H2 p=some (.lst [.int β']))(g:ah G1 G2)(s:ah G2 H2)(n:∀b,Mx H1 b->G1 b=none->G2 b=none):SR Γ (some p) G2 H2 σ env β':=by
 obtain⟨b1,b2,b3⟩:=I1.box p rfl
 refine⟨s,I1.old.trans g,λb n1 n2=>n b (I1.thereM n1) (I1.new b n1 n2),λb o e np=>qv (I1.keep b o e np) h λz=>?_,λb hb=>?_,I1.fix,λb e=>?_,I1.len,λi t e=>?_,I1.sep⟩
 ·cases z
  rcases b3 with b3 |b3
  ·exact np b3
  ·rw[e] at b3;cases b3
 ·by_cases z:p=b
  ·subst z;exact Mx.lst hp
  ·exact (I1.pin b hb).same λo q=>h.1 b o q λy=>z (Option.some.inj y)
 ·cases e
  exact⟨hp,n p (Mx.lst b1) b2,b3⟩
 ·have q:=I1.slot i t e
  cases t with
  |no=>trivial
  |fz d=>obtain⟨v,h1,h2⟩:=q;exact⟨v,h1,h2.mono g⟩
  |ow d=>
   obtain⟨c,h1,h2,h3,h4,h5⟩:=q
   exact⟨c,h1,h2,n c h5.mx h3,h4,h5.mono g λo q=>h.1 c o q h4⟩
  |bx=>exact q
  |br d=>obtain⟨b1,c,h1,h4,hpp,h5⟩:=q;exact⟨b1,c,h1,h4,hpp,h5.mono g λo q=>h.1 c o q h4⟩
theorem DL {F:List D->Int->FB}{ps:List Str}{Q:VK}{B:Option Addr}{G H:Hp}{σ:St}{env:En}{β:Int}{i:Nat}{p:Addr}(I:SR Γ B G H σ env β)(hK:X.K=Γ.K)(hp:B=some p){wv:Bool}
  (h:Out Γ E (fr (vl env) β) λds β1=>Out Γ E (match F ds β1 with
   | .ok d true β2=>.ok d β2
   | .ok d false β2=>if wv=true then .bad else .ok d β2
   | .bad=>.bad) λd β'=>∀v G' H',SR Γ B G' H' σ (aS L env) β'->ah G G'->gR B H H'->VO Γ.K B H G' H' (if wv=true then .w else .v) d v->Q v H') (hl:∀ds β,F ds β≠.bad->ds.length=ps.length - 1) :
  aT Γ E fr L σ H λvs H1=>uW X.K (ps.length - 1) F (.ref p :: vs) H1 Q E:=by
 subst hp
 refine⟨env,G,_,β,I,h.imp λds β1 k vs G1 H1 I1 s1 m1 r=>?_⟩
 obtain⟨b1,b2,b3⟩:=I1.box p rfl
 refine⟨p,vs,G1,ds,β1,rfl,b1,b2,I1.sub,hl ds β1 λz=>by rw[z] at k;exact k,by rw[hK];exact r,?_⟩
 cases q:F ds β1 with
 |bad=>rw[q] at k;exact k
 |ok d fr' β2=>
  rw[q] at k
  intro v G' H' hh hb hg hs hn fv
  have I2:=I1.calledB hh hb hg hs hn
  cases fr' with
  |true=>
   obtain⟨c,rfl,p1,p2,p3⟩:∃a,v=.ref a/\H1 a=none/\G' a=none/\Own X.K G' H' a d:=fv
   rw[hK] at p3
   have hp:=fx m1 I1.boxThere p1
   cases wv with
   |true=>exact k _ G' H' I2 (s1.trans hg) (m1.trans hh) ⟨c,rfl,hp,p2,p3⟩
   |false=>
    obtain⟨q1,q2,q3,q4⟩:=I1.fresh p1
    obtain⟨G3,I3,s3,r3⟩:=I2.letIn q1 p2 q3 q4 p3
    exact k _ G3 H' I3 ((s1.trans hg).trans s3) (m1.trans hh) r3
  |false=>
   cases wv with
   |true=>exact k.elim
   |false=>
    have fv:Rp X.K G' v d:=fv
    rw[hK] at fv
    exact k _ G' H' I2 (s1.trans hg) (m1.trans hh) fv
theorem Hn {F:List D->Int->FB}{ps:List Str}{Q:VK}{i:Nat}{σ:St}{H:Hp}(hK:X.K=Γ.K){wv:Bool}(hl:∀ds β,F ds β≠.bad->ds.length=ps.length - 1)(h:pT Γ E (if wv=true then K9 i F fr else qz i F fr) L (if wv=true then .w else .v) σ H Q) :
  D6 i σ H λx H1=>aT Γ E fr L σ H1 λvs H2=>uW X.K (ps.length - 1) F (x :: vs) H2 Q E:=by
 obtain⟨env,G,B,β,I,o⟩:=h
 have hi:ya (vl env) i=true:=by
  by_cases hi:ya (vl env) i=true
  ·exact hi
  ·exfalso
   cases wv with
   |true=>simp only[NJ] at o;unfold K9 at o;rw[MG hi] at o;exact o
   |false=>simp only[NA,NS] at o;unfold qz at o;rw[MG hi] at o;exact o
 obtain⟨p,e1,e2⟩:=I.slot i _ (DM hi)
 refine⟨.ref p,e1,DL (i:=i) (ps:=ps) I hK e2 (wv:=wv) ?_ hl⟩
 cases wv with
 |true=>
  simp only[NJ] at o ⊢
  unfold K9 at o
  rw[My hi] at o
  refine o.bnd.imp λds β1 h=>?_
  cases q:F ds β1 with
  |bad=>rw[q] at h;exact h
  |ok d b β2=>rw[q] at h;cases b <;> exact h
 |false=>
  simp only[NA,NS] at o ⊢
  unfold qz at o
  rw[My hi] at o
  refine o.bnd.imp λds β1 h=>?_
  cases q:F ds β1 with
  |bad=>rw[q] at h;exact h
  |ok d b β2=>rw[q] at h;cases b <;> exact h
def rY {x y:Str}{ps:List Str}{k:Nat}{F:List D->Int->FB}{p np:Pos}(i:Nat)(hf:oY X.prog X.w X.K X.mg X.base x ps k F)(hr:dt k X.A)(hx:Passes (mO X.prog X.w) X E)(hK:X.K=Γ.K)(hg:Gl X x)(ha:SA X Γ E es fr L)(hN:X.N[i]? =some y:=by rfl)(hv:y9 X.env.scope y:=by first |exact Or.inl rfl |exact Or.inr (Or.inl rfl) |exact Or.inr (Or.inr rfl))(hd:(y == ("__debug__":Str))=false:=by decide)
  (hcd:(y == ("__classdict__":Str))=false:=by decide) (hdb:(x == ("__debug__":Str))=false:=by decide)
  (he:starEach (.Name y np :: es) X.env=(false,eval (.Name y np) X.env) :: starEach es X.env:=by rfl) (hpl:(backTo pos (starEach es X.env)).any (·.1)=false:=by rfl):SE X Γ E (.Call (.Name x p) (.Name y np :: es) [] pos) (qz i F fr) L .v:=by
 obtain⟨f,fd,hm,hk,hb,hF⟩:=hf.ex
 refine PE.post' (jH (dvs:=[]) hF hr hg hm hk hb .nil hx (aQ (jR hN hv hd hcd) ha he) hdb he hpl) λσ H Q h=>?_
 have:=Hn (Q:=Q) (wv:=false) (ps:=ps) hK hf.len (by simpa using h)
 show D6 i σ H λx H1=>aT Γ E fr L σ H1 λvs H2=>uW X.K (ps.length - 1) F ((x :: vs) ++ []) H2 Q E
 simpa using this
def Bb:D->Option Int
 | .list [.int z]=>some z
 |_=>none
def DK {d:D}{z:Int}(h:Bb d=some z):d=.list [.int z]:=by
 unfold Bb at h
 split at h
 ·cases h;rfl
 ·cases h
def Kv (f0:VF D)(F:List D->Int->FB)(n:Int):VF D:=λvs β=>(f0 vs β).bnd λd0 β1=>match Bb d0 with
 |some z=>(match F [.int n] z with
  | .ok d _ _=>.ok d β1
  | .bad=>.bad)
 |none=>.bad
theorem JZ {x:Str}{ps:List Str}{k:Nat}{F:List D->Int->FB}{p cp:Pos}{n:Int}{j}(hf:oY X.prog X.w X.K X.mg X.base x ps k F)(hr:dt k X.A)(hx:Passes (mO X.prog X.w) X E)(hK:X.K=Γ.K)(hg:Gl X x)(h0:SE X Γ E a fa La .w)(hdb:(x == ("__debug__":Str))=false:=by decide)
  (he:starEach [a,.Constant (.int n) j cp] X.env=(false,eval a X.env) :: starEach [.Constant (.int n) j cp] X.env:=by rfl) (he2:starEach [.Constant (.int n) j cp] X.env=(false,eval (.Constant (.int n) j cp) X.env) :: starEach [] X.env:=by rfl) (hpl:(backTo pos (starEach [.Constant (.int n) j cp] X.env)).any (·.1)=false:=by rfl):SE X Γ E (.Call (.Name x p) [a,.Constant (.int n) j cp] [] pos) (Kv fa F n) La .v:=by
 obtain⟨f,fd,hm,hk,hb,hF⟩:=hf.ex
 refine PE.post' (jH (dvs:=[]) hF hr hg hm hk hb .nil hx (aQ h0 (aQ uo bS he2) he) hdb he hpl) λσ H Q ⟨env,G,B,β,I,o⟩=>?_
 show pT Γ E fa La .w σ H λx H1=>uW X.K (ps.length - 1) F ([x,.int n] ++ []) H1 Q E
 refine⟨env,G,B,β,I,o.bnd.imp λd0 β1 h x G1 H1 I1 s1 m1 vx=>?_⟩
 obtain⟨c,rfl,c1,c2,c3⟩:=vx
 cases q:Bb d0 with
 |none=>rw[q] at h;exact h.elim
 |some z=>
  rw[q] at h
  obtain rfl:=DK q
  obtain⟨xs,c3,rx⟩:=c3
  obtain⟨q1,q2,q3,q4⟩:=I.fresh c1
  have hx2:H1 c=some (.lst [.int z]):=by
   cases rx with
   |cons r1 r2=>
    cases r1
    cases r2
    exact c3
  refine⟨c,[.int n],G1,[.int n],z,rfl,hx2,c2,I1.sub,hf.len [.int n] z λy=>?_,.cons (.int n) .nil,?_⟩
  ·dsimp only at h;rw[y] at h;exact h
  cases qF:F [.int n] z with
  |bad=>dsimp only at h;rw[qF] at h;exact h
  |ok d fr' β2=>
   dsimp only at h
   rw[qF] at h
   intro v G' H' hh hb' hg' hs hn fv
   have I2:SR Γ B G' H' σ (aS La env) β1:=by
    refine⟨hs,I1.old.trans hg',λb n1 n2=>hn b (I1.thereM n1) (I1.new b n1 n2),λb o e np=>qv (I1.keep b o e np) hh λz=>?_,λb hb=>?_,I1.fix,λb e=>?_,I1.len,λi t e=>?_,I1.sep⟩
    ·cases z;rw[q1] at e;cases e
    ·by_cases z:c=b
     ·subst z;exact Mx.lst hb'
     ·exact (I1.pin b hb).same λo qq=>hh.1 b o qq λy=>z (Option.some.inj y)
    ·obtain⟨b1,b2,b3⟩:=I1.box b e
     have bc:b≠c:=λz=>q3 (by rw[<-z];exact e)
     exact⟨hh.1 b _ b1 λy=>bc (Option.some.inj y).symm,hn b (Mx.lst b1) b2,b3⟩
    ·have w:=I1.slot i t e
     cases t with
     |no=>trivial
     |fz d=>obtain⟨v,h1,h2⟩:=w;exact⟨v,h1,h2.mono hg'⟩
     |ow d=>
      obtain⟨a',h1,h2,h3,h4,h5⟩:=w
      have ac:a'≠c:=λz=>q4 i d (og e) (by rw[<-z];exact h1)
      exact⟨a',h1,h2,hn a' h5.mx h3,h4,h5.mono hg' λo q=>hh.1 a' o q λy=>ac (Option.some.inj y).symm⟩
     |bx=>exact w
     |br d=>
      obtain⟨b1,a',h1,h4,hpp,h5⟩:=w
      have e0:env[i]? =some (.br d):=HA e
      obtain⟨_,a2,g1,_,_,g5⟩:=I.slot i _ e0
      rw[h1] at g1;cases g1
      obtain⟨o,ho⟩:=g5.obj
      have ac:a'≠c:=aJ ho c1
      exact⟨b1,a',h1,h4,hpp,h5.mono hg' λo q=>hh.1 a' o q λy=>ac (Option.some.inj y).symm⟩
   have m2:gR B H H':=⟨λb o e nb=>qv (m1.1 b o e nb) hh λy=>(by cases y;rw[c1] at e;cases e),λb o u e=>hh.2 b o u (m1.2 b o u e)⟩
   cases fr' with
   |true=>
    obtain⟨c',rfl,p1,p2,p3⟩:∃a,v=.ref a/\H1 a=none/\G' a=none/\Own X.K G' H' a d:=fv
    rw[hK] at p3
    obtain⟨w1,w2,w3,w4⟩:=I1.fresh p1
    obtain⟨G3,I3,s3,r3⟩:=I2.letIn w1 p2 w3 w4 p3
    exact h _ G3 H' I3 ((s1.trans hg').trans s3) m2 r3
   |false=>
    have fv:Rp X.K G' v d:=fv
    rw[hK] at fv
    exact h _ G' H' I2 (s1.trans hg') m2 fv
end
section
variable {P:Program}{w:World}{K:Frag}{mg:Str->Option Value}{base:Heap}{ca:Str->Addr}
def Dl:SO->FB
 | .nx _ β=>.ok .none false β
 | .rt d fr β=>.ok d fr β
 |_=>.bad
def wO (n:Nat)(ds:List D):En:=.bx :: ds.map Sl.fz ++ List.replicate (n - 1 - ds.length) .no
def vJ (n p:Nat)(m:SF):List D->Int->FB:=λds β=>if ds.length=p then Dl (m (wO n ds) β) else .bad
abbrev Fx.fb (K:Frag)(H G:Hp)(ca:Str->Addr)(b:Addr):Fx:=⟨K,H,G,[b],ca,λ_=>false,some b⟩
def SR.startB {H G:Hp}{N:List Str}{b:Addr}{vs:List V}{ds:List D}{β:Int}(s:ah G H)(hb:H b=some (.lst [.int β]))(gb:G b=none)(r:cj K G vs ds)(hn:ds.length + 1<=N.length):SR (Fx.fb K H G ca b) (some b) G H (L2.start N (.ref b :: vs)) (wO N.length ds) β:=by
 have hl:=r.len
 refine⟨s,ah.refl _,λc _ h=>h,λc o h _=>Kt.of h,λc h=>?_,λc h=>h,λc h=>?_,?_,λi t e=>?_,λi j a d e h=>?_⟩
 ·have:c=b:=by simpa using h
  subst this;exact Mx.lst hb
 ·cases h;exact⟨hb,gb,.inl (by simp)⟩
 ·unfold L2.start wO;simp;omega
 ·cases i with
  |zero=>
   unfold wO at e
   cases e
   exact⟨b,rfl,rfl⟩
  |succ i=>
   unfold wO at e
   have e:(ds.map Sl.fz ++ List.replicate (N.length - 1 - ds.length) Sl.no)[i]? =some t:=by simpa using e
   by_cases hi:i < ds.length
   ·rw[M6 (by simpa using hi),ML,Mw hi] at e
    cases e
    obtain⟨x,hx,rx⟩:=r.at (Mw hi)
    refine⟨x,?_,rx⟩
    unfold L2.start
    have hi':i < vs.length:=by rw[hl];exact hi
    rw[M6 (by simp;exact hi'),ML,List.getElem?_cons_succ,hx];rfl
   ·rw[M9 (by simpa using hi),ND] at e
    split at e
    ·cases e;trivial
    ·cases e
 ·unfold wO at h
  have hm:=MS h
  rcases MH.mp hm with z |hm
  ·cases z
  rcases MU.mp hm with z |z
  ·obtain⟨_,_,z⟩:=MZ.mp z;cases z
  ·have:=NK z;cases this
def vE {x qual:Str}{st:Stmt}{f:Addr}{fd:FuncData}{N:List Str}{ps:List Str}{k:Nat}{m:SF}(F:AS K x qual st f fd)(S:aF N ps (ao st))(hp:1<=ps.length)
  (hbody:∀(cdv:Value) (A:Around) (outer:List Env) (s:Shared) (H G:Hp) (b:Addr) (E:XK),dt k (A.deeper (envOfC qual (ao st) s.heap.objs.size f cdv))->Ca (o4 (mO P w) P w K mg base N qual (ao st) f cdv A outer s H E) (Fx.fb K H G ca b) E (cU st) m) :
  e8 P w K mg base (mO P w) (k + 1) f fd ps (uW K (ps.length - 1) (vJ N.length (ps.length - 1) m)):=by
 have hpn:ps.length<=N.length:=by have:=congrArg List.length S.pre;rw[Np] at this;omega
 refine F.Fv S (λvs H Q E h=>?_) (λcdv A outer s H vs Q E hr h=>?_)
 ·obtain⟨b,rest,G,ds,β,rfl,hb,gb,sG,hl,r,_⟩:=h
  rw[Nm,r.len];omega
 ·obtain⟨b,rest,G,ds,β,rfl,hb,gb,sG,hl,r,h⟩:=h
  refine⟨_,hbody cdv A outer s H G b E hr,?_⟩
  have I:=SR.startB (ca:=ca) (N:=N) sG hb gb r (by omega)
  refine⟨_,G,some b,β,I,?_⟩
  unfold vJ at h
  rw[My hl] at h
  have fin':∀{B G' H' σ env β},SR (Fx.fb K H G ca b) B G' H' σ env β->gR (some b) H H'/\H' b=some (.lst [.int β]):=λJ=>by
   have e:=J.fix b rfl
   have k:∀c o,H c=some o->some b≠some c->Kt _ c o:=λc o ec n=>J.keep c o ec λz=>n (show some b=some c by rw[show c=b by simpa using z])
   exact⟨⟨k,λc o u ec=>k c _ ec λz=>by cases z;rw[hb] at ec;cases ec⟩,(J.box b e).1⟩
  cases q:m (wO N.length ds) β with
  |nx env β'=>rw[q] at h;exact λB G' H' σ J s'=>h .non G' H' (fin' J).1 (fin' J).2 s' J.sub (λc h1 h2=>J.new c h1 h2) Rp.non
  |bk env β'=>rw[q] at h;exact h.elim
  |ct env β'=>rw[q] at h;exact h.elim
  |rt d fr β'=>
   rw[q] at h
   refine λB G' H' σ env v J s' rv=>h v G' H' (fin' J).1 (fin' J).2 s' J.sub (λc h1 h2=>J.new c h1 h2) ?_
   cases fr with
   |true=>exact rv
   |false=>exact rv
  |exc c=>rw[q] at h;exact h.elim
  |bad=>rw[q] at h;exact h.elim
def wB {n p:Nat}{m:SF}(ds:List D)(β:Int)(h:vJ n p m ds β≠.bad):ds.length=p:=by
 unfold vJ at h
 by_cases hl:ds.length=p
 ·exact hl
 ·rw[MG hl] at h;exact absurd rfl h
def oY.imp {x:Str}{ps:List Str}{k:Nat}{F F':List D->Int->FB}(h:oY P w K mg base x ps k F)(i:∀ds β,F' ds β≠.bad->F ds β=F' ds β):oY P w K mg base x ps k F':=by
 obtain⟨f,fd,a,b,c,d⟩:=h.ex
 refine⟨⟨f,fd,a,b,c,d.imp λvs H Q E q=>?_⟩,λds β hn=>h.len ds β (by rw[i ds β hn];exact hn)⟩
 obtain⟨b,rest,G,ds,β,e,hb,gb,s,hl,r,q⟩:=q
 refine⟨b,rest,G,ds,β,e,hb,gb,s,hl,r,?_⟩
 by_cases hF:F' ds β=.bad
 ·rw[hF] at q;exact q.elim
 ·rw[i ds β hF];exact q
end
def au (p:Pr):D:=.tuple [.int p.1,.int p.2]
def qL:D->Option Pr
 | .tuple [.int a,.int b]=>some (a,b)
 |_=>none
def wj {d:D}{p:Pr}(h:qL d=some p):d=au p:=by
 unfold qL at h
 split at h
 ·cases h;rfl
 ·cases h
def Aj (p:Pr):qL (au p)=some p:=rfl
def iU:List D->Option (List Pr)
 | []=>some []
 |d :: ds=>match qL d,iU ds with
  |some p,some ps=>some (p :: ps)
  |_,_=>none
theorem lS:∀{ds:List D} {ps:List Pr},iU ds=some ps->ds=ps.map au
 | [],ps,h=>by cases h;rfl
 |d :: ds,ps,h=>by
  unfold iU at h
  split at h
  ·rename_i p qs h1 h2;cases h;rw[wj h1,lS h2];rfl
  ·cases h
theorem i3:∀ps:List Pr,iU (ps.map au)=some ps
 | []=>rfl
 |p :: ps=>by
  show (match qL (au p),iU (ps.map au) with
   |some p,some ps=>some (p :: ps)
   |_,_=>none)=_
  rw[Aj,i3 ps]
section
variable {K:Frag}{X:Cx}{G H:Hp}
theorem cj.pairs:∀{ps:List Pr} {xs:List V},cj K G xs (ps.map au)->ba K G xs ps
 | [],_,.nil=>.nil
 |p :: ps,_,.cons r t=>by
  cases r with
  |tup hq r=>
   cases r with
   |cons r1 r=>
    cases r with
    |cons r2 r=>cases r;cases r1;cases r2;exact .cons ⟨_,rfl,hq⟩ (cj.pairs t)
theorem ba.rps:∀{ps:List Pr} {xs:List V},ba K G xs ps->cj K G xs (ps.map au)
 | [],_,.nil=>.nil
 |p :: ps,_,.cons r t=>by
  obtain⟨a,rfl,q⟩:=r
  exact .cons (.tup q (.cons (.int _) (.cons (.int _) .nil))) (ba.rps t)
def Iv (p:Pr):Bool:=decide (0<=p.1) && decide (p.1 < 8) && decide (0<=p.2) && decide (p.2 < 8)
def Ho {p:Pr}(h:Iv p=true):Sm p:=by
 unfold Iv at h
 simp only[MP,MT] at h
 exact⟨⟨h.1.1.1,h.1.1.2⟩,h.1.2,h.2⟩
variable {Γ:Fx}{E:XK}{e a b c:Expr}{f fa fb fc:VF D}{L La Lb:List Nat}{md ma mb mc:Md}{pos:Pos}
end
section
variable {K:Frag}{X:Cx}{G H:Hp}{Γ:Fx}{E:XK}{e a b c:Expr}{f fa fb fc:VF D}{L La Lb:List Nat}{md ma mb mc:Md}{pos apos cpos np:Pos}
def fT:D->Option D
 | .int n=>if 0<=n/\n<=1000 then some (.list (dP 0 n.toNat)) else none
 |_=>none
def zT (n:Nat):cj K G ((List.range n).map λ(i:Nat)=>V.int (i:Int)) (dP 0 n):=by
 have key:∀l:List Nat,cj K G (l.map λ(i:Nat)=>V.int (i:Int)) (l.map λ(k:Nat)=>int (0 + k)):=by
  intro l
  induction l with
  |nil=>exact .nil
  |cons x l ih=>exact .cons (by show Rp K G (.int (x:Int)) (.int (0 + (x:Int)));rw[NL];exact .int _) ih
 exact key _
theorem mr {p1 p2 pos2:Pos}(hc:X.calm=true)(hg:Gl X "list")(hm:X.mg "list"=none)(hg2:Gl X "range")(hm2:X.mg "range"=none)(ha:SE X Γ E a fa La ma)
  (he:starEach [a] X.env=(false,eval a X.env) :: starEach [] X.env:=by rfl)
  (he2:starEach [.Call (.Name "range" p2) [a] [] pos2] X.env=(false,eval (.Call (.Name "range" p2) [a] [] pos2) X.env) :: starEach [] X.env:=by rfl) :
  SE X Γ E (.Call (.Name "list" p1) [.Call (.Name "range" p2) [a] [] pos2] [] pos) (f1 fa fT) La .w:=by
 refine PE.post' (lW (rE hc) hg hm (by decide +kernel) (aQ (lW Bz hg2 hm2 (by decide +kernel) (aQ ha bS he) (by decide) (by decide) he) bS he2) (by decide) (by decide) he2) λσ H Q ⟨env,G,B,β,I,o⟩=>?_
 refine lX (r:=λx H1 Q=>∃n:Int,[x]= [.int n]/\∀p,H1 p=none->(λ(y:V) (H2:Hp)=>∃(p:Addr) (n:Int),[y]= [V.ref p]/\H2 p=some (.fE 0 n)/\0<=n/\n<=1000/\∀l,H2 l=none->Q (.ref l) (upd H2 l (.lst ((List.range n.toNat).map λ(i:Nat)=>V.int (i:Int))))) (V.ref p) (upd H1 p (.fE 0 n))) ?_ I o
 intro B G H x dx d Q s hB bx e k
 cases dx with
 |int n=>
  obtain rfl:=bx.int
  simp only[fT] at e
  split at e
  ·rename_i hh
   cases e
   refine⟨n,rfl,λp hp=>⟨p,n,rfl,aA,hh.1,hh.2,λl hl=>?_⟩⟩
   have hlp:l≠p:=λz=>by subst z;rw[aA] at hl;cases hl
   have hlH:H l=none:=by rw[ay hlp] at hl;exact hl
   have x1:=Ext.own s (o:=.fE 0 n) hp
   have x2:=Ext.own x1.gh (o:=.lst ((List.range n.toNat).map λ(i:Nat)=>V.int (i:Int))) hl
   exact k _ _ _ (x1.trans x2) ⟨l,rfl,hlH,s.free hlH,_,aA,zT _⟩
  ·cases e
 |_=>cases e
noncomputable def qd (d:D):Option D:=match d with
 | .list ds=>(match iU ds with
  |some ps=>if ps.all Iv=true/\ps.Nodup/\ps.length < 64 then some (.list ((OM.iw 8 (OM.Mem ps)).map au)) else none
  |none=>none)
 |_=>none
theorem D4:AV K (λx=>yG K [x]) qd .w:=by
 intro B G H x dx d Q s hB bx e k
 cases dx with
 |list ds=>
  simp only[qd] at e
  cases q2:iU ds with
  |none=>rw[q2] at e;cases e
  |some ps=>
   rw[q2] at e
   dsimp only at e
   split at e
   ·rename_i hh
    obtain⟨h1,h2,h3⟩:=hh
    cases e
    obtain⟨p,xs,rfl,hq,r⟩:=bx.list s
    rw[lS q2] at r
    have pv:=(r.mono s).pairs
    have sm:∀p,p∈ps->Sm p:=λp hp=>Ho (MV.mp h1 p hp)
    refine⟨p,xs,ps,rfl,.inl hq,pv,sm,h2,h3,λl ws rs hl hpw hr hmem=>?_⟩
    have ers:rs=OM.iw 8 (OM.Mem ps):=OM.jr hr (OM.iQ _ _) λx=>by
     rw[hmem x,OM.dX]
     constructor
     ·intro hx;have hs:=sm x hx;exact⟨⟨⟨hs.1.1,hs.1.2⟩,hs.2.1,hs.2.2⟩,hx⟩
     ·intro hx;exact hx.2
    subst ers
    have hh:ah H (upd H l (.lst ws)):=ah.new hl
    refine k _ _ _ (Ext.tups s hh) ⟨l,rfl,hl,?_,ws,aA,?_⟩
    ·unfold eY
     rw[s.free hl,aA]
     exact MG λy=>y
    ·refine ba.rps (Paired.mapP hpw λv p ⟨a,ea,qa⟩=>⟨a,ea,mV (s.trans hh) ?_⟩)
     exact qa.grow (i5.new hl)
   ·cases e
 |_=>cases e
def Ao (ds:List D)(k:D):Option (D×List D):=match k with
 | .int i=>if -(2 ^ 63)<=i/\i < 2 ^ 63 then (match seqIndex? i ds.length with
  |some n=>(match ds[n]? with
   |some d=>some (d,ds.eraseIdx n)
   |none=>none)
  |none=>none) else none
 |_=>none
def kj (i j:Nat)(L:List Nat)(f:VF D):SF:=λenv β=>if qH env[i]? =true/\qH env[j]? =true/\i≠j then toS (f (vl env) β) λk β'=>match (aS L env)[j]? with
 |some (.ow (.list es))=>(match Ao es k with
  |some (d,es')=>FU i ((aS L env).set j (.ow (.list es'))) β' λds=>if ds.length < sizeLine then some (ds ++ [d]) else none
  |none=>.bad)
 |_=>.bad else .bad
theorem cj.eraseIdx:∀{xs:List V} {ds:List D} (i:Nat),cj K G xs ds->cj K G (xs.eraseIdx i) (ds.eraseIdx i)
 |_,_,_,.nil=>.nil
 |_,_,0,.cons _ t=>t
 |_,_,i + 1,.cons r t=>.cons r (cj.eraseIdx i t)
theorem zW (i j:Nat){x y:Str}{np2 apos2 cpos2:Pos}(hb:∀j,Γ.br j=false)(he:SE X Γ E e f L md)(hN:X.N[i]? =some x:=by rfl)(hv:y9 X.env.scope x:=by first |exact Or.inl rfl |exact Or.inr (Or.inl rfl) |exact Or.inr (Or.inr rfl))(hd:(x == ("__debug__":Str))=false:=by decide)
  (hcd:(x == ("__classdict__":Str))=false:=by decide)
  (hN2:X.N[j]? =some y:=by rfl) (hv2:y9 X.env.scope y:=by first |exact Or.inl rfl |exact Or.inr (Or.inl rfl) |exact Or.inr (Or.inr rfl)) (hd2:(y == ("__debug__":Str))=false:=by decide)
  (hcd2:(y == ("__classdict__":Str))=false:=by decide)
  (hbase:attributeBase (.Name x np) "append" X.env (eval (.Name x np) X.env)=eval (.Name x np) X.env:=by rfl)
  (hfew:((backTo cpos (starEach [.Call (.Attribute (.Name y np2) "pop" apos2) [e] [] cpos2] X.env)).all (λx=> !x.1) && (backToKw cpos (keywordEach [] X.env)).all (λx=>x.1.isSome)
   && decide ([Expr.Call (.Attribute (.Name y np2) "pop" apos2) [e] [] cpos2].length + ([]:List Keyword).length + (if ([]:List Keyword).isEmpty then 0 else 1) < 30))=true:=by rfl)
  (hline:(apos.endLine == cpos.line)=true:=by rfl) (hs:starEach [.Call (.Attribute (.Name y np2) "pop" apos2) [e] [] cpos2] X.env=(false,eval (.Call (.Attribute (.Name y np2) "pop" apos2) [e] [] cpos2) X.env) :: starEach [] X.env:=by rfl)
  (hbase2:attributeBase (.Name y np2) "pop" X.env (eval (.Name y np2) X.env)=eval (.Name y np2) X.env:=by rfl)
  (hfew2:((backTo cpos2 (starEach [e] X.env)).all (λx=> !x.1) && (backToKw cpos2 (keywordEach [] X.env)).all (λx=>x.1.isSome)
   && decide ([e].length + ([]:List Keyword).length + (if ([]:List Keyword).isEmpty then 0 else 1) < 30))=true:=by rfl)
  (hline2:(apos2.endLine == cpos2.line)=true:=by rfl) (hs2:starEach [e] X.env=(false,eval e X.env) :: starEach [] X.env:=by rfl)
  (hsw:swapsWith (.Call (.Attribute (.Name x np) "append" apos) [.Call (.Attribute (.Name y np2) "pop" apos2) [e] [] cpos2] [] cpos) none pos.line X.env=pure false:=by rfl) :
  SS X Γ E (.Expr (.Call (.Attribute (.Name x np) "append" apos) [.Call (.Attribute (.Name y np2) "pop" apos2) [e] [] cpos2] [] cpos) pos) (kj i j L f):=by
 refine PS.post (pL (yn Oj PySem.F.slot_list_append PySem.F.type_list_append nQ (jR hN hv hd hcd)
  (aQ (yn Oj PySem.F.slot_list_pop PySem.F.type_list_pop BJ (jR hN2 hv2 hd2 hcd2) (aQ he bS hs2) hbase2 hfew2 hline2 hs2 rfl) bS hs) hbase hfew hline hs rfl) hsw) λN σ H ⟨env,G,B,β,I,o⟩=>?_
 unfold kj at o
 by_cases hO:qH env[i]? =true/\qH env[j]? =true/\i≠j
 case neg=>rw[MG hO] at o;exact o.elim
 rw[My hO] at o
 obtain⟨hO1,hO2,hij⟩:=hO
 obtain⟨ds0,q0⟩:=mU hO1
 obtain⟨es0,w0⟩:=mU hO2
 obtain⟨p,h1,_,_,_,xs,h5,_⟩:=I.slot i _ q0
 obtain⟨q,k1,_,_,_,ys,k5,_⟩:=I.slot j _ w0
 refine⟨_,h1,.inl ⟨rfl,xs,.inl (.inl h5)⟩,?_⟩
 refine⟨_,k1,.inl ⟨rfl,ys,.inl (.inl k5)⟩,?_⟩
 refine⟨env,G,B,β,I,cL o λkd β' k v G' H' I' s' m' vo=>?_⟩
 cases ej:(aS L env)[j]? with
 |none=>rw[ej] at k;exact k.elim
 |some sj=>
  rw[ej] at k
  cases sj with
  |ow dj=>
   cases dj with
   |list es=>
    dsimp only at k
    cases ep:Ao es kd with
    |none=>rw[ep] at k;exact k.elim
    |some pr=>
     obtain⟨d,es'⟩:=pr
     rw[ep] at k
     dsimp only at k
     unfold Ao at ep
     cases kd <;> first | (cases ep;done) |skip
     rename_i ii
     dsimp only at ep
     split at ep
     ·rename_i hr
      cases eI:seqIndex? ii es.length with
      |none=>rw[eI] at ep;cases ep
      |some n=>
       rw[eI] at ep
       dsimp only at ep
       cases eD:es[n]? with
       |none=>rw[eD] at ep;cases ep
       |some d0=>
        rw[eD] at ep
        cases ep
        obtain rfl:=(vo.brw I.boxThere).int
        obtain⟨q',g1,_,_,_,zs,g5,g6⟩:=I'.slot j _ ej
        rw[k1] at g1;cases g1
        obtain⟨xv,ex,rx⟩:=g6.at eD
        refine⟨q,zs,ii,n,xv,rfl,rfl,g5,hr.1,hr.2,by rw[g6.len];exact eI,ex,?_⟩
        have I2:=I'.write hb ej k1 (o:=.lst (zs.eraseIdx n)) (d':=.list (es.eraseIdx n)) λH2 e2 s2=>⟨_,e2,g6.eraseIdx n⟩
        obtain⟨ds,fs,eq,eg,k⟩:=pJ k
        by_cases hz:ds.length < sizeLine
        case neg=>rw[MG hz] at eg;cases eg
        rw[My hz] at eg
        cases eg
        obtain⟨p',f1,_,_,_,us,f5,f6⟩:=I2.slot i _ eq
        rw[h1] at f1;cases f1
        refine⟨p,us,xv,rfl,rfl,f5,by rw[f6.len];exact hz,?_⟩
        exact k B G' _ σ (I2.write hb eq h1 λH2 e2 s2=>⟨_,e2,f6.snoc rx⟩) s'
     ·cases ep
   |_=>exact k.elim
  |_=>exact k.elim
end
def fW:List D->Int->FB
 | [.int m],β=>if 0 < m/\m < 1073741824 then .ok (.int (β % m)) false (β / m) else .bad
 |_,_=>.bad
def y0 {ds:List D}{β:Int}(h:fW ds β≠.bad):∃m,ds= [.int m]/\0 < m/\m < 1073741824:=by
 unfold fW at h
 split at h
 ·rename_i m
  by_cases hh:0 < m/\m < 1073741824
  ·exact⟨m,rfl,hh.1,hh.2⟩
  ·rw[MG hh] at h;exact absurd rfl h
 ·exact absurd rfl h
def tJ {m β:Int}(h0:0 < m)(h1:m < 1073741824):fW [.int m] β=.ok (.int (β % m)) false (β / m):=My ⟨h0,h1⟩
section
variable {P:Program}{w:World}{K:Frag}{mg:Str->Option Value}{base:Heap}
def EO {X:Cx}{i j:Nat}{x y:Str}{px py pos:Pos}{k:Nat}(hN:X.N.Nodup)(hi:X.N[i]? =some x)(hj:X.N[j]? =some y)(hx:X.env.scope.names.lookup x=some .local)(hy:X.env.scope.names.lookup y=some .local)(hc:X.calm=true) :
  PG X (.Tuple [.Name x px,.Name y py] k pos) (Fe X.K 2 (qb (l9 i) (qb (l9 j) E8))):=
 qJ hc (dW (dg hN hi (Or.inl hx) (Or.inr hx)) (dW (dg hN hj (Or.inl hy) (Or.inr hy)) nK))
def CK {b:Addr}{β m:Int}{H:Hp}{Q:VK}{G:Hp}(hb:H b=some (.lst [.int β]))(s:ah G H){p:Addr}(hp:H p=none)
  (kk:∀v G' H',gR (some b) H H'->H' b=some (.lst [.int (β / m)])->ah G G'->ah G' H'->(∀c,Mx H c->G c=none->G' c=none)->FV K H G' H' false (.int (β % m)) v->Q v H') (gb:G b=none) :
  Q (.int (β % m)) (upd (upd H p (.tup [.int (β / m),.int (β % m)])) b (.lst [.int (β / m)])):=by
 have hbp:b≠p:=aJ hb hp
 refine kk _ G _ ⟨λc o e n=>Kt.of (by rw[ay (λz=>n (by rw[z])),ay (aJ e hp)];exact e),λc o u e=>by rw[ay (λz=>by rw[z,hb] at e;cases e),ay (aJ e hp)];exact e⟩ aA (ah.refl _) (λc o e=>?_) (λc _ h=>h) (.int _)
 obtain⟨u,eu,_⟩:=(s c o e).some
 exact lI (lI (s c o e) (aJ eu hp) λx y w=>by rw[hp] at w;cases w) (λz=>by rw[z,gb] at e;cases e) λx y w=>by rw[ay hbp,hb] at w;cases w
end
end L2
namespace L2
open PySem PySem.SeqAt PySem.Spec PyProof.Rows
def uO {M:Model}{A:Around}{E:Value->Shared->Prop}{s:Shared}{β:Type}{b:Nat}(f:Nat->β->Sem (ForInStep β))(I:List Nat->β->Shared->Prop)(Q:β->Shared->Prop)
  (turn:∀x rest b s,I (x :: rest) b s->wpAny M A (f x b) (λr s'=>match r with | .yield b'=>I rest b' s' | .done b'=>Q b' s') E s)
  (fin:∀b s,I [] b s->Q b s) (c:β) (h:I (List.range' 0 b) c s):wpAny M A (forIn [0:b] c f) Q E s:=by
 rw[Std.Legacy.Range.forIn_eq_forIn_range']
 simp only[Std.Legacy.Range.size,Nat.sub_zero,Nat.add_sub_cancel,Nat.div_one]
 exact wpAny_forIn_list f I Q turn fin _ c h
def rj (l:Addr)(items:Array Value)(n:Nat)(dd:Option Addr)(sl:Array (Option Value))(x:Value)(e:Value->Bool)(j:Nat)(hj:j < items.size)
  (hit:e items[j]=true) (hno:∀m (hm:m < items.size),m < j->e items[m]=false) :
  Meets (Builtin.«tuple.index» ⟨[.ref l,x],[]⟩)
   (λA R s=>s.heap.get? l=some {cls:=.type "tuple",dict:=dd,data:=.seq items n,slots:=sl}/\(∀y,y∈items->EqAt A.in1 s y x (e y))/\R (.ok (.ret (.int j s.toks))) {s with toks:=s.toks + 1}):=
 .of_wp λprog w A R s h=>by
  obtain⟨hp,g,d,tk,os⟩:=s;obtain⟨hl,he,h⟩:=h
  wp_walk using wpAny_loadPart' hl,uO _ (λrest b s'=>b.1=none/\s'=⟨hp,g,d,tk,os⟩/\∃i,i<=j/\rest=List.range' i (items.size - i)) _
  case turn=>
   rintro y rest b s' ⟨hb,rfl,i,hi,hr⟩
   obtain⟨m,hm⟩:∃m,items.size - i=m + 1:=⟨items.size - i - 1,by omega⟩
   rw[hm,List.range'_succ] at hr
   obtain⟨rfl,rfl⟩:=List.cons.inj hr
   have hlt:y < items.size:=by omega
   have e1:items[y]? =some items[y]:=by simp[hlt]
   simp only[e1]
   refine Mz (he _ (Array.getElem_mem hlt) prog w _ _ ?_)
   by_cases z:y=j
   ·subst z
    rw[hit]
    wp_walk
    exact⟨_,rfl,h⟩
   ·rw[hno y hlt (by omega)]
    wp_walk
    exact⟨rfl,rfl,y + 1,by omega,by congr 1;omega⟩
  case fin=>
   rintro b s' ⟨hb,rfl,i,hi,hr⟩
   obtain⟨m,hm⟩:∃m,items.size - i=m + 1:=⟨items.size - i - 1,by omega⟩
   rw[hm,List.range'_succ] at hr
   cases hr
  case h=>
   exact⟨rfl,rfl,0,Nl _,by rw[Nat.min_self];rfl⟩
section
variable {K:Frag}{X:Cx}{G H:Hp}{Γ:Fx}{E:XK}{e a b c:Expr}{f fa fb fc:VF D}{L La Lb:List Nat}{md ma mb mc:Md}{pos apos cpos np:Pos}
def xD (k:Int):Value->Bool
 | .int i _=>i == k
 |_=>false
theorem mD {k:Int}:∀{ns:List Int} {us:List Value} (i:Nat) (h:i < us.length) (h2:i < ns.length),Vals (ns.map V.int) us->xD k us[i]=(ns[i] == k)
 | [],_,_,_,h2,_=>absurd h2 (Nat.not_lt_zero _)
 |n :: ns,_,0,_,_,.cons r _=>by obtain⟨t,rfl⟩:=r;rfl
 |n :: ns,_,i + 1,h,h2,.cons _ rs=>mD i (Nat.lt_of_succ_lt_succ h) (Nat.lt_of_succ_lt_succ h2) rs
theorem wD {k:Int}{t:Tok}(A:Around)(s:Shared):∀{ns:List Int} {us:List Value},Vals (ns.map V.int) us->∀y∈us,EqAt A s y (.int k t) (xD k y)
 | [],_,.nil,y,hy=>by cases hy
 |n :: ns,_,.cons r rs,y,hy=>by
  rcases MH.mp hy with z |z
  ·subst z;obtain⟨t',rfl⟩:=r;exact EqAt.int_int n t' k t
  ·exact wD A s rs y z
def Es (K:Frag):V->List V->Hp->VK->Prop:=λx vs H Q=>∃(a:Addr) (ns:List Int) (k:Int),x=.ref a/\vs= [.int k]/\gM K H a (ns.map V.int)/\k∈ns/\Q (.int (ns.idxOf k:Nat)) H
def zv:IF X "tuple.index" (Es X.K):=by
 intro pins s σ H x vs v us Q I rx rv h
 obtain⟨a,ns,k,rfl,rfl,hq,hk,q⟩:=h
 cases rx
 obtain⟨u,rfl,ru⟩:=vals1 rv
 obtain⟨t,rfl⟩:=ru
 obtain⟨its,rs,pl,hz⟩:=I.tuple hq
 obtain⟨⟨cls,dd,data,sl⟩,ho,hc,n,hd⟩:=id pl
 simp only at hc hd
 subst hc hd
 have hj:ns.idxOf k < ns.length:=Oh.mpr hk
 have hlen:its.length=ns.length:=by rw[<-rs.length,MC]
 refine call_meets PySem.F.slot_tuple_index ⟨_,ho,rfl⟩ PySem.F.entry_tuple_index (PySem.F.args_tuple_index_2 _ _)
  (rj a its.toArray n dd sl (.int k t) (xD k) (ns.idxOf k) (by simpa[hlen] using hj) ?_ ?_) ⟨ho,λy hy=>wD _ _ rs y (by simpa using hy),?_⟩
 ·have:=mD (k:=k) (ns.idxOf k) (by omega) hj rs
  simpa[List.getElem_idxOf hj] using this
 ·intro m hm hlt
  have hm':m < ns.length:=by simpa[hlen] using hm
  have hne:ns[m]≠k:=λz=>by
   have:=List.not_of_lt_findIdx (p:=(· == k)) hlt
   simp[z] at this
  have:=mD (k:=k) m (by omega) hm' rs
  rw[beq_eq_false_iff_ne.mpr hne] at this;simpa using this
 ·exact⟨.int (ns.idxOf k:Nat),H,I.tok _,⟨_,rfl⟩,q⟩
def Inv.tupleP {pins:List (Addr×Obj)}{σ:St}{s:Shared}{p:Addr}{xs:List V}(I:Inv X pins σ H s)(h:gM X.K H p xs):s.TypeIs (.ref p) "tuple"/\∀a,Value.ref p=.ref a->∃ob,s.heap.get? a=some ob/\ob.dict=none:=by
 rcases h with h | ⟨o,its,n,hk,hc,hs,hz,r,hd⟩
 ·obtain⟨_,_,_,o,e,c,n,d,hd⟩:=h.ok I.hok
  exact⟨⟨o,e,c⟩,λa z=>by cases z;exact⟨o,e,hd⟩⟩
 ·exact⟨⟨o,I.kIn p o hk,hc⟩,λa z=>by cases z;exact⟨o,I.kIn p o hk,hd⟩⟩
def Lm (K:Frag)(r:V->List V->Hp->VK->Prop)(to:TE)(t:TA):TE:=λσ H Q=>to σ H λx H1=>(∃p xs,x=.ref p/\gM K H1 p xs)/\t σ H1 λxs H2=>r x xs H2 Q
def F0 {o e:Expr}{es:List Expr}{to:TE}{t:TA}{name:Str}{apos cpos:Pos}{id:String}{r:V->List V->Hp->VK->Prop}(slot:Slot "tuple" name id)(hty:typeOf (.builtin id)=pure (.type "method_descriptor"))(hm:IF X id r)(ho:PE X o to)(ha:PA X (e :: es) t)
  (hbase:attributeBase o name X.env (eval o X.env)=eval o X.env:=by rfl)
  (hfew:((backTo cpos (starEach (e :: es) X.env)).all (λx=> !x.1) && (backToKw cpos (keywordEach [] X.env)).all (λx=>x.1.isSome)
   && decide ((e :: es).length + ([]:List Keyword).length + (if ([]:List Keyword).isEmpty then 0 else 1) < 30))=true:=by rfl)
  (hline:(apos.endLine == cpos.line)=true:=by rfl) (hs:starEach (e :: es) X.env=(false,eval e X.env) :: starEach es X.env:=by rfl) (hplain:(backTo cpos (starEach es X.env)).any (·.1)=false:=by rfl) :
  PE X (.Call (.Attribute o name apos) (e :: es) [] cpos) (Lm X.K r to t):=by
 intro pins s σ H Q I h
 refine wpAny_Call_method_late hbase hfew hline rfl (cD (ho pins s σ H _ I h) λv s1 ⟨x,H1,I1,r1,⟨p,ys,ex,hr⟩,q1⟩=>?_)
 subst ex
 cases r1
 obtain⟨h1,h2⟩:=I1.tupleP hr
 refine⟨"tuple",id,PySem.F.plainAttrs_tuple,slot,hty,h1,h2,?_⟩
 have hA:=ha cpos pins s1 σ H1 _ I1 q1
 rw[hs] at hA ⊢
 refine Calls.callWith_builtin (by show (false || (backTo cpos (starEach es X.env)).any (·.1))=false;rw[hplain] <;> rfl) (Calls.evalArgs_plain ?_)
 exact cD hA λus s2 ⟨vs,H2,I2,r2,q2⟩=>hm pins s2 σ H2 (.ref p) vs (.ref p) us Q I2 rfl r2 q2
def kU:List D->Option (List Int)
 | []=>some []
 | .int i :: ds=>(kU ds).map (i :: ·)
 |_=>none
theorem qB:∀{ds:List D} {ns:List Int},kU ds=some ns->ds=ns.map int
 | [],ns,h=>by cases h;rfl
 | .int i :: ds,ns,h=>by
  unfold kU at h
  cases q:kU ds with
  |none=>rw[q] at h;cases h
  |some ms=>rw[q] at h;cases h;rw[qB q];rfl
 | .none :: _,_,h=>by cases h
 | .bool _ :: _,_,h=>by cases h
 | .str _ :: _,_,h=>by cases h
 | .list _ :: _,_,h=>by cases h
 | .tuple _ :: _,_,h=>by cases h
 | .dict _ :: _,_,h=>by cases h
theorem j8:∀ns:List Int,kU (ns.map int)=some ns
 | []=>rfl
 |n :: ns=>by show (kU (ns.map int)).map (n :: ·)=_;rw[j8 ns];rfl
theorem pW:∀{ns:List Int} {xs:List V},cj K G xs (ns.map int)->xs=ns.map V.int
 | [],_,.nil=>rfl
 |n :: ns,_,.cons r t=>by cases r;rw[pW t];rfl
def Ey (d y:D):Option D:=match d,y with
 | .tuple ds,.int k=>(match kU ds with
  |some ns=>if k∈ns then some (.int (ns.idxOf k:Nat)) else none
  |none=>none)
 |_,_=>none
def za:D->Bool
 | .tuple _=>true
 |_=>false
def om (fa fb:VF D):VF D:=λvs β=>(fa vs β).bnd λx β1=>if za x=true then (fb vs β1).bnd λy β2=>R.of (Ey x y) β2 else .bad
theorem vH (hK:X.K=Γ.K)(ha:SE X Γ E a fa La ma)(hb:SE X Γ E b fb Lb mb)
  (hbase:attributeBase a "index" X.env (eval a X.env)=eval a X.env:=by rfl)
  (hfew:((backTo cpos (starEach [b] X.env)).all (λx=> !x.1) && (backToKw cpos (keywordEach [] X.env)).all (λx=>x.1.isSome)
   && decide ([b].length + ([]:List Keyword).length + (if ([]:List Keyword).isEmpty then 0 else 1) < 30))=true:=by rfl)
  (hline:(apos.endLine == cpos.line)=true:=by rfl) (hs:starEach [b] X.env=(false,eval b X.env) :: starEach [] X.env:=by rfl) :
  SE X Γ E (.Call (.Attribute a "index" apos) [b] [] cpos) (om fa fb) (La ++ Lb) .v:=by
 refine PE.post' (F0 PySem.F.slot_tuple_index PySem.F.type_tuple_index zv ha (aQ hb bS hs) hbase hfew hline hs rfl) λσ H Q ⟨env,G,B,β,I,o⟩=>?_
 refine⟨env,G,B,β,I,o.bnd.imp λd1 β1 h x G1 H1 I1 s1 m1 vx=>?_⟩
 have vx:=vx.brw I.boxThere
 cases d1 with
 |tuple ds=>
  rw[My (show za (.tuple ds)=true from rfl)] at h
  obtain⟨p,xs,rfl,hq,r⟩:=vx.tuple I1.sub
  refine⟨⟨p,xs,rfl,by rw[hK];exact hq⟩,?_⟩
  refine⟨aS La env,G1,B,β1,I1,?_⟩
  rw[dc]
  refine h.bnd.imp λd2 β2 h y G2 H2 I2 s2 m2 vy=>?_
  obtain⟨d,e,k⟩:=h.of
  have vy:=vy.brw I1.boxThere
  cases d2 with
  |int kk=>
   obtain rfl:=vy.int
   simp only[Ey] at e
   cases q:kU ds with
   |none=>rw[q] at e;cases e
   |some ns=>
    rw[q] at e
    dsimp only at e
    split at e
    ·rename_i hk
     cases e
     have eds:=qB q
     subst eds
     have exs:=pW r
     subst exs
     have hq2:gM X.K H2 p (ns.map V.int):=by
      rw[hK]
      rcases hq with hq |hq
      ·rcases vx with vx | ⟨_,_,_,vx⟩
       ·cases vx with
        |tup g1 r9=>have z9:=pW r9;subst z9;exact (g1.grow (s2.trans I2.sub).grow)
       ·exact vx.elim
      ·exact .inr hq
     exact⟨p,ns,kk,rfl,rfl,hq2,hk,k _ G2 H2 (by rw[bZ];exact I2) (s1.trans s2) (m1.trans m2) (.int _)⟩
    ·cases e
  |_=>simp only[Ey] at e;cases e
 |_=>exact h.elim
abbrev Fx.at (Γ:Fx)(H0:Hp):Fx:=⟨Γ.K,H0,Γ.G0,Γ.par,Γ.ca,Γ.br,Γ.bx⟩
end
end L2
namespace L2
open PySem PySem.Spec PyProof.Rows
section
variable {K:Frag}{X:Cx}{G H:Hp}
def zL (neg:Bool):D->D->Option D
 | .str x,.str y=>some (.bool (if neg then !decide (x=y) else decide (x=y)))
 |_,_=>none
def wo (x y:Str):decide (V.str x=V.str y)=decide (x=y):=by
 rw[Na];simp
def Kb:l7 K L3 (zL false) .v:=by
 intro B G H x y dx dy d Q s hB bx by' e k
 cases dx <;> cases dy <;> first | (cases e;done) |skip
 cases e
 obtain rfl:=bx.str
 obtain rfl:=by'.str
 refine⟨rfl,?_⟩
 rw[wo]
 exact k _ G H (Ext.refl s) (.bl _)
def IL:l7 K L7 (zL true) .v:=by
 intro B G H x y dx dy d Q s hB bx by' e k
 cases dx <;> cases dy <;> first | (cases e;done) |skip
 cases e
 obtain rfl:=bx.str
 obtain rfl:=by'.str
 refine⟨rfl,?_⟩
 rw[wo]
 exact k _ G H (Ext.refl s) (.bl _)
end
end L2
namespace L2
open PySem
section
variable {α γ:Type}
@[simp] theorem nV (a:α)(β:Int)(k:α->Int->R γ):(R.ok a β).bnd k=k a β:=rfl
@[simp] theorem KA (c:Str)(k:α->Int->R γ):(R.exc c:R α).bnd k=.exc c:=rfl
@[simp] theorem Ky (k:α->Int->R γ):(R.bad:R α).bnd k=.bad:=rfl
@[simp] theorem LL (a:α)(β:Int)(k:α->Int->R γ):(R.ok a β).okb k=k a β:=rfl
@[simp] theorem uN (a:α)(β:Int):R.of (some a) β=.ok a β:=rfl
@[simp] theorem of_none (β:Int):(R.of none β:R α)=.bad:=rfl
@[simp] theorem LP (a:α)(β:Int)(k:α->Int->SO):toS (.ok a β) k=k a β:=rfl
@[simp] theorem Kk (c:Str)(k:α->Int->SO):toS (.exc c:R α) k=.exc c:=rfl
@[simp] theorem Kw (k:α->Int->SO):toS (.bad:R α) k=.bad:=rfl
end
section
variable (f fa fb fc:VF D)(t u:VF Bool)(m m':SF)(vs:List Nv)(β:Int)(env:En)(i j:Nat)(L:List Nat)
@[simp] theorem AY:gv i vs β=R.of (dat vs[i]?) β:=rfl
@[simp] theorem wN (d:D):dat (some (.da d))=some d:=rfl
@[simp] theorem Gk (d:D):cst d vs β=.ok d β:=rfl
@[simp] theorem Me (g:D->Option D):f1 fa g vs β=(fa vs β).bnd λx β1=>R.of (g x) β1:=rfl
@[simp] theorem L0 (g:D->D->Option D):f2 fa fb g vs β=(fa vs β).bnd λx β1=>(fb vs β1).bnd λy β2=>R.of (g x y) β2:=rfl
@[simp] theorem yU:ag vs β=.ok [] β:=rfl
@[simp] theorem c4 (fr:VF (List D)):aa fa fr vs β=(fa vs β).bnd λx β1=>(fr vs β1).bnd λxs β2=>.ok (x :: xs) β2:=rfl
@[simp] theorem xQ:eZ fa vs β=(fa vs β).bnd λx β1=>R.of (Gv x) β1:=rfl
@[simp] theorem xX:j9 t vs β=(t vs β).bnd λc β1=>.ok (!c) β1:=rfl
@[simp] theorem yc:yA t u vs β=(t vs β).bnd λc β1=>if c=true then u vs β1 else .ok false β1:=rfl
@[simp] theorem pj:gf t u vs β=(t vs β).bnd λc β1=>if c=true then .ok true β1 else u vs β1:=rfl
@[simp] theorem Mb (n:Bool):tN fa n vs β=(fa vs β).bnd λx β1=>.ok (if n then !D5 x else D5 x) β1:=rfl
@[simp] theorem Hm:Kl t fa fb vs β=(t vs β).bnd λc β1=>if c=true then fa vs β1 else fb vs β1:=rfl
@[simp] theorem cO (c:Bool){β1:Int}(h:fa vs β=.ok (.bool c) β1):cC fa vs β=.ok c β1:=by unfold cC;rw[h];rfl
@[simp] theorem ye:vl []= []:=rfl
@[simp] theorem tQ (s:Sl):vl (s :: env)=s.val :: vl env:=rfl
@[simp] theorem yg (d:D):(Sl.fz d).val=.da d:=rfl
@[simp] theorem LR (d:D):(Sl.ow d).val=.da d:=rfl
@[simp] theorem Lp:Sl.no.val=.no:=rfl
@[simp] theorem KJ:Sl.bx.val=.bx:=rfl
@[simp] theorem Kz:aS [] env=env:=rfl
@[simp] theorem JR:aS (i :: L) env=aS L (gF env i):=rfl
@[simp] theorem Ku:aH m m' env β=(match m env β with
 | .nx env' β'=>m' env' β'
 |r=>r):=rfl
@[simp] theorem Lg:iL L t m m' env β=toS (t (vl env) β) λc β'=>if c=true then m (aS L env) β' else m' (aS L env) β':=rfl
@[simp] theorem gB:bo f env β=toS (f (vl env) β) λd β'=>.rt d false β':=rfl
@[simp] theorem vP:oO f env β=toS (f (vl env) β) λd β'=>.rt d true β':=rfl
@[simp] theorem K1:jU env β=.nx env β:=rfl
@[simp] theorem cM:bQ i L f env β=toS (f (vl env) β) λd β'=>.nx ((aS L env).set i (.fz d)) β':=rfl
@[simp] theorem ll:kY i L f env β=toS (f (vl env) β) λd β'=>.nx ((aS L env).set i (.ow d)) β':=rfl
@[simp] theorem Jo:oB L f env β=toS (f (vl env) β) λ_ β'=>.nx (aS L env) β':=rfl
end
def aI {m m':SF}{env env':En}{β β':Int}(h:m env β=.nx env' β'):aH m m' env β=m' env' β':=by unfold aH;rw[h]
def jo {m m':SF}{env:En}{β β':Int}{d:D}{b:Bool}(h:m env β=.rt d b β'):aH m m' env β=.rt d b β':=by unfold aH;rw[h]
def kW {L:List Nat}{t:VF Bool}{m m':SF}{env:En}{β β':Int}(h:t (vl env) β=.ok true β'):iL L t m m' env β=m (aS L env) β':=by unfold iL;rw[h];rfl
def iS {L:List Nat}{t:VF Bool}{m m':SF}{env:En}{β β':Int}(h:t (vl env) β=.ok false β'):iL L t m m' env β=m' (aS L env) β':=by unfold iL;rw[h];rfl
def ax {F:List D->FR}{fr:VF (List D)}{vs:List Nv}{β β1:Int}{ds:List D}{d:D}{b:Bool}(h:fr vs β=.ok ds β1)(e:F ds=.ok d b):aw F fr vs β=.ok d β1:=by unfold aw;rw[h];dsimp only[R.bnd];rw[e]
def vB {F:List D->FR}{fr:VF (List D)}{vs:List Nv}{β β1:Int}{ds:List D}{d:D}(h:fr vs β=.ok ds β1)(e:F ds=.ok d true):oJ F fr vs β=.ok d β1:=by unfold oJ;rw[h];dsimp only[R.bnd];rw[e]
def dA {fa:VF D}{g:D->Option D}{vs:List Nv}{β β1:Int}{x d:D}(h:fa vs β=.ok x β1)(e:g x=some d):f1 fa g vs β=.ok d β1:=by unfold f1;rw[h];dsimp only[R.bnd];rw[e];rfl
def aB {fa fb:VF D}{g:D->D->Option D}{vs:List Nv}{β β1 β2:Int}{x y d:D}(h:fa vs β=.ok x β1)(h':fb vs β1=.ok y β2)(e:g x y=some d):f2 fa fb g vs β=.ok d β2:=by unfold f2;rw[h];dsimp only[R.bnd];rw[h'];dsimp only[R.bnd];rw[e];rfl
def nZ {i:Nat}{F:List D->Int->FB}{fr:VF (List D)}{vs:List Nv}{β β1 β2:Int}{ds:List D}{d:D}{b:Bool}(hi:ya vs i=true)(h:fr vs β=.ok ds β1)(e:F ds β1=.ok d b β2):qz i F fr vs β=.ok d β2:=by unfold qz;rw[My hi,h];dsimp only[R.bnd];rw[e]
def Ij {f0:VF D}{F:List D->Int->FB}{n:Int}{vs:List Nv}{β β1 z β2:Int}{d:D}{b:Bool}(h:f0 vs β=.ok (.list [.int z]) β1)(e:F [.int n] z=.ok d b β2):Kv f0 F n vs β=.ok d β1:=by unfold Kv;rw[h];dsimp only[R.bnd,Bb];rw[e]
def sz (n:Nat)(h:n<=1000):n<=sizeLine:=by rw[Nc];omega
def JH (n:Nat)(h:n<=1000):n < sizeLine:=by rw[Nc];omega
def jJ {fr:VF (List D)}{vs:List Nv}{β β1:Int}{ds:List D}(h:fr vs β=.ok ds β1)(hz:ds.length<=1000):cq fr vs β=.ok (.tuple ds) β1:=by unfold cq;rw[h];exact My (sz _ hz)
def kh {fr:VF (List D)}{vs:List Nv}{β β1:Int}{ds:List D}(h:fr vs β=.ok ds β1)(hz:ds.length<=1000):cY fr vs β=.ok (.list ds) β1:=by unfold cY;rw[h];exact My (sz _ hz)
def tO {i:Nat}{env:En}{β:Int}{g:List D->Option (List D)}{ds es:List D}(h:env[i]? =some (.ow (.list ds)))(e:g ds=some es):FU i env β g=.nx (env.set i (.ow (.list es))) β:=by unfold FU;rw[h];dsimp only;rw[e]
def pI {i:Nat}{L:List Nat}{f:VF D}{env:En}{β β':Int}{ds:List D}{d:D}(hi:env[i]? =some (.ow (.list ds)))(hf:f (vl env) β=.ok d β')(hL:(aS L env)[i]? =some (.ow (.list ds)))(hz:ds.length<=1000):mH i L f env β=.nx ((aS L env).set i (.ow (.list (ds ++ [d])))) β':=by
 unfold mH
 rw[My (by rw[hi];rfl),hf]
 exact tO hL (My (JH _ hz))
def wW {i j:Nat}{L:List Nat}{f:VF D}{env:En}{β β':Int}{ds es es':List D}{k d:D}(hi:env[i]? =some (.ow (.list ds)))(hj:env[j]? =some (.ow (.list es)))(hij:i≠j)(hf:f (vl env) β=.ok k β')(hL:aS L env=env)(hp:Ao es k=some (d,es'))(hz:ds.length<=1000):kj i j L f env β=.nx ((env.set j (.ow (.list es'))).set i (.ow (.list (ds ++ [d])))) β':=by
 unfold kj
 rw[My ⟨by rw[hi];rfl,by rw[hj];rfl,hij⟩,hf,hL]
 dsimp only[toS]
 rw[hj]
 dsimp only
 rw[hp]
 exact tO (by rw[MW (Ne.symm hij)];exact hi) (My (JH _ hz))
def B7 {i:Nat}{Le Li:List Nat}{fe fi:VF D}{env:En}{β β1 β2:Int}{ds:List D}{d:D}{k:Int}{n:Nat}(he:fe (vl env) β=.ok d β1)(h1:(aS Le env)[i]? =some (.ow (.list ds)))(hi:fi (vl env) β1=.ok (.int k) β2)(h2:(aS (Le ++ Li) env)[i]? =some (.ow (.list ds)))(hk:q8 ds.length k=some n):vZ i Le Li fe fi env β=.nx ((aS (Le ++ Li) env).set i (.ow (.list (ds.set n d)))) β2:=by
 unfold vZ
 rw[he]
 dsimp only[toS]
 rw[My (by rw[h1];rfl),hi]
 exact tO h2 (by dsimp only;rw[hk];rfl)
theorem pZ {t:Tg}{ft:VF Bool}{fe:VF D}{vs:List Nv}(g:D->Bool)(h:D->D):∀{ds:List D} {β:Int},(∀d,d∈ds->∃vs1,mY t d vs=some vs1/\ft vs1 β=.ok (g d) β/\(g d=true->fe vs1 β=.ok (h d) β))->gH t ft fe vs ds β=.ok ((ds.filter g).map h) β
 | [],β,_=>rfl
 |d :: ds,β,hh=>by
  obtain⟨vs1,e1,e2,e3⟩:=hh d (MM ..)
  have ih:=pZ (t:=t) (ft:=ft) (fe:=fe) (vs:=vs) g h (ds:=ds) (β:=β) λd' hd=>hh d' (MN _ hd)
  unfold gH
  rw[e1]
  dsimp only
  rw[e2]
  dsimp only[R.okb]
  cases q:g d with
  |true=>
   rw[My rfl,e3 q]
   dsimp only
   rw[ih,List.filter_cons_of_pos q];rfl
  |false=>
   rw[MG MI,ih,List.filter_cons_of_neg (by rw[q];exact MI)]
def xK {own:Nat}{ixs:List Nat}{t:Tg}{fi:VF (List D)}{ft:VF Bool}{fe:VF D}{vs:List Nv}{β β1:Int}{ds:List D}(g:D->Bool)(h:D->D)(hi:fi vs β=.ok ds β1)(hz:ds.length<=1000)
  (hh:∀d,d∈ds->∃vs1,mY t d (fL own ixs vs)=some vs1/\ft vs1 β1=.ok (g d) β1/\(g d=true->fe vs1 β1=.ok (h d) β1)):aL own ixs t fi ft fe vs β=.ok (.list ((ds.filter g).map h)) β1:=by
 unfold aL
 rw[hi]
 dsimp only[R.bnd]
 rw[My (sz _ hz),pZ g h hh];rfl
def lM {own:Nat}{ixs:List Nat}{t:Tg}{fi:VF (List D)}{fe:VF D}{vs:List Nv}{β β1:Int}{ds:List D}(h:D->D)(hi:fi vs β=.ok ds β1)(hz:ds.length<=1000)
  (hh:∀d,d∈ds->∃vs1,mY t d (fL own ixs vs)=some vs1/\fe vs1 β1=.ok (h d) β1):aL own ixs t fi jT fe vs β=.ok (.list (ds.map h)) β1:=by
 rw[xK (ft:=jT) (λ_=>true) h hi hz λd hd=>let ⟨vs1,e1,e2⟩:=hh d hd;⟨vs1,e1,rfl,λ_=>e2⟩]
 rw[List.filter_eq_self.mpr (λ_ _=>rfl)]
def cF {α:Type}{own:Nat}{ixs:List Nat}{t:Tg}{fi:VF (List D)}{fe:VF D}{vs:List Nv}{β β1:Int}{l:List α}{e:α->D}(h:α->D)(hi:fi vs β=.ok (l.map e) β1)(hz:l.length<=1000)
  (hh:∀x,x∈l->∃vs1,mY t (e x) (fL own ixs vs)=some vs1/\fe vs1 β1=.ok (h x) β1):aL own ixs t fi jT fe vs β=.ok (.list (l.map h)) β1:=by
 unfold aL
 rw[hi]
 dsimp only[R.bnd]
 rw[My (sz _ (by rw[MC];exact hz))]
 have key:∀m:List α,(∀x,x∈m->x∈l)->gH t jT fe (fL own ixs vs) (m.map e) β1=.ok (m.map h) β1:=by
  intro m
  induction m with
  |nil=>intro _;rfl
  |cons x m ih=>
   intro hm
   obtain⟨vs1,e1,e2⟩:=hh x (hm x (MM ..))
   rw[NR]
   unfold gH
   rw[e1]
   dsimp only
   show (R.ok true β1).okb _=_
   dsimp only[R.okb]
   rw[My rfl,e2]
   dsimp only
   rw[ih λy hy=>hm y (MN _ hy)];rfl
 rw[key l λ_ h=>h];rfl
def b8 {α:Type}{own:Nat}{ixs:List Nat}{t:Tg}{fi:VF (List D)}{ft:VF Bool}{fe:VF D}{vs:List Nv}{β β1:Int}{l:List α}{e:α->D}(g:α->Bool)(h:α->D)(hi:fi vs β=.ok (l.map e) β1)(hz:l.length<=1000)
  (hh:∀x,x∈l->∃vs1,mY t (e x) (fL own ixs vs)=some vs1/\ft vs1 β1=.ok (g x) β1/\(g x=true->fe vs1 β1=.ok (h x) β1)):aL own ixs t fi ft fe vs β=.ok (.list ((l.filter g).map h)) β1:=by
 unfold aL
 rw[hi]
 dsimp only[R.bnd]
 rw[My (sz _ (by rw[MC];exact hz))]
 have key:∀m:List α,(∀x,x∈m->x∈l)->gH t ft fe (fL own ixs vs) (m.map e) β1=.ok ((m.filter g).map h) β1:=by
  intro m
  induction m with
  |nil=>intro _;rfl
  |cons x m ih=>
   intro hm
   obtain⟨vs1,e1,e2,e3⟩:=hh x (hm x (MM ..))
   have ih:=ih λy hy=>hm y (MN _ hy)
   rw[NR]
   unfold gH
   rw[e1]
   dsimp only
   rw[e2]
   dsimp only[R.okb]
   cases q:g x with
   |true=>
    rw[My rfl,e3 q]
    dsimp only
    rw[ih,List.filter_cons_of_pos q];rfl
   |false=>
    rw[MG MI,ih,List.filter_cons_of_neg (by rw[q];exact MI)]
 rw[key l λ_ h=>h];rfl
theorem iY {t:Tg}{m:SF}(Pv:Nat->En->Int->Prop):∀{ds:List D} {k:Nat} {env:En} {β:Int},Pv k env β->
  (∀i d env β,ds[i]? =some d->Pv (k + i) env β->∃env1,gJ t d env=some env1/\∃env2 β2,m env1 β=.nx env2 β2/\Pv (k + i + 1) env2 β2)->∃env' β',k0 t m ds env β=.nx env' β'/\Pv (k + ds.length) env' β'
 | [],k,env,β,h0,_=>⟨env,β,rfl,h0⟩
 |d :: ds,k,env,β,h0,hs=>by
  obtain⟨env1,e1,env2,β2,e2,h1⟩:=hs 0 d env β rfl h0
  obtain⟨env',β',e3,h2⟩:=iY Pv (t:=t) (m:=m) (ds:=ds) (k:=k + 1) h1 λi d' en be hi hp=>by
   have:=hs (i + 1) d' en be (by simpa using hi) (by rw[show k + (i + 1)=k + 1 + i by omega];exact hp)
   rw[show k + (i + 1) + 1=k + 1 + i + 1 by omega] at this
   exact this
  refine⟨env',β',?_,by rw[Nm,show k + (ds.length + 1)=k + 1 + ds.length by omega];exact h2⟩
  unfold k0
  rw[e1]
  dsimp only
  rw[e2]
  exact e3
theorem jc {L:List Nat}{t:VF Bool}{m:SF}(Pv:Nat->En->Int->Prop)(Dn:En->Int->Prop):∀{n k:Nat} {env:En} {β:Int},k < n->Pv k env β->
  (∀k env β,Pv k env β->∃c β1,t (vl env) β=.ok c β1/\((c=false/\Dn (aS L env) β1)\/(c=true/\∃env2 β2 k',m (aS L env) β1=.nx env2 β2/\k' < k/\Pv k' env2 β2)))->∃env' β',gW L t m n env β=.nx env' β'/\Dn env' β'
 | 0,k,env,β,hk,_,_=>by omega
 |n + 1,k,env,β,hk,h0,hs=>by
  obtain⟨c,β1,e1,hc⟩:=hs k env β h0
  unfold gW
  rw[e1]
  dsimp only[toS]
  rcases hc with⟨rfl,hd⟩ | ⟨rfl,env2,β2,k',e2,hl,h1⟩
  ·exact⟨_,_,rfl,hd⟩
  ·rw[My rfl,e2]
   exact jc Pv Dn (n:=n) (k:=k') (by omega) h1 hs
end L2
namespace RM
open PySem L2
def qj:SF:=(bo (gK (f1 (gv 0) (fV "int")) (f1 (f1 (gv 0) (fV "bool")) Am)))
def qc (bz:List D->FR):SF:=(bo (gK (aw bz (aa (gv 0) ag)) (fH (cst (.int 0)) (gv 0) (gv 1) vK sX)))
def sO (bz:List D->FR):SF:=(bo (gK (aw bz (aa (gv 0) ag)) (fH (cst (.int 1)) (gv 0) (cst (.int 8)) vK vK)))
def sI (eS:List D->FR):SF:=(aH (iL ([] ++ ([] ++ [])) (gf (j9 (eZ (f1 (gv 0) (fV "tuple")))) (cC (f2 (f1 (gv 0) cy) (cst (.int 2)) (cR true))))
 (bo (cst (.bool false)))
 jU)
 (bo (gK (aw eS (aa (f2 (gv 0) (cst (.int 0)) a8) (aa (gv 1) ag))) (aw eS (aa (f2 (gv 0) (cst (.int 1)) a8) (aa (gv 1) ag))))))
def ic:SF:=(oO (aL 1 [0] (.nm 0) (cN (f2 (gv 0) (gv 0) df)) jT (cq (aa (f2 (gv 0) (gv 1) GG) (aa (f2 (gv 0) (gv 1) kZ) ag)))))
def qf:SF:=(bo (f1 (aL 2 [] (.two 0 1) (bK (gv 0)) jT (f2 (gv 0) (gv 1) (cR false))) (bB λbs=>bs.any id)))
def i8 (iK iI j3 gq:List D->FR):SF:=(aH (iL ([] ++ ([] ++ [])) (gf (j9 (eZ (f1 (gv 0) (fV "tuple")))) (cC (f2 (f1 (gv 0) cy) (cst (.int 2)) (cR true))))
 (bo (cst (.bool false)))
 jU)
 (aH (bQ 1 ([] ++ []) (f2 (gv 0) (cst (.int 0)) a8))
 (aH (bQ 2 ([] ++ []) (f2 (gv 0) (cst (.int 1)) a8))
 (aH (iL (([1] ++ []) ++ []) (gf (j9 (eZ (aw iK (aa (gv 1) ag)))) (j9 (eZ (f1 (gv 2) (fV "tuple")))))
 (bo (cst (.bool false)))
 jU)
 (aH (iL ([] ++ [1]) (j9 (eZ (f1 (aL 1 [1] (.nm 0) (bK (gv 2)) jT (aw iI (aa (gv 0) (aa (gv 1) ag)))) (bB λbs=>bs.all id))))
 (bo (cst (.bool false)))
 jU)
 (bo (gK (f2 (gv 2) (aw j3 (aa (gv 1) (aa (gv 2) ag))) (cR false)) (f1 (aw gq (aa (gv 2) ag)) Am))))))))
def oG:SF:=(bo (gK (f2 (gv 1) (gv 2) (cR true)) (gK (f2 (cq (aa (gv 1) (aa (gv 2) ag))) (f2 (gv 0) (cst (.int 1)) a8) (lQ true)) (f2 (cq (aa (gv 2) (aa (gv 1) ag))) (f2 (gv 0) (cst (.int 1)) a8) (lQ true)))))
def nC:SF:=(bo (gK (f2 (gv 1) (gv 2) (cR true)) (gK (f2 (cq (aa (gv 1) (aa (gv 2) ag))) (f2 (gv 0) (cst (.int 1)) a8) (lQ true)) (f2 (cq (aa (gv 2) (aa (gv 1) ag))) (f2 (gv 0) (cst (.int 1)) a8) (lQ true)))))
def pG (aX cT fD:List D->FR):SF:=(aH (oB ([0] ++ []) (aw aX (aa (gv 0) ag)))
 (oO (aL 2 [0] (.two 0 1) (bK (aw cT (aa (f2 (gv 0) (cst (.int 0)) a8) ag))) (eZ (aw fD (aa (gv 2) (aa (gv 0) (aa (gv 1) ag))))) (cq (aa (gv 0) (aa (gv 1) ag))))))
def ko:SF:=(aH (bQ 3 ([] ++ []) (f2 (gv 0) (cst (.int 1)) a8))
 (aH (iL ([] ++ [2]) (j9 (eZ (f1 (aL 2 [1,2,3] (.two 0 1) (bK (gv 3)) (cC (f2 (gv 1) (gv 2) (cR false))) (f2 (cq (aa (gv 0) (aa (gv 3) ag))) (gv 4) (lQ false))) (bB λbs=>bs.all id))))
 (bo (cst (.bool false)))
 jU)
 (bo (f1 (aL 2 [2,1,3] (.two 0 1) (bK (gv 3)) (cC (f2 (gv 0) (gv 2) (cR false))) (f2 (cq (aa (gv 3) (aa (gv 1) ag))) (gv 4) (lQ false))) (bB λbs=>bs.all id)))))
def mn (lT gp:List D->FR):SF:=(oO (aL 2 [0] (.two 0 1) (bK (aw lT (aa (gv 0) ag))) (eZ (aw gp (aa (gv 2) (aa (gv 0) (aa (gv 1) ag))))) (cq (aa (gv 0) (aa (gv 1) ag)))))
def oq:D->Bool
 | .int _=>true
 |_=>false
def jg:List D->FR
 | [d]=>if fA d=true then .bad else .ok (.bool (oq d)) false
 |_=>.bad
def lZ {d:D}(h:fA d=false):jg [d]=.ok (.bool (oq d)) false:=MG (by rw[h];exact MI)
def zl (ds:List D)(h:jg ds≠.bad):aV 1 1 qj ds=jg ds:=by
 unfold jg at h
 split at h
 ·rename_i d
  cases q:fA d with
  |true=>rw[q] at h;exact absurd rfl h
  |false=>
   rw[lZ q]
   have e1:fV "int" d=some (.bool (By d "int")):=by unfold fV;rw[q];rfl
   have e2:fV "bool" d=some (.bool (By d "bool")):=by unfold fV;rw[q];rfl
   show fin (bo (gK (f1 (gv 0) (fV "int")) (f1 (f1 (gv 0) (fV "bool")) Am)) [.fz d] 0)=_
   unfold bo gK f1 gv
   simp only[tQ,ye,yg,List.getElem?_cons_zero,wN,uN,nV,e1,e2]
   cases d <;> rfl
 ·exact absurd rfl h
def nU (d:D)(n:Int):Bool:=match d with
 | .int i=>decide (0<=i/\i < n)
 |_=>false
def kC:List D->FR
 | [d,.int n]=>if fA d=true then .bad else .ok (.bool (nU d n)) false
 |_=>.bad
def EX {d:D}{n:Int}(h:fA d=false):kC [d,.int n]=.ok (.bool (nU d n)) false:=MG (by rw[h];exact MI)
def lH {i lo n:Int}{vs:List Nv}{β:Int}{fa fb fc:VF D}{g':D->D->Option D}{q:Bool}(ha:fa vs β=.ok (.int lo) β)(hb:fb vs β=.ok (.int i) β)(hc:fc vs β=.ok (.int n) β)(hq:g' (.int i) (.int n)=some (.bool q)):fH fa fb fc vK g' vs β=.ok (.bool (decide (lo<=i) && q)) β:=by
 unfold fH
 rw[ha];dsimp only[R.bnd];rw[hb];dsimp only[R.bnd]
 show (match (some (PyData.bool (decide (lo<=i))):Option D) with
  |some (.bool true)=>_
  |some (.bool false)=>_
  |_=>_)=_
 by_cases h:lo<=i
 ·rw[MB h]
  dsimp only
  rw[hc]
  dsimp only[R.bnd]
  rw[hq];rfl
 ·rw[MR h];rfl
def ED (ds:List D)(h:kC ds≠.bad):aV 2 2 (qc jg) ds=kC ds:=by
 unfold kC at h
 split at h
 ·rename_i d n
  cases q:fA d with
  |true=>rw[q] at h;exact absurd rfl h
  |false=>
   rw[EX q]
   show fin (bo (gK (aw jg (aa (gv 0) ag)) (fH (cst (.int 0)) (gv 0) (gv 1) vK sX)) [.fz d,.fz (.int n)] 0)=_
   unfold bo gK aw
   simp only[tQ,ye,yg,c4,yU,AY,List.getElem?_cons_zero,wN,uN,nV,lZ q]
   cases d with
   |int i=>
    show fin (toS (fH (cst (.int 0)) (gv 0) (gv 1) vK sX [.da (.int i),.da (.int n)] 0) _)=_
    rw[lH (lo:=0) (i:=i) (n:=n) rfl rfl rfl rfl]
    show FR.ok (.bool (decide (0<=i) && decide (i < n))) false=.ok (.bool (decide (0<=i/\i < n))) false
    rw[Bool.decide_and]
   |_=>rfl
 ·exact absurd rfl h
def FI (d:D):Bool:=match d with
 | .int i=>decide (1<=i/\i<=8)
 |_=>false
def me:List D->FR
 | [d]=>if fA d=true then .bad else .ok (.bool (FI d)) false
 |_=>.bad
def A5 {d:D}(h:fA d=false):me [d]=.ok (.bool (FI d)) false:=MG (by rw[h];exact MI)
def GL (ds:List D)(h:me ds≠.bad):aV 1 1 (sO jg) ds=me ds:=by
 unfold me at h
 split at h
 ·rename_i d
  cases q:fA d with
  |true=>rw[q] at h;exact absurd rfl h
  |false=>
   rw[A5 q]
   show fin (bo (gK (aw jg (aa (gv 0) ag)) (fH (cst (.int 1)) (gv 0) (cst (.int 8)) vK vK)) [.fz d] 0)=_
   unfold bo gK aw
   simp only[tQ,ye,yg,c4,yU,AY,List.getElem?_cons_zero,wN,uN,nV,lZ q]
   cases d with
   |int i=>
    show fin (toS (fH (cst (.int 1)) (gv 0) (cst (.int 8)) vK vK [.da (.int i)] 0) _)=_
    rw[lH (lo:=1) (i:=i) (n:=8) rfl rfl rfl rfl]
    show FR.ok (.bool (decide (1<=i) && decide (i<=8))) false=.ok (.bool (decide (1<=i/\i<=8))) false
    rw[Bool.decide_and]
   |_=>rfl
 ·exact absurd rfl h
def pairF:List D->FR
 | [d,.int n]=>(match qL d with
  |some p=>.ok (.bool (decide ((0<=p.1/\p.1 < n)/\(0<=p.2/\p.2 < n)))) false
  |none=>.bad)
 |_=>.bad
def Co (p:Pr)(n:Int):pairF [au p,.int n]=.ok (.bool (decide ((0<=p.1/\p.1 < n)/\(0<=p.2/\p.2 < n)))) false:=rfl
def Hz (ds:List D)(h:pairF ds≠.bad):aV 2 2 (sI kC) ds=pairF ds:=by
 unfold pairF at h
 split at h
 ·rename_i d n
  cases q:qL d with
  |none=>rw[q] at h;exact absurd rfl h
  |some p=>
   obtain rfl:=wj q
   rw[Co]
   obtain⟨a,b⟩:=p
   show fin (toS (gK (aw kC (aa (f2 (gv 0) (cst (.int 0)) a8) (aa (gv 1) ag))) (aw kC (aa (f2 (gv 0) (cst (.int 1)) a8) (aa (gv 1) ag))) [.da (.tuple [.int a,.int b]),.da (.int n)] 0) λd β'=>.rt d false β')=_
   have e1:aw kC (aa (f2 (gv 0) (cst (.int 0)) a8) (aa (gv 1) ag)) [.da (.tuple [.int a,.int b]),.da (.int n)] 0=.ok (.bool (decide (0<=a/\a < n))) 0:=rfl
   have e2:aw kC (aa (f2 (gv 0) (cst (.int 1)) a8) (aa (gv 1) ag)) [.da (.tuple [.int a,.int b]),.da (.int n)] 0=.ok (.bool (decide (0<=b/\b < n))) 0:=rfl
   unfold gK
   rw[e1]
   dsimp only[R.bnd]
   by_cases c:0<=a/\a < n
   ·rw[MB c,e2]
    show FR.ok (.bool (decide (0<=b/\b < n))) false=.ok (.bool (decide ((0<=a/\a < n)/\(0<=b/\b < n)))) false
    simp[c]
   ·rw[MR c]
    show FR.ok (.bool false) false=.ok (.bool (decide ((0<=a/\a < n)/\(0<=b/\b < n)))) false
    simp[c]
 ·exact absurd rfl h
def ar (n:Nat)(l:List Pr):D:=.tuple [.int n,.tuple (l.map au)]
open Classical in
noncomputable def sS (f:Nat->List Pr->FR):D->FR:=λd=>if h:∃nl:Nat×List Pr,d=ar nl.1 nl.2/\OM.Ord nl.1 nl.2 then f (Classical.choose h).1 (Classical.choose h).2 else .bad
def EY {p q:Pr}(h:au p=au q):p=q:=by
 obtain⟨a,b⟩:=p
 obtain⟨c,d⟩:=q
 unfold au at h
 simp at h
 rw[h.1,h.2]
theorem oN:∀{l m:List Pr},l.map au=m.map au->l=m
 | [],[],_=>rfl
 | [],_ :: _,h=>by cases h
 |_ :: _,[],h=>by cases h
 |p :: l,q :: m,h=>by
  simp only[NR,List.cons.injEq] at h
  rw[EY h.1,oN h.2]
def CY {n m:Nat}{l k:List Pr}(h:ar n l=ar m k):n=m/\l=k:=by
 unfold ar at h
 simp only[PyData.tuple.injEq,List.cons.injEq,int.injEq,and_true] at h
 exact⟨by omega,oN h.2⟩
def wb {f:Nat->List Pr->FR}{n:Nat}{l:List Pr}(O:OM.Ord n l):sS f (ar n l)=f n l:=by
 unfold sS
 have h:∃nl:Nat×List Pr,ar n l=ar nl.1 nl.2/\OM.Ord nl.1 nl.2:=⟨(n,l),rfl,O⟩
 rw[dif_pos h]
 obtain⟨e,_⟩:=Classical.choose_spec h
 obtain⟨e1,e2⟩:=CY e
 rw[<-e1,<-e2]
def wq {f:Nat->List Pr->FR}{d:D}(h:sS f d≠.bad):∃n l,d=ar n l/\OM.Ord n l:=by
 unfold sS at h
 by_cases q:∃nl:Nat×List Pr,d=ar nl.1 nl.2/\OM.Ord nl.1 nl.2
 ·obtain⟨nl,e,O⟩:=q;exact⟨nl.1,nl.2,e,O⟩
 ·rw[dif_neg q] at h;exact absurd rfl h
noncomputable def dG:List D->FR
 | [.int n,d]=>(match mB d with
  |some ds=>(match iU ds with
   |some ps=>(open Classical in if 1<=n/\n<=8/\OM.Wn n.toNat ps then .ok (.tuple ((OM.iw n.toNat (OM.Tr (OM.Mem ps))).map au)) false else .bad)
   |none=>.bad)
  |none=>.bad)
 |_=>.bad
def CD {n:Nat}{ps:List Pr}(h1:1<=n)(h8:n<=8)(w:OM.Wn n ps):dG [.int n,.tuple (ps.map au)]=.ok (.tuple ((OM.iw n (OM.Tr (OM.Mem ps))).map au)) false:=by
 unfold dG
 simp only[mB,i3]
 rw[My ⟨by omega,by omega,by rw[Nf];exact w⟩,Nf]
def kX:List D->FR
 | [.tuple ds]=>(match iU ds with
  |some ps=>if ps.length<=1000 then .ok (.bool (ps.any λp=>decide (p.1=p.2))) false else .bad
  |none=>.bad)
 |_=>.bad
theorem fu {α:Type}(f:α->Bool):∀l:List α,lJ (l.map λx=>PyData.bool (f x))=some (l.map f)
 | []=>rfl
 |x :: l=>by
  show (lJ (l.map λx=>PyData.bool (f x))).map (f x :: ·)=_
  rw[fu f l];rfl
def HW (ds:List D)(h:kX ds≠.bad):aV 1 1 qf ds=kX ds:=by
 unfold kX at h
 split at h
 ·rename_i ds
  cases q:iU ds with
  |none=>rw[q] at h;exact absurd rfl h
  |some ps=>
   rw[q] at h
   dsimp only at h
   by_cases hz:ps.length<=1000
   case neg=>rw[MG hz] at h;exact absurd rfl h
   obtain rfl:=lS q
   have e:kX [.tuple (ps.map au)]=.ok (.bool (ps.any λp=>decide (p.1=p.2))) false:=by
    unfold kX;simp only[i3];rw[My hz]
   rw[e]
   have ec:aL 2 [] (.two 0 1) (bK (gv 0)) jT (f2 (gv 0) (gv 1) (cR false)) [.da (.tuple (ps.map au))] 0=.ok (.list (ps.map λp=>PyData.bool (decide (p.1=p.2)))) 0:=by
    exact cF (l:=ps) (e:=au) (λp=>PyData.bool (decide (p.1=p.2))) rfl hz λp hp=>⟨_,rfl,rfl⟩
   show fin (toS ((aL 2 [] (.two 0 1) (bK (gv 0)) jT (f2 (gv 0) (gv 1) (cR false)) [.da (.tuple (ps.map au))] 0).bnd λx β1=>R.of (bB (λbs=>bs.any id) x) β1) λd β'=>.rt d false β')=_
   rw[ec]
   simp only[nV,bB]
   rw[fu]
   simp[fin,List.any_map]
 ·exact absurd rfl h
def nM (p:Pr):SeqAt.shaped (au p)=true:=rfl
theorem zm:∀l:List Pr,PyData.canLayAll0 (l.map au)=true
 | []=>rfl
 |p :: l=>by
  show ((au p).canLay0 && PyData.canLayAll0 (l.map au))=true
  rw[zm l];rfl
theorem yY:∀l:List Pr,PyData.depthAll (l.map au)<=1
 | []=>by show (0:Nat)<=1;omega
 |p :: l=>by
  show max (au p).depth (PyData.depthAll (l.map au))<=1
  have h1:(au p).depth=1:=by simp[au,PyData.depth,PyData.depthAll]
  have h2:=yY l
  omega
def qS (l:List Pr):SeqAt.shaped (.tuple (l.map au))=true:=by
 unfold SeqAt.shaped
 have h1:(PyData.tuple (l.map au)).canLay0=true:=by simp only[PyData.canLay0];exact zm l
 have h2:(PyData.tuple (l.map au)).depth<=64:=by simp only[PyData.depth];have:=yY l;omega
 rw[h1,MB h2];rfl
def CC (p q:Pr):PyData.eqv (au p) (au q)=decide (p=q):=by
 obtain⟨a,b⟩:=p
 obtain⟨c,d⟩:=q
 simp only[au,PyData.eqv,PyData.eqvAll,Bool.and_true]
 rw[Na]
 simp
theorem zi:∀l m:List Pr,PyData.eqvAll (l.map au) (m.map au)=decide (l=m)
 | [],[]=>rfl
 | [],_ :: _=>rfl
 |_ :: _,[]=>rfl
 |p :: l,q :: m=>by
  show (PyData.eqv (au p) (au q) && PyData.eqvAll (l.map au) (m.map au))=_
  rw[CC,zi l m,Na]
  simp
def uF {n:Nat}{l:List Pr}(O:OM.Ord n l):l.length < 64:=by
 have h8:=O.hi
 have e:=O.closed
 by_cases h:l.length < 64
 ·exact h
 ·exfalso
  have h1:l.length<=n * n:=by rw[<-e];exact OM.C7 _ _
  have h2:n * n<=64:=N4 h8 h8
  have hn:n=8:=by
   by_cases h7:n<=7
   ·have:n * n<=7 * 7:=N4 h7 h7
    omega
   ·omega
  have hlen:l.length=n * n:=by subst hn;omega
  have hg:l=OM.cB n:=by
   refine OM.sub_eq O.ris (OM.ja n) (λx hx=>OM.bC.mpr (O.wn x hx)) ?_
   rw[hlen];unfold OM.cB;simp
  have:((0:Int),(0:Int))∈l:=by rw[hg];exact OM.bC.mpr ⟨⟨by omega,by omega⟩,by omega,by omega⟩
  exact O.irr 0 this
def Cf {n:Nat}(h1:1<=n)(h8:n<=8):me [.int n]=.ok (.bool true) false:=by
 rw[A5 rfl]
 show FR.ok (.bool (decide (1<=(n:Int)/\(n:Int)<=8))) false=_
 rw[MB (by omega)]
def u4 (neg:Bool)(l m:List Pr):cR neg (.tuple (l.map au)) (.tuple (m.map au))=some (.bool (if neg then !decide (l=m) else decide (l=m))):=by
 unfold cR
 rw[qS,qS]
 simp only[Ol,NJ,PyData.eqv,zi]
def DB {n:Nat}{l:List Pr}(O:OM.Ord n l):kX [.tuple (l.map au)]=.ok (.bool false) false:=by
 have hl:=uF O
 unfold kX
 simp only[i3]
 rw[My (by omega)]
 have:(l.any λp=>decide (p.1=p.2))=false:=by
  rw[List.any_eq_false]
  intro p hp
  simp only[MT]
  intro e
  obtain⟨a,b⟩:=p
  simp only at e
  subst e
  exact O.irr a hp
 rw[this]
def zF {n:Nat}{l:List Pr}(O:OM.Ord n l):aV 3 1 (i8 me pairF dG kX) [ar n l]=.ok (.bool true) false:=by
 have hl:=uF O
 show fin (i8 me pairF dG kX [.fz (ar n l),.no,.no] 0)=_
 unfold i8
 rw[aI (env':=[.fz (ar n l),.no,.no]) (β':=0) (by rfl)]
 rw[aI (env':=[.fz (ar n l),.fz (.int n),.no]) (β':=0) (by rfl)]
 rw[aI (env':=[.fz (ar n l),.fz (.int n),.fz (.tuple (l.map au))]) (β':=0) (by rfl)]
 have e4:aw me (aa (gv 1) ag) [.da (ar n l),.da (.int n),.da (.tuple (l.map au))] 0=.ok (.bool true) 0:=ax rfl (Cf O.lo O.hi)
 rw[aI (env':=[.fz (ar n l),.fz (.int n),.fz (.tuple (l.map au))]) (β':=0) ?h4]
 case h4=>
  refine iS ?_
  show gf (j9 (eZ (aw me (aa (gv 1) ag)))) _ [.da (ar n l),.da (.int n),.da (.tuple (l.map au))] 0=_
  rw[pj,xX,xQ,e4]
  rfl
 have e5:aL 1 [1] (.nm 0) (bK (gv 2)) jT (aw pairF (aa (gv 0) (aa (gv 1) ag))) [.da (ar n l),.da (.int n),.da (.tuple (l.map au))] 0=.ok (.list (l.map λ_=>PyData.bool true)) 0:=by
  refine cF (l:=l) (e:=au) (λ_=>PyData.bool true) rfl (by omega) λp hp=>⟨_,rfl,?_⟩
  refine ax (b:=false) (ds:=[au p,.int n]) rfl ?_
  rw[Co,MB (by have:=O.wn p hp;exact this)]
 rw[aI (env':=[.fz (ar n l),.fz (.int n),.fz (.tuple (l.map au))]) (β':=0) ?h5]
 case h5=>
  refine iS ?_
  show j9 (eZ (f1 (aL 1 [1] (.nm 0) (bK (gv 2)) jT (aw pairF (aa (gv 0) (aa (gv 1) ag)))) (bB λbs=>bs.all id))) [.da (ar n l),.da (.int n),.da (.tuple (l.map au))] 0=_
  rw[xX,xQ,dA (d:=.bool true) e5 (by simp only[bB];rw[fu];simp)]
  rfl
 have e6:aw dG (aa (gv 1) (aa (gv 2) ag)) [.da (ar n l),.da (.int n),.da (.tuple (l.map au))] 0=.ok (.tuple (l.map au)) 0:=ax rfl (by rw[CD O.lo O.hi O.wn,O.closed])
 have e7:aw kX (aa (gv 2) ag) [.da (ar n l),.da (.int n),.da (.tuple (l.map au))] 0=.ok (.bool false) 0:=ax rfl (DB O)
 show fin (toS (gK (f2 (gv 2) (aw dG (aa (gv 1) (aa (gv 2) ag))) (cR false)) (f1 (aw kX (aa (gv 2) ag)) Am) [.da (ar n l),.da (.int n),.da (.tuple (l.map au))] 0) _)=_
 unfold gK
 rw[aB (d:=.bool true) (x:=.tuple (l.map au)) rfl e6 (by rw[u4];simp)]
 dsimp only[R.bnd]
 rw[dA (d:=.bool true) e7 rfl]
 rfl
noncomputable def iV:List D->FR
 | [d]=>sS (λ_ _=>.ok (.bool true) false) d
 |_=>.bad
def sN {n:Nat}{l:List Pr}(O:OM.Ord n l):iV [ar n l]=.ok (.bool true) false:=by simp only[iV];exact wb O
def xB (ds:List D)(h:iV ds≠.bad):aV 3 1 (i8 me pairF dG kX) ds=iV ds:=by
 unfold iV at h
 split at h
 ·obtain⟨n,l,rfl,O⟩:=wq h
  rw[zF O,sN O]
 ·exact absurd rfl h
noncomputable def j0:List D->FR
 | [d]=>sS (λ_ _=>.ok .none false) d
 |_=>.bad
def tR {n:Nat}{l:List Pr}(O:OM.Ord n l):j0 [ar n l]=.ok .none false:=by simp only[j0];exact wb O
abbrev du (ns:List Int):D:=.dict [(.none,.list (ns.map int))]
def p8 {i j:Int}(h: -(2 ^ 64) < i/\i < 2 ^ 64):df (.int i) (.int j)=some (.int (i * j)):=My (by dsimp only;rw[MB h.1,MB h.2];rfl)
def A3 {i j:Int}(h: -(2 ^ 64) < j/\j < 2 ^ 64):df (.int i) (.int j)=some (.int (i * j)):=My (by dsimp only;rw[MB h.1,MB h.2,Ol,Bool.or_true])
def nY {i j:Int}(h:0 < j):kZ (.int i) (.int j)=some (.int (i % j)):=My (MB h)
def FL {i j:Int}(h:0 < j)(h2:j < 1073741824):GG (.int i) (.int j)=some (.int (i / j)):=My (by dsimp only;rw[MB h,MB h2];rfl)
theorem ny {α β:Type}(f:α->β)(l:List α)(i:Int):k9 (l.map f) i=(k9 l i).map f:=by
 unfold k9
 rw[MC]
 cases q8 l.length i with
 |none=>rfl
 |some j=>simp
def qr {α:Type}{l:List α}{k:Nat}(h:k < l.length):k9 l (k:Int)=some l[k]:=iC (Mw h)
def GO {fa fb:VF D}{vs:List Nv}{β β1 β2:Int}{i j:Int}(h:fa vs β=.ok (.int i) β1)(h':fb vs β1=.ok (.int j) β2):cC (f2 fa fb sX) vs β=.ok (decide (i < j)) β2:=cO _ _ _ _ (aB h h' rfl)
def dh {neg:Bool}{fa fb:VF D}{vs:List Nv}{β β1 β2:Int}{i j:Int}(h:fa vs β=.ok (.int i) β1)(h':fb vs β1=.ok (.int j) β2):cC (f2 fa fb (cR neg)) vs β=.ok (if neg then !decide (i=j) else decide (i=j)) β2:=by
 refine cO _ _ _ _ (aB h h' ?_)
 cases neg <;> rfl
theorem lay_ints:∀ns:List Int,PyData.canLayAll0 (ns.map int)=true
 | []=>rfl
 |n :: ns=>by
  show ((int n).canLay0 && PyData.canLayAll0 (ns.map int))=true
  rw[lay_ints ns];rfl
theorem ql:∀ns:List Int,PyData.depthAll (ns.map int)=0
 | []=>rfl
 |n :: ns=>by
  show max (int n).depth (PyData.depthAll (ns.map int))=0
  rw[ql ns];rfl
def shaped_ints (ns:List Int):SeqAt.shaped (.list (ns.map int))=true:=by
 unfold SeqAt.shaped
 have h1:(PyData.list (ns.map int)).canLay0=true:=by simp only[PyData.canLay0];exact lay_ints ns
 have h2:(PyData.list (ns.map int)).depth<=64:=by simp only[PyData.depth];rw[ql];omega
 rw[h1,MB h2];rfl
theorem qY:∀l m:List Int,PyData.eqvAll (l.map int) (m.map int)=decide (l=m)
 | [],[]=>rfl
 | [],_ :: _=>rfl
 |_ :: _,[]=>rfl
 |p :: l,q :: m=>by
  show ((p == q) && PyData.eqvAll (l.map int) (m.map int))=_
  rw[qY l m,Na]
  simp
def wA (neg:Bool)(l m:List Int):cR neg (.list (l.map int)) (.list (m.map int))=some (.bool (if neg then !decide (l=m) else decide (l=m))):=by
 unfold cR
 rw[shaped_ints,shaped_ints]
 simp only[Ol,NJ,PyData.eqv,qY]
theorem pO {α:Type}:∀{l:List α} {k:Nat} {x:α},l[k]? =some x->(x :: l.eraseIdx k).Perm l
 | [],_,_,h=>by simp at h
 |y :: l,0,x,h=>by simp at h;subst h;exact List.Perm.refl _
 |y :: l,k + 1,x,h=>by
  have h:l[k]? =some x:=by simpa using h
  have ih:=pO h
  show (x :: y :: l.eraseIdx k).Perm (y :: l)
  exact (List.Perm.swap y x _).trans (ih.cons y)
theorem rZ {α β:Type}(f:α->β):∀(l:List α) (k:Nat),(l.map f).eraseIdx k=(l.eraseIdx k).map f
 | [],_=>rfl
 |_ :: _,0=>rfl
 |x :: l,k + 1=>by simp[rZ f l k]
def Iz {n:Nat}{l:List Pr}(h8:n<=8)(w:OM.Wn n l):OM.iw 8 (OM.Mem l)=OM.iw n (OM.Mem l):=by
 refine OM.jr (OM.iQ _ _) (OM.iQ _ _) λx=>?_
 rw[OM.dX,OM.dX]
 constructor
 ·rintro⟨_,h⟩;exact⟨w x h,h⟩
 ·rintro⟨h1,h⟩;exact⟨⟨⟨h1.1.1,by omega⟩,h1.2.1,by omega⟩,h⟩
def Gn {n:Nat}{l:List Pr}(h8:n<=8)(w:OM.Wn n l):l.all Iv=true:=by
 rw[MV]
 intro p hp
 have:=w p hp
 unfold Iv
 rw[MB this.1.1,MB (by omega:p.1 < 8),MB this.2.1,MB (by omega:p.2 < 8)];rfl
def pK {a b:List D}(h:a.length + b.length<=10000):ka (.list a) (.list b)=some (.list (a ++ b)):=My (by rw[Nc];omega)
theorem lb {α:Type}:∀{l:List α} {i j:Nat} {x:α},l.Nodup->l[i]? =some x->l[j]? =some x->i=j
 | [],_,_,_,_,h,_=>by simp at h
 |y :: l,0,0,_,_,_,_=>rfl
 |y :: l,0,j + 1,x,nd,h1,h2=>by
  simp at h1
  subst h1
  exact absurd (MS (by simpa using h2)) (Nn.mp nd).1
 |y :: l,i + 1,0,x,nd,h1,h2=>by
  simp at h2
  subst h2
  exact absurd (MS (by simpa using h1)) (Nn.mp nd).1
 |y :: l,i + 1,j + 1,x,nd,h1,h2=>by
  rw[lb (l:=l) (i:=i) (j:=j) (Nn.mp nd).2 (by simpa using h1) (by simpa using h2)]
def fE (n:Nat):List Int:=(List.range n).map λ(k:Nat)=>(k:Int)
def iz (n:Nat):(fE n).length=n:=by unfold fE;simp
def bV {n:Nat}{x:Int}:x∈fE n↔0<=x/\x < n:=by
 unfold fE
 rw[MZ]
 constructor
 ·rintro⟨k,hk,rfl⟩
  have:=Nb.mp hk
  omega
 ·intro h
  exact⟨x.toNat,Nb.mpr (by omega),by omega⟩
def nO (n:Nat):(fE n).Nodup:=by
 unfold fE
 rw[NM,Od]
 exact (NM.mp nodup_range).imp λ{a b} h e=>h (by omega)
def sv (n:Nat):dP 0 n=(fE n).map int:=by
 unfold dP fE
 rw[OL]
 refine NV λk _=>?_
 show int (0 + (k:Int))=_
 rw[NL];rfl
theorem iZ {lo:Int}{n i:Nat}{d:D}(h:(dP lo n)[i]? =some d):i < n/\d=.int (lo + i):=by
 unfold dP at h
 rw[ML] at h
 cases q:(List.range n)[i]? with
 |none=>rw[q] at h;cases h
 |some j=>
  rw[q] at h
  cases h
  obtain⟨hi,ej⟩:=MF.mp q
  rw[NC] at hi
  rw[List.getElem_range] at ej
  subst ej
  exact⟨hi,rfl⟩
def lB {n:Nat}(h:n<=1000):fT (.int n)=some (.list ((fE n).map int)):=by
 unfold fT
 dsimp only
 rw[My ⟨by omega,by omega⟩,Nf,sv]
def c5 {fa:VF D}{vs:List Nv}{β β1:Int}{n:Nat}(h:fa vs β=.ok (.int n) β1)(hn:n<=1000):cN fa vs β=.ok (dP 0 n) β1:=by
 unfold cN
 rw[h]
 simp only[nV]
 rw[My (Ac (by omega) (by omega)),Nf]
def gC {t:Tg}{L:List Nat}{fi:VF (List D)}{m:SF}{env:En}{β β1:Int}{ds:List D}(h:fi (vl env) β=.ok ds β1):hJ t L fi m env β=k0 t m ds (aS L env) β1:=by unfold hJ;rw[h];rfl
def qA {m:Nat}(h:1<=m)(h2:m<=1000)(β:Int):∃j:Nat,j < m/\fW [.int m] β=.ok (.int (j:Int)) false (β / m):=by
 refine⟨(β % m).toNat,?_,?_⟩
 ·have h0:=Oa β (b:=(m:Int)) (by omega)
  have h3:=N6 β (b:=(m:Int)) (by omega)
  omega
 ·rw[tJ (by omega) (by omega)]
  have h0:=Oa β (b:=(m:Int)) (by omega)
  rw[show ((β % m).toNat:Int)=β % m by omega]
theorem um (p:Pr):∀l:List Pr,((l.map au).any λe=>PyData.eqv e (au p))=decide (p∈l)
 | []=>rfl
 |q :: l=>by
  rw[NR,NZ,um p l,CC,Na]
  simp only[NH,MT,MH]
  exact⟨λh=>h.imp Eq.symm id,λh=>h.imp Eq.symm id⟩
def yz (l:List Pr):(l.map au).all SeqAt.shaped=true:=by
 rw[MV]
 intro d hd
 obtain⟨p,_,rfl⟩:=MZ.mp hd
 exact nM p
def nr (neg:Bool)(p:Pr)(l:List Pr):lQ neg (au p) (.tuple (l.map au))=some (.bool (if neg then !decide (p∈l) else decide (p∈l))):=by
 unfold lQ
 simp only[mB,nM,yz,Ol,NJ,um]
def yN (neg:Bool)(p:Pr)(l:List Pr):lQ neg (au p) (.list (l.map au))=some (.bool (if neg then !decide (p∈l) else decide (p∈l))):=by
 unfold lQ
 simp only[mB,nM,yz,Ol,NJ,um]
def mX (neg:Bool)(i j:Int):cR neg (.int i) (.int j)=some (.bool (if neg then !decide (i=j) else decide (i=j))):=rfl
theorem tT {fa fb:VF D}{vs:List Nv}{β:Int}{a b:Bool}(h:fa vs β=.ok (.bool a) β)(h':fb vs β=.ok (.bool b) β):gK fa fb vs β=.ok (.bool (a && b)) β:=by
 unfold gK
 rw[h]
 dsimp only[R.bnd]
 cases a with
 |true=>exact h'
 |false=>rfl
def dY {fa fb:VF D}{vs:List Nv}{β:Int}{a b:Int}(h:fa vs β=.ok (.int a) β)(h':fb vs β=.ok (.int b) β):cq (aa fa (aa fb ag)) vs β=.ok (au (a,b)) β:=by
 refine jJ (ds:=[.int a,.int b]) ?_ (by simp)
 rw[c4,h]
 dsimp only[R.bnd]
 rw[c4,h'];rfl
def ve (l:List Pr)(p:Pr):Bool:= !decide (p.1=p.2) && (!decide ((p.1,p.2)∈l) && !decide ((p.2,p.1)∈l))
def J0 {n:Nat}{l:List Pr}{fa:VF D}{vs:List Nv}{β:Int}(h:fa vs β=.ok (ar n l) β):f2 fa (cst (.int 1)) a8 vs β=.ok (.tuple (l.map au)) β:=aB h rfl rfl
def Kn {n:Nat}{l:List Pr}{fa:VF D}{vs:List Nv}{β:Int}(h:fa vs β=.ok (ar n l) β):f2 fa (cst (.int 0)) a8 vs β=.ok (.int n) β:=aB h rfl rfl
def Jp:List D->FR:=aV 3 3 oG
def HP:List D->FR:=aV 3 3 nC
def J5 (n:Nat)(l:List Pr)(a b:Int):Jp [ar n l,.int a,.int b]=.ok (.bool (ve l (a,b))) false:=by
 show fin (toS (gK (f2 (gv 1) (gv 2) (cR true)) (gK (f2 (cq (aa (gv 1) (aa (gv 2) ag))) (f2 (gv 0) (cst (.int 1)) a8) (lQ true)) (f2 (cq (aa (gv 2) (aa (gv 1) ag))) (f2 (gv 0) (cst (.int 1)) a8) (lQ true))) [.da (ar n l),.da (.int a),.da (.int b)] 0) _)=_
 rw[tT (aB (x:=.int a) (y:=.int b) rfl rfl (mX true a b)) (tT (aB (dY (a:=a) (b:=b) rfl rfl) (J0 (n:=n) (l:=l) rfl) (nr true (a,b) l)) (aB (dY (a:=b) (b:=a) rfl rfl) (J0 (n:=n) (l:=l) rfl) (nr true (b,a) l)))]
 rfl
def Jd (n:Nat)(l:List Pr)(a b:Int):HP [ar n l,.int a,.int b]=.ok (.bool (ve l (a,b))) false:=J5 n l a b
def nX:List D->FR:=aV 1 1 ic
def Dz {n:Nat}(h1:1<=n)(h8:n<=8):nX [.int n]=.ok (.list ((OM.cB n).map au)) true:=by
 have hm:n * n<=64:=N4 h8 h8
 have e:aL 1 [0] (.nm 0) (cN (f2 (gv 0) (gv 0) df)) jT (cq (aa (f2 (gv 0) (gv 1) GG) (aa (f2 (gv 0) (gv 1) kZ) ag))) [.da (.int n)] 0=.ok (.list ((OM.cB n).map au)) 0:=by
  have hi:cN (f2 (gv 0) (gv 0) df) [.da (.int n)] 0=.ok ((List.range (n * n)).map λ(k:Nat)=>int (0 + (k:Int))) 0:=by
   refine c5 (n:=n * n) (aB (x:=.int n) (y:=.int n) rfl rfl ?_) (by omega)
   rw[p8 ⟨by omega,by omega⟩];rfl
  rw[cF (l:=List.range (n * n)) (e:=λ(k:Nat)=>int (0 + (k:Int))) (λk=>au (((k / n:Nat):Int),((k % n:Nat):Int))) hi (by rw[NC];omega) λk hk=>⟨_,rfl,?_⟩]
  ·unfold OM.cB;rw[OL];rfl
  ·refine dY (aB (x:=.int (0 + (k:Int))) (y:=.int n) rfl rfl ?_) (aB (x:=.int (0 + (k:Int))) (y:=.int n) rfl rfl ?_)
   ·rw[FL (by omega) (by omega),NL];rfl
   ·rw[nY (by omega),NL];rfl
 show fin (ic [.fz (.int n)] 0)=_
 unfold ic
 rw[vP,show vl [Sl.fz (.int n)]= [.da (.int n)] from rfl,e];rfl
def mR (n:Nat)(l:List Pr):List Pr:=(OM.cB n).filter (ve l)
def fK (n:Nat):(OM.cB n).length=n * n:=by unfold OM.cB;simp
def DD {n:Nat}{l:List Pr}(h8:n<=8):(mR n l).length<=64:=by
 have h1:(mR n l).length<=(OM.cB n).length:=Nk _ _
 rw[fK] at h1
 have:n * n<=64:=N4 h8 h8
 omega
def cg {n:Nat}{l:List Pr}{p:Pr}:p∈mR n l↔((0<=p.1/\p.1 < n)/\(0<=p.2/\p.2 < n))/\ve l p=true:=by
 unfold mR;rw[ME,OM.bC]
noncomputable def pR:List D->FR:=aV 1 1 (pG j0 nX Jp)
def cI {fa:VF D}{vs:List Nv}{β:Int}{c:Bool}(h:fa vs β=.ok (.bool c) β):eZ fa vs β=.ok c β:=by rw[xQ,h];rfl
def E9 {n:Nat}{l:List Pr}(O:OM.Ord n l):pR [ar n l]=.ok (.list ((mR n l).map au)) true:=by
 have hm:n * n<=64:=N4 O.hi O.hi
 show fin (pG j0 nX Jp [.fz (ar n l)] 0)=_
 unfold pG
 rw[aI (env':=[.fz (ar n l)]) (β':=0) ?g1]
 case g1=>
  show toS (aw j0 (aa (gv 0) ag) [.da (ar n l)] 0) _=_
  rw[ax (ds:=[ar n l]) rfl (tR O)];rfl
 have e:aL 2 [0] (.two 0 1) (bK (aw nX (aa (f2 (gv 0) (cst (.int 0)) a8) ag))) (eZ (aw Jp (aa (gv 2) (aa (gv 0) (aa (gv 1) ag))))) (cq (aa (gv 0) (aa (gv 1) ag))) [.da (ar n l)] 0=.ok (.list ((mR n l).map au)) 0:=by
  have hi:bK (aw nX (aa (f2 (gv 0) (cst (.int 0)) a8) ag)) [.da (ar n l)] 0=.ok ((OM.cB n).map au) 0:=by
   unfold bK
   rw[ax (ds:=[.int n]) rfl (Dz O.lo O.hi)];rfl
  exact b8 (l:=OM.cB n) (e:=au) (ve l) au hi (by rw[fK];omega) λp hp=>⟨_,rfl,cI (ax (ds:=[ar n l,.int p.1,.int p.2]) rfl (J5 n l p.1 p.2)),λ_=>dY rfl rfl⟩
 show fin (toS (aL 2 [0] (.two 0 1) (bK (aw nX (aa (f2 (gv 0) (cst (.int 0)) a8) ag))) (eZ (aw Jp (aa (gv 2) (aa (gv 0) (aa (gv 1) ag))))) (cq (aa (gv 0) (aa (gv 1) ag))) [.da (ar n l)] 0) _)=_
 rw[e];rfl
end RM
namespace L2
open PySem PySem.Spec PyProof.Rows
section
variable {X:Cx}{pins:List (Addr×Obj)}{σ:St}{H:Hp}{s:Shared}
def Inv.turnedL {t':Nat}{ch:List Addr}{h':Heap}(I:Inv X pins σ H s)(k:∀b o,b∉ch->s.heap.get? b=some o->h'.get? b=some o)(hf:∀b∈ch,kF X pins H b):Inv X pins σ H {s with heap:=h',toks:=t'}:=by
 have nit:∀b u,H b=some u->b∉ch:=λb u e z=>by rw[(hf b z).1] at e;cases e
 have nL:X.env.locals∉ch:=λz=>(hf _ z).2.1 rfl
 refine I.step (g':=s.gens) (d':=s.drawn) (ch:=ch) (λb hb=>?_) (λb o _ _ hc e _=>k b o hc e) (λb o _ _ hc e _=>⟨o.slots,k b o hc e⟩) (λ_ _ _ _ n=>n)
  (λb o hc e=>⟨o,k b o hc e⟩) (λ_ _ e=>e) (λ_ _ _ e=>e) (λb ps e=>⟨#[],by rw[e];simp⟩) (λm hm=>?_) (λb u e=>?_) I.bare
 ·obtain⟨f0,f1,f2,f3,f4,f5⟩:=hf b hb
  exact⟨f3,f1,f4,f5⟩
 ·obtain⟨o,es,ep,ho,r⟩:=hm
  exact⟨o,es,ep,k _ o nL ho,r⟩
 ·refine (I.hok b u e).stay (λc v hc q=>k c v ?_ q) (λ_ q=>q) λ_ _ q=>q
  rcases hc with z |z
  ·rw[z];exact nit b u e
  ·exact nit c _ z
end
def LF {n:Nat}(i j:Nat)(h:(i == j)=false):(n + i:Nat)≠n + j:=by
 have:i≠j:=by simpa using h
 omega
end L2
namespace RM
open PySem L2
def iE:SF:=(aH (bQ 2 (([] ++ []) ++ []) (f2 (f2 (cst (.int 7919)) (gv 1) df) (cst (.int 13)) cx))
 (aH (iL ([] ++ []) (cC (f2 (gv 1) (f1 (gv 0) cy) sX))
 (bQ 2 ([] ++ []) (f2 (gv 0) (gv 1) a8))
 jU)
 (aH (iL (([] ++ []) ++ []) (cC (f2 (f2 (gv 2) (cst (.int 2)) kZ) (cst (.int 0)) (cR false)))
 (oO (cY (aa (f2 (gv 2) (cst (.int 2)) GG) ag)))
 jU)
 (aH (bQ 3 [] (cst (.int 0)))
 (aH (hJ (.nm 4) [] (cN (cst (.int 16)))
 (aH (bQ 5 ((((([] ++ []) ++ []) ++ ([] ++ [])) ++ []) ++ []) (f2 (f2 (f2 (f2 (f2 (gv 2) (cst (.int 2147483647)) kZ) (cst (.int 48271)) df) (f2 (cst (.int 7919)) (gv 4) df) cx) (cst (.int 1)) cx) (cst (.int 2147483647)) kZ))
 (aH (bQ 5 (([] ++ []) ++ []) (f2 (f2 (gv 5) (gv 5) df) (cst (.int 2147483629)) kZ))
 (bQ 3 (([] ++ []) ++ (([] ++ ([] ++ [])) ++ [])) (f2 (f2 (gv 3) (cst (.int 2147483647)) df) (f2 (f2 (gv 5) (f2 (gv 5) (cst (.int 13)) cx) df) (cst (.int 2147483647)) kZ) cx)))))
 (oO (cY (aa (gv 3) ag))))))))
def eO (bJ:List D->Int->FB):SF:=(aH (kY 2 [] (f1 (gv 1) CA))
 (aH (kY 3 [] (cY ag))
 (aH (gW ([] ++ []) (cC (f2 (gv 2) (cY ag) (cR true)))
 (kj 3 2 ([] ++ []) (qz 0 bJ (aa (f1 (gv 2) cy) ag))) 1000)
 (bo (f1 (gv 3) n8)))))
def jv:SF:=(aH (kY 2 [] (cY ag))
 (aH (hJ (.nm 3) [] (cN (gv 0))
 (hJ (.nm 4) [] (cN (gv 0))
 (iL (([] ++ []) ++ ([] ++ [])) (yA (cC (f2 (gv 3) (gv 4) (cR true))) (eZ (f1 (aL 1 [3,4] (.nm 0) (bK (gv 1)) jT (f2 (om (gv 0) (gv 1)) (om (gv 0) (gv 2)) sX)) (bB λbs=>bs.all id))))
 (mH 2 ([3] ++ ([4] ++ [])) (cq (aa (gv 3) (aa (gv 4) ag))))
 jU)))
 (bo (f1 (gv 2) n8))))
end RM
namespace L2
open PySem PySem.Spec PyProof.Rows
section
variable {κ:Type}[DecidableEq κ]
def Et (kvs:List (κ×V))(k:κ):Option V:=(kvs.find? λkv=>decide (kv.1=k)).map (·.2)
def putK (kvs:List (κ×V))(k:κ)(v:V):List (κ×V):=
 if (kvs.any λkv=>decide (kv.1=k))=true then kvs.map (λkv=>if kv.1=k then (kv.1,v) else kv) else kvs ++ [(k,v)]
theorem Bq.getD {o:Option V}{u:Option Value}{d:V}{d':Value}(r:Bq o u)(rd:RelV d d'):RelV (o.getD d) (u.getD d'):=by
 cases o with
 |none=>cases u with
  |none=>exact rd
  |some _=>exact (show False from r).elim
 |some _=>cases u with
  |none=>exact (show False from r).elim
  |some _=>exact r
theorem KV.any {kvs:List (κ×V)}{vs:List (κ×Value)}(r:KV kvs vs)(k:κ):(kvs.any λkv=>decide (kv.1=k))=vs.any λkv=>decide (kv.1=k):=by
 unfold KV at r
 induction r with
 |nil=>rfl
 |cons h t ih=>rw[NZ,NZ,ih,h.1]
end
section
variable {P:Program}{w:World}{H:Hp}{h:Heap}{a:Addr}
def JY {u:HO}(ok:mi P w H h)(e:Rd H a u):cJ P w H h a u:=e.ok ok
def J9 {kvs:List (Key×V)}(ok:mi P w H h)(e:Rd H a (.dK kvs)):kvs.length<=sizeLine/\(a == sysModules)=false/\∃vs,KV kvs vs/\h.DictOf (lY P w) a vs:=
 show cJ P w H h a (.dK kvs) from JY ok e
def Ka {kvs:List (Key×V)}(ok:mi P w H h)(e:H a=some (.dK kvs)):kvs.length<=sizeLine/\(a == sysModules)=false/\∃vs,KV kvs vs/\h.DictOf (lY P w) a vs:=J9 ok (.inl e)
end
def EI (H:Hp)(a:Addr)(y:V)(r:Option V):Prop:=
 (∃kvs k,Rd H a (.dK kvs)/\y=kV k/\r=Et kvs k)\/∃kvs k b,Rd H a (.dT kvs)/\y=.ref b/\Rd H b (.tup (k.map kV))/\r=Et kvs k
def Fh (H:Hp)(a:Addr)(y v:V)(H':Hp):Prop:=
 (∃kvs k,H a=some (.dK kvs)/\y=kV k/\kvs.length < sizeLine/\H'=upd H a (.dK (putK kvs k v)))\/
 ∃kvs k b,H a=some (.dT kvs)/\y=.ref b/\Rd H b (.tup (k.map kV))/\kvs.length < sizeLine/\H'=upd H a (.dT (putK kvs k v))
def EI.k {H:Hp}{a:Addr}{kvs:List (Key×V)}{k:Key}(e:H a=some (.dK kvs)):EI H a (kV k) (Et kvs k):=.inl ⟨kvs,k,.inl e,rfl,rfl⟩
def EI.t {H:Hp}{a b:Addr}{kvs:List (List Key×V)}{k:List Key}(e:H a=some (.dT kvs))(eb:Rd H b (.tup (k.map kV))):EI H a (.ref b) (Et kvs k):=.inr ⟨kvs,k,b,.inl e,rfl,eb,rfl⟩
def Fh.k {H:Hp}{a:Addr}{kvs:List (Key×V)}{k:Key}{v:V}(e:H a=some (.dK kvs))(hl:kvs.length < sizeLine):Fh H a (kV k) v (upd H a (.dK (putK kvs k v))):=.inl ⟨kvs,k,e,rfl,hl,rfl⟩
def Fh.t {H:Hp}{a b:Addr}{kvs:List (List Key×V)}{k:List Key}{v:V}(e:H a=some (.dT kvs))(eb:Rd H b (.tup (k.map kV)))(hl:kvs.length < sizeLine) :
  Fh H a (.ref b) v (upd H a (.dT (putK kvs k v))):=.inr ⟨kvs,k,b,e,rfl,eb,hl,rfl⟩
section
variable {X:Cx}{pos:Pos}
end
mutual
def JT:D->Bool
 | .list ds=>Dd ds
 | .tuple ds=>Dd ds
 | .dict kvs=> !kvs.isEmpty && kvs.all λkv=>match kv.1,kv.2 with
  | .str _,.int _=>true
  |_,_=>false
 |_=>true
def Dd:List D->Bool
 | []=>true
 |d :: ds=>JT d && Dd ds
end
section
variable {X:Cx}{pins:List (Addr×Obj)}{σ:St}{H:Hp}{s:Shared}
theorem wu {P:Program}{w:World}{K:Frag}{h:Heap}:∀{kvs:List (Key×V)} {ds:List (D×D)} {vs:List (Key×Value)} {es:List DictEntry},zu K H kvs ds->KV kvs vs->Pairs (lY P w) es vs->
  (ds.all λkv=>match kv.1,kv.2 with
   | .str _,.int _=>true
   |_,_=>false)=true->ReadsAll h (es.map (·.key)) (ds.map (·.1)) []/\ReadsAll h (es.map (·.val)) (ds.map (·.2)) []
 | [],_,_,_,.nil,kv,ps,_=>by
  cases kv
  cases ps
  exact⟨.nil,.nil⟩
 | (k,x) :: kvs,_,_,_,.cons r rk,kv,ps,hd=>by
  cases kv with
  |cons h1 h2=>
   cases ps with
   |cons q1 q2 q3=>
    rw[all_cons,MP] at hd
    obtain⟨i1,i2⟩:=wu (P:=P) (w:=w) (h:=h) rk h2 q3 hd.2
    obtain⟨hd1,_⟩:=hd
    obtain⟨e1,rv⟩:=h1
    cases k with
    |inl i=>cases hd1
    |inr y=>
     rw[<-e1] at q1
     have q1:C8 (Sum.inr y) _=true:=q1
     rcases cm q1 with⟨i,t,e,_⟩ | ⟨z,t,e,ek⟩
     ·cases e
     ·cases e
      cases r with
      |int i=>
       obtain⟨t',ev⟩:=rv
       refine⟨?_,?_⟩
       ·show ReadsAll h (_ :: _) (PyData.str y :: _) ([] ++ [])
        dsimp only
        rw[ek]
        exact .cons (.str y t) i1
       ·show ReadsAll h (_ :: _) (int i :: _) ([] ++ [])
        dsimp only
        rw[q2,ev]
        exact .cons (.int i t') i2
      |_=>cases hd1
def Inv.notSys (I:Inv X pins σ H s){a:Addr}{u:HO}(h:Rd H a u):a≠sysModules:=λe=>by
 obtain⟨mm,o,es,ep,ho,_⟩:=I.mod.sys
 have:=(I.bs _ o ho).2
 rw[<-e] at this
 rcases h with h | ⟨_,h⟩ <;> (rw[h] at this;cases this)
mutual
theorem Rp.readsL (I:Inv X pins σ H s):∀{x:V} {d:D} {u:Value},Rp X.K H x d->RelV x u->JT d=true->∃as,Reads s.heap u d as/\sysModules∉as
 |_,_,_,.non,r,_=>by cases r;exact⟨_,.none,by simp⟩
 |_,_,_,.bl b,r,_=>by cases r;exact⟨_,.bool b,by simp⟩
 |_,_,_,.int i,r,_=>by obtain⟨t,rfl⟩:=r;exact⟨_,.int i t,by simp⟩
 |_,_,_,.str x,r,_=>by obtain⟨t,rfl⟩:=r;exact⟨_,.str x t,by simp⟩
 |_,_,_,.tup h hs,r,n=>by
  cases r
  obtain⟨its,rv,⟨o,ho,hc,k,hd⟩,_⟩:=I.tuple h
  obtain⟨as,q,m⟩:=cj.readsL I hs rv n
  exact⟨_,.tuple ho hc hd (by simpa using q),m⟩
 |_,_,_,.lst (a:=a) h hs,r,n=>by
  cases r
  obtain⟨_,its,k,rv,_,ho⟩:=I.lstR (.inl h)
  obtain⟨as,q,m⟩:=cj.readsL I hs rv n
  refine⟨_,.list ho rfl rfl (by simpa using q),λz=>?_⟩
  rcases MH.mp z with e |z
  ·exact I.notSys (.inl h) e.symm
  ·exact m z
 |_,_,_,.scr h,r,n=>by cases n
 |_,_,_,.dK (a:=a) h hs,r,n=>by
  cases r
  obtain⟨_,hsy,vs,kv,o,es,ep,ho,hex,hdt,_,hp,_⟩:=Ka I.hok h
  obtain⟨q1,q2⟩:=wu (h:=s.heap) hs kv hp (by
   have n:(!_ && _)=true:=n
   rw[MP] at n
   exact n.2)
  refine⟨_,.dict ho hex.1 hdt q1 q2,?_⟩
  have:a≠sysModules:=λz=>by rw[z] at hsy;simp at hsy
  simp only[NU,M4]
  exact λz=>this z.symm
 |_,_,_,.dT h hs,r,n=>by
  cases hs with
  |nil=>cases n
  |cons _ _=>
   simp[JT] at n
theorem cj.readsL (I:Inv X pins σ H s):∀{xs:List V} {ds:List D} {us:List Value},cj X.K H xs ds->Vals xs us->Dd ds=true->∃as,ReadsAll s.heap us ds as/\sysModules∉as
 |_,_,_,.nil,r,_=>by cases r;exact⟨_,.nil,by simp⟩
 |_,_,_,.cons h hs,r,n=>by
  have n:(JT _ && Dd _)=true:=n
  rw[MP] at n
  cases r with
  |cons r1 r2=>
   obtain⟨as,q,m⟩:=Rp.readsL I h r1 n.1
   obtain⟨bs,q',m'⟩:=cj.readsL I hs r2 n.2
   exact⟨_,.cons q q',λz=>(MU.mp z).elim m m'⟩
end
end
def DP (d:D):Bool:=d.showable && decide (d.depth<=64) && decide (d.shown.length<=sizeLine) && ((AR d && !d.hasDict) || JT d)
def n5 (d:D):Option D:=if DP d=true then some (.str d.shown) else none
def A8 (K:Frag):List V->Hp->VK->Prop:=λxs H Q=>∃x d,xs= [x]/\Rp K H x d/\DP d=true/\Q (.str d.shown) H
section
variable {X:Cx}
theorem qp (hg:X.A.guards=some [])(hu:X.A.units + 100 < cLine):dZ X (.builtin "repr") (A8 X.K):=by
 intro pins s σ H xs us Q I r h
 obtain⟨x,d,rfl,hd,ok,q⟩:=h
 obtain⟨u,rfl,rx⟩:=vals1 r
 unfold DP at ok
 simp only[MP,NH,MT] at ok
 obtain⟨⟨⟨h1,h2⟩,h3⟩,h4⟩:=ok
 have key:∀{a:Addr},u=.ref a->wpAny (model X.prog X.w) X.A (call (.builtin "repr") [u]) (EP X pins σ Q) X.xe s:=λ{a} e=>by
  subst e
  rcases h4 with h4 |h4
  ·obtain⟨as,rd⟩:=(hd.rep h4.1).reads I rx
   exact repr_of_reads' rd h1 (PyData.noDict_hsm (by simpa using h4.2)) hg (by omega) (λb o e=>e) (λh' u tk k=>⟨.str _,H,I.kept (t':=tk) k,⟨u,rfl⟩,q⟩) h3
  ·obtain⟨as,rd,m⟩:=hd.readsL I rx h4
   exact repr_of_reads' rd h1 (λ_=>m) hg (by omega) (λb o e=>e) (λh' u tk k=>⟨.str _,H,I.kept (t':=tk) k,⟨u,rfl⟩,q⟩) h3
 cases hd with
 |non=>cases rx;exact P.repr_of_none ⟨.str _,H,I.tok _,⟨_,rfl⟩,q⟩
 |bl b=>cases rx;exact P.repr_of_bool ⟨.str _,H,I.tok _,⟨_,rfl⟩,q⟩
 |int i=>obtain⟨t,rfl⟩:=rx;exact P.repr_of_int (by simpa[PyData.showable] using h1) ⟨.str _,H,I.tok _,⟨_,rfl⟩,q⟩
 |str y=>obtain⟨t,rfl⟩:=rx;exact P.repr_of_str ⟨.str _,H,I.tok _,⟨_,rfl⟩,q⟩ h3
 |tup _ _=>cases rx;exact key rfl
 |lst _ _=>cases rx;exact key rfl
 |scr _=>cases rx;exact key rfl
 |dK _ _=>cases rx;exact key rfl
 |dT _ _=>cases rx;exact key rfl
end
def yx {K:Frag}:AV K (λx=>A8 K [x]) n5 .v:=by
 intro B G H x dx d Q s hB bx e k
 unfold n5 at e
 split at e
 ·rename_i hh
  cases e
  exact⟨x,dx,rfl,bx.rpH s,hh,k _ G H (Ext.refl s) (.str _)⟩
 ·cases e
abbrev Dj (n:Nat):List Nat:=[n + 1,n]
def Ae:bootBuiltins "enumerate"=some (.type "enumerate"):=by decide +kernel
section
variable {X:Cx}{Γ:Fx}{E:XK}{e a b c:Expr}{f fa fb:VF D}{L La Lb:List Nat}{md ma mb:Md}{pos:Pos}
def j5 (ds:List D):List D:=ds.mapIdx λi d=>.tuple [.int i,d]
end
end L2
namespace L2
open PySem PySem.Spec PyProof.Rows PySem.MeetsSeq PySem.MeetsSeq2 PySem.MeetsSeq3
def FK (K:Frag):R2:=λx y H Q=>∃a b xs ys,x=.ref a/\y=.ref b/\gM K H a xs/\gM K H b ys/\xs.length + ys.length<=sizeLine/\
 (xs= []->Q (.ref b) H)/\(xs≠ []->ys= []->Q (.ref a) H)/\(xs≠ []->ys≠ []->∀p,H p=none->Q (.ref p) (upd H p (.tup (xs ++ ys))))
section
variable {X:Cx}
def CP:kT X (binaryOp .Add) (FK X.K):=by
 intro pins s σ H x y v u Q I rx ry h
 obtain⟨a,b,xs,ys,rfl,rfl,ha,hb,hz,q0,q1,q2⟩:=h
 by_cases hx:xs= []
 ·cases rx
  cases ry
  obtain⟨its,r1,p1,_⟩:=I.tuple ha
  obtain⟨its2,r2,p2,_⟩:=I.tuple hb
  obtain⟨⟨cls,dd,data,sl⟩,ho,hc,n,hd⟩:=id p1
  obtain⟨⟨cls2,dd2,data2,sl2⟩,ho2,hc2,n2,hd2⟩:=id p2
  simp only at hc hd hc2 hd2
  subst hc hd hc2 hd2
  have he:its= []:=r1.nil_iff.mpr hx
  exact concat_meets ⟨_,ho,rfl⟩ ⟨_,ho2,rfl⟩ noFill_tuple_add seq_tuple_add PySem.F.slot_tuple_add PySem.F.entry_tuple_add (OH _ _)
   (tuple_addW0 a b its.toArray its2.toArray n n2 dd dd2 sl sl2 (by simp[he])) ⟨ho,ho2,.ref b,H,I,rfl,q0 hx⟩
 ·exact Dq pins s σ H _ _ v u Q I rx ry ⟨a,b,xs,ys,rfl,rfl,ha,hb,hx,hz,q1 hx,q2 hx⟩
end
def qW:D->D->Option D
 | .tuple a,.tuple b=>if a.length + b.length<=sizeLine then some (.tuple (a ++ b)) else none
 |_,_=>none
def FY {K:Frag}:l7 K (FK K) qW .v:=by
 intro B G H x y dx dy d Q s hB bx by' e k
 cases dx <;> cases dy <;> first | (cases e;done) |skip
 rename_i a b
 simp only[qW] at e
 split at e
 ·rename_i hz
  cases e
  rcases bx with bx | ⟨_,_,_,q⟩
  case inr=>exact q.elim
  rcases by' with by' | ⟨_,_,_,q⟩
  case inr=>exact q.elim
  cases bx with
  | @tup p xs _ hp r1=>
   cases by' with
   | @tup q ys _ hq r2=>
    refine⟨p,q,xs,ys,rfl,rfl,hp.grow s.grow,hq.grow s.grow,by rw[r1.len,r2.len];exact hz,λz=>?_,λz z'=>?_,λ_ _ l hl=>?_⟩
    ·subst z
     cases r1
     exact k _ G H (Ext.refl s) (.tup hq r2)
    ·subst z'
     cases r2
     rw[NU] at k
     exact k _ G H (Ext.refl s) (.tup hp r1)
    ·have xn:=Ext.new s (o:=.tup (xs ++ ys)) hl
     exact k _ _ _ xn (.tup (.inl (.inl aA)) ((r1.append r2).mono xn.gg))
 ·cases e
end L2
namespace L2
open PySem PySem.Spec PyProof.Rows
def IQ (K:Frag):R2:=λx y H Q=>∃a b xs,x=.ref a/\y=.ref b/\gN K H a xs/\gN K H b []/\Q (.bl xs.isEmpty) H
theorem uZ {X:Cx}(hu:X.A.units + 64 < cLine):kT X (compareOp .Eq) (IQ X.K):=by
 intro pins s σ H x y v u Q I rx ry h
 obtain⟨a,b,xs,rfl,rfl,ha,hb,q⟩:=h
 cases rx
 cases ry
 obtain⟨its,r,ht,hz⟩:=I.list ha
 obtain⟨its2,r2,ht2,hz2⟩:=I.list hb
 cases r2
 cases r with
 |nil=>exact PySem.SeqAt.eq_listAt (e:=λ_=>true) ht.isList ht2.isList rfl (by omega) (λj h1 _=>absurd h1 (by simp)) ⟨.bl true,H,I,rfl,q⟩
 |cons _ _=>exact PySem.SeqAt.eq_list_lengthsAt ht.isList ht2.isList (by simp) (by omega) ⟨.bl false,H,I,rfl,q⟩
def uv:D->D->Option D
 | .list ds,.list []=>some (.bool ds.isEmpty)
 |_,_=>none
theorem yR {K:Frag}:l7 K (IQ K) uv .v:=by
 intro B G H x y dx dy d Q s hB bx by' e k
 cases dx with
 |list ds=>
  cases dy with
  |list es=>
   cases es with
   |nil=>
    cases e
    obtain⟨p,xs,rfl,hq,r⟩:=bx.list s
    obtain⟨p2,ys,rfl,hq2,r2⟩:=by'.list s
    cases r2
    refine⟨p,p2,xs,rfl,rfl,.inl hq,.inl hq2,?_⟩
    have:xs.isEmpty=ds.isEmpty:=by cases r <;> rfl
    rw[this]
    exact k _ G H (Ext.refl s) (.bl _)
   |cons _ _=>cases e
  |_=>cases e
 |_=>cases e
end L2
namespace L2
open PySem PyProof.Rows
section
variable {X:Cx}{K:Frag}{pins:List V}{σ:St}{H:Hp}{s:Shared}{E:XK}
theorem cj.intsB {G:Hp}:∀{ns:List Int} {xs:List V},cj K G xs (ns.map int)->xs=ns.map V.int
 | [],_,.nil=>rfl
 |n :: ns,_,.cons r t=>by cases r;rw[cj.intsB t];rfl
variable {Γ:Fx}{e a b c:Expr}{f fa fb fc:VF D}{L La Lb:List Nat}{md ma mb mc:Md}{pos:Pos}
def sortI (ns:List Int):List Int:=ns.mergeSort λa b=>decide (a<=b)
def sortI_perm (ns:List Int):(sortI ns).Perm ns:=List.mergeSort_perm ..
def A2 (ns:List Int):(sortI ns).Pairwise (· <= ·):=by
 have:=List.pairwise_mergeSort (le:=λa b:Int=>decide (a<=b)) (λa b c h1 h2=>by simp only[MT] at *;omega) (λa b=>by simp only[NH,MT];omega) ns
 exact this.imp λh=>by simpa using h
def mP {ns ms:List Int}(h:ms.Perm ns)(h2:ms.Pairwise (· <= ·)):ms=sortI ns:=
 List.Perm.eq_of_pairwise (le:=(· <= ·)) (λa b _ _ h1 h2=>by omega) h2 (A2 ns) (h.trans (sortI_perm ns).symm)
def Ie (K:Frag):List V->Hp->VK->Prop:=λxs H Q=>∃a ns,xs= [.ref a]/\gN K H a (ns.map V.int)/\ns.length < 64/\∀l,H l=none->Q (.ref l) (upd H l (.lst ((sortI ns).map V.int)))
theorem uz:∀{us:List Value} {ns:List Int},IntsAre us ns->Vals (ns.map V.int) us
 |_,_,.nil=>.nil
 |_,_,.cons n t hr=>.cons ⟨t,rfl⟩ (uz hr)
def wU:dZ X (.builtin "sorted") (Ie X.K):=by
 intro pins s σ H xs us Q I r h
 obtain⟨a,ns,rfl,hq,hl,q⟩:=h
 obtain⟨u,rfl,rx⟩:=vals1 r
 cases rx
 obtain⟨its,rv,pl,hz⟩:=I.list hq
 have hil:its.length=ns.length:=by rw[<-rv.length,MC]
 refine sorted_ints pl.isList (intsAre_of rv) (by omega) λout ns' a1 a2 a3=>?_
 obtain rfl:=mP a2 a3
 obtain⟨c,he⟩:=sortedAll_at s.heap its out
 have hf:H (s.heap.objs.size + 1)=none:=I.hok.fresh (Oz _)
 have hz':((sortI ns).map V.int).length<=sizeLine:=by
  have:=a2.length_eq
  rw[MC,Nc];omega
 have I2:Inv X pins σ (upd H (s.heap.objs.size + 1) (.lst ((sortI ns).map V.int))) {s with heap:=sortedAll s.heap its out,toks:=s.toks}:=I.laid (t':=s.toks) (λ_ _=>sortedAll_old) (Oz _) (show cJ X.prog X.w _ _ _ (.lst ((sortI ns).map V.int)) from⟨hz',out.toList,c,uz a1,he⟩)
 exact⟨.ref _,_,I2,rfl,q _ hf⟩
end
end L2
namespace L2
open PySem
mutual
def hW:D->Bool
 | .none=>true
 | .bool _=>true
 | .int _=>true
 | .str _=>true
 | .tuple ds=>bN ds
 | .list _=>false
 | .dict _=>false
def bN:List D->Bool
 | []=>true
 |d :: ds=>hW d && bN ds
end
section
variable {P:Program}{w:World}{K:Frag}{mg:Str->Option Value}{base:Heap}{ca:Str->Addr}{G G' H H':Hp}
mutual
theorem Rp.flat (s:ah G H)(s':ah G' H):∀{x:V} {d:D},Rp K G' x d->hW d=true->Rp K (eY G H) x d
 |_,_,.non,_=>.non
 |_,_,.bl b,_=>.bl b
 |_,_,.int i,_=>.int i
 |_,_,.str x,_=>.str x
 |_,_,.tup h hs,e=>.tup (mV s (h.grow s'.grow)) (cj.flat s s' hs (by simpa[hW] using e))
 |_,_,.lst h hs,e=>by simp[hW] at e
 |_,_,.scr h,e=>by simp[hW] at e
 |_,_,.dK h hs,e=>by simp[hW] at e
 |_,_,.dT h hs,e=>by simp[hW] at e
theorem cj.flat (s:ah G H)(s':ah G' H):∀{xs:List V} {ds:List D},cj K G' xs ds->bN ds=true->cj K (eY G H) xs ds
 |_,_,.nil,_=>.nil
 |_,_,.cons h hs,e=>by
  simp only[bN,MP] at e
  exact .cons (Rp.flat s s' h e.1) (cj.flat s s' hs e.2)
end
def n9 (F:List D->FR):List D->FR:=λds=>match F ds with
 | .ok (.list es) false=>.ok (.list es) (bN ds && bN es)
 |r=>r
def uK {F:List D->FR}{ds es:List D}(e:F ds=.ok (.list es) false)(h1:bN ds=true)(h2:bN es=true):n9 F ds=.ok (.list es) true:=by
 unfold n9;rw[e];dsimp only;rw[h1,h2];rfl
def AQ:Hp:=λ_=>none
def jY:ah AQ H:=λb o e=>by cases e
theorem ua {b:Addr}{o:HO}(h:eY AQ H b=some o):Fz o:=by
 unfold eY at h
 have e:AQ b=none:=rfl
 rw[e] at h
 cases q:H b with
 |none=>rw[q] at h;cases h
 |some u=>
  rw[q] at h
  dsimp only at h
  split at h
  ·rename_i f;cases h;exact f
  ·cases h
def D9 {n:Nat}{F:List D->FR}{vs:List V}{Q:VK}{E:XK}(q:BQ K ca n (n9 F) vs H Q E):BQ K ca n F vs H Q E:=by
 obtain⟨G,ds,sG,hl,r,q⟩:=q
 by_cases z:∃es,F ds=.ok (.list es) false/\bN ds=true/\bN es=true
 ·obtain⟨es,e,h1,h2⟩:=z
  rw[uK e h1 h2] at q
  have sn:ah (eY AQ G) H:=(iN jY).trans sG
  refine⟨eY AQ G,ds,sn,hl,r.flat jY (ah.refl _) h1,?_⟩
  rw[e]
  intro v G' H' hh g1 g2 hn fv
  have fv:Rp K G' v (.list es):=fv
  cases fv with
  | @lst a xs _ ha hs=>
   have hH':H' a=some (.lst xs):=g2 _ _ ha
   have hHa:H a=none:=by
    cases z:H a with
    |none=>rfl
    |some o=>
     have z':=t9 (hh _ _ z) hH'
     subst z'
     have hm:Mx H a:=Mx.lst z
     have:eY AQ G a=none:=by
      cases y:eY AQ G a with
      |none=>rfl
      |some o=>
       have y':=t9 (sn _ _ y) z
       subst y'
       exact (ua y).elim
     rw[hn a hm this] at ha
     cases ha
   have sG':ah G H':=sG.trans hh
   refine q (.ref a) (eY G H') H' hh jX (iN sG') (λb m e=>by rw[pC hh m];exact e) ?_
   refine⟨a,rfl,hHa,?_,xs,hH',hs.flat sG' g2 h2⟩
   unfold eY
   rw[sG.free hHa,hH']
   exact MG λf=>f
 ·have:n9 F ds=F ds:=by
   unfold n9
   split
   ·rename_i es e
    have hf:(bN ds && bN es)=false:=by
     cases y:(bN ds && bN es) with
     |false=>rfl
     |true=>rw[MP] at y;exact absurd ⟨es,e,y.1,y.2⟩ z
    rw[hf,e]
   ·rfl
  rw[this] at q
  exact⟨G,ds,sG,hl,r,q⟩
def cn.new {x:Str}{ps:List Str}{k:Nat}{F:List D->FR}(h:cn P w K mg base ca x ps k F):cn P w K mg base ca x ps k (n9 F):=by
 obtain⟨f,fd,a,b,c,d⟩:=h.ex
 refine⟨⟨f,fd,a,b,c,d.imp λvs H Q E q=>D9 q⟩,λds hn=>h.len ds λz=>hn ?_⟩
 unfold n9;rw[z]
end
section
variable {K:Frag}{h:Heap}{mg:Str->Option Value}
theorem yS {α:Type}{P:List α->Prop}(q:∀a,P [a]):∀us:List α,us.length=1->P us
 | [a],_=>q a
theorem ln2 {α:Type}{P:List α->Prop}(q:∀a b,P [a,b]):∀us:List α,us.length=2->P us
 | [a,b],_=>q a b
theorem Dv {α:Type}{P:List α->Prop}(q:∀a b c,P [a,b,c]):∀us:List α,us.length=3->P us
 | [a,b,c],_=>q a b c
theorem Mq {α:Type}{P:List α->Prop}(q:∀a b c d e,P [a,b,c,d,e]):∀us:List α,us.length=5->P us
 | [a,b,c,d,e],_=>q a b c d e
def aR (x:Str)(st:Stmt)(ps:List Str):Prop:=∀(kV doc pm:Value) (an:Option Addr) (cdv ct:Value) (us:List Value),us.length=ps.length->bindArgs (PySem.W.fnOf x x (ie st) (cU st) (ao st) .none kV doc pm an cdv ct) ⟨us,[]⟩=pure (ps.zip us)
structure Fo (K:Frag)(mg:Str->Option Value)(x:Str)(st:Stmt)(ps:List Str):Prop where
 ex:∃f fd,gO K mg x st ps f fd
def bG {x:Str}{st:Stmt}{ps:List Str}{f:Addr}{oc:Value}{od an:Option Addr}{sl:Array (Option Value)}{kV doc pm cdv ct:Value}(X:K.In h)(G:h.Ns mainGlobals mg)(b:aR x st ps)(a:PySem.W.nsIn K mainGlobals x=some (some (.ref f)))
  (l:K.lookup f=some ⟨oc,od,.func (PySem.W.fnOf x x (ie st) (cU st) (ao st) .none kV doc pm an cdv ct),sl⟩) (c:PySem.W.codeIn K cdv x=true) (k:PySem.W.keepIn K (.ref f)=true):Fo K mg x st ps:=
 ⟨⟨f,_,Oy X G a,qi l c k,(qi l c k).binds b⟩⟩
def KW:List Str:=["len","range","enumerate","zip","min","max","sum","abs","sorted","reversed","int","str","bool","list","tuple","dict","set","isinstance","repr","any","all","divmod"]
def KY (K:Frag):Bool:=KW.all λx=>match PySem.W.nsIn K mainGlobals x with
 |some none=>true
 |_=>false
def HG (q:KY K=true){x:Str}(hx:x∈KW):PySem.W.nsIn K mainGlobals x=some none:=by
 have:=MV.mp q x hx
 split at this
 ·assumption
 ·cases this
def JB (X:K.In h)(G:h.Ns mainGlobals mg)(q:KY K=true):i7 mg:=by
 have key:∀{x:Str},x∈KW->mg x=none:=λhx=>PySem.W.mg_none_of X G (HG q hx)
 constructor <;> exact key (by decide)
end
section
variable {X:Cx}{P:Program}{w:World}{K:Frag}{mg:Str->Option Value}{base:Heap}{ca:Str->Addr}
def k7 (step:(List D->FR)->List D->FR):Nat->List D->FR
 | 0=>λ_=>.bad
 |n + 1=>step (k7 step n)
theorem yo {x:Str}{st:Stmt}{ps:List Str}{f:Addr}{fd:FuncData}{j:Nat}{step:(List D->FR)->List D->FR}(F:gO K mg x st ps f fd)
  (h:∀(k:Nat) (F':List D->FR),j<=k->cn P w K mg base ca x ps k F'->cn P w K mg base ca x ps (k + 1) (step F')):∀n,cn P w K mg base ca x ps (j + n) (k7 step n)
 | 0=>⟨⟨f,fd,F.mg,F.F.kp,F.b,Dc⟩,λds hn=>(hn rfl).elim⟩
 |n + 1=>h (j + n) _ (Nat.le_add_right _ _) (yo F h n)
end
end L2
namespace L2
open PySem PySem.Spec PyProof.Rows
def EM {prog:Program}{w:World}{A:Around}{it t:Addr}{xs:Array Value}(hh:A.handled=none)(i:Nat)(hx:xs[i]? =none):Draws prog w A it [it,t] i (λ_ _=>False) (λj h=>j=i/\h.IsListIter it t i/\h.IsList t xs) where
 live:=λ_ _ st=>let ⟨o,ho,_⟩:=st.2.1;⟨o,ho⟩
 frame:=λ_ _ _ st hk=>⟨st.1,st.2.1.at λo e=>hk it (by simp) o e,st.2.2.at λo e=>hk t (by simp) o e⟩
 item:=λj s Q E hi st k=>absurd st.1 (by omega)
 done:=λs Q E st k=>wpAny_nextOf_list_end hh st.2.1 st.2.2 hx k
def Gy (K:Frag)(a:Addr):It:=
 ⟨λi H=>∃xs x,gN K H a xs/\xs[i]? =some x,
  λi H v H'=>∃x t,H t=none/\(∀xs,gN K H a xs->xs[i]? =some x)/\v=.ref t/\H'=upd H t (.tup [.int i,x]),
  λi H=>∃xs,gN K H a xs/\xs.length<=i⟩
def zP {h:Heap}{a n:Addr}{i:Nat}{its:Array Value}{b:Addr}(p:h.IsList a its)(q:h.IsListIter n b i):a≠n:=λz=>by
 subst z
 obtain⟨o,e,c,_⟩:=p
 obtain⟨o',e',c',_⟩:=q
 rw[e] at e';cases e'
 rw[c] at c'
 simp at c'
def Ak {h:Heap}{a n it:Addr}{i:Int}{its:Array Value}{old:Value}(p:h.IsList a its)(q:IsEnum h n it i old):n≠a:=λz=>by
 subst z
 obtain⟨o,e,c,_⟩:=p
 rw[q] at e;cases e
 simp at c
def wV {P:Program}{w:World}{K:Frag}{elts:List Expr}{x1}{pos:Pos}(a:Addr)(n:Nat):Turn P w K (.Tuple elts x1 pos) (Gy K a) (Dj n) (n + 1)
  (λi h=>(∃old,IsEnum h (n + 1) n i old)/\h.IsListIter n a i) where
 mem:=by simp
 obj:=λi h st c hc=>by
  obtain⟨⟨old,z1⟩,⟨o2,z2,_,d2⟩⟩:=st
  simp only[Dj,MH,NP,or_false] at hc
  rcases hc with rfl |rfl
  ·exact⟨_,z1,λv z=>by
    have z':Data.fields _=Data.cell v:=z
    cases z'⟩
  ·exact⟨o2,z2,λv z=>by rw[d2] at z;cases z⟩
 keep:=λi h h' st k=>by
  obtain⟨⟨old,z1⟩,z2⟩:=st
  exact⟨⟨old,k _ (by simp) _ z1⟩,z2.at λo e=>k _ (by simp) o e⟩
 item:=by
  intro X hP hw hK hc i pins s σ H E I hf st hg
  subst hP hw hK
  obtain⟨xs,x,ha,hx⟩:=hg
  obtain⟨its,rv,p,hz⟩:=I.list ha
  have p:s.heap.IsList a its.toArray:=p.isList
  obtain⟨u0,hu0,ru0⟩:=rv.get hx
  obtain⟨⟨old,z1⟩,z2⟩:=st
  have hh:X.A.in1.handled=none:=I.ok.hd hc
  have hlt:i < its.toArray.size:=by
   have:=MF.mp hu0
   simpa using this.1
  refine wpAny_pyNext_enum_itemD (Draws.list hh n a (zP p z2) its.toArray) z1 ⟨z2,p⟩ hlt (LF 1 0 rfl) (by
   simp only[MH,NP,or_false,not_or]
   exact⟨LF 1 0 rfl,Ak p z1⟩) λu h' tk hu q1 q2 q3 q4 q5=>?_
  have eu:u0=u:=by
   have hu:its.toArray[i]? =some u:=hu
   rw[List.getElem?_toArray,hu0] at hu
   exact Option.some.inj hu
  subst eu
  refine⟨_,rfl,wpAny_letOwnedTupleGo_enum (s:={s with heap:=h',toks:=tk + 1}) q1 λh2 r1 r2=>?_⟩
  have r2:∀c,c≠n + 1->h2.get? c=h'.get? c:=r2.2
  have lz:n + 1 < s.heap.objs.size:=MJ z1
  have hT:H s.heap.objs.size=none:=I.hok.fresh (MA _)
  have I1:Inv X pins σ (upd H s.heap.objs.size (.tup [.int i,x])) {s with heap:=s.heap.push {cls:=.type "tuple",data:=.seq #[.int i tk,u0]},toks:=s.toks}:=
   I.laid (λb o e=>MD _ e) (MA _) ⟨by show 2<=sizeLine;rw[Nc];omega,[.int i tk,u0],.cons ⟨tk,rfl⟩ (.cons ru0 .nil),ux.new _ _⟩
  have hf':∀c∈Dj n,kF X pins (upd H s.heap.objs.size (.tup [.int i,x])) c:=λc hc=>⟨by
   rw[ay (λz=>?_)]
   ·exact (hf c hc).1
   ·subst z
    simp only[Dj,MH,NP,or_false] at hc
    omega,(hf c hc).2⟩
  have I2:Inv X pins σ (upd H s.heap.objs.size (.tup [.int i,x])) {s with heap:=h2,toks:=tk + 1}:=by
   refine I1.turnedL (ch:=Dj n) (λc o hc e=>?_) hf'
   have e:(s.heap.push {cls:=.type "tuple",data:=.seq #[.int i tk,u0]}).get? c=some o:=e
   simp only[Dj,MH,NP,or_false,not_or] at hc
   rw[r2 c hc.1]
   by_cases z:c=s.heap.objs.size
   ·subst z
    rw[MO _ rfl] at e
    rw[<-e];exact q3
   ·refine q5 c o hc.1 hc.2 ?_
    rw[Heap.get?_push_ne _ _ _ z] at e
    exact e
  refine⟨.ref s.heap.objs.size,_,I2,rfl,⟨x,_,hT,λxs' h'=>?_,rfl,rfl⟩,⟨⟨u0,r1⟩,q2.1.at λo e=>(r2 _ (LF 0 1 rfl)).trans e⟩,λc hc=>(hf' c hc).1⟩
  rw[I.list_inj h' ha];exact hx
 done:=by
  intro X hP hw hK hc i pins s σ H E I hf st hg
  subst hP hw hK
  obtain⟨xs,ha,hl⟩:=hg
  obtain⟨its,rv,p,hz⟩:=I.list ha
  obtain⟨⟨old,z1⟩,z2⟩:=st
  have hh:X.A.in1.handled=none:=I.ok.hd hc
  have l1:=rv.length
  refine wpAny_pyNext_enum_endD (EM hh i (xs:=its.toArray) (by simp;omega)) z1 ⟨rfl,z2,p.isList⟩ λh' q=>⟨rfl,?_⟩
  refine I.turnedL (t':=s.toks) (ch:=Dj n) (λc o hc e=>?_) hf
  simp only[Dj,MH,NP,or_false,not_or] at hc
  exact q c o hc.2 e
 self:=λ_ _ _ _ _ st h=>by
  obtain⟨⟨old,z1⟩,_⟩:=st
  exact wpAny_pyIter_enum z1 h
def LH (K:Frag)(ta:TA):TI:=λσ H R=>ta σ H λvs H2=>∃a xs,vs= [.ref a]/\gN K H2 a xs/\R (Gy K a) H2
section
variable {X:Cx}
theorem HR {a:Expr}{ta:TA}{p pos pt:Pos}{elts:List Expr}{x1}(hg:Gl X "enumerate")(hm:X.mg "enumerate"=none)(ha:PA X [a] ta)(hs:starEach [a] X.env= [(false,eval a X.env)]:=by rfl) :
  PI X (.Tuple elts x1 pt) (.Call (.Name "enumerate" p) [a] [] pos) (LH X.K ta):=by
 intro pins s σ H R I h
 refine Call_ (nN I hg hm Ae (Ot (cD (ha pos pins s σ H _ I h) λus s1 ⟨vs,H1,I1,r1,q1⟩=>?_) hs rfl))
 obtain⟨a,xs,e,h1,q⟩:=q1
 subst e
 cases r1 with
 |cons r rr=>
  cases rr
  cases r
  obtain⟨its,rv,p1,hz⟩:=I1.list h1
  refine call_enumerate_list p1.isList λh' z1 z2 _ z3=>?_
  refine wpAny_pyIter_enum z1 ⟨_,Dj s1.heap.objs.size,_,_,H1,rfl,I1.kept (t':=s1.toks) z3,wV a s1.heap.objs.size,⟨⟨_,z1⟩,z2⟩,λc hc=>?_,q⟩
  have:s1.heap.objs.size<=c:=by
   simp only[Dj,MH,NP,or_false] at hc
   rcases hc with rfl |rfl <;> first |exact MA _ |exact Nat.le_add_right _ _
  exact I1.fpOk this (I1.hok.fresh this)
end
section
variable {X:Cx}{Γ:Fx}{E:XK}{e a b c:Expr}{f fa fb:VF D}{L La Lb:List Nat}{md ma mb:Md}{pos:Pos}
def Fi (fa:VF D):VF (List D):=λvs β=>(fa vs β).bnd λx β1=>match x with
 | .list ds=>.ok (j5 ds) β1
 |_=>.bad
def BY {K:Frag}{B:Option Addr}{G H1:Hp}{p:Addr}{xs:List V}{ds:List D}(hp:∀Gc H,ah G Gc->ah Gc H->gR B H1 H->gN K H p xs)(r:cj K G xs ds):Walk K B G H1 (j5 ds) (Gy K p):=λGc H i s1 s2 m=>by
 have hp':=hp Gc H s1 s2 m
 have l1:=r.len
 have lz:(j5 ds).length=ds.length:=by unfold j5;rw[List.length_mapIdx]
 refine⟨λhi=>⟨?_,λx H' y=>?_⟩,λhi=>⟨xs,hp',by omega⟩⟩
 ·have h1:i < xs.length:=by omega
  exact⟨xs,xs[i],hp',by simp[h1]⟩
 ·obtain⟨x,t,ht,hx,rfl,rfl⟩:=y
  obtain⟨d,ed,rd⟩:=r.at' (hx xs hp')
  have xn:=Ext.new s2 (o:=.tup [.int i,x]) ht
  refine⟨upd Gc t (.tup [.int i,x]),.tuple [.int i,d],xn,?_,.tup (.inl (.inl aA)) (.cons (.int i) (.cons (rd.mono (s1.trans xn.gg)) .nil))⟩
  unfold j5
  rw[List.getElem?_mapIdx,ed];rfl
theorem vN {p pt:Pos}{elts:List Expr}{x1}(hK:X.K=Γ.K)(hg:Gl X "enumerate")(hm:X.mg "enumerate"=none)(ha:SE X Γ E a fa La .v)(hs:starEach [a] X.env= [(false,eval a X.env)]:=by rfl)(hs':starEach [a] X.env=(false,eval a X.env) :: starEach [] X.env:=by rfl) :
  SI X Γ E (.Tuple elts x1 pt) (.Call (.Name "enumerate" p) [a] [] pos) (Fi fa) La .v:=by
 refine PI.post (HR hg hm (aQ ha bS hs') hs) ?_
 rintro σ H Q ⟨env,G,B,β,I,o⟩
 refine⟨env,G,B,β,I,o.bnd.imp λd1 β1 h x G1 H1 I1 s1 m1 vx=>?_⟩
 have vx:Rp Γ.K G1 x d1:=vx
 rw[hK]
 cases d1 with
 |list ds=>
  cases vx with
  | @lst p xs _ hq r=>exact⟨p,xs,rfl,.inl (Rd.mono (.inl hq) I1.sub),h _ G1 H1 I1 s1 m1 (BY (λGc H t1 t2 _=>.inl (Rd.mono (.inl hq) (t1.trans t2))) r)⟩
 |_=>exact h.elim
end
end L2
namespace L2
open PySem
section
variable {X:Cx}{Γ:Fx}{E:XK}{e a b c:Expr}{f fa fb fc:VF D}{L La Lb:List Nat}{md ma mb mc:Md}{pos:Pos}
def pS (F:List D->FR)(fa fb:VF D):VF D:=λvs β=>(fa vs β).bnd λd1 β1=>(fb vs β1).bnd λd2 β2=>match F [d1,d2] with
 | .ok d _=>if hW d=true then .ok d β2 else .bad
 | .exc c=>.exc c
 | .bad=>.bad
def BM {K:Frag}{G H:Hp}{a:Addr}{d:D}(h:Own K G H a d)(e:hW d=true):False:=by
 cases d <;> first |exact h | (simp[hW] at e)
theorem Ai {x:Str}{ps:List Str}{k:Nat}{F:List D->FR}{p:Pos}(hf:cn X.prog X.w X.K X.mg X.base Γ.ca x ps k F)(hr:dt k X.A)(hx:Passes (mO X.prog X.w) X E)(hK:X.K=Γ.K)(hg:Gl X x)(ha:SE X Γ E a fa La ma)(hb:SE X Γ E b fb Lb mb)(hdb:(x == ("__debug__":Str))=false:=by decide)
  (he:starEach [a,b] X.env=(false,eval a X.env) :: starEach [b] X.env:=by rfl) (he2:starEach [b] X.env=(false,eval b X.env) :: starEach [] X.env:=by rfl) (hpl:(backTo pos (starEach [b] X.env)).any (·.1)=false:=by rfl):SE X Γ E (.Call (.Name x p) [a,b] [] pos) (pS F fa fb) (La ++ Lb) .v:=by
 obtain⟨f,fd,hm,hk,hbd,hF⟩:=hf.ex
 refine PE.post' (jH (dvs:=[]) hF hr hg hm hk hbd .nil hx (aQ ha (aQ hb bS he2) he) hdb he hpl) λσ H Q ⟨env,G,B,β,I,o⟩=>?_
 refine⟨env,G,B,β,I,o.bnd.imp λd1 β1 h x G1 H1 I1 s1 m1 vx=>⟨aS La env,G1,B,β1,I1,?_⟩⟩
 rw[dc]
 refine h.bnd.imp λd2 β2 k y G2 H2 I2 s2 m2 vy=>?_
 have bx:=((vx.brw I.boxThere).mono s2 m2).rpH I2.sub
 have bv:=(vy.brw I1.boxThere).rpH I2.sub
 show BQ X.K Γ.ca ps.length F [x,y] H2 Q E
 rw[<-bZ] at I2
 cases q:F [d1,d2] with
 |bad=>rw[q] at k;exact k.elim
 |exc c=>
  rw[q] at k
  refine⟨H2,[d1,d2],ah.refl _,hf.len _ (by rw[q];simp),by rw[hK];exact .cons bx (.cons bv .nil),?_⟩
  rw[q]
  exact λH' hh=>k H' λb o e n=>(I2.keep b o e n).step hh
 |ok d fr=>
  rw[q] at k
  refine⟨H2,[d1,d2],ah.refl _,hf.len _ (by rw[q];simp),by rw[hK];exact .cons bx (.cons bv .nil),?_⟩
  rw[q]
  intro v G' H' hh g1 g2 hn fv
  dsimp only at k
  by_cases hfl:hW d=true
  case neg=>rw[MG hfl] at k;exact k.elim
  rw[My hfl] at k
  have sG:ah G2 H':=I2.sub.trans hh
  refine k v (eY G2 H') H' (I2.ext (Ext.tups I2.sub hh)) (s1.trans (s2.trans jX)) (m1.trans (m2.trans (hh.mov B))) ?_
  cases fr with
  |true=>obtain⟨a,_,_,_,w⟩:=fv;exact (BM w hfl).elim
  |false=>
   have fv:Rp X.K G' v d:=fv
   rw[hK] at fv
   exact Rp.flat sG g2 fv hfl
end
end L2
section
namespace PyProof.Rows
open PySem PySem.Spec PySem.Calls
section
variable {prog:Program}{w:World}{A:Around}{E:Value->Shared->Prop}{s:Shared}
def p9 {l:Addr}{vs:List Value}{Q:List Value->Shared->Prop}(hl:s.heap.IsTuple l vs.toArray)
  (h:Q vs {s with heap:=(s.heap.push (seqObj "list" #[] 0)).update s.heap.objs.size (Obj.mapSeq (· ++ vs.toArray))}) (hsz:vs.length<=sizeLine) :
  wpAny (model prog w) A (collect (.ref l)) Q E s:=by
 obtain⟨o,ho,hc,n,hd⟩:=id hl
 unfold collect
 refine Mz (wpAny_runValue (OD entry_proto_collect' ?_))
 show wpAny _ _ (do again (.builtin "list.__iadd__" ⟨[<-newList [],.ref l],[]⟩)) _ _ s
 refine Mz (Ow (M1 ⟨Code.quiet_builtin _ (by decide +kernel),OD entry_list_iadd' ?_⟩))
 show wpAny _ _ (Builtin.List.listExtendWith (.ref s.heap.objs.size) (.ref l) (.ref s.heap.objs.size)) _ _ {s with heap:=s.heap.push (seqObj "list" #[] 0)}
 unfold Builtin.List.listExtendWith
 have ho':(s.heap.push (seqObj "list" #[] 0)).get? l=some o:=MD _ ho
 refine Mz (wpAny_typeOf (T:="tuple") ⟨o,ho',hc⟩ ?_)
 have ht:(Value.type "tuple" == Value.type "tuple")=true:=by rfl
 rw[My (by rw[ht,Bool.or_true])]
 refine Mz (listItems_at ho' hd ?_)
 refine Mz (listItems_at (xs:=#[]) (n:=0) (MO _ rfl) rfl ?_)
 rw[MG (by simp)]
 refine Mz (listUpdate_at (xs:=#[]) (n:=0) (MO _ rfl) rfl ?_ (Nl _) (by show (#[] ++ vs.toArray).size<=sizeLine + 1;simp only[Array.size_append,MK,List.length_nil];omega))
 refine M1 ?_
 show wpAny (model prog w) A (do
   let o <-load s.heap.objs.size
   match o.data with
   | .seq xs _=>pure xs.toList
   |_=>unsupported "internal:collect") Q E {s with heap:=(s.heap.push (seqObj "list" #[] 0)).update s.heap.objs.size (Obj.mapSeq (· ++ vs.toArray))}
 refine Mz (wpAny_load (OB (MO _ rfl) _) ?_)
 show wpAny _ _ (pure ((#[]:Array Value) ++ vs.toArray).toList) Q E _
 rw[show ((#[]:Array Value) ++ vs.toArray).toList=vs by simp]
 exact M1 h
def t8 {l:Addr}{vs:List Value}{ns:List Int}{Q:Value->Shared->Prop}(hl:s.heap.IsTuple l vs.toArray)(hI:IntsAre vs ns)(h64:vs.length < 64)
  (h:∀(out:Array Value) (ns':List Int),IntsAre out.toList ns'->ns'.Perm ns->ns'.Pairwise (· <= ·)->Q (.ref (s.heap.objs.size + 1)) {s with heap:=sortedAll s.heap vs out}) :
  wpAny (model prog w) A (call (.builtin "sorted") [.ref l]) Q E s:=by
 refine Calls.call_function_entry kind_sorted plain_sorted entry_sorted (args_sorted1 _) ?_
 unfold Builtin.«sorted»
 refine Mz (m:=checkCount "sorted" 1 1 _) (M1 ?_)
 refine Mz (p9 hl ?_ (by rw[Nc];omega))
 refine Mz (Ow ?_)
 have hsz:((s.heap.push (seqObj "list" #[] 0)).update s.heap.objs.size (Obj.mapSeq (· ++ vs.toArray))).objs.size=s.heap.objs.size + 1:=by
  rw[Heap.size_update,size_push']
 have hoL:(((s.heap.push (seqObj "list" #[] 0)).update s.heap.objs.size (Obj.mapSeq (· ++ vs.toArray))).push (seqObj "list" vs.toArray 0)).get? (s.heap.objs.size + 1)=some (seqObj "list" vs.toArray 0):=by
  rw[<-hsz];exact MO _ rfl
 show wpAny _ _ _ _ _ {s with heap:=((s.heap.push (seqObj "list" #[] 0)).update s.heap.objs.size (Obj.mapSeq (· ++ vs.toArray))).push (seqObj "list" vs.toArray 0)}
 rw[hsz]
 refine Mz (NY (wpAny_call_entry slot_list_sort ⟨_,hoL,rfl⟩ entry_list_sort (list_sort_tree hoL hI h64 λout ns' a1 a2 a3=>⟨_,rfl,?_⟩) (args_list_sort _)))
 exact M1 ⟨_,rfl,h out ns' a1 a2 a3⟩
end
end PyProof.Rows
namespace L2
open PySem PyProof.Rows
section
variable {X:Cx}{K:Frag}{pins:List V}{σ:St}{H:Hp}{s:Shared}{E:XK}
def Cu (K:Frag):List V->Hp->VK->Prop:=λxs H Q=>∃a ns,xs= [.ref a]/\(gN K H a (ns.map V.int)\/gM K H a (ns.map V.int))/\ns.length < 64/\∀l,H l=none->Q (.ref l) (upd H l (.lst ((sortI ns).map V.int)))
def xN:dZ X (.builtin "sorted") (Cu X.K):=by
 intro pins s σ H xs us Q I r h
 obtain⟨a,ns,rfl,hq,hl,q⟩:=h
 rcases hq with hq |hq
 ·exact wU pins s σ H [.ref a] us Q I r ⟨a,ns,rfl,hq,hl,q⟩
 obtain⟨u,rfl,rx⟩:=vals1 r
 cases rx
 obtain⟨its,rv,pl,hz⟩:=I.tuple hq
 have hil:its.length=ns.length:=by rw[<-rv.length,MC]
 refine t8 pl (intsAre_of rv) (by omega) λout ns' a1 a2 a3=>?_
 obtain rfl:=mP a2 a3
 obtain⟨c,he⟩:=sortedAll_at s.heap its out
 have hf:H (s.heap.objs.size + 1)=none:=I.hok.fresh (Oz _)
 have hz':((sortI ns).map V.int).length<=sizeLine:=by
  have:=a2.length_eq
  rw[MC,Nc];omega
 have I2:Inv X pins σ (upd H (s.heap.objs.size + 1) (.lst ((sortI ns).map V.int))) {s with heap:=sortedAll s.heap its out,toks:=s.toks}:=I.laid (t':=s.toks) (λ_ _=>sortedAll_old) (Oz _) (show cJ X.prog X.w _ _ _ (.lst ((sortI ns).map V.int)) from⟨hz',out.toList,c,uz a1,he⟩)
 exact⟨.ref _,_,I2,rfl,q _ hf⟩
def p4 (d:D):Option D:=match mB d with
 |some ds=>(match kU ds with
  |some ns=>if ns.length < 64 then some (.list ((sortI ns).map int)) else none
  |none=>none)
 |_=>none
theorem Ea:AV K (λx=>Cu K [x]) p4 .w:=by
 intro B G H x dx d Q s hB bx e k
 unfold p4 at e
 cases q:mB dx with
 |none=>rw[q] at e;cases e
 |some ds=>
  rw[q] at e
  dsimp only at e
  cases q2:kU ds with
  |none=>rw[q2] at e;cases e
  |some ns=>
   rw[q2] at e
   dsimp only at e
   split at e
   ·rename_i hz
    cases e
    obtain⟨p,xs,rfl,hq,r⟩:=bx.seq q s
    rw[qB q2] at r
    have r:=r.intsB
    subst r
    refine⟨p,ns,rfl,hq,hz,λl hl=>?_⟩
    have hh:ah H (upd H l (.lst ((sortI ns).map V.int))):=ah.new hl
    refine k _ _ _ (Ext.tups s hh) ⟨l,rfl,hl,?_,_,aA,cj.ints _⟩
    unfold eY
    rw[s.free hl,aA]
    exact MG λy=>y
   ·cases e
end
end L2
end
namespace RM
open PySem L2
def nD:SF:=(bo (gK (f1 (gv 0) (fV "int")) (f1 (f1 (gv 0) (fV "bool")) Am)))
def iB:SF:=(bo (f2 (gv 0) (f2 (cst (.int 1)) (gv 1) G7) Ko))
def gr (aE:List D->FR):SF:=(aH (kY 1 (([] ++ []) ++ ([] ++ [])) (f2 (cY (aa (cst (.int 0)) ag)) (f2 (gv 0) (cst (.int 0)) a8) uL))
 (aH (hJ (.two 2 3) ([] ++ []) (bK (f2 (gv 0) (cst (.int 1)) a8))
 (vZ 1 (([] ++ []) ++ ([2] ++ [])) [] (aw aE (aa (f2 (gv 1) (gv 3) a8) (aa (gv 2) ag))) (gv 3)))
 (sR 1)))
def gu (aE:List D->FR):SF:=(aH (kY 2 [] (cY ag))
 (aH (hJ (.two 3 4) [0] (Fi (gv 0))
 (iL ((([1] ++ ([3] ++ [])) ++ []) ++ (([] ++ []) ++ [])) (yA (cC (f2 (aw aE (aa (gv 1) (aa (gv 3) ag))) (gv 1) (cR true))) (cC (f2 (f2 (gv 1) (gv 4) C3) (gv 4) (cR false))))
 (mH 2 [3] (gv 3))
 jU))
 (sR 2)))
def jI (c8 aE:List D->FR):SF:=(aH (kY 2 [] (cY ag))
 (aH (bQ 3 [] (cst (.int 0)))
 (aH (gW ([] ++ []) (cC (f2 (f1 (gv 2) cy) (f1 (gv 0) cy) sX))
 (aH (bQ 4 ([0] ++ ([3] ++ [])) (aw c8 (aa (gv 0) (aa (gv 3) ag))))
 (aH (bQ 5 ([] ++ []) (aL 1 [1] (.nm 0) (bK (gv 4)) (cC (f2 (gv 0) (gv 1) (lQ true))) (gv 0)))
 (aH (mH 2 (([] ++ []) ++ []) (f2 (f2 (gv 5) (gv 4) ka) (cst (.int 0)) a8))
 (bQ 3 ([3] ++ (([] ++ []) ++ [])) (aw aE (aa (gv 3) (aa (f2 (gv 2) (f1 (cst (.int 1)) o8) a8) ag))))))) 1000)
 (bo (f1 (gv 2) n8)))))
end RM
namespace L2
open PySem PyProof.Rows
section
variable {X:Cx}{K:Frag}{E:XK}
variable {Γ:Fx}{e a b c:Expr}{f fa fb fc:VF D}{L La Lb:List Nat}{md ma mb mc:Md}{pos:Pos}
def SI.vb {tg:Expr}{fi:VF (List D)}(h:SI X Γ E tg e fi L .v):SI X Γ E tg e fi L .b:=PI.post h λσ H Q ⟨env,G,B,β,I,o⟩=>⟨env,G,B,β,I,o.imp λds β' k J G' H' a b c w=>k J G' H' a b c w.any⟩
end
section
variable {X:Cx}{K:Frag}{σ:St}{G H:Hp}{s:Shared}{E:XK}
def kP (p:Int×Int):List Key:=[.inl p.1,.inl p.2]
def Hd {p q:Int×Int}:kP p=kP q↔p=q:=by
 unfold kP
 constructor
 ·intro h
  simp at h
  exact Prod.ext h.1 h.2
 ·intro h;rw[h]
abbrev KP (K:Frag)(G:Hp):List (List Key×V)->List ((Int×Int)×D)->Prop:=Paired λa b=>a.1=kP b.1/\Rp K G a.2 b.2
theorem KP.any {kvs:List (List Key×V)}{acc:List ((Int×Int)×D)}(h:KP K G kvs acc)(p:Int×Int):(kvs.any λkv=>decide (kv.1=kP p))=acc.any λkv=>decide (kv.1=p):=by
 induction h with
 |nil=>rfl
 |cons h _ ih=>
  rw[NZ,NZ,ih,h.1]
  congr 1
  rw[NI];exact Hd
end
section
variable {X:Cx}{K:Frag}{σ:St}{G H:Hp}{s:Shared}{E:XK}
theorem sP {α β:Type}{F:α->β->Prop}:∀{l₁:List α} {l₂:List β},Paired F l₁ l₂->∀{i:Nat} {a:α} {b:β},l₁[i]? =some a->l₂[i]? =some b->F a b
 |_,_,.nil,_,_,_,e,_=>by simp at e
 |_,_,.cons h t,0,_,_,e,e'=>by simp at e e';subst e e';exact h
 |_,_,.cons h t,i + 1,_,_,e,e'=>sP t (i:=i) (by simpa using e) (by simpa using e')
theorem mQ (bt:Nat->Nat->Bool):∀k,argBest bt k<=k
 | 0=>MA _
 |k + 1=>by
  unfold argBest
  split
  ·exact MA _
  ·exact Nat.le_succ_of_le (mQ bt k)
end
end L2
namespace L2
open PySem PySem.Spec PyProof.Rows
def GD:SF:=λ_ _=>.bad
section
variable {X:Cx}{Γ:Fx}{E:XK}
def CG {st:Stmt}:SS X Γ E st GD:=λpins s σ H D I ⟨env,G,B,β,J,o⟩=>o.elim
end
end L2
namespace L2.ST
open PySem PySem.SetTable
def Mp (k:Int):Prop:=0<=k/\k < 8
structure Jz (f:Int->Int)(led:Bool)(h:Heap)(S:Addr)(es:List (Int×Value)):Prop where
 ex:∃o ep t,h.get? S=some o/\o.ExactSet/\o.data=.set es.toArray ep t/\Tab t (es.map (·.1))/\t.led=led
 el:∀e,e∈es->∃k tk,e=(f k,.int k tk)/\Mp k
 nd:(es.map (·.1)).Nodup
def Jz.len {f:Int->Int}{led:Bool}{h:Heap}{S:Addr}{es:List (Int×Value)}(P:Jz f led h S es):es.length<=8:=by
 have:=fw (m:=(List.range 8).map λ(k:Nat)=>f (k:Int)) P.nd λx hx=>by
  obtain⟨e,he,rfl⟩:=MZ.mp hx
  obtain⟨k,tk,rfl,h0,h8⟩:=P.el e he
  exact MZ.mpr ⟨k.toNat,Nb.mpr (by omega),by show f ((k.toNat:Nat):Int)=f k;rw[Int.toNat_of_nonneg h0]⟩
 simpa using this
end L2.ST
namespace L2
open PySem PySem.Spec PyProof.Rows
section
variable {Γ:Fx}{B:Option Addr}{G H G3 H3:Hp}{σ σ3:St}{env env' env3:En}{β β3:Int}
def SR.shape (I:SR Γ B G H σ env β)(J:SR Γ B G3 H3 σ3 env3 β3)(hbr:∀j,Γ.br j=false)(s:ah G G3)(m:gR B H H3)(hl:σ3.length=env'.length)(he:∀(j:Nat) (t:Sl),env'[j]? =some t->t=Sl.no\/(env[j]? =some t/\σ3[j]? =σ[j]?)):SR Γ B G H3 σ3 env' β3:=by
 refine⟨s.trans J.sub,I.old,I.new,J.keep,J.pin,I.fix,λb e=>⟨(J.box b e).1,(I.box b e).2⟩,hl,λj t q=>?_,λj k c d1 d2 q1 q2 q3 q4=>?_⟩
 ·rcases he j t q with rfl | ⟨e,es⟩
  ·trivial
  ·have w:=I.slot j t e
   rw[es]
   cases t with
   |no=>trivial
   |fz d=>exact w
   |ow d=>
    obtain⟨c,w1,w2,w3,w4,w5⟩:=w
    exact⟨c,w1,w2,w3,w4,w5.mono (ah.refl _) λo q=>m.1 c o q w4⟩
   |bx=>exact w
   |br d=>obtain⟨b1,_⟩:=w;rw[hbr j] at b1;cases b1
 ·rcases he j _ q1 with z | ⟨e1,s1⟩
  ·cases z
  ·rcases he k _ q2 with z | ⟨e2,s2⟩
   ·cases z
   ·rw[s1] at q3;rw[s2] at q4
    exact I.sep j k c d1 d2 e1 e2 q3 q4
structure DI (Γ:Fx)(d0:D)(σ:St)(H:Hp)(β:Int)(cs:List (List Int))(B:Option Addr)(G:Hp)(a:Addr)(bs:List Addr):Prop where
 sr:SR Γ B G H σ [.bx,.fz d0,.no,.no,.no] β
 fa:σ[2]? =some (some (.ref a))
 ha:H a=some (.lst (bs.map V.ref))
 len:bs.length=cs.length
 hb:∀(k:Nat) (b:Addr),bs[k]? =some b->H b=some (.lst ((cs.getD k []).map V.int))
 h0:∀b,b∈a :: bs->Γ.H0 b=none/\G b=none/\B≠some b
 nd:(a :: bs).Nodup
end
section
variable {Γ:Fx}{B:Option Addr}{G H G2 H2:Hp}{σ:St}{β:Int}{d0:D}{cs:List (List Int)}{a:Addr}{bs:List Addr}
def DI.ext (I:DI Γ d0 σ H β cs B G a bs)(hbr:∀j,Γ.br j=false)(x:Ext G H G2 H2):DI Γ d0 σ H2 β cs B G a bs:=by
 refine⟨I.sr.shape (I.sr.ext x) hbr x.gg (x.hh.mov B) I.sr.len λj t e=>.inr ⟨e,rfl⟩,I.fa,x.hh _ _ I.ha,I.len,λk b e=>x.hh _ _ (I.hb k b e),I.h0,I.nd⟩
end
end L2
namespace L2.HM
open PySem PySem.W PySem.Spec PyProof.Rows
structure KV (V:List (Addr×Obj)->Shared->Prop)(l:Addr)(n:Nat)(Pv:Nat->Value->Prop):Prop where
 get:∀own z,V own z->∀p,p∈own->z.heap.get? p.1=some p.2
 put:∀own own' z h' tk,V own z->(∀b o,b∉own.map (·.1)->z.heap.get? b=some o->h'.get? b=some o)->own'.map (·.1)=own.map (·.1)->(∀p,p∈own'->h'.get? p.1=some p.2/\∀v,p.2.data≠.cell v)->V own' {z with heap:=h',toks:=tk}
 drop:∀own z h' tk,V own z->(∀b o,b∉own.map (·.1)->z.heap.get? b=some o->h'.get? b=some o)->V [] {z with heap:=h',toks:=tk}
 lst:∀own z,V own z->∃its:List Value,z.heap.IsList l its.toArray/\its.length=n/\∀i v,its[i]? =some v->Pv i v
 add:∀z oI oS,oI.isFreed=false->oS.isFreed=false->(∀v,oI.data≠.cell v)->(∀v,oS.data≠.cell v)->V [] z->V [((z.heap.push oI).objs.size,oS),(z.heap.objs.size,oI)] {z with heap:=(z.heap.push oI).push oS}
section
variable {prog:Program}{w:World}{A:Around}{E:Value->Shared->Prop}{l q I S:Addr}{n:Nat}{Pv:Nat->Value->Prop}{R:Result->Shared->Prop}{V:List (Addr×Obj)->Shared->Prop}
theorem zD (k:KV V l n Pv)(kf:Nat->Int)(hh:A.handled=none)(hlI:l≠I)(hSI:S≠I)
  (turn:∀(i:Nat) (v:Value) own z,Pv i v->V own z->wpAny (model prog w) A.in1 (call (.ref q) [v]) (λx z'=>∃t,x=.int (kf i) t/\V own z') (λ_ _=>False) z)
  (hR:∀i v z',Pv i v->(∀j,j < n->kf i<=kf j/\(j < i->kf i < kf j))->V [] z'->R (.ok (.ret v)) z') :
  ∀(r j i:Nat) (z:Shared) (vb:Value) (tb:Tok) (c:Nat) (oI:Obj),n - (j + 1)=r->j + 1<=n->
   V [(S,seqObj "list" #[vb,.int (kf i) tb] c),(I,oI)] z->z.heap.IsListIter I l (j + 1)->Pv i vb->i<=j->(∀j',j'<=j->kf i<=kf j'/\(j' < i->kf i < kf j'))->
   codeAny (model prog w) A (.builtin "min.loop" ⟨[.ref I,.ref q,.ref S],[]⟩) R z:=by
 have hname:(toString "min" ++ toString ".loop":String)="min.loop":=by decide
 intro r
 induction r with
 |zero=>
  intro j i z vb tb c oI hr hj hV hit hvb hij hbest
  have hin:j + 1=n:=by omega
  obtain⟨its,hls,hln,hpv⟩:=k.lst _ _ hV
  have W:=Walks.list (prog:=prog) (w:=w) (A:=A.in1) hh I l hlI its.toArray
  have hsz:its.toArray.size=n:=by rw[MK];exact hln
  have nS:=k.get _ _ hV (S,seqObj "list" #[vb,.int (kf i) tb] c) (.head _)
  refine OD PySem.F.entry_min_loop ?_
  rw[Around.under_plainId NN _]
  show wpAny _ A.in1 (seqItems? (.ref S) >>= _) _ _ _
  refine Mz (wpAny_seqItems nS rfl ?_)
  show wpAny _ A.in1 (tryCatch (pyNext (.ref I)) _ >>= _) _ _ _
  refine Mz (Oq (W.done _ _ _ ⟨by rw[hsz,<-hin];exact hit,hls⟩ λh' tk' hk'=>?_))
  have hS':=hk' S _ (by simpa using hSI) nS
  show wpAny _ A.in1 (updateSeq S (λ_=>#[]) >>= _) _ _ _
  refine Mz ?_
  refine wpAny_updateSeq hS' rfl (Mz (wpAny_letGo (M1 ?_)))
  refine hR i vb _ hvb (λj' hj'=>hbest j' (by omega)) (k.drop _ z (h'.update S (Obj.mapSeq λ_=>(#[]:Array Value))) tk' hV λb o hb e=>?_)
  have hb1:b≠S:=λz=>hb (by rw[z];exact .head _)
  have hb2:b≠I:=λz=>hb (by rw[z];exact .tail _ (.head _))
  exact (Nz _ _ (Ne.symm hb1)).trans (hk' b o (by simpa using hb2) e)
 |succ r ih=>
  intro j i z vb tb c oI hr hj hV hit hvb hij hbest
  have hlt:j + 1 < n:=by omega
  obtain⟨its,hls,hln,hpv⟩:=k.lst _ _ hV
  have W:=Walks.list (prog:=prog) (w:=w) (A:=A.in1) hh I l hlI its.toArray
  have hsz:its.toArray.size=n:=by rw[MK];exact hln
  have nS:=k.get _ _ hV (S,seqObj "list" #[vb,.int (kf i) tb] c) (.head _)
  refine OD PySem.F.entry_min_loop ?_
  rw[Around.under_plainId NN _]
  show wpAny _ A.in1 (seqItems? (.ref S) >>= _) _ _ _
  refine Mz (wpAny_seqItems nS rfl ?_)
  show wpAny _ A.in1 (tryCatch (pyNext (.ref I)) _ >>= _) _ _ _
  refine Mz (Oq (W.item (j + 1) _ _ _ (by rw[hsz];exact hlt) ⟨hit,hls⟩ λv h' tk' hP hst' hk'=>?_))
  have hv:Pv (j + 1) v:=hpv _ _ (by simpa using hP)
  obtain⟨oI',hoI',hoc,hod⟩:=id hst'.1
  have V1:V [(S,seqObj "list" #[vb,.int (kf i) tb] c),(I,oI')] {z with heap:=h',toks:=tk'}:=k.put _ _ _ _ tk' hV (λb o hb e=>hk' b o (by simpa using λz=>hb (by rw[z];exact .tail _ (.head _))) e) rfl λp hp=>by
   rcases MH.mp hp with rfl |hp
   ·exact⟨hk' S _ (by simpa using hSI) nS,λv z=>by cases z⟩
   ·rw[M4.mp hp];exact⟨hoI',λv z=>by rw[hod] at z;cases z⟩
  show wpAny _ A.in1 (tryCatch (holding [v] (call (.ref q) [v])) _ >>= _) _ _ _
  refine Mz (Oq (NY (NF (turn (j + 1) v _ _ hv V1) (λx s'' he=>?_) λ_ _ hF=>hF.elim)))
  obtain⟨t2,rfl,V2⟩:=he
  have nS2:=k.get _ _ V2 (S,seqObj "list" #[vb,.int (kf i) tb] c) (.head _)
  have nI2:=k.get _ _ V2 (I,oI') (.tail _ (.head _))
  have hit2:s''.heap.IsListIter I l (j + 1 + 1):=⟨oI',nI2,hoc,hod⟩
  show wpAny _ A.in1 (tryCatch (holding [v,.int (kf (j + 1)) t2] (richCompare .Lt (.int (kf (j + 1)) t2) (.int (kf i) tb) >>= _)) _ >>= _) _ _ _
  refine Mz (Oq (NY (Mz (CmpOf.ints_lt (prog:=prog) (w:=w) (A:=A.in1) (P:=λi v=>∃t,v=.int (kf i) t) kf (λi v h=>h) (j + 1) i _ _ _ _ _ ⟨t2,rfl⟩ ⟨tb,rfl⟩ ?_))))
  refine Mz (NY (Ny ?_))
  refine Mz (wpAny_letGo (M1 ?_))
  by_cases hb':kf (j + 1) < kf i
  ·have s1:=Heap.SameBut.update s''.heap S (Obj.mapSeq λ_=>#[v,.int (kf (j + 1)) t2])
   obtain⟨c2,hc2⟩:∃c2,(s''.heap.update S (Obj.mapSeq λ_=>#[v,.int (kf (j + 1)) t2])).get? S=some (seqObj "list" #[v,.int (kf (j + 1)) t2] c2):=⟨_,OB nS2 λ_=>#[v,.int (kf (j + 1)) t2]⟩
   simp only[hb',decide_true,NJ]
   refine Mz ?_
   refine wpAny_updateSeq nS2 rfl (Mz (wpAny_letGo ?_))
   rw[hname]
   refine M1 ⟨plainId_quiet NN _,ih (j + 1) (j + 1) _ v t2 c2 oI' (by omega) hlt (k.put _ _ _ _ s''.toks V2 (λb o hb e=>?_) rfl λp hp=>?_) ⟨oI',(s1.2 I hSI.symm).trans nI2,hoc,hod⟩ hv (MA _) λj' hj'=>?_⟩
   ·exact (s1.2 b λz=>hb (by rw[z];exact .head _)).trans e
   ·rcases MH.mp hp with rfl |hp
    ·exact⟨hc2,λv z=>by cases z⟩
    ·rw[M4.mp hp]
     exact⟨(s1.2 I hSI.symm).trans nI2,λv z=>by rw[hod] at z;cases z⟩
   ·by_cases e:j'=j + 1
    ·subst e
     exact⟨by omega,λ_=>by omega⟩
    ·have hb1:=hbest j' (by omega)
     have hb2:=hb1.1
     exact⟨by omega,λ_=>by omega⟩
  ·simp only[hb',decide_false,NA,NS]
   refine Mz (wpAny_letGo ?_)
   rw[hname]
   refine M1 ⟨plainId_quiet NN _,ih (j + 1) i _ vb tb c oI' (by omega) hlt V2 hit2 hvb (by omega) λj' hj'=>?_⟩
   by_cases e:j'=j + 1
   ·subst e
    exact⟨by omega,λ_=>by omega⟩
   ·exact hbest j' (by omega)
def Lv {s:Shared}{Q:Value->Shared->Prop}(k:KV V l n Pv)(kf:Nat->Int)(hh:A.handled=none)(hV:V [] s)(hne:0 < n)
  (turn:∀(i:Nat) (v:Value) own z,Pv i v->V own z->wpAny (model prog w) A.in1 (call (.ref q) [v]) (λx z'=>∃t,x=.int (kf i) t/\V own z') (λ_ _=>False) z)
  (hQ:∀i v z',Pv i v->(∀j,j < n->kf i<=kf j/\(j < i->kf i < kf j))->V [] z'->Q v z') :
  wpAny (model prog w) A (call (.builtin "min") [.ref l] [(Str.ofString "key",.ref q)]) Q E s:=by
 have hname:(toString "min" ++ toString ".loop":String)="min.loop":=by decide
 obtain⟨its0,hls,_,_⟩:=k.lst _ _ hV
 obtain⟨ol,hol,_⟩:=id hls
 have hll:l < s.heap.objs.size:=MJ hol
 refine kmk_tree PySem.F.kind_min PySem.F.plain_min PySem.F.entry_min (kmk_min_key _ _) ?_
 show wpAny _ A.in1 (Builtin.Builtins.bindParams "min" ["key","default"] 0 ⟨[],[(Str.ofString "key",.ref q)]⟩ >>= _) _ _ s
 refine Mz (wpAny_of_eq (show Builtin.Builtins.bindParams "min" ["key","default"] 0 ⟨[],[(Str.ofString "key",.ref q)]⟩=pure [some (.ref q),none] from rfl) ?_)
 refine Mz (M1 ?_)
 refine Mz (Oc hls ?_)
 refine Mz (Ow ?_ (Nl _))
 rw[hname]
 have hS:(s.heap.push {cls:=.type "list_iterator",data:=.fields #[.ref l,.int 0 0]}).objs.size=s.heap.objs.size + 1:=Oo ..
 have hlI:l≠s.heap.objs.size:=Ni hll
 have hSI:(s.heap.push {cls:=.type "list_iterator",data:=.fields #[.ref l,.int 0 0]}).objs.size≠s.heap.objs.size:=by rw[hS];exact Nat.ne_of_gt (Nat.lt_succ_self _)
 have V0:=k.add s {cls:=.type "list_iterator",data:=.fields #[.ref l,.int 0 0]} (seqObj "list" #[] 0) rfl rfl (λv z=>by cases z) (λv z=>by cases z) hV
 generalize hSd:(s.heap.push {cls:=.type "list_iterator",data:=.fields #[.ref l,.int 0 0]}).objs.size=S at hSI V0
 refine M1 ⟨plainId_quiet NN _,?_⟩
 have gS:=k.get _ _ V0 (S,seqObj "list" #[] 0) (.head _)
 have gI:=k.get _ _ V0 (s.heap.objs.size,_) (.tail _ (.head _))
 obtain⟨its,hls0,hln,hpv⟩:=k.lst _ _ V0
 have W:=Walks.list (prog:=prog) (w:=w) (A:=A.in1) hh s.heap.objs.size l hlI its.toArray
 have hsz:its.toArray.size=n:=by rw[MK];exact hln
 refine OD PySem.F.entry_min_loop ?_
 rw[Around.under_plainId NN _]
 show wpAny _ A.in1 (seqItems? (.ref _) >>= _) _ _ _
 refine Mz (wpAny_seqItems gS rfl ?_)
 show wpAny _ A.in1 (tryCatch (pyNext (.ref s.heap.objs.size)) _ >>= _) _ _ _
 refine Mz (Oq (W.item 0 _ _ _ (by rw[hsz];exact hne) ⟨⟨_,gI,rfl,rfl⟩,hls0⟩ λv h' tk' hP hst' hk'=>?_))
 have hv:Pv 0 v:=hpv _ _ (by simpa using hP)
 obtain⟨oI',hoI',hoc,hod⟩:=id hst'.1
 have V1:=k.put _ [(S,seqObj "list" #[] 0),(s.heap.objs.size,oI')] _ h' tk' V0 (λb o hb e=>hk' b o (by simpa using λz=>hb (by rw[z];exact .tail _ (.head _))) e) rfl λp hp=>by
  rcases MH.mp hp with rfl |hp
  ·exact⟨hk' S _ (by simpa using hSI) gS,λv z=>by cases z⟩
  ·rw[M4.mp hp];exact⟨hoI',λv z=>by rw[hod] at z;cases z⟩
 show wpAny _ A.in1 (tryCatch (holding [v] (call (.ref q) [v])) _ >>= _) _ _ _
 refine Mz (Oq (NY (NF (turn 0 v _ _ hv V1) (λx s'' he=>?_) λ_ _ hF=>hF.elim)))
 obtain⟨t2,rfl,V2⟩:=he
 have nS2:=k.get _ _ V2 (S,seqObj "list" #[] 0) (.head _)
 have nI2:=k.get _ _ V2 (s.heap.objs.size,oI') (.tail _ (.head _))
 have s1:=Heap.SameBut.update s''.heap S (Obj.mapSeq λ_=>#[v,.int (kf 0) t2])
 obtain⟨c2,hc2⟩:∃c2,(s''.heap.update S (Obj.mapSeq λ_=>#[v,.int (kf 0) t2])).get? S=some (seqObj "list" #[v,.int (kf 0) t2] c2):=⟨_,OB nS2 λ_=>#[v,.int (kf 0) t2]⟩
 show wpAny _ A.in1 (updateSeq S (λ_=>#[v,.int (kf 0) t2]) >>= _) _ _ _
 refine Mz ?_
 refine wpAny_updateSeq nS2 rfl ?_
 rw[hname]
 refine M1 ⟨plainId_quiet NN _,zD k kf hh hlI hSI turn hQ _ 0 0 _ v t2 c2 oI' rfl hne (k.put _ _ _ _ s''.toks V2 (λb o hb e=>(s1.2 b λz=>hb (by rw[z];exact .head _)).trans e) rfl λp hp=>?_) ⟨oI',(s1.2 _ hSI.symm).trans nI2,hoc,hod⟩ hv (MA _) λj' hj'=>?_⟩
 ·rcases MH.mp hp with rfl |hp
  ·exact⟨hc2,λv z=>by cases z⟩
  ·rw[M4.mp hp]
   exact⟨(s1.2 _ hSI.symm).trans nI2,λv z=>by rw[hod] at z;cases z⟩
 ·have e:j'=0:=by omega
  subst e
  exact⟨by omega,λh=>absurd h (M8 _)⟩
end
end L2.HM
namespace L2
open PySem PySem.Spec PyProof.Rows
section
variable {X:Cx}{pins:List (Addr×Obj)}{σ:St}{H:Hp}{l:Addr}{xs:List V}
def Lu (X:Cx)(pins:List (Addr×Obj))(σ:St)(H:Hp)(own:List (Addr×Obj))(z:Shared):Prop:=∃H',Inv X (pins ++ own) σ H' z/\ah H H'/\∀p,p∈own->kF X pins H' p.1
def Hv (hl:H l=some (.lst xs)):HM.KV (Lu X pins σ H) l xs.length (λi v=>∃x,xs[i]? =some x/\RelV x v):=by
 refine⟨λown z ⟨H',I,s,f⟩ p hp=>(I.pin p (M5 _ (M5 _ hp))).1,?_,?_,?_,?_⟩
 ·rintro own own' z h' tk ⟨H',I,s,f⟩ kk eo hg
  have hf:∀b,b∈own.map (·.1)->kF X pins H' b:=λb hb=>by
   obtain⟨p,hp,rfl⟩:=MZ.mp hb
   exact f p hp
  have It:=I.unpinned.turnedL (t':=tk) (ch:=own.map (·.1)) kk hf
  have hf':∀p,p∈own'->kF X pins H' p.1:=λp hp=>hf p.1 (by rw[<-eo];exact MZ.mpr ⟨p,hp,rfl⟩)
  refine⟨H',It.pins_of λp hp=>?_,s,hf'⟩
  rcases MU.mp hp with hp |hp
  ·exact It.pin p (M5 _ hp)
  ·obtain⟨a1,a2,a3,_⟩:=hf' p hp
   exact⟨(hg p hp).1,a1,a2,a3,(hg p hp).2⟩
 ·rintro own z h' tk ⟨H',I,s,f⟩ kk
  have hf:∀b,b∈own.map (·.1)->kF X pins H' b:=λb hb=>by
   obtain⟨p,hp,rfl⟩:=MZ.mp hb
   exact f p hp
  exact⟨H',by rw[NU];exact I.unpinned.turnedL (t':=tk) (ch:=own.map (·.1)) kk hf,s,λp hp=>by cases hp⟩
 ·rintro own z ⟨H',I,s,f⟩
  obtain⟨its,rv,pl,hz⟩:=I.list (.inl (.inl (s _ _ hl)))
  refine⟨its,pl.isList,rv.length.symm,λi v e=>?_⟩
  have hi:i < xs.length:=by rw[rv.length];exact (MF.mp e).1
  exact⟨xs[i],Mw hi,sP rv (Mw hi) e⟩
 ·rintro z oI oS n1 n2 h1 h2 ⟨H',I,s,f⟩
  rw[NU] at I
  have kp:∀b u,z.heap.get? b=some u->((z.heap.push oI).push oS).get? b=some u:=λb u e=>MD _ (MD _ e)
  have I2:Inv X pins σ H' {z with heap:=(z.heap.push oI).push oS}:=I.kept (t':=z.toks) kp
  have sz:(z.heap.push oI).objs.size=z.heap.objs.size + 1:=Oo ..
  have fI:kF X pins H' z.heap.objs.size:=I.fpOk (MA _) (I.hok.fresh (MA _))
  have fS:kF X pins H' (z.heap.push oI).objs.size:=I.fpOk (by rw[sz];exact Oz _) (I.hok.fresh (by rw[sz];exact Oz _))
  have hf:∀p,p∈ [((z.heap.push oI).objs.size,oS),(z.heap.objs.size,oI)]->kF X pins H' p.1:=λp hp=>by
   rcases MH.mp hp with rfl |hp
   ·exact fS
   ·rw[M4.mp hp];exact fI
  refine⟨H',I2.pins_of λp hp=>?_,s,hf⟩
  rcases MU.mp hp with hp |hp
  ·exact I2.pin p (M5 _ hp)
  ·obtain⟨a1,a2,a3,_⟩:=hf p hp
   rcases MH.mp hp with rfl |hp
   ·exact⟨MO _ n2,a1,a2,a3,h2⟩
   ·rw[M4.mp hp] at a1 a2 a3 ⊢
    exact⟨MD _ (MO _ n1),a1,a2,a3,h1⟩
def BV {s:Shared}{q:Addr}{Q:VK}{E:Value->Shared->Prop}(I:Inv X pins σ H s)(hh:X.A.handled=none)(hl:H l=some (.lst xs))(hne:0 < xs.length)(kf:Nat->Int)
  (turn:∀(i:Nat) (x:V) (v:Value) own z H',xs[i]? =some x->RelV x v->Inv X (pins ++ own) σ H' z->ah H H'->
   wpAny (model X.prog X.w) X.A.in1 (call (.ref q) [v]) (λu z'=>∃t H'',u=.int (kf i) t/\Inv X (pins ++ own) σ H'' z'/\ah H' H'') (λ_ _=>False) z)
  (hQ:∀i x H',xs[i]? =some x->(∀j,j < xs.length->kf i<=kf j/\(j < i->kf i < kf j))->ah H H'->Q x H') :
  wpAny (model X.prog X.w) X.A (call (.builtin "min") [.ref l] [(Str.ofString "key",.ref q)]) (EP X pins σ Q) E s:=by
 refine HM.Lv (Hv (X:=X) (pins:=pins) (σ:=σ) hl) kf hh ⟨H,by rw[NU];exact I,ah.refl _,λp hp=>by cases hp⟩ hne ?_ ?_
 ·rintro i v own z ⟨x,ex,rx⟩ ⟨H',I',s',f'⟩
  refine NF (turn i x v own z H' ex rx I' s') (λu z' ⟨t,H'',e,I'',s''⟩=>⟨t,e,H'',I'',s'.trans s'',λp hp=>?_⟩) λ_ _ h=>h
  obtain⟨a1,a2⟩:=f' p hp
  exact⟨(I''.pin p (M5 _ (M5 _ hp))).2.1,a2⟩
 ·rintro i v z' ⟨x,ex,rx⟩ hb ⟨H',I',s',_⟩
  rw[NU] at I'
  exact⟨x,H',I',rx,hQ i x H' ex hb s'⟩
end
abbrev DC (X:Cx)(qual:Str)(scope:Scope)(C q:Addr)(cdv:Value):Env:=PySem.W.envX qual scope C q cdv (gQ X.env.cells scope.names [])
def xj (X:Cx)(A:Around)(NB:List Str)(qual:Str)(scope:Scope)(q:Addr)(cdv:Value)(s3:Shared)(H3:Hp)(pn:List (Addr×Obj)):Cx:=
 {X with A:=A.deeper (DC X qual scope s3.heap.objs.size q cdv),N:=NB,s₀:=s3,H₀:=H3,env:=DC X qual scope s3.heap.objs.size q cdv,outer:=X.stack,stack:=DC X qual scope s3.heap.objs.size q cdv :: X.stack,ex:=[],fn:=λ_=>false,pn:=pn,xe:=λ_ _=>False}
section
variable {X:Cx}{NB:List Str}{ixs:List Nat}{scope:Scope}{pins:List (Addr×Obj)}{σ:St}{H:Hp}{s:Shared}
def zY {A:Around}{qual:Str}{q:Addr}{cdv:Value}{y:Str}{v:V}{u:Value}(S:bY X NB 1 ixs scope)(nc:∀y∈scope.names,y.2≠.cell)(I:Inv X pins σ H s)(hA:A.frames=some X.stack)(hh:A.handled=none)(hy:NB[0]? =some y)(hloc:scope.names.lookup y=some .local)(rv:RelV v u){h1:Heap}{tk:Nat}
  (hn:h1.Ns s.heap.objs.size (λx=>[(y,u)].reverse.lookup x)) (hk:∀b o,s.heap.get? b=some o->h1.get? b=some o) :
  Inv (xj X A NB qual scope q cdv s H (X.pn ++ pins)) [] (some v :: ixs.map λi=>(σ[i]?).join) H {s with heap:=h1,toks:=tk}:=by
 have stk:=I.stack
 have frees:∀{x:Str},(x,NameKind.free)∈scope.names->∃c,X.env.cells.lookup x=some c:=λ{x} hx=>I.ok.has x (S.frees _ hx rfl)
 have clE:∀{x:Str} {c:Addr},(gQ X.env.cells scope.names []).lookup x=some c->(x,NameKind.free)∈scope.names/\X.env.cells.lookup x=some c:=λ{x c} h=>by
  rcases lU h with⟨a,b⟩ |a
  ·obtain⟨c',e⟩:=frees a
   rw[e] at b
   exact⟨a,by rw[e,b];rfl⟩
  ·simp at a
 have isFree:∀{x:Str},(scope.names.lookup x=some .cell\/scope.names.lookup x=some .free)->(x,NameKind.free)∈scope.names:=λ{x} h=>by
  rcases h with h |h
  ·exact absurd rfl (nc _ (Nu h))
  ·exact Nu h
 have neN:∀b o,s.heap.get? b=some o->b≠s.heap.objs.size:=λb o e=>Ni (MJ e)
 have noA:∀b:Addr,b∉(xj X A NB qual scope q cdv s H (X.pn ++ pins)).ex:=λb z=>absurd (show b∈([]:List Addr) from z) (by simp)
 have ok:(xj X A NB qual scope q cdv s H (X.pn ++ pins)).Ok:=
  ⟨I.ok.mod,S.kind,rfl,rfl,MA _,λx y c h1 h2=>I.ok.inj x y c (clE h1).2 (clE h2).2,λx hx=>⟨_,l5 (.inl (isFree hx))⟩,λx c h=>(by cases h),λ_=>hh,Around.frames_deeper hA,.inr ⟨rfl,rfl⟩,λb hb=>absurd hb (noA b),I.bs,Nx I.ok.bsz I.sz,λb _ _=>noA b,λb hb=>absurd hb (noA b),stk,I.stkFree⟩
 refine⟨ok,rfl,I.bare,Un.kept hk,⟨_,hn,λi x v' h1' h2' h3'=>?_⟩,λx c h=>?_,I.hok.fresh (MA _),λx c h=>I.freeC x c (clE h).2,λp hp=>?_,I.hok.kept hk,?_⟩
 ·have h1':NB[i]? =some x:=h1'
  cases i with
  |zero=>
   rw[hy] at h1'
   cases h1'
   have h2':some v=some v':=by simpa using h2'
   cases h2'
   exact⟨u,rv,.inl ⟨hloc,by simp⟩⟩
  |succ k=>
   have hk':k < ixs.length:=by
    have:=(MF.mp h1').1
    rw[S.len] at this;omega
   obtain⟨e1,e2⟩:=S.at' k hk'
   rw[Nat.add_comm 1 k] at e1 e2
   have hm:=e2 x h1'
   rw[List.getElem?_cons_succ,ML,Mw hk'] at h2'
   simp only[Option.map_some,Option.some.injEq] at h2'
   have hix:ixs.getD k 0=ixs[k]:=by simp[hk']
   have hσ:σ[ixs[k]]? =some (some v'):=by
    cases e:σ[ixs[k]]? with
    |none=>rw[e] at h2';cases h2'
    |some o=>rw[e] at h2';simp at h2';rw[h2']
   rw[e1,hix] at h1'
   have hkind:=S.frees _ hm rfl
   have hvis:y9 X.env.scope x:=hkind.elim (λz=>.inr (.inl z)) (λz=>.inr (.inr z))
   obtain⟨m,hm',hl⟩:=I.loc
   obtain⟨u',r,look⟩:=hl _ x v' h1' hσ hvis
   refine⟨u',r,.inr ⟨.inr (S.names _ hm),?_⟩⟩
   rcases look with⟨z,_⟩ | ⟨_,c,hc,hcell⟩
   ·rcases hkind with q |q
    ·rw[q] at z;cases z
    ·rw[q] at z;cases z
   ·refine⟨c,?_,?_⟩
    ·have:=l5 (cells:=X.env.cells) (cs:=[]) (.inl hm)
     rw[hc] at this
     exact this
    ·obtain⟨o,ho,hd⟩:=hcell
     exact⟨o,hk _ _ ho,hd⟩
 ·obtain⟨v,o,ho,hd⟩:=I.cell x c (clE h).2
  exact⟨v,o,hk _ _ ho,hd⟩
 ·have hp':p∈X.pn ++ pins:=by
   rcases MU.mp hp with z |z
   ·exact z
   ·cases z
  obtain⟨e,n,ne,nf,d⟩:=I.pin p hp'
  refine⟨hk _ _ e,n,neN _ _ e,λz=>?_,d⟩
  rcases MH.mp (I.stkSub _ z) with q |q
  ·exact ne q
  ·exact nf q
 ·show (some v :: ixs.map λi=>(σ[i]?).join).length=NB.length
  rw[S.len];simp;omega
end
def zN {prog:Program}{w:World}{A:Around}{R:Result->Shared->Prop}{s:Shared}{a:Addr}{args:Args}{o:Obj}{fd:FuncData}{body:Expr}{qn:Str}(hroom:A.depth < recursionLimit)
  (ho:s.heap.get? a=some o)
  (hd':o.data=.func fd) (hco:fd.scope.isCoroutine=false) (hgen:fd.scope.isGenerator=false) (hbody:fd.body=.expr body) (hcd:s.heap.CodeRec fd.code qn)
  (h:wpAny (model prog w) A.in1 (bindArgs fd args) (λbinds s₁=>
   wpAny (model prog w) A.in1 (newFunctionEnv fd.scope fd.globals fd.closure binds (qn ++ ".<locals>.") (some a) fd.code none fd.builtins)
    (λenv s₂=>s₂.heap.NoLimit/\codeAny (model prog w) A (.expr body env) R s₂) (λe s'=>R (.error e) s') s₁) (λe s'=>R (.error e) s') s) :
  codeAny (model prog w) A (.call (.ref a) args) R s:=by
 refine codeAny_of_tree ?_
 show wpAny _ A.in1 (callAny (.ref a) args) _ _ s
 simp only[callAny]
 refine Mz (wpAny_load ho ?_)
 obtain⟨c,oc,vs,tq,hc,hoc,hdc,hq⟩:=hcd
 simp only[hd',callFunction,hco,hgen,hbody,hc]
 rw[hc] at h
 refine Mz (m:=field (.ref c) 1) (wpAny_field hoc hdc hq (Mz (M1 ?_)))
 exact Mz (NF h (λbinds s₁ h₁=>Mz (NF h₁ (λenv s₂ h₂=>Mz (wpAny_enterFrame h₂.1 hroom
  (M1 (And.intro rfl h₂.2)))) λ_ _ h'=>h')) λ_ _ h'=>h')
section
variable {X:Cx}{NB:List Str}{ixs:List Nat}{scope:Scope}{pins:List (Addr×Obj)}{σ:St}{H:Hp}{s:Shared}
def A9 {A:Around}{name qual:Str}{params:Arguments}{body:Expr}{pm ctv:Value}{q c':Addr}{y:Str}{v:V}{u:Value}{te:TE}{Q:VK}{qn:Str}
  (S:bY X NB 1 ixs scope) (nc:∀y∈scope.names,y.2≠.cell) (hco:scope.isCoroutine=false) (hgen:scope.isGenerator=false) (I:Inv X pins σ H s) (hA:A.frames=some X.stack) (hh:A.handled=none) (hd:A.depth < recursionLimit) (hy:NB[0]? =some y) (hloc:scope.names.lookup y=some .local) (rv:RelV v u)
  (ho:s.heap.get? q=some (PySem.W.kla_obj name qual params body scope (gQ X.env.cells scope.names []) pm c' ctv)) (hcd:s.heap.CodeRec (.ref c') qn)
  (hb:bindArgs (PySem.W.kla_fn name qual params body scope (gQ X.env.cells scope.names []) pm (.ref c') ctv) ⟨[u],[]⟩=pure [(y,u)])
  (he:PE (xj X A NB qn scope q (.ref c') s H (X.pn ++ pins)) body te) (h:te (some v :: ixs.map λi=>(σ[i]?).join) H Q) :
  wpAny (model X.prog X.w) A (call (.ref q) [u]) (EP X pins σ Q) (λ_ _=>False) s:=by
 refine wpAny_call ?_
 refine zN hd ho rfl hco hgen rfl hcd ?_
 rw[hb]
 refine M1 (wpAny_newFunctionEnv nc (λx hx=>by rw[M4] at hx;rw[hx];exact hloc) (λh1 hn hsb=>?_) S.kind)
 have hk:∀b o,s.heap.get? b=some o->h1.get? b=some o:=λb o e=>hsb.extBut b o (Ni (MJ e)) (MD _ e)
 have lim:s.heap.NoLimit:=I.ok.mod.nolimit.keeps λb o e=>I.bk b o e
 refine⟨lim.keeps hk,?_⟩
 show codeAny _ _ (.expr body (DC X qn scope s.heap.objs.size q (.ref c'))) _ _
 refine PySem.W.kla_codeExpr ?_
 have I':=zY (qual:=qn) (q:=q) (cdv:=.ref c') (tk:=s.toks + [(y,u)].length) S nc I hA hh hy hloc rv hn hk
 refine NF (he [] _ _ H Q I' h) (λu' s' ⟨x,H',I2,rx,qx⟩=>?_) λe s' hx=>hx.elim
 exact I.after ⟨x,H',I2.os,I2.bare,I2.base,I2.hok,rx,qx⟩
end
def JK (X:Cx)(kr:St->V->V->Hp->VK->Prop):Prop:=∀(pins:List (Addr×Obj)) (s:Shared) (σ:St) (H:Hp) (q:Addr) (x:V) (u:Value) (Q:VK),Inv X pins σ H s->RelV x u->kr σ (.ref q) x H Q->wpAny (model X.prog X.w) X.A.in1 (call (.ref q) [u]) (EP X pins σ Q) (λ_ _=>False) s
def IK (kr:St->V->V->Hp->VK->Prop)(ta tl:TE):TE:=λσ H Q=>ta σ H λx H1=>tl σ H1 λf H2=>∃(l q:Addr) (xs:List V) (kf:Nat->Int),x=.ref l/\f=.ref q/\H2 l=some (.lst xs)/\0 < xs.length/\
 (∀(i:Nat) (y:V) (H':Hp),xs[i]? =some y->ah H2 H'->kr σ (.ref q) y H' λw H''=>w=.int (kf i)/\ah H' H'')/\
 ∀(i:Nat) (y:V) (H':Hp),xs[i]? =some y->(∀j,j < xs.length->kf i<=kf j/\(j < i->kf i < kf j))->ah H2 H'->Q y H'
section
variable {X:Cx}{a lam:Expr}{ta tl:TE}{p pos kp:Pos}{kr:St->V->V->Hp->VK->Prop}
theorem Ab (hc:X.calm=true)(hg:Gl X "min")(hm:X.mg "min"=none)(hkr:JK X kr)(ha:PE X a ta)(hl:PE X lam tl)(hv:bootBuiltins "min"=some (.builtin "min"):=by decide +kernel)
  (he:starEach [a] X.env=(false,eval a X.env) :: starEach [] X.env:=by rfl):PE X (.Call (.Name "min" p) [a] [⟨some "key",lam,kp⟩] pos) (IK kr ta tl):=by
 intro pins s σ H Q I h
 refine OG (nN I hg hm hv ?_ (by decide))
 let K2:V->V->Hp->Prop:=λx f H2=>∃(l q:Addr) (xs:List V) (kf:Nat->Int),x=.ref l/\f=.ref q/\H2 l=some (.lst xs)/\0 < xs.length/\
  (∀(i:Nat) (y:V) (H':Hp),xs[i]? =some y->ah H2 H'->kr σ (.ref q) y H' λw H''=>w=.int (kf i)/\ah H' H'')/\
  ∀(i:Nat) (y:V) (H':Hp),xs[i]? =some y->(∀j,j < xs.length->kf i<=kf j/\(j < i->kf i < kf j))->ah H2 H'->Q y H'
 let QK:V->List V->Hp->Prop:=λx fs H2=>match fs with
  | [f]=>K2 x f H2
  |_=>False
 let QA:List V->Hp->Prop:=λvs H1=>match vs with
  | [x]=>yI tl D7 σ H1 (QK x)
  |_=>False
 have h':yI ta D7 σ H QA:=h
 refine callWith_kw (cD (aQ ha bS he pos pins s σ H QA I h') λus s1 ⟨vs,H1,I1,r1,q1⟩=>?_) (by rw[he];rfl) (by rw[he];rfl) rfl rfl
 match vs,r1,q1 with
 | [],_,q1=>exact q1.elim
 |_ :: _ :: _,_,q1=>exact q1.elim
 | [x],r1,q1=>
  refine cD (DF hl HB pos pins s1 σ H1 (QK x) I1 q1) λws s2 ⟨zs,H2,I2,rz,q2⟩=>?_
  match zs,rz,q2 with
  | [],_,q2=>exact q2.elim
  |_ :: _ :: _,_,q2=>exact q2.elim
  | [f],rz,q2=>
   obtain⟨l,q,xs,kf,rfl,rfl,hL,hne,hk,hQ⟩:=q2
   obtain⟨u,rfl,ru⟩:=vals1 r1
   obtain⟨uf,rfl,rf⟩:=vals1 rz
   cases ru
   cases rf
   show wpAny (model X.prog X.w) X.A (call (.builtin "min") [.ref l] [(Str.ofString "key",.ref q)]) (EP X pins σ Q) _ s2
   refine BV I2 (I2.ok.hd hc) hL hne kf (λi x v own z H' ex rx I' s'=>?_) λi x H' ex hb s'=>hQ i x H' ex hb s'
   refine NF (hkr (pins ++ own) z σ H' q x v _ I' rx (hk i x H' ex s')) (λu' z' ⟨w,H'',I'',rw',e,s''⟩=>?_) λ_ _ hF=>hF
   subst e
   obtain⟨t,rfl⟩:=rw'
   exact⟨t,H'',rfl,I'',s''⟩
end
section
variable {X:Cx}{NB:List Str}{ixs:List Nat}{scope:Scope}
def vp (X:Cx)(params:Arguments)(body:Expr)(scope:Scope)(q:Addr)(H:Hp):Prop:=∃(name qual:Str) (pm ctv:Value) (c':Addr) (oc:Obj),
 H q=some (.aS (PySem.W.kla_obj name qual params body scope (gQ X.env.cells scope.names []) pm c' ctv) (.own 0))/\H c'=some (.aS oc (.own 0))/\Eb oc
def vp.step {params:Arguments}{body:Expr}{q:Addr}{H H':Hp}(h:vp X params body scope q H)(s:ah H H'):vp X params body scope q H':=by
 obtain⟨name,qual,pm,ctv,c',oc,h1,h2,h3⟩:=h
 exact⟨name,qual,pm,ctv,c',oc,s _ _ h1,s _ _ h2,h3⟩
def Ms (X:Cx)(params:Arguments)(body:Expr)(scope:Scope)(ixs:List Nat)(te:TE):St->V->V->Hp->VK->Prop:=λσ f x H Q=>∃q,f=.ref q/\vp X params body scope q H/\te (some x :: ixs.map λi=>(σ[i]?).join) H Q
def Dx {params:Arguments}{body:Expr}{y:Str}{te:TE}(S:bY X NB 1 ixs scope)(nc:∀y∈scope.names,y.2≠.cell)(hco:scope.isCoroutine=false)(hgen:scope.isGenerator=false)(hc:X.calm=true)(hd:X.A.in1.depth < recursionLimit)(hy:NB[0]? =some y)(hloc:scope.names.lookup y=some .local)
  (hb:∀(name qual:Str) (pm ctv:Value) (c':Addr) (u:Value),bindArgs (PySem.W.kla_fn name qual params body scope (gQ X.env.cells scope.names []) pm (.ref c') ctv) ⟨[u],[]⟩=pure [(y,u)])
  (he:∀qn q c' s H pn,PE (xj X X.A.in1 NB qn scope q (.ref c') s H pn) body te):JK X (Ms X params body scope ixs te):=by
 rintro pins s σ H q x u Q I rx ⟨q',e,⟨name,qual,pm,ctv,c',oc,h1,h2,vs,qn,t,d1,d2⟩,h⟩
 cases e
 have g1:=(I.hok _ _ h1).1
 have g2:=(I.hok _ _ h2).1
 exact A9 S nc hco hgen I I.env0.in1.frames (I.ok.hd hc) hd hy hloc rx g1 ⟨c',oc,vs,t,rfl,g2,d1,d2⟩ (hb name qual pm ctv c' u) (he qn q c' s H _) h
end
def IH (X:Cx)(Tb:Hp->Prop)(params:Arguments)(body:Expr)(scope:Scope):TE:=λσ H Q=>Tb H/\∀q H',ah H H'->vp X params body scope q H'->Q (.ref q) H'
def ly (fb:VF D)(dr:D)(β:Int)(d:D):Option Int:=match fb [.da d,.da dr] β with
 | .ok (.int k) _=>some k
 |_=>none
def v5 (ks:List Int):Nat:=argBest (λi j=>decide (ks.getD i 0 < ks.getD j 0)) (ks.length - 1)
def zb (ir:Nat)(fa fb:VF D):VF D:=λvs β=>(fa vs β).bnd λx β1=>match x,dat vs[ir]? with
 | .list ds,some dr=>if 0 < ds.length/\ds.all (λd=>(ly fb dr β1 d).isSome)=true then R.of ds[v5 (ds.map λd=>(ly fb dr β1 d).getD 0)]? β1 else .bad
 |_,_=>.bad
def qE {ks:List Int}(h:0 < ks.length):v5 ks < ks.length/\∀i,i < ks.length->(∀j,j < ks.length->ks.getD i 0<=ks.getD j 0/\(j < i->ks.getD i 0 < ks.getD j 0))->i=v5 ks:=by
 have h1:=mQ (λi j=>decide (ks.getD i 0 < ks.getD j 0)) (ks.length - 1)
 refine⟨by unfold v5;omega,λi hi hb=>?_⟩
 have first:∀n:Nat,n < ks.length->∀j,j<=n->ks.getD (argBest (λi j=>decide (ks.getD i 0 < ks.getD j 0)) n) 0<=ks.getD j 0/\(j < argBest (λi j=>decide (ks.getD i 0 < ks.getD j 0)) n->ks.getD (argBest (λi j=>decide (ks.getD i 0 < ks.getD j 0)) n) 0 < ks.getD j 0):=by
  intro n
  induction n with
  |zero=>
   intro _ j hj
   have:j=0:=by omega
   subst this
   exact⟨Int.le_refl _,λz=>absurd z (M8 _)⟩
  |succ n ih=>
   intro hn j hj
   have ihn:=ih (by omega)
   have le:=mQ (λi j=>decide (ks.getD i 0 < ks.getD j 0)) n
   unfold argBest
   by_cases c:ks.getD (n + 1) 0 < ks.getD (argBest (λi j=>decide (ks.getD i 0 < ks.getD j 0)) n) 0
   ·rw[My (MB c)]
    by_cases e:j=n + 1
    ·subst e;exact⟨Int.le_refl _,λz=>absurd z (M8 _)⟩
    ·have:=(ihn j (by omega)).1
     exact⟨by omega,λ_=>by omega⟩
   ·rw[MG (by rw[MT];exact c)]
    by_cases e:j=n + 1
    ·subst e;exact⟨by omega,λz=>by omega⟩
    ·exact ihn j (by omega)
 have hB:=first (ks.length - 1) (by omega)
 show i=argBest _ (ks.length - 1)
 generalize argBest (λi j=>decide (ks.getD i 0 < ks.getD j 0)) (ks.length - 1)=b at hB h1
 have a1:=hB i (by omega)
 have a2:=hb b (by omega)
 rcases Nat.lt_trichotomy i b with z |z |z
 ·have:=a1.2 z;omega
 ·exact z
 ·have:=a2.2 z;omega
section
variable {X:Cx}{Γ:Fx}{E:XK}{a lam:Expr}{fa fb:VF D}{La Lb:List Nat}{ma mb:Md}{p pos kp:Pos}{NB:List Str}{scope:Scope}{params:Arguments}{body:Expr}{y:Str}{ir:Nat}{Tb:Hp->Prop}
theorem Ax (hc:X.calm=true)(hK:X.K=Γ.K)(hg:Gl X "min")(hm:X.mg "min"=none)(ha:SE X Γ E a fa La .v)(hl:PE X lam (IH X Tb params body scope))(hT:∀(B:Option Addr) (G H:Hp) σ env β,SR Γ B G H σ env β->Tb H)
  (S:bY X NB 1 [ir] scope) (nc:∀y∈scope.names,y.2≠.cell) (hco:scope.isCoroutine=false) (hgen:scope.isGenerator=false) (hd:X.A.in1.depth < recursionLimit) (hy:NB[0]? =some y) (hloc:scope.names.lookup y=some .local)
  (hb:∀(name qual:Str) (pm ctv:Value) (c':Addr) (u:Value),bindArgs (PySem.W.kla_fn name qual params body scope (gQ X.env.cells scope.names []) pm (.ref c') ctv) ⟨[u],[]⟩=pure [(y,u)])
  (he:∀H0 G0 qn q c' s H pn,SE (xj X X.A.in1 NB qn scope q (.ref c') s H pn) (Γ.ji H0 G0 [] (λ_=>false) none) E0 body fb Lb .v)
  (hst:starEach [a] X.env=(false,eval a X.env) :: starEach [] X.env:=by rfl):SE X Γ E (.Call (.Name "min" p) [a] [⟨some "key",lam,kp⟩] pos) (zb ir fa fb) La .v:=by
 let te:TE:=λσ H Q=>∃H0 G0,pT (Γ.ji H0 G0 [] (λ_=>false) none) E0 fb Lb .v σ H Q
 have hkr:=Dx (te:=te) S nc hco hgen hc hd hy hloc hb λqn q c' s H pn pins s' σ' H' Q I ⟨H0,G0,h⟩=>he H0 G0 qn q c' s H pn pins s' σ' H' Q I h
 refine PE.post' (Ab hc hg hm hkr ha hl (he:=hst)) λσ H Q ⟨env,G,B,β,I,o⟩=>?_
 refine⟨env,G,B,β,I,o.bnd.imp λd1 β1 h x G1 H1 I1 s1 m1 vx=>?_⟩
 refine⟨hT B G1 H1 σ _ β1 I1,λq H2 s2 hlam=>?_⟩
 cases d1 with
 |list ds=>
  cases edr:dat (vl env)[ir]? with
  |none=>rw[edr] at h;exact h.elim
  |some dr=>
  rw[edr] at h
  dsimp only at h
  by_cases hz:0 < ds.length/\ds.all (λd=>(ly fb dr β1 d).isSome)=true
  case neg=>rw[MG hz] at h;exact h.elim
  rw[My hz] at h
  obtain⟨d,ed,k⟩:=h.of
  have vx:Rp Γ.K G1 x (.list ds):=vx
  cases vx with
  | @lst l xs _ hq r=>
  have hl2:H2 l=some (.lst xs):=s2 _ _ (I1.sub _ _ hq)
  have hlen:=r.len
  refine⟨l,q,xs,λi=>(ds.map λd=>(ly fb dr β1 d).getD 0).getD i 0,rfl,rfl,hl2,by omega,λi y H' ey s'=>?_,λi y H' ey hbest s'=>?_⟩
  ·refine⟨q,rfl,hlam.step s',H',H',?_⟩
   obtain⟨di,edi,rdi⟩:=r.at' ey
   have sH:ah H1 H':=s2.trans s'
   have ry:Rp Γ.K H' y di:=rdi.mono (I1.sub.trans sH)
   have e1:(vl (aS La env))[ir]? =some (.da dr):=by rw[dc];exact join_some edr
   obtain⟨v,hv,rv⟩:∃v,σ[ir]? =some (some v)/\Rp Γ.K H' v dr:=by
    rcases BG e1 with z |z |z
    ·obtain⟨v,w1,w2⟩:=I1.slot ir _ z
     exact⟨v,w1,w2.mono (I1.sub.trans sH)⟩
    ·obtain⟨c,w1,w2,w3,w4,w5⟩:=I1.slot ir _ z
     exact⟨_,w1,(l6.rpH (B:=B) (.inr ⟨c,rfl,w4,w5⟩) I1.sub).mono sH⟩
    ·obtain⟨_,c,w1,w4,_,w5⟩:=I1.slot ir _ z
     exact⟨_,w1,(l6.rpH (B:=B) (.inr ⟨c,rfl,w4,w5⟩) I1.sub).mono sH⟩
   have J:SR (Γ.ji H' H' [] (λ_=>false) none) none H' H' (some y :: [ir].map λi=>(σ[i]?).join) [.fz di,.fz dr] β1:=by
    refine⟨ah.refl _,ah.refl _,λb _ h=>h,λb o e _=>Kt.of e,(λb hb=>by cases hb),λb e=>e,(λb e=>by cases e),rfl,λi t e=>?_,λi j c d1 d2 e=>?_⟩
    ·match i,e with
     | 0,e=>cases e;exact⟨y,rfl,ry⟩
     | 1,e=>cases e;exact⟨v,by simp[hv],rv⟩
     |i + 2,e=>simp at e
    ·match i,e with
     | 0,e=>cases e
     | 1,e=>cases e
     |i + 2,e=>simp at e
   refine⟨_,H',none,β1,J,?_⟩
   show Out _ _ (fb [.da di,.da dr] β1) _
   have hs:=MV.mp hz.2 di (MS edi)
   have ek:(ds.map λd=>(ly fb dr β1 d).getD 0).getD i 0=(ly fb dr β1 di).getD 0:=by
    rw[MQ,ML,edi];rfl
   cases ef:fb [.da di,.da dr] β1 with
   |exc c=>unfold ly at hs;rw[ef] at hs;cases hs
   |bad=>unfold ly at hs;rw[ef] at hs;cases hs
   |ok dk β'=>
    unfold ly at hs
    rw[ef] at hs
    cases dk with
    |int kk=>
     intro w G'' H'' J2 _ _ vo
     have vo:Rp Γ.K G'' w (.int kk):=vo
     cases vo
     have e2:ly fb dr β1 di=some kk:=by unfold ly;rw[ef]
     exact⟨by dsimp only;rw[ek,e2];rfl,λb o e=>J2.keep b o e (by intro z;cases z)⟩
    |_=>cases hs
  ·have hks:(ds.map λd=>(ly fb dr β1 d).getD 0).length=ds.length:=MC ..
   have hi:i < xs.length:=(MF.mp ey).1
   have ei:=(qE (ks:=ds.map λd=>(ly fb dr β1 d).getD 0) (by omega)).2 i (by omega) λj hj=>hbest j (by omega)
   rw[<-ei] at ed
   obtain⟨y',ey',ry⟩:=r.at ed
   rw[ey] at ey'
   cases ey'
   have sH:ah H1 H':=s2.trans s'
   exact k y G1 H' (I1.ext ⟨sH,ah.refl _,I1.sub.trans sH,λ_ _=>rfl⟩) s1 (m1.trans (sH.mov B)) ry
 |_=>exact h.elim
end
section
variable {X:Cx}{pins:List (Addr×Obj)}{σ:St}{H:Hp}{s:Shared}
def Inv.grow {P c':Addr}{ps more:Array Value}{oc:Obj}{h':Heap}{tk:Nat}(I:Inv X pins σ H s)(hP:H P=some (.tbl ps))(hx:Heap.ExtBut P s.heap h')(htb:h'.get? P=some (PySem.W.tabObj (ps ++ more)))(hge:s.heap.objs.size<=c')(hoc:h'.get? c'=some oc) :
  Inv X pins σ (upd (upd H P (.tbl (ps ++ more))) c' (.aS oc (.own 0))) {s with heap:=h',toks:=tk}:=by
 have lt:∀{b:Addr} {o:HO},H b=some o->b≠c':=λ{b o} e z=>by
  have:=I.hok.lt e
  rw[z] at this
  exact M8 _ (M7 this hge)
 have lts:∀{b:Addr} {o:Obj},s.heap.get? b=some o->b≠c':=λ{b o} e z=>by
  have:=MJ e
  rw[z] at this
  exact M8 _ (M7 this hge)
 have nP:∀{b:Addr},H b=none->b≠P:=λ{b} e z=>by rw[z,hP] at e;cases e
 have up:∀{b:Addr} {o:HO},H b=some o->b≠P->upd (upd H P (.tbl (ps ++ more))) c' (.aS oc (.own 0)) b=some o:=λ{b o} e n=>by rw[ay (lt e),ay n];exact e
 refine I.step (g':=s.gens) (d':=s.drawn) (t':=tk) (ch:=[]) (λ_ z=>nomatch z) (λb o _ _ _ e n=>hx b o (nP n) e) (λb o _ _ _ e n=>⟨o.slots,hx b o (nP n) e⟩) (λb o _ e n=>by rw[ay (lts e),ay (nP n)];exact n) (λb o _ e=>?_)
  (λb xs e=>up e λz=>by rw[z,hP] at e;cases e) (λb o u e=>up e λz=>by rw[z,hP] at e;cases e) (λb ps' e=>?_) (λm hn=>hn.extBut hx (nP I.free)) (λb u e=>?_) I.bare
 ·by_cases z:b=P
  ·rw[z];exact⟨_,htb⟩
  ·exact⟨o,hx b o z e⟩
 ·by_cases z:b=P
  ·subst z
   rw[hP] at e
   cases e
   exact⟨more,by rw[ay (lt hP),aA]⟩
  ·exact⟨#[],by rw[up e z];simp⟩
 ·by_cases zc:b=c'
  ·subst zc
   rw[aA] at e
   cases e
   exact⟨hoc,oc,hoc⟩
  ·rw[ay zc] at e
   by_cases z:b=P
   ·subst z
    rw[aA] at e
    cases e
    exact htb
   ·rw[ay z] at e
    refine (I.hok b u e).stay (λb' u' hb' q=>hx b' u' (λzz=>?_) q) (λb' q=>up q λzz=>by rw[zz,hP] at q;cases q) λb' xs q=>?_
    ·rcases hb' with rfl |hb'
     ·exact z zz
     ·rw[zz,hP] at hb';cases hb'
    ·rcases q with q | ⟨o,q⟩
     ·exact .inl (up q λzz=>by rw[zz,hP] at q;cases q)
     ·exact .inr ⟨o,up q λzz=>by rw[zz,hP] at q;cases q⟩
def ah.grow_tbl {P c':Addr}{ps:Array Value}{oc:Obj}{l k:Value}(hP:H P=some (.tbl ps))(hc:H c'=none)(hi:Eb oc)(hl:∃i t,l=.int i t)(hk:∃i t,k=.int i t):ah H (upd (upd H P (.tbl (ps ++ #[l,k,.ref c']))) c' (.aS oc (.own 0))):=by
 obtain⟨il,tl,rfl⟩:=hl
 obtain⟨ik,tk,rfl⟩:=hk
 intro b o e
 have nc:b≠c':=λz=>by rw[z,hc] at e;cases e
 have Pc:P≠c':=λz=>by rw[z,hc] at hP;cases hP
 by_cases z:b=P
 ·subst z
  rw[hP] at e
  cases e
  refine⟨#[.int il tl,.int ik tk,.ref c'],by rw[ay nc,aA],trivial,λc hcm=>?_⟩
  have:c=c':=by
   simp only[MH,NP,or_false] at hcm
   rcases hcm with z |z |z
   ·cases z
   ·cases z
   ·cases z;rfl
  subst this
  exact⟨oc,aA,hi⟩
 ·exact Kt.of (by rw[ay nc,ay z];exact e)
end
theorem CT:∀{l:List Value},Dg l->TriplesOk l
 | [],_=>trivial
 | .int _ _ :: .int _ _ :: .ref _ :: r,h=>CT (l:=r) h
theorem yu {pos:Pos}{cv:Value}:∀{l:List Value},Dg l->codeAmong pos l=some cv->∃c,cv=.ref c/\Value.ref c∈l
 | [],_,h=>by cases h
 | .int a b :: .int c d :: .ref e :: r,h,hc=>by
  unfold codeAmong at hc
  split at hc
  ·cases hc;exact⟨e,rfl,by simp⟩
  ·obtain⟨c,e1,e2⟩:=yu (l:=r) h hc
   exact⟨c,e1,by simp[e2]⟩
def BB (P:Addr)(H:Hp):Prop:=∃ps,H P=some (.tbl ps)/\Dg ps.toList/\∀c,Value.ref c∈ps.toList->∃o,H c=some (.aS o (.own 0))/\Eb o
section
variable {X:Cx}{NB:List Str}{own:Nat}{ixs:List Nat}{scope:Scope}{params:Arguments}{body:Expr}{pos:Pos}{c P:Addr}
theorem Gq (S:bY X NB own ixs scope)(hdef:defaultsOf params X.env=([],[]))(hcode:X.env.code=.ref c)(C:PySem.W.CodeHd X.base c P)(hb:X.base.BuiltinsAt X.mg P)(hgP:mainGlobals≠P):PE X (.Lambda params body scope pos) (IH X (BB P) params body scope):=by
 rintro pins s σ H Q I ⟨⟨ps,hP,htr,hrefs⟩,h⟩
 refine PySem.W.kla_eval hdef ?_
 have hcl:closureFor scope X.env=pure (gQ X.env.cells scope.names []):=mL λy hy e=>I.ok.has _ (S.frees y hy e)
 have hb':s.heap.BuiltinsAt X.mg P:=by
  obtain⟨bm,o,b1,b2,b3,b4,b5,b6⟩:=hb
  exact⟨bm,o,b1,b2,b3,b4,I.bk _ _ b5,b6⟩
 cases hca:codeAmong pos ps.toList with
 |none=>
  refine PySem.W.kla_makeFunction hcl I.ok.glob (I.mod.glob.keeps I.bk) hcode (C.keeps I.bk) (I.hok P _ hP) (CT htr) hca hgP hb' λc' ctv h' tk hx hge hlt hrec htb=>?_
  obtain⟨c2,oc,vs,t,e2,hoc,hd,hv⟩:=hrec
  cases e2
  have I1:=I.grow (tk:=tk) hP hx htb hge hoc
  have hc0:H c'=none:=I.hok.fresh hge
  have sm:=ah.grow_tbl (l:=rawInt pos.line) (k:=rawInt pos.col) hP hc0 (oc:=oc) ⟨vs,_,t,hd,hv⟩ ⟨_,_,rfl⟩ ⟨_,_,rfl⟩
  generalize hH1:upd (upd H P (.tbl (ps ++ #[rawInt pos.line,rawInt pos.col,.ref c']))) c' (.aS oc (.own 0))=H1 at I1 sm
  have ec:H1 c'=some (.aS oc (.own 0)):=by rw[<-hH1,aA]
  have ff:H1 h'.objs.size=none:=I1.hok.fresh (MA _)
  have I2:=I1.laid (a:=h'.objs.size) (o:=.aS (PySem.W.kla_obj "<lambda>" (X.env.qual ++ "<lambda>") params body scope (gQ X.env.cells scope.names []) ((X.mg "__name__").getD .none) c' ctv) (.own 0)) (t':=tk) (h':=h'.push (PySem.W.kla_obj "<lambda>" (X.env.qual ++ "<lambda>") params body scope (gQ X.env.cells scope.names []) ((X.mg "__name__").getD .none) c' ctv)) (λb u e=>MD _ e) (MA _) ⟨MO _ rfl,_,MO _ rfl⟩
  exact⟨.ref h'.objs.size,_,I2,rfl,h _ _ (sm.trans (ah.new ff)) ⟨_,_,_,_,c',oc,aA,by rw[ay (aJ ec ff)];exact ec,vs,_,t,hd,hv⟩⟩
 |some cv=>
  obtain⟨c',rfl,hm⟩:=yu htr hca
  obtain⟨oc,ec,hi⟩:=hrefs c' hm
  refine PySem.W.kla_makeFunctionHit hcl I.ok.glob (I.mod.glob.keeps I.bk) hcode (C.keeps I.bk) (I.hok P _ hP) (CT htr) hca hb' λctv h' tk hk hsz=>?_
  have I1:Inv X pins σ H {s with heap:=h',toks:=tk}:=I.kept (t':=tk) hk
  have ff:H h'.objs.size=none:=I1.hok.fresh (MA _)
  have I2:=I1.laid (a:=h'.objs.size) (o:=.aS (PySem.W.kla_obj "<lambda>" (X.env.qual ++ "<lambda>") params body scope (gQ X.env.cells scope.names []) ((X.mg "__name__").getD .none) c' ctv) (.own 0)) (t':=tk) (h':=h'.push (PySem.W.kla_obj "<lambda>" (X.env.qual ++ "<lambda>") params body scope (gQ X.env.cells scope.names []) ((X.mg "__name__").getD .none) c' ctv)) (λb u e=>MD _ e) (MA _) ⟨MO _ rfl,_,MO _ rfl⟩
  exact⟨.ref h'.objs.size,_,I2,rfl,h _ _ (ah.new ff) ⟨_,_,_,_,c',oc,aA,by rw[ay (aJ ec ff)];exact ec,hi⟩⟩
end
def BB.mono {P:Addr}{G G':Hp}(h:BB P G)(s:ah G G'):BB P G':=by
 obtain⟨ps,e,t,k⟩:=h
 obtain⟨m,e2,t2,k2⟩:=s P _ e
 refine⟨ps ++ m,e2,by rw[N3];exact t.app t2,λc hc=>?_⟩
 rw[N3,MU] at hc
 rcases hc with hc |hc
 ·obtain⟨o,eo,io⟩:=k c hc;exact⟨o,s c _ eo,io⟩
 ·exact k2 c hc
def spT (T:Addr)(K:Frag)(ca:Str->Addr)(n:Nat)(F:List D->FR):Sp:=λvs H Q E=>∃G ds,BB T G/\ah G H/\ds.length=n/\cj K G vs ds/\match F ds with
 | .ok d fr=>∀v G' H',ah H H'->ah G G'->ah G' H'->(∀b,Mx H b->G b=none->G' b=none)->FV K H G' H' fr d v->Q v H'
 | .exc c=>∀H',ah H H'->E (.ref (ca c)) none H'
 | .bad=>False
structure gL (T:Addr)(P:Program)(w:World)(K:Frag)(mg:Str->Option Value)(base:Heap)(ca:Str->Addr)(x:Str)(ps:List Str)(k:Nat)(F:List D->FR):Prop where
 ex:∃f fd,mg x=some (.ref f)/\PySem.W.keepIn K (.ref f)=true/\Binds K fd ps []/\e8 P w K mg base (mO P w) k f fd ps (spT T K ca ps.length F)
 len:∀ds,F ds≠.bad->ds.length=ps.length
section
variable {P:Program}{w:World}{K:Frag}{mg:Str->Option Value}{base:Heap}{ca:Str->Addr}{T:Addr}
def KD {x qual:Str}{st:Stmt}{f:Addr}{fd:FuncData}{N ps:List Str}{k:Nat}{sp:Sp}(F:AS K x qual st f fd)(S:aF N ps (ao st))(len:∀vs H Q E,sp vs H Q E->vs.length=ps.length)
  (hbody:∀(cdv:Value) (A:Around) (outer:List Env) (s:Shared) (H:Hp) (vs:List V) (Q:VK) (E:XK),fd.code=cdv->dt k (A.deeper (envOfC qual (ao st) s.heap.objs.size f cdv))->sp vs H Q E->
   ∃t,rB (o4 (mO P w) P w K mg base N qual (ao st) f cdv A outer s H E) (cU st) t/\t {nx:=λ_ H'=>Q .non H',rt:=Q} (start N vs) H):e8 P w K mg base (mO P w) (k + 1) f fd ps sp:=by
 obtain⟨oc,od,kV,doc,pm,an,cdv,ct,osl,rfl,lk,hcd⟩:=F.ex
 exact Bo lk hcd S len λA outer s H vs Q E hr hsp=>hbody cdv A outer s H vs Q E rfl hr hsp
def jf {x qual:Str}{st:Stmt}{f:Addr}{fd:FuncData}{N ps:List Str}{k:Nat}{m:SF}(F:AS K x qual st f fd)(S:aF N ps (ao st))
  (hbody:∀(cdv:Value) (A:Around) (outer:List Env) (s:Shared) (H G:Hp) (E:XK),fd.code=cdv->BB T G->dt k (A.deeper (envOfC qual (ao st) s.heap.objs.size f cdv))->Ca (o4 (mO P w) P w K mg base N qual (ao st) f cdv A outer s H E) (Fx.fn K H G ca) E (cU st) m) :
  e8 P w K mg base (mO P w) (k + 1) f fd ps (spT T K ca ps.length (aV N.length ps.length m)):=by
 have hpn:ps.length<=N.length:=by have:=congrArg List.length S.pre;rw[Np] at this;omega
 refine KD F S (λvs H Q E h=>?_) (λcdv A outer s H vs Q E hcd hr h=>?_)
 ·obtain⟨G,ds,_,sG,hl,r,_⟩:=h
  rw[r.len];exact hl
 ·obtain⟨G,ds,tG,sG,hl,r,h⟩:=h
  refine⟨_,hbody cdv A outer s H G E hcd tG hr,?_⟩
  have I:=SR.start (ca:=ca) (N:=N) sG r (by omega)
  refine⟨_,G,none,0,I,?_⟩
  unfold aV at h
  rw[My hl] at h
  have fin':∀{B G' H' σ env β},SR (Fx.fn K H G ca) B G' H' σ env β->ah H H':=λJ b o e=>J.keep b o e (λz=>by cases z)
  cases q:m (x9 N.length ds) 0 with
  |nx env β=>rw[q] at h;exact λB G' H' σ J s'=>h .non G' H' (fin' J) s' J.sub (λb h1 h2=>J.new b h1 h2) Rp.non
  |bk env β=>rw[q] at h;exact h.elim
  |ct env β=>rw[q] at h;exact h.elim
  |rt d fr β=>
   rw[q] at h
   refine λB G' H' σ env v J s' rv=>h v G' H' (fin' J) s' J.sub (λb h1 h2=>J.new b h1 h2) ?_
   cases fr with
   |true=>exact rv
   |false=>exact rv
  |exc c=>rw[q] at h;exact λH' kp=>h H' λb o e=>kp b o e (λz=>by cases z)
  |bad=>rw[q] at h;exact h.elim
def zH {f:Addr}{fd:FuncData}{ps:List Str}{k:Nat}:e8 P w K mg base (mO P w) k f fd ps (spT T K ca ps.length λ_=>.bad):=
 ⟨λvs H Q E h=>by obtain⟨_,_,_,_,_,_,h⟩:=h;exact h.elim,λA outer s H args us vs Q E _ _ _ _ h=>by obtain⟨_,_,_,_,_,_,h⟩:=h;exact h.elim⟩
def gL.imp {x:Str}{ps:List Str}{k:Nat}{F F':List D->FR}(h:gL T P w K mg base ca x ps k F)(i:∀ds,F' ds≠.bad->F ds=F' ds):gL T P w K mg base ca x ps k F':=by
 obtain⟨f,fd,a,b,c,d⟩:=h.ex
 refine⟨⟨f,fd,a,b,c,d.imp λvs H Q E q=>?_⟩,λds hn=>h.len ds (by rw[i ds hn];exact hn)⟩
 obtain⟨G,ds,t,s,hl,r,q⟩:=q
 refine⟨G,ds,t,s,hl,r,?_⟩
 by_cases hb:F' ds=.bad
 ·rw[hb] at q;exact q.elim
 ·rw[i ds hb];exact q
theorem vV {x:Str}{st:Stmt}{ps:List Str}{f:Addr}{fd:FuncData}{j:Nat}{step:(List D->FR)->List D->FR}(F:gO K mg x st ps f fd)
  (h:∀(k:Nat) (F':List D->FR),j<=k->gL T P w K mg base ca x ps k F'->gL T P w K mg base ca x ps (k + 2) (step F')):∀n,gL T P w K mg base ca x ps (j + 2 * n) (k7 step n)
 | 0=>⟨⟨f,fd,F.mg,F.F.kp,F.b,zH⟩,λds hn=>(hn rfl).elim⟩
 |n + 1=>h (j + 2 * n) _ (Nat.le_add_right _ _) (vV F h n)
end
section
variable {X:Cx}{Γ:Fx}{E:XK}{a:Expr}{es:List Expr}{fr:VF (List D)}{L:List Nat}{pos:Pos}{T:Addr}
theorem qt {F:List D->FR}{ps:List Str}{Q:VK}{B:Option Addr}{G H:Hp}{σ:St}{env:En}{β:Int}(hT:BB T Γ.G0)(I:SR Γ B G H σ env β)(hK:X.K=Γ.K){wv:Bool}
  (h:Out Γ E (if wv=true then oJ F fr (vl env) β else aw F fr (vl env) β) λd β'=>∀v G' H',SR Γ B G' H' σ (aS L env) β'->ah G G'->gR B H H'->VO Γ.K B H G' H' (if wv=true then .w else .v) d v->Q v H') (hl:∀ds,F ds≠.bad->ds.length=ps.length) :
  aT Γ E fr L σ H λvs H1=>spT T X.K Γ.ca ps.length F vs H1 Q E:=by
 refine⟨env,G,B,β,I,?_⟩
 have h:Out Γ E (fr (vl env) β) λds β1=>Out Γ E (match F ds with
   | .ok d true=>.ok d β1
   | .ok d false=>if wv=true then .bad else .ok d β1
   | .exc c=>.exc c
   | .bad=>.bad) λd β'=>∀v G' H',SR Γ B G' H' σ (aS L env) β'->ah G G'->gR B H H'->VO Γ.K B H G' H' (if wv=true then .w else .v) d v->Q v H':=by
  cases wv with
  |true=>
   simp only[NJ] at h ⊢
   refine h.bnd.imp λds β1 h=>?_
   cases q:F ds with
   |ok d b=>rw[q] at h;cases b <;> exact h
   |exc c=>rw[q] at h;exact h
   |bad=>rw[q] at h;exact h
  |false=>
   simp only[NA,NS] at h ⊢
   refine h.bnd.imp λds β1 h=>?_
   cases q:F ds with
   |ok d b=>rw[q] at h;cases b <;> exact h
   |exc c=>rw[q] at h;exact h
   |bad=>rw[q] at h;exact h
 refine h.imp λds β1 k vs G1 H1 I1 s1 m1 r=>?_
 refine⟨G1,ds,hT.mono I1.old,I1.sub,?_,by rw[hK];exact r,?_⟩
 ·exact hl ds λz=>by rw[z] at k;exact k
 cases q:F ds with
 |bad=>rw[q] at k;exact k
 |exc c=>rw[q] at k;exact λH' s=>k H' (I1.kp s)
 |ok d b=>
  rw[q] at k
  intro v G' H' hh hg hs hn fv
  obtain⟨I2,m2⟩:=I1.called hh hg hs hn
  cases b with
  |true=>
   obtain⟨p,rfl,p1,p2,p3⟩:∃a,v=.ref a/\H1 a=none/\G' a=none/\Own X.K G' H' a d:=fv
   rw[hK] at p3
   have hp:=fx m1 I1.boxThere p1
   cases wv with
   |true=>exact k _ G' H' I2 (s1.trans hg) (m1.trans m2) ⟨p,rfl,hp,p2,p3⟩
   |false=>
    obtain⟨q1,q2,q3,q4⟩:=I1.fresh p1
    obtain⟨G3,I3,s3,r3⟩:=I2.letIn q1 p2 q3 q4 p3
    exact k _ G3 H' I3 ((s1.trans hg).trans s3) (m1.trans m2) r3
  |false=>
   cases wv with
   |true=>exact k.elim
   |false=>
    have fv:Rp X.K G' v d:=fv
    rw[hK] at fv
    exact k _ G' H' I2 (s1.trans hg) (m1.trans m2) fv
def dB {x:Str}{ps:List Str}{k:Nat}{F:List D->FR}{p:Pos}(hT:BB T Γ.G0)(hf:gL T X.prog X.w X.K X.mg X.base Γ.ca x ps k F)(hr:dt k X.A)(hx:Passes (mO X.prog X.w) X E)(hK:X.K=Γ.K)(hg:Gl X x)(ha:SA X Γ E (a :: es) fr L)(hdb:(x == ("__debug__":Str))=false:=by decide)
  (he:starEach (a :: es) X.env=(false,eval a X.env) :: starEach es X.env:=by rfl) (hpl:(backTo pos (starEach es X.env)).any (·.1)=false:=by rfl):SE X Γ E (.Call (.Name x p) (a :: es) [] pos) (aw F fr) L .v:=by
 obtain⟨f,fd,hm,hk,hb,hF⟩:=hf.ex
 refine PE.post' (jH (dvs:=[]) hF hr hg hm hk hb .nil hx ha hdb he hpl) λσ H Q ⟨env,G,B,β,I,o⟩=>?_
 show aT Γ E fr L σ H λvs H1=>spT T X.K Γ.ca ps.length F (vs ++ []) H1 Q E
 have:=qt (Q:=Q) (wv:=false) (ps:=ps) hT I hK o hf.len
 simpa using this
end
structure zO (mg:Str->Option Value)(base:Heap)(c T:Addr):Prop where
 hd:PySem.W.CodeHd base c T
 bt:base.BuiltinsAt mg T
 ne:mainGlobals≠T
def Kc {X:Cx}{A:Around}{NB:List Str}{qual:Str}{scope:Scope}{q:Addr}{cdv:Value}{s3:Shared}{H3:Hp}{pn:List (Addr×Obj)}{P:Program}{w:World}:Passes (mO P w) (xj X A NB qual scope q cdv s3 H3 pn) E0:=λpins σ H s e s' I h=>by
 obtain⟨_,_,_,_,_,_,_,_,_,q⟩:=h
 exact q.elim
theorem AE {P:Program}{w:World}{K:Frag}{mg mb:Str->Option Value}{CX:Ag}{k:Nat}{fa a T c:Addr}{fd:FuncData}{x:Str}{sp:Sp}{s₁:Shared}{vs:List Value}{ns:List Int}
  (KX:K.In s₁.heap) (hns:s₁.heap.Ns mainGlobals mg) (hb:s₁.heap.Ns builtinsNs mb) (hbb:∀x:Str,x≠"__name__"->mb x=bootBuiltins x) (hlim:s₁.heap.NoLimit) (hsys:∃mm,s₁.heap.Ns sysModules mm) (hg:s₁.gens=#[])
  (hbm:∃bm ob,mg "__builtins__"=some (.ref bm)/\bm≠builtinsNs/\s₁.heap.get? bm=some ob/\ob.cls=.type "module"/\ob.dict=some builtinsNs/\ob.data=.plain)
  (hT:s₁.heap.get? T=some (PySem.W.tabObj #[])) (hKT:K.lookup T=none) (hcd:PySem.W.codeHdIn K c T=true)
  (ha:s₁.heap.get? a=some {cls:=.type "list",data:=.seq vs.toArray}) (hi:IntsAre vs ns) (hl:ns.length<=sizeLine) (hr:dt k callerA)
  (F:∀base:Heap,K.In base->base.Ns mainGlobals mg->zO mg base c T->e8 P w K mg base CX k fa fd [x] sp) (hbind:∀(s:Shared) (u:Value),BindsTo s fd ⟨[u],[]⟩ [(x,u)])
  (hsp:∀H:Hp,H T=some (.tbl #[])->gN K H a (ns.map V.int)->sp [.ref a] H (λv _=>v=.bl true) λ_ _ _=>False)
  (hCX:∀H e s',CX [] H s₁ (λ_ _ _=>False) e s'->False) :
  codeAny (model P w) callerA (.call (.ref fa) ⟨[.ref a],[]⟩) (λr s'=>r=.ok (.ret (.bool true))/\OldK s₁.heap s'.heap/\s'.os=s₁.os/\AllBare s'.gens) s₁:=by
 have rv:=sV hi
 have lenV:=hi.length
 have aT:a≠T:=λz=>by rw[z,hT] at ha;cases ha
 have tabs:s₁.heap.TableAt c T #[]:=(PySem.W.codeHd_of_K KX hcd).tab hT
 have core:∀H:Hp,(∀b,b≠T->H b=none\/∃o xs,H b=some (.aS o (.lst xs)))->H T=some (.tbl #[])->gN K H a (ns.map V.int)->mi P w H s₁.heap->(∀b,H b≠none->b=a\/b=T)->(H a≠none->K.lookup a=none)->
   codeAny (model P w) callerA (.call (.ref fa) ⟨[.ref a],[]⟩) (λr s'=>r=.ok (.ret (.bool true))/\OldK s₁.heap s'.heap/\s'.os=s₁.os/\AllBare s'.gens) s₁:=by
  intro H hO hHT hS hok hA hK
  have base_of:∀{b:Addr} {o:Obj},s₁.heap.get? b=some o->H b=none->(rF s₁.heap H).get? b=some o:=λe n=>CO e n
  have noO:∀{b:Addr} {o:Obj},s₁.heap.get? b=some o->(∀xs n,o.data≠.seq xs n)->(∀ps,o.data≠.fields ps)->H b=none:=λ{b o} e d1 d2=>by
   cases q:H b with
   |none=>rfl
   |some u=>
    rcases hA b (by rw[q];simp) with e' |e'
    ·subst e'
     rw[ha] at e;cases e
     exact absurd rfl (d1 _ _)
    ·subst e'
     rw[hT] at e;cases e
     exact absurd rfl (d2 _)
  have nsK:∀{b:Addr} {m:Str->Option Value},s₁.heap.Ns b m->(rF s₁.heap H).Ns b m:=λ{b m} ⟨o,es,ep,e,d,r⟩=>⟨o,es,ep,base_of e (noO e (λxs n z=>by rw[d] at z;cases z) λps z=>by rw[d] at z;cases z),d,r⟩
  have hKb:K.In (rF s₁.heap H):=λb o e=>base_of (KX b o e) (by
   cases q:H b with
   |none=>rfl
   |some u=>
    rcases hA b (by rw[q];simp) with e' |e'
    ·subst e'
     rw[hK (by rw[q];simp)] at e;cases e
    ·subst e'
     rw[hKT] at e;cases e)
  have hM:Mod K mg (rF s₁.heap H):=⟨hKb,nsK hns,⟨mb,nsK hb,hbb⟩,let ⟨mc,h1,h2⟩:=hlim;⟨mc,nsK h1,h2⟩,let ⟨mm,h1⟩:=hsys;⟨mm,nsK h1⟩⟩
  have neM:mainGlobals≠T:=λz=>by
   obtain⟨o,es,ep,e,d,_⟩:=hns
   rw[z,hT] at e
   cases e
   have d':Data.fields #[]=Data.dict es ep:=d
   cases d'
  have hL:zO mg (rF s₁.heap H) c T:=by
   refine⟨PySem.W.codeHd_of_K hKb hcd,?_,neM⟩
   obtain⟨bm,ob,b1,b2,b3,b4,b5,b6⟩:=hbm
   refine⟨bm,ob,b1,b2,λz=>?_,λz=>?_,base_of b3 (noO b3 (λxs n z=>by rw[b6] at z;cases z) λps z=>by rw[b6] at z;cases z),b4,b5,b6⟩
   ·obtain⟨o,es,ep,e,d,_⟩:=hns
    rw[<-z,b3] at e
    cases e
    rw[b6] at d
    cases d
   ·rw[z,hT] at b3
    cases b3
    cases b4
  have e0:xI P w K mg (rF s₁.heap H) callerA [] s₁ H:=⟨rfl,hM,λb o e=>Er e,Nat.le_of_eq (AB _ _),trivial,λb hb=>absurd (show b∈([]:List Addr) from hb) (by simp),hok,.of_eq hg⟩
  refine codeAny_mono ((F _ hKb (nsK hns) hL).run callerA [] s₁ H ⟨[.ref a],[]⟩ [.ref a] [.ref a] _ _ hr e0 (hbind s₁ (.ref a)) (.cons rfl .nil) (hsp H hHT hS)) λr s' h=>?_
  cases r with
  |error e=>exact (hCX H e s' h).elim
  |ok fl=>
   cases fl with
   |next=>exact False.elim h
   |brk=>exact False.elim h
   |cont=>exact False.elim h
   |ret u=>
    obtain⟨v,H',os,bare,un,hok',r',q⟩:=h
    have q':v=.bl true:=q
    subst q'
    obtain rfl:u=Value.bool true:=r'
    refine⟨rfl,⟨λb o e=>?_,λb o e=>?_⟩,os,bare⟩
    ·by_cases bT:b=T
     ·subst bT
      rw[hT] at e
      cases e
      obtain⟨more,e2⟩:=un.tbls b _ hHT
      exact .inr (.inl ⟨tabs.isCodeTable,rfl,#[],more,rfl,hok' b _ e2⟩)
     ·refine .inl ?_
      cases q:H b with
      |none=>exact un.keep b o e q (by intro z;exact absurd (show b∈([]:List Addr) from z) (by simp)) (by simp)
      |some u=>
       rcases hO b bT with z | ⟨ob,xs,z⟩
       ·rw[q] at z;cases z
       ·have z2:=un.frzs b ob _ z
        obtain⟨e1,_⟩:=hok b _ z
        obtain⟨e2,_⟩:=hok' b _ z2
        rw[e] at e1;cases e1
        exact e2
    ·by_cases bT:b=T
     ·subst bT
      obtain⟨more,e2⟩:=un.tbls b _ hHT
      exact⟨_,hok' b _ e2⟩
     ·cases q:H b with
      |none=>exact⟨o,un.keep b o e q (by intro z;exact absurd (show b∈([]:List Addr) from z) (by simp)) (by simp)⟩
      |some u=>
       rcases hO b bT with z | ⟨ob,xs,z⟩
       ·rw[q] at z;cases z
       ·exact⟨_,(hok' b _ (un.frzs b ob _ z)).1⟩
 cases hk:K.lookup a with
 |some o=>
  have e:=KX a o hk
  rw[ha] at e
  cases e
  refine core (λb=>if b=T then some (.tbl #[]) else none) (λb n=>.inl (MG n)) (My rfl) (.inr ⟨_,vs.toArray,_,hk,rfl,rfl,rfl,by rw[MK,lenV];exact hl,by simpa using rv⟩) (λb u z=>?_) (λb z=>?_) λz=>absurd (MG aT) z
  ·by_cases hb:b=T
   ·have z':=(My hb).symm.trans z
    cases z'
    subst hb
    exact hT
   ·have z':=(MG hb).symm.trans z
    cases z'
  ·by_cases hb:b=T
   ·exact .inr hb
   ·exact absurd (MG hb) z
 |none=>
  refine core (λb=>if b=T then some (.tbl #[]) else if b=a then some (.aS {cls:=.type "list",data:=.seq vs.toArray} (.lst (ns.map V.int))) else none) (λb n=>?_) (My rfl) (.inl (.inr ⟨{cls:=.type "list",data:=.seq vs.toArray},(MG aT).trans (My rfl)⟩)) (λb u z=>?_) (λb z=>?_) λ_=>hk
  ·by_cases hb:b=a
   ·exact .inr ⟨_,_,(MG n).trans (My hb)⟩
   ·exact .inl ((MG n).trans (MG hb))
  ·by_cases hbT:b=T
   ·have z':=(My hbT).symm.trans z
    cases z'
    subst hbT
    exact hT
   ·have z:=(MG hbT).symm.trans z
    by_cases hb:b=a
    ·have z':=(My hb).symm.trans z
     cases z'
     subst hb
     exact⟨ha,by rw[MC];exact hl,vs,_,rv,ha⟩
    ·have z':=(MG hb).symm.trans z
     cases z'
  ·by_cases hbT:b=T
   ·exact .inr hbT
   ·by_cases hb:b=a
    ·exact .inl hb
    ·exact absurd ((MG hbT).trans (MG hb)) z
def uE (T:Addr)(K:Frag):Sp:=λvs H Q _=>∃(a:Addr) (ns:List Int),vs= [.ref a]/\H T=some (.tbl #[])/\gN K H a (ns.map V.int)/\∀H',ah H H'->Q (.bl true) H'
def Cs {l:PySem.W.OpenLaw}{n k:Nat}{q:Program}{loose:List Str}{XP:(Str->Option Value)->Heap->Prop}{YP:World->Heap->Prop}{d:DefRec}{K:Params->Frag}{T c:Addr}
  (hn:l.most=some n) (hn2:n<=sizeLine) (hdf:d.params.defaults= []) (hi:PyProof.Rows.importsNone q=true) (hr:dt k callerA)
  (hY:∀(w:World) (h:Heap),YP w h->(K w.params).In h) (hYT:∀(w:World) (h:Heap),YP w h->h.get? T=some (PySem.W.tabObj #[])) (hKT:∀p,(K p).lookup T=none) (hcd:∀p,PySem.W.codeHdIn (K p) c T=true)
  (F:∀(w:World) (mg:Str->Option Value) (fa:Addr) (h:Heap),(K w.params).In h->h.Ns mainGlobals mg->mg d.name=some (.ref fa)->
   ∃fd:FuncData,(∀(s:Shared) (u:Value),BindsTo s fd ⟨[u],[]⟩ [("script",u)])/\
    ∀base:Heap,(K w.params).In base->base.Ns mainGlobals mg->zO mg base c T->e8 l.prog w (K w.params) mg base (mO l.prog w) k fa fd ["script"] (uE T (K w.params))) :
  PySem.W.WalkO q loose XP YP l.row.toRowW d [] (λf vs=>PySem.call f vs):=by
 refine Att.vt hn hdf λw s₀ s₁ mg mb fa o pm cd doc a vs ns G Y ho hd hcd' hmg hobj hints hlen hg=>?_
 have KX:=hY w _ Y
 obtain⟨fd,hb,hF⟩:=F w mg fa _ KX G.T.g hmg
 exact AE KX G.T.g G.T.b G.T.builtins G.T.nolimit (let ⟨mm,h1,_⟩:=(G.T.seer hi).mods;⟨mm,h1⟩) hg G.T.bmain (hYT w _ Y) (hKT _) (hcd _) hobj hints (Nx hlen hn2) hr hF hb (λH hO hS=>⟨a,ns,rfl,hO,hS,λ_ _=>rfl⟩) λH e s' z=>by
  obtain⟨_,_,_,_,_,_,_,_,_,z⟩:=z
  exact z
structure L8 (K:Frag)(mg:Str->Option Value)(x:Str)(st:Stmt)(ps:List Str)(c:Addr):Prop where
 ex:∃f fd,gO K mg x st ps f fd/\fd.code=.ref c
def Ga {K:Frag}{mg:Str->Option Value}{h:Heap}{x:Str}{st:Stmt}{ps:List Str}{f c:Addr}{oc:Value}{od an:Option Addr}{sl:Array (Option Value)}{kV doc pm ct:Value}(X:K.In h)(G:h.Ns mainGlobals mg)(b:aR x st ps)(a:PySem.W.nsIn K mainGlobals x=some (some (.ref f)))
  (l:K.lookup f=some ⟨oc,od,.func (PySem.W.fnOf x x (ie st) (cU st) (ao st) .none kV doc pm an (.ref c) ct),sl⟩) (hc:PySem.W.codeIn K (.ref c) x=true) (k:PySem.W.keepIn K (.ref f)=true):L8 K mg x st ps c:=
 ⟨⟨f,_,⟨Oy X G a,qi l hc k,(qi l hc k).binds b⟩,rfl⟩⟩
def K0 {T:Addr}{H:Hp}(h:H T=some (.tbl #[])):BB T H:=⟨#[],h,trivial,λc hc=>by simp at hc⟩
end L2
namespace RM
open PySem L2
def kc:SF:=(bo (G6 (f2 (f2 (gv 1) (cst (.int 0)) a8) (f2 (gv 2) (cst (.int 1)) a8) (cR false)) (f2 (cq (aa (f2 (gv 1) (cst (.int 0)) a8) (aa (f2 (gv 2) (cst (.int 1)) a8) ag))) (f2 (gv 0) (cst (.int 1)) a8) (lQ false))))
def kB (aE:List D->FR):SF:=(bo (f2 (aw aE (aa (f2 (gv 0) (gv 2) a8) (aa (gv 1) ag))) (f2 (gv 0) (gv 2) a8) (cR false)))
def jF (bw:List D->FR):SF:=(bo (aw bw (aa (gv 0) (aa (f2 (gv 1) (cst (.int 1)) a8) (aa (f2 (gv 1) (cst (.int 0)) a8) ag)))))
def jw (bw:List D->FR):SF:=(bo (aw bw (aa (gv 0) (aa (f2 (gv 1) (cst (.int 0)) a8) (aa (f2 (gv 1) (cst (.int 1)) a8) ag)))))
def kN (bw aE:List D->FR):SF:=(aH (bQ 2 ([] ++ [0]) (aL 1 [1,0] (.nm 0) (cN (f1 (gv 0) cy)) (gf (cC (f2 (gv 0) (f2 (gv 1) (cst (.int 0)) a8) (cR false))) (eZ (aw bw (aa (gv 2) (aa (f2 (gv 1) (cst (.int 0)) a8) (aa (gv 0) ag)))))) (gv 0)))
 (aH (bQ 3 (([] ++ ([] ++ [])) ++ (([] ++ []) ++ [])) (aw aE (aa (f2 (gv 0) (f2 (gv 1) (cst (.int 1)) a8) a8) (aa (f2 (gv 1) (cst (.int 1)) a8) ag))))
 (oO (aL 2 [2,3] (.two 0 1) (Fi (gv 0)) jT (Kl (cC (f2 (gv 0) (gv 2) (lQ false))) (f2 (gv 1) (gv 3) Ko) (gv 1))))))
def jn (eR:List D->FR):SF:=(aH (kY 3 (([2] ++ []) ++ []) (cY (aa (cY (aa (gv 2) ag)) ag)))
 (aH (bQ 4 [1] (gv 1))
 (aH (bQ 5 [] (cst (.int 0)))
 (aH (gW ([0] ++ ((([] ++ []) ++ []) ++ ([2] ++ []))) (j9 (eZ (aw eR (aa (gv 0) (aa (f2 (f2 (gv 3) (gv 5) a8) (f1 (cst (.int 1)) o8) a8) (aa (gv 2) ag))))))
 (aH (bQ 6 ([] ++ [0]) (aL 1 [0,3,5] (.nm 0) (bK (gv 4)) (eZ (aw eR (aa (gv 1) (aa (f2 (f2 (gv 2) (gv 3) a8) (f1 (cst (.int 1)) o8) a8) (aa (gv 0) ag))))) (gv 0)))
 (aH (bQ 4 ([] ++ []) (aL 1 [6] (.nm 0) (bK (gv 4)) (cC (f2 (gv 0) (gv 1) (lQ true))) (gv 0)))
 (aH (z5 3 ([] ++ []) (aL 1 [3,5] (.nm 0) (bK (gv 6)) jT (f2 (f2 (gv 1) (gv 2) a8) (cY (aa (gv 0) ag)) ka)))
 (bQ 5 ([] ++ []) (f2 (gv 5) (cst (.int 1)) cx))))) 1000)
 (bo (f2 (gv 3) (gv 5) a8))))))
def iM (b9 bX fy fX:List D->FR):SF:=(aH (bQ 5 (([] ++ []) ++ []) (f2 (f2 (gv 2) (gv 3) a8) (cst (.int 0)) a8))
 (aH (bQ 6 (([] ++ []) ++ []) (f2 (f2 (gv 2) (gv 3) a8) (cst (.int 1)) a8))
 (aH (iL ([5] ++ ([4] ++ [])) (eZ (aw bX (aa (gv 5) (aa (gv 4) ag))))
 (bo (cq (aa (cst (.str "ring")) (aa (gv 3) (aa (aw fy (aa (gv 0) (aa (gv 6) (aa (gv 4) ag)))) ag)))))
 jU)
 (bo (aw b9 (aa (gv 0) (aa (gv 1) (aa (f2 (f2 (BA (gv 2) (λ_ β=>.ok none β) (C0 (gv 3))) (cY (aa (cq (aa (aw fX (aa (gv 5) (aa (gv 4) ag))) (aa (f2 (gv 6) (cq (aa (gv 4) ag)) qW) ag))) ag)) ka) (BA (gv 2) (C0 (f2 (gv 3) (cst (.int 1)) cx)) (λ_ β=>.ok none β)) ka) ag))))))))
def jl (bX:List D->FR):SF:=(bo (f1 (aL 2 [1] (.two 0 1) (bK (gv 0)) (j9 (eZ (aw bX (aa (gv 0) (aa (gv 2) ag))))) (gv 0)) cy))
def eQ (iH fG fg fq:List D->FR):SF:=(aH (bQ 3 ([] ++ []) (aL 1 [2] (.nm 0) (bK (gv 1)) (j9 (eZ (f1 (aL 2 [0] (.two 0 1) (bK (gv 1)) jT (aw fG (aa (gv 0) (aa (gv 2) ag)))) (bB λbs=>bs.any id)))) (gv 0)))
 (aH (iL ([] ++ []) (cC (f2 (f1 (gv 3) cy) (cst (.int 0)) (cR false)))
 (bo (cq (aa (cst (.str "rows")) (aa (aL 2 [] (.two 0 1) (bK (gv 2)) jT (aw fg (aa (gv 0) (aa (cY ag) ag)))) ag))))
 jU)
 (aH (bQ 4 [3] (zb 2 (gv 3) (aw fq (aa (gv 1) (aa (gv 0) ag)))))
 (aH (kY 5 [] (cY ag))
 (aH (hJ (.nm 6) [] (cN (f1 (gv 2) cy))
 (aH (bQ 7 ([0] ++ ([3] ++ ([2] ++ ([6] ++ ([4] ++ []))))) (aw iH (aa (gv 0) (aa (gv 3) (aa (gv 2) (aa (gv 6) (aa (gv 4) ag)))))))
 (aH (iL (([] ++ []) ++ []) (cC (f2 (f2 (gv 7) (cst (.int 0)) a8) (cst (.str "rows")) (cR false)))
 (sR 7)
 jU)
 (mH 5 [7] (gv 7)))))
 (bo (cq (aa (cst (.str "turn")) (aa (gv 4) (aa (f1 (gv 5) n8) ag))))))))))
def pF (c9 b9 c6:List D->FR):SF:=(aH (bQ 2 (([0] ++ []) ++ ([] ++ [])) (cq (aa (aw c9 (aa (gv 0) ag)) (aa (cq ag) ag))))
 (bo (aw b9 (aa (gv 0) (aa (aw c6 (aa (gv 0) ag)) (aa (f2 (cY (aa (gv 2) ag)) (gv 1) uL) ag))))))
def eh (aX eH:List D->FR):SF:=(aH (oB ([0] ++ []) (aw aX (aa (gv 0) ag)))
 (aH (bQ 1 [] (cst (.int 1)))
 (aH (bQ 2 ([0] ++ ([1] ++ [])) (aw eH (aa (gv 0) (aa (gv 1) ag))))
 (aH (gW (([] ++ []) ++ []) (cC (f2 (f2 (gv 2) (cst (.int 0)) a8) (cst (.str "rows")) (cR true)))
 (aH (bQ 1 ([] ++ []) (f2 (gv 1) (cst (.int 1)) cx))
 (bQ 2 ([0] ++ ([1] ++ [])) (aw eH (aa (gv 0) (aa (gv 1) ag))))) 1000)
 (bo (f2 (gv 2) (cst (.int 1)) a8))))))
def ng (bh:List D->FR):SF:=(bo (f1 (aw bh (aa (gv 0) ag)) cy))
end RM
namespace L2
open PySem PySem.Spec PyProof.Rows
section
variable {P:Program}{w:World}{K:Frag}{mg:Str->Option Value}{base:Heap}{ca:Str->Addr}{T:Addr}{H:Hp}
def DY {n:Nat}{F:List D->FR}{vs:List V}{Q:VK}{E:XK}(q:spT T K ca n (n9 F) vs H Q E):spT T K ca n F vs H Q E:=by
 obtain⟨G,ds,tG,sG,hl,r,q⟩:=q
 by_cases z:∃es,F ds=.ok (.list es) false/\bN ds=true/\bN es=true
 ·obtain⟨es,e,h1,h2⟩:=z
  rw[uK e h1 h2] at q
  obtain⟨ps,eT,tr,hc⟩:=tG
  have nT:eY AQ G T=none:=by
   cases y:eY AQ G T with
   |none=>rfl
   |some o=>
    have f:=ua y
    obtain⟨u,eu,k1,k2⟩:=(iN (G:=AQ) (H:=G) jY T o y).some
    rw[eT] at eu
    cases eu
    by_cases c:∃ps,o=.tbl ps
    ·obtain⟨ps,rfl⟩:=c;exact f.elim
    ·have:=k1 λps z=>c ⟨ps,z⟩
     rw[<-this] at f;exact f.elim
  generalize hG2:upd (eY AQ G) T (.tbl ps)=G2
  have s1:ah (eY AQ G) G2:=by rw[<-hG2];exact ah.new nT
  have s2:ah G2 G:=by
   rw[<-hG2]
   intro b o eb
   by_cases z:b=T
   ·subst z;rw[aA] at eb;cases eb;exact Kt.of eT
   ·rw[ay z] at eb;exact iN jY b o eb
  have sn:ah G2 H:=s2.trans sG
  have e2:G2 T=some (.tbl ps):=by rw[<-hG2];exact aA
  have tb:BB T G2:=⟨ps,e2,tr,λc hm=>by
   obtain⟨o,eo,io⟩:=hc c hm
   exact⟨o,s1 _ _ (tf jY eo trivial),io⟩⟩
  refine⟨G2,ds,tb,sn,hl,(r.flat jY (ah.refl _) h1).mono s1,?_⟩
  rw[e]
  intro v G' H' hh g1 g2 hn fv
  have fv:Rp K G' v (.list es):=fv
  cases fv with
  | @lst a xs _ ha hs=>
   have hH':H' a=some (.lst xs):=g2 _ _ ha
   have hHa:H a=none:=by
    cases z:H a with
    |none=>rfl
    |some o=>
     have z':=t9 (hh _ _ z) hH'
     subst z'
     have hm:Mx H a:=Mx.lst z
     have:G2 a=none:=by
      cases y:G2 a with
      |none=>rfl
      |some o=>
       have y':=t9 (sn _ _ y) z
       subst y'
       by_cases c:a=T
       ·subst c;rw[e2] at y;cases y
       ·rw[<-hG2,ay c] at y;exact (ua y).elim
     rw[hn a hm this] at ha
     cases ha
   have sG':ah G H':=sG.trans hh
   refine q (.ref a) (eY G H') H' hh jX (iN sG') (λb m e=>by rw[pC hh m];exact e) ?_
   refine⟨a,rfl,hHa,?_,xs,hH',hs.flat sG' g2 h2⟩
   unfold eY
   rw[sG.free hHa,hH']
   exact MG λf=>f
 ·have:n9 F ds=F ds:=by
   unfold n9
   split
   ·rename_i es e
    have hf:(bN ds && bN es)=false:=by
     cases y:(bN ds && bN es) with
     |false=>rfl
     |true=>rw[MP] at y;exact absurd ⟨es,e,y.1,y.2⟩ z
    rw[hf,e]
   ·rfl
  rw[this] at q
  exact⟨G,ds,tG,sG,hl,r,q⟩
def gL.new {x:Str}{ps:List Str}{k:Nat}{F:List D->FR}(h:gL T P w K mg base ca x ps k F):gL T P w K mg base ca x ps k (n9 F):=by
 obtain⟨f,fd,a,b,c,d⟩:=h.ex
 refine⟨⟨f,fd,a,b,c,d.imp λvs H Q E q=>DY q⟩,λds hn=>h.len ds λz=>hn ?_⟩
 unfold n9;rw[z]
end
section
variable {X:Cx}{Γ:Fx}{E:XK}{a b:Expr}{es:List Expr}{fr:VF (List D)}{fa fb:VF D}{L La Lb:List Nat}{pos:Pos}{T:Addr}
def zZ {x:Str}{ps:List Str}{k:Nat}{F:List D->FR}{p:Pos}(hT:BB T Γ.G0)(hf:gL T X.prog X.w X.K X.mg X.base Γ.ca x ps k F)(hr:dt k X.A)(hx:Passes (mO X.prog X.w) X E)(hK:X.K=Γ.K)(hg:Gl X x)(ha:SA X Γ E (a :: es) fr L)(hdb:(x == ("__debug__":Str))=false:=by decide)
  (he:starEach (a :: es) X.env=(false,eval a X.env) :: starEach es X.env:=by rfl) (hpl:(backTo pos (starEach es X.env)).any (·.1)=false:=by rfl):SE X Γ E (.Call (.Name x p) (a :: es) [] pos) (oJ F fr) L .w:=by
 obtain⟨f,fd,hm,hk,hb,hF⟩:=hf.ex
 refine PE.post' (jH (dvs:=[]) hF hr hg hm hk hb .nil hx ha hdb he hpl) λσ H Q ⟨env,G,B,β,I,o⟩=>?_
 show aT Γ E fr L σ H λvs H1=>spT T X.K Γ.ca ps.length F (vs ++ []) H1 Q E
 have:=qt (Q:=Q) (wv:=true) (ps:=ps) hT I hK o hf.len
 simpa using this
def uJ (i j:Nat)(La Lb:List Nat)(fa fb:VF D):SF:=λenv β=>toS (fa (vl env) β) λd1 β1=>toS (fb (vl env) β1) λd2 β2=>.nx (((aS (La ++ Lb) env).set i (.fz d1)).set j (.ow d2)) β2
def Cp {i j:Nat}{x y:Str}{px py pt:Pos}{kt k2 pt2}(hN:X.N.Nodup)(hij:i≠j)(ha:SE X Γ E a fa La .v)(hb:SE X Γ E b fb Lb .w)(hc:X.calm=true:=by rfl)(hi:X.N[i]? =some x:=by rfl)(hj:X.N[j]? =some y:=by rfl)
  (hx:X.env.scope.names.lookup x=some .local:=by rfl) (hy:X.env.scope.names.lookup y=some .local:=by rfl)
  (hs1:starEach [a,b] X.env=(false,eval a X.env) :: starEach [b] X.env:=by rfl) (hs2:starEach [b] X.env=(false,eval b X.env) :: starEach [] X.env:=by rfl)
  (hw:swappedStores [.Tuple [.Name x px,.Name y py] kt pt] (.Tuple [a,b] k2 pt2) X.env=pure (some [x,y]):=by rfl)
  (hs:swapsWithSole [.Tuple [.Name x px,.Name y py] kt pt] (.Tuple [a,b] k2 pt2) pos.line X.env=pure false:=by rfl) :
  SS X Γ E (.Assign [.Tuple [.Name x px,.Name y py] kt pt] (.Tuple [a,b] k2 pt2) pos) (uJ i j La Lb fa fb):=by
 refine PS.post (HZ hc hN hi hj hij hx hy (aQ ha (aQ hb bS hs2) hs1) hw hs) λN σ H ⟨env,G,B,β,I,o⟩=>?_
 refine⟨env,G,B,β,I,cL o λd1 β1 k v G1 H1 I1 s1 m1 vo=>⟨aS La env,G1,B,β1,I1,?_⟩⟩
 rw[dc]
 refine cL k λd2 β2 k w G2 H2 J s2 m2 vo2=>?_
 have vo:Rp Γ.K G1 v d1:=vo
 obtain⟨r,rfl,g1,g2,g3⟩:=vo2
 obtain⟨r1,r2,r3,r4⟩:=I1.fresh g1
 refine⟨_,_,rfl,k B G2 H2 _ ?_ (s1.trans s2)⟩
 rw[bZ]
 refine (J.set' i (vo.mono s2)).setOw' j r1 g2 r3 g3 λj' d' e z=>?_
 by_cases y:i=j'
 ·subst y
  by_cases hl:i < (aS Lb (aS La env)).length
  ·rw[MX hl] at e;cases e
  ·rw[NQ (by omega)] at e
   rw[N0 (by omega)] at e;cases e
 ·rw[MW y] at z e
  exact r4 j' d' (og e) z
end
end L2
namespace RM
open PySem L2
def gX (fZ:List D->FR):SF:=(iL ([0] ++ []) (j9 (eZ (aw fZ (aa (gv 0) ag))))
 GD
 jU)
def iq (bz:List D->FR):SF:=(iL (([0] ++ []) ++ []) (gf (j9 (eZ (aw bz (aa (gv 0) ag)))) (j9 (cC (fH (cst (.int 1)) (gv 0) (cst (.int 8)) vK vK))))
 GD
 jU)
def iA (aX dF eH:List D->FR):SF:=(aH (oB ([0] ++ []) (aw aX (aa (gv 0) ag)))
 (aH (oB ([1] ++ []) (aw dF (aa (gv 1) ag)))
 (aH (bQ 2 ([0] ++ ([1] ++ [])) (aw eH (aa (gv 0) (aa (gv 1) ag))))
 (aH (iL (([] ++ []) ++ []) (cC (f2 (f2 (gv 2) (cst (.int 0)) a8) (cst (.str "rows")) (cR false)))
 (bo (cst .none))
 jU)
 (sR 2)))))
noncomputable def eB (bW:List D->FR)(bJ b7:List D->Int->FB):SF:=(aH (bQ 2 ([] ++ ([1] ++ [])) (f2 (cst (.int 1)) (qz 0 bJ (aa (gv 1) ag)) cx))
 (aH (bQ 3 (([] ++ ([] ++ [])) ++ []) (aL 1 [0,2] (.nm 0) (cN (f2 (cst (.int 1)) (qz 0 bJ (aa (cst (.int 3)) ag)) cx)) jT (qz 1 b7 (aa (f1 (gv 2) fT) ag))))
 (aH (iL (([] ++ []) ++ (([] ++ []) ++ [])) (yA (cC (f2 (gv 2) (cst (.int 6)) (cR false))) (cC (f2 (qz 0 bJ (aa (cst (.int 3)) ag)) (cst (.int 2)) (cR false))))
 (aH (bQ 4 ([] ++ []) (qz 0 b7 (aa (f1 (cst (.int 6)) fT) ag)))
 (aH (bQ 5 [] (cY ag))
 (aH (hJ (.nm 6) [] (cN (cst (.int 3)))
 (bQ 5 ([] ++ ([] ++ [])) (f2 (gv 5) (aL 1 [6,4] (.nm 0) (cN (cst (.int 3))) (cC (f2 (gv 0) (gv 1) (cR true))) (cq (aa (f2 (gv 2) (gv 1) a8) (aa (f2 (gv 2) (f2 (cst (.int 3)) (gv 0) cx) a8) ag)))) ka)))
 (bo (cq (aa (cst (.int 6)) (aa (f1 (f1 (gv 5) qd) n8) ag)))))))
 jU)
 (bo (cq (aa (gv 2) (aa (aw bW (aa (gv 2) (aa (gv 3) ag))) ag)))))))
noncomputable def jj (aO bW:List D->FR):SF:=(aH (iL ([] ++ ([] ++ [])) (gf (j9 (eZ (f1 (gv 0) (fV "list")))) (cC (f2 (gv 0) (cY ag) uv)))
 (bo (cst (.bool false)))
 jU)
 (aH (hJ (.nm 2) [0] (bK (gv 0))
 (aH (iL ([] ++ ([] ++ [])) (gf (j9 (eZ (f1 (gv 2) (fV "tuple")))) (j9 (eZ (f1 (aL 1 [] (.nm 0) (bK (gv 2)) jT (aw aO (aa (gv 0) ag))) (bB λbs=>bs.all id)))))
 (bo (cst (.bool false)))
 jU)
 (iL ([] ++ ([] ++ [])) (cC (f2 (f1 (gv 2) p4) (f1 (f2 (gv 1) (cst (.int 0)) a8) fT) (cR true)))
 (bo (cst (.bool false)))
 jU)))
 (bo (f2 (aw bW (aa (f2 (gv 1) (cst (.int 0)) a8) (aa (gv 0) ag))) (f2 (gv 1) (cst (.int 1)) a8) (cR false)))))
def rW:SF:=(bo (G6 (f2 (f2 (gv 1) (cst (.int 0)) a8) (f2 (gv 2) (cst (.int 1)) a8) (cR false)) (f2 (cq (aa (f2 (gv 1) (cst (.int 0)) a8) (aa (f2 (gv 2) (cst (.int 1)) a8) ag))) (f2 (gv 0) (cst (.int 1)) a8) (lQ false))))
def dH (aO dD:List D->FR):SF:=(aH (iL ([] ++ (([] ++ []) ++ ([] ++ []))) (gf (j9 (eZ (f1 (gv 1) (fV "tuple")))) (gf (cC (f2 (f1 (gv 1) cy) (cst (.int 2)) (cR true))) (j9 (eZ (f1 (aL 1 [] (.nm 0) (bK (gv 1)) jT (aw aO (aa (gv 0) ag))) (bB λbs=>bs.all id))))))
 (bo (cst (.bool false)))
 jU)
 (bo (gK (f1 (aL 1 [0] (.nm 0) (bK (gv 1)) jT (fH (cst (.int 0)) (gv 0) (f2 (gv 1) (cst (.int 0)) a8) vK sX)) (bB λbs=>bs.all id)) (aw dD (aa (gv 0) (aa (f2 (gv 1) (cst (.int 0)) a8) (aa (f2 (gv 1) (cst (.int 1)) a8) ag)))))))
def jx (aZ iJ:List D->FR):SF:=(aH (iL ([] ++ (([] ++ []) ++ ([] ++ [0]))) (gf (j9 (eZ (f1 (gv 1) (fV "list")))) (gf (cC (f2 (gv 1) (cY ag) uv)) (j9 (eZ (f1 (aL 1 [0] (.nm 0) (bK (gv 1)) jT (aw aZ (aa (gv 1) (aa (gv 0) ag)))) (bB λbs=>bs.all id))))))
 (bo (cst (.bool false)))
 jU)
 (bo (f1 (aL 1 [0,1] (.nm 0) (cN (f1 (gv 1) cy)) jT (aw iJ (aa (gv 1) (aa (f2 (gv 2) (f2 (gv 0) (cst (.int 1)) nh) a8) (aa (f2 (gv 2) (gv 0) a8) ag))))) (bB λbs=>bs.all id))))
def h9 (bF aO fm aZ:List D->FR):SF:=(aH (iL ([] ++ ([] ++ [])) (gf (j9 (eZ (f1 (gv 0) (fV "tuple")))) (cC (f2 (f1 (gv 0) cy) (cst (.int 3)) (cR true))))
 (bo (cst (.bool false)))
 jU)
 (aH (iL (([] ++ []) ++ []) (cC (f2 (f1 (f2 (gv 0) (cst (.int 0)) a8) n5) (cst (.str "'ring'")) (zL false)))
 (aH (iL ((([] ++ []) ++ []) ++ ([] ++ ([1] ++ (([] ++ []) ++ [])))) (gf (j9 (eZ (aw aO (aa (f2 (gv 0) (cst (.int 1)) a8) ag)))) (gf (j9 (cC (fH (cst (.int 0)) (f2 (gv 0) (cst (.int 1)) a8) (f1 (gv 2) cy) vK sX))) (j9 (eZ (aw fm (aa (gv 1) (aa (f2 (gv 0) (cst (.int 2)) a8) ag)))))))
 (bo (cst (.bool false)))
 jU)
 (bo (f2 (aL 1 [2,0] (.nm 0) (bK (f2 (gv 0) (cst (.int 2)) a8)) (cC (f2 (gv 0) (f2 (gv 1) (f2 (gv 2) (cst (.int 1)) a8) a8) (lQ true))) (gv 0)) (cY ag) (cR false))))
 jU)
 (aH (iL ((([] ++ []) ++ []) ++ ([1] ++ (([] ++ []) ++ []))) (gf (cC (f2 (f1 (f2 (gv 0) (cst (.int 0)) a8) n5) (cst (.str "'turn'")) (zL true))) (j9 (eZ (aw aZ (aa (gv 1) (aa (f2 (gv 0) (cst (.int 1)) a8) ag))))))
 (bo (cst (.bool false)))
 jU)
 (aH (iL (([] ++ []) ++ (([] ++ []) ++ [])) (gf (j9 (eZ (f1 (f2 (gv 0) (cst (.int 2)) a8) (fV "tuple")))) (cC (f2 (f1 (f2 (gv 0) (cst (.int 2)) a8) cy) (f1 (gv 2) cy) (cR true))))
 (bo (cst (.bool false)))
 jU)
 (aH (hJ (.nm 3) [] (cN (f1 (gv 2) cy))
 (aH (bQ 4 (((([] ++ []) ++ []) ++ ((([] ++ []) ++ (([] ++ []) ++ [])) ++ [])) ++ (([] ++ ([] ++ [])) ++ [])) (f2 (f2 (BA (gv 2) (λ_ β=>.ok none β) (C0 (gv 3))) (cY (aa (f2 (f2 (gv 2) (gv 3) a8) (cY (aa (f2 (gv 0) (cst (.int 1)) a8) ag)) ka) ag)) ka) (BA (gv 2) (C0 (f2 (gv 3) (cst (.int 1)) cx)) (λ_ β=>.ok none β)) ka))
 (iL ((([] ++ []) ++ []) ++ ([1] ++ ([4] ++ []))) (j9 (eZ (aw bF (aa (f2 (f2 (gv 0) (cst (.int 2)) a8) (gv 3) a8) (aa (gv 1) (aa (gv 4) ag))))))
 (bo (cst (.bool false)))
 jU)))
 (bo (cst (.bool true))))))))
def yp (gk i4 bh aO fj bF dN:List D->FR)(dO:List D->Int->FB):SF:=(aH (hJ (.nm 1) ([] ++ ([] ++ [])) (cN (f2 (cst (.int 1)) (f2 (f1 (gv 0) cy) (cst (.int 2)) (vq λi j=>.int (if j < i then j else i))) (vq λi j=>.int (if j > i then j else i))))
 (aH (bQ 2 ([0] ++ ([1] ++ [])) (Kv (oJ gk (aa (gv 0) (aa (gv 1) ag))) dO 6))
 (aH (uJ 3 4 ([2] ++ []) ([2] ++ []) (aw i4 (aa (gv 2) ag)) (oJ bh (aa (gv 2) ag)))
 (aH (iL (([3] ++ []) ++ (([] ++ []) ++ ([] ++ []))) (gf (j9 (eZ (aw aO (aa (gv 3) ag)))) (gf (j9 (eZ (pS fj (gv 4) (gv 2)))) (cC (f2 (f1 (gv 4) cy) (gv 3) (cR true)))))
 (bo (cst (.bool false)))
 jU)
 (aH (iL ([] ++ []) (cC (f2 (gv 3) (cst (.int 1)) Mj))
 (aH (bQ 5 (([] ++ []) ++ []) (aL 1 [] (.nm 0) (cN (f2 (gv 3) (cst (.int 1)) nh)) jT (cY ag)))
 (iL (([2] ++ (([] ++ []) ++ [])) ++ ([2] ++ ([5] ++ []))) (j9 (eZ (aw bF (aa (aw dN (aa (gv 2) (aa (f2 (gv 3) (cst (.int 1)) nh) ag))) (aa (gv 2) (aa (gv 5) ag))))))
 (bo (cst (.bool false)))
 jU))
 jU)
 (aH (bQ 6 [] (f1 (gv 4) CA))
 (aH (mH 4 [] (cst (.int 0)))
 (iL ((([2] ++ []) ++ []) ++ (([2] ++ []) ++ [])) (gf (cC (f2 (aw bh (aa (gv 2) ag)) (gv 6) (cR true))) (cC (f2 (aw i4 (aa (gv 2) ag)) (gv 3) (cR true))))
 (bo (cst (.bool false)))
 jU))))))))
 (bo (cst (.bool true))))
end RM
namespace RQ
open PySem L2 RM
def top (i:Nat):Stmt:=PySem.Challenge.pw_rowsorder_k41_fewest_rows.main.body.getD i (.Pass ⟨0,0,0,0⟩)
section
variable {P:Program}{w:World}{K:Frag}{mg:Str->Option Value}{base:Heap}{ca:Str->Addr}
abbrev kn:Stmt:=top 2
def wx:aF ["thing"] ["thing"] (ao kn):=⟨rfl,rfl,rfl,by decide +kernel,rfl,by decide +kernel,by decide +kernel⟩
def tj {f:Addr}{fd:FuncData}(F:gO K mg "is_whole" kn ["thing"] f fd)(B:i7 mg):cn P w K mg base ca "is_whole" ["thing"] 1 (aV 1 1 (qj)):=
 ⟨⟨f,fd,F.mg,F.F.kp,F.b,aW (N:=["thing"]) (k:=0) F.F wx λcdv A outer s H G E hr=>
  (az (aN (i9 (gc "int" (by decide) rfl rfl B.isinstance rfl B.int (by decide +kernel) (ae 0)) (je (wR (gc "bool" (by decide) rfl rfl B.isinstance rfl B.bool (by decide +kernel) (ae 0)))) (λ_ _=>rfl))))⟩,λds h=>aK ds h⟩
abbrev ke:Stmt:=top 3
def wd:aF ["thing","bound"] ["thing","bound"] (ao ke):=⟨rfl,rfl,rfl,by decide +kernel,rfl,by decide +kernel,by decide +kernel⟩
def td {f:Addr}{fd:FuncData}{bz:List D->FR}(F:gO K mg "is_below" ke ["thing","bound"] f fd)(B:i7 mg)(cV:cn P w K mg base ca "is_whole" ["thing"] 1 bz):cn P w K mg base ca "is_below" ["thing","bound"] 2 (aV 2 2 (qc bz)):=
 ⟨⟨f,fd,F.mg,F.F.kp,F.b,aW (N:=["thing","bound"]) (k:=1) F.F wd λcdv A outer s H G E hr=>
  (az (aN (i9 (aG cV (hr.mono (by decide)) aU rfl rfl (ab (av 0 rfl) af)) (je (pM qU sM yh Aw ak (ae 0) (ae 1))) (λ_ _=>rfl))))⟩,λds h=>aK ds h⟩
abbrev lP:Stmt:=top 4
def xA:aF ["thing"] ["thing"] (ao lP):=⟨rfl,rfl,rfl,by decide +kernel,rfl,by decide +kernel,by decide +kernel⟩
def wz {f:Addr}{fd:FuncData}{bz:List D->FR}(F:gO K mg "is_many" lP ["thing"] f fd)(B:i7 mg)(cV:cn P w K mg base ca "is_whole" ["thing"] 1 bz){rN:Tok}(jM:mg "MOST_THINGS"=some (.int 8 rN)):cn P w K mg base ca "is_many" ["thing"] 2 (aV 1 1 (sO bz)):=
 ⟨⟨f,fd,F.mg,F.F.kp,F.b,aW (N:=["thing"]) (k:=1) F.F xA λcdv A outer s H G E hr=>
  (az (aN (i9 (aG cV (hr.mono (by decide)) aU rfl rfl (ab (av 0 rfl) af)) (je (pM qU qU yh yh ak (ae 0) (yW (by rfl) jM))) (λ_ _=>rfl))))⟩,λds h=>aK ds h⟩
abbrev lN:Stmt:=top 5
def xx:aF ["thing","many"] ["thing","many"] (ao lN):=⟨rfl,rfl,rfl,by decide +kernel,rfl,by decide +kernel,by decide +kernel⟩
def vd {f:Addr}{fd:FuncData}{eS:List D->FR}(F:gO K mg "is_pair" lN ["thing","many"] f fd)(B:i7 mg)(kE:cn P w K mg base ca "is_below" ["thing","bound"] 2 eS):cn P w K mg base ca "is_pair" ["thing","many"] 3 (aV 2 2 (sI eS)):=
 ⟨⟨f,fd,F.mg,F.F.kp,F.b,aW (N:=["thing","many"]) (k:=2) F.F xx λcdv A outer s H G E hr=>
  (aq (cw (oR.t (fM (bP (bA rfl (gc "tuple" (by decide) rfl rfl B.isinstance rfl B.tuple (by decide +kernel) (ae 0)))) (eV (bg (dR hr.units) dQ (aP bI fC rfl B.len Nd (ae 0)) ak (aY _))) (λ_ _=>rfl)))
  (az (aN fo))
  bH)
  (az (aN (i9 (aG kE (hr.mono (by decide)) aU rfl rfl (ab (aM aC a9 (ae 0) ak (λ_ _=>rfl)) (ab (av 1 rfl) af))) (je (aG kE (hr.mono (by decide)) aU rfl rfl (ab (aM aC a9 (ae 0) ak (λ_ _=>rfl)) (ab (av 1 rfl) af)))) (λ_ _=>rfl)))))⟩,λds h=>aK ds h⟩
abbrev fJ:Stmt:=top 6
def rm:aF ["many"] ["many"] (ao fJ):=⟨rfl,rfl,rfl,by decide +kernel,rfl,by decide +kernel,by decide +kernel⟩
def qm {f:Addr}{fd:FuncData}(F:gO K mg "every_pair" fJ ["many"] f fd)(B:i7 mg):cn P w K mg base ca "every_pair" ["many"] 1 (aV 1 1 (ic)):=
 ⟨⟨f,fd,F.mg,F.F.kp,F.b,aW (N:=["many"]) (k:=0) F.F rm λcdv A outer s H G E hr=>
  (az (l0 (bR (NB:=["number","many"]) (own:=1) (ixs:=[0]) [] rfl (bM (by kernel_rfl)) (λ_ _=>rfl) (j4 rfl B.range (bD lC my (ae 0) (ae 0))) (λH0 G0 par br bx C ex s3 H3 pn=>(cP (i:=0) (show (["number","many"]:List Str).Nodup by decide +kernel))) (λH0 G0 par br bx C ex s3 H3 pn hB1=>cX) (λH0 G0 par br bx C ex s3 H3 pn hB1=>(cz (ab (bD tZ Ji (ae 0) (ae 1)) (ab (bD mM sd (ae 0) (ae 1)) af)))))))⟩,λds h=>aK ds h⟩
abbrev kl:Stmt:=top 14
def vY:aF ["pairs"] ["pairs"] (ao kl):=⟨rfl,rfl,rfl,by decide +kernel,rfl,by decide +kernel,by decide +kernel⟩
def tM {f:Addr}{fd:FuncData}(F:gO K mg "has_ring" kl ["pairs"] f fd)(B:i7 mg):cn P w K mg base ca "has_ring" ["pairs"] 1 (aV 1 1 (qf)):=
 ⟨⟨f,fd,F.mg,F.F.kp,F.b,aW (N:=["pairs"]) (k:=0) F.F vY λcdv A outer s H G E hr=>
  (az (aN (aP (vX rfl) fQ rfl B.any (by decide +kernel) (bR (NB:=["a","b"]) (own:=2) (ixs:=[]) [] rfl (bM (by kernel_rfl)) (λ_ _=>rfl) (jZ rfl (ae 0)) (λH0 G0 par br bx C ex s3 H3 pn=>(jd (i:=0) (j:=1) (show (["a","b"]:List Str).Nodup by decide +kernel))) (λH0 G0 par br bx C ex s3 H3 pn hB1=>cX) (λH0 G0 par br bx C ex s3 H3 pn hB1=>(de (dv hr.units) dQ (ae 0) (ae 1) (aY _)))))))⟩,λds h=>aK ds h⟩
abbrev kH:Stmt:=top 12
def lg:aF ["thing","many","pairs"] ["thing"] (ao kH):=⟨rfl,rfl,rfl,by decide +kernel,rfl,by decide +kernel,by decide +kernel⟩
def uH {f:Addr}{fd:FuncData}{iK iI j3 gq:List D->FR}(F:gO K mg "is_order" kH ["thing"] f fd)(B:i7 mg)(ot:cn P w K mg base ca "is_many" ["thing"] 2 iK)(oi:cn P w K mg base ca "is_pair" ["thing","many"] 3 iI)(qy:cn P w K mg base ca "closed" ["many","pairs"] 3 j3)(mE:cn P w K mg base ca "has_ring" ["pairs"] 1 gq):cn P w K mg base ca "is_order" ["thing"] 4 (aV 3 1 (i8 iK iI j3 gq)):=
 ⟨⟨f,fd,F.mg,F.F.kp,F.b,aW (N:=["thing","many","pairs"]) (k:=3) F.F lg λcdv A outer s H G E hr=>
  (aq (cw (oR.t (fM (bP (bA rfl (gc "tuple" (by decide) rfl rfl B.isinstance rfl B.tuple (by decide +kernel) (ae 0)))) (eV (bg (dR hr.units) dQ (aP bI fC rfl B.len Nd (ae 0)) ak (aY _))) (λ_ _=>rfl)))
  (az (aN fo))
  bH)
  (aq (bf (i:=1) (aM aC a9 (ae 0) ak (λ_ _=>rfl)) lg.nd)
  (aq (bf (i:=2) (aM aC a9 (ae 0) ak (λ_ _=>rfl)) lg.nd)
  (aq (cw (oR.t (fM (bP (bA rfl (aG ot (hr.mono (by decide)) aU rfl rfl (ab (av 1 rfl) af)))) (eV (bP (bA rfl (gc "tuple" (by decide) rfl rfl B.isinstance rfl B.tuple (by decide +kernel) (ae 2))))) (λ_ _=>rfl)))
  (az (aN fo))
  bH)
  (aq (cw (bP (bA rfl (aP (fN rfl) fQ rfl B.all (by decide +kernel) (bR (NB:=["pair","many"]) (own:=1) (ixs:=[1]) [1] rfl (bM (by kernel_rfl)) (λ_ _=>rfl) (jZ rfl (ae 2)) (λH0 G0 par br bx C ex s3 H3 pn=>(cP (i:=0) (show (["pair","many"]:List Str).Nodup by decide +kernel))) (λH0 G0 par br bx C ex s3 H3 pn hB1=>cX) (λH0 G0 par br bx C ex s3 H3 pn hB1=>(aG oi (hr.mono (by decide)) j6 rfl rfl (ab (av 0 (hB1 0 (by decide))) (ab (av 1 (hB1 1 (by decide))) af))))))))
  (az (aN fo))
  bH)
  (az (aN (i9 (de (dv hr.units) dQ (ae 2) (aG qy (hr.mono (by decide)) aU rfl rfl (ab (av 1 rfl) (ab (av 2 rfl) af))) (aY _)) (je (wR (aG mE (hr.mono (by decide)) aU rfl rfl (ab (av 2 rfl) af)))) (λ_ _=>rfl)))))))))⟩,λds h=>aK ds h⟩
abbrev iy:Stmt:=top 15
def rg:aF ["thing"] ["thing"] (ao iy):=⟨rfl,rfl,rfl,by decide +kernel,rfl,by decide +kernel,by decide +kernel⟩
def qV {f:Addr}{fd:FuncData}{fZ:List D->FR}(F:gO K mg "need_order" iy ["thing"] f fd)(B:i7 mg)(mw:cn P w K mg base ca "is_order" ["thing"] 4 fZ):cn P w K mg base ca "need_order" ["thing"] 5 (aV 1 1 (gX fZ)):=
 ⟨⟨f,fd,F.mg,F.F.kp,F.b,aW (N:=["thing"]) (k:=4) F.F rg λcdv A outer s H G E hr=>
  (az (cw (bP (bA rfl (aG mw (hr.mono (by decide)) aU rfl rfl (ab (av 0 rfl) af))))
  (az CG)
  bH))⟩,λds h=>aK ds h⟩
abbrev jE:Stmt:=top 16
def tx:aF ["order","a","b"] ["order","a","b"] (ao jE):=⟨rfl,rfl,rfl,by decide +kernel,rfl,by decide +kernel,by decide +kernel⟩
def rb {f:Addr}{fd:FuncData}(F:gO K mg "are_apart" jE ["order","a","b"] f fd)(B:i7 mg):cn P w K mg base ca "are_apart" ["order","a","b"] 1 (aV 3 3 (oG)):=
 ⟨⟨f,fd,F.mg,F.F.kp,F.b,aW (N:=["order","a","b"]) (k:=0) F.F tx λcdv A outer s H G E hr=>
  (az (aN (i9 (de (dR hr.units) dQ (ae 1) (ae 2) (aY _)) (i9 (de (fY hr.u1) oU (cz (ab (av 1 rfl) (ab (av 2 rfl) af))) (aM aC a9 (ae 0) ak (λ_ _=>rfl)) (by with_unfolding_all rfl)) (je (de (fY hr.u1) oU (cz (ab (av 2 rfl) (ab (av 1 rfl) af))) (aM aC a9 (ae 0) ak (λ_ _=>rfl)) (by with_unfolding_all rfl))) (λ_ _=>rfl)) (λ_ _=>rfl))))⟩,λds h=>aK ds h⟩
abbrev hZ:Stmt:=top 18
def rK:aF ["placed","thing"] ["placed","thing"] (ao hZ):=⟨rfl,rfl,rfl,by decide +kernel,rfl,by decide +kernel,by decide +kernel⟩
def qO {f:Addr}{fd:FuncData}(F:gO K mg "with_thing" hZ ["placed","thing"] f fd)(B:i7 mg):cn P w K mg base ca "with_thing" ["placed","thing"] 1 (aV 2 2 (iB)):=
 ⟨⟨f,fd,F.mg,F.F.kp,F.b,aW (N:=["placed","thing"]) (k:=0) F.F rK λcdv A outer s H G E hr=>
  (az (aN (bD Fp IG (ae 0) (bD HX ID ak (ae 1)))))⟩,λds h=>aK ds h⟩
abbrev gx:Stmt:=top 19
def iR:aF ["order","masks","a","b"] ["order"] (ao gx):=⟨rfl,rfl,rfl,by decide +kernel,rfl,by decide +kernel,by decide +kernel⟩
def oV {f:Addr}{fd:FuncData}{aE:List D->FR}(F:gO K mg "masks_ahead" gx ["order"] f fd)(B:i7 mg)(a7:cn P w K mg base ca "with_thing" ["placed","thing"] 1 aE):cn P w K mg base ca "masks_ahead" ["order"] 2 (aV 4 1 (gr aE)):=
 ⟨⟨f,fd,F.mg,F.F.kp,F.b,aW (N:=["order","masks","a","b"]) (k:=1) F.F iR λcdv A outer s H G E hr=>
  (aq (jk (i:=1) (Bx (cA (ab ak af)) (aM aC a9 (ae 0) ak (λ_ _=>rfl))) iR.nd)
  (aq (jN PassesOwn.leaving rfl (Ke rfl (aM aC a9 (ae 0) ak (λ_ _=>rfl))) (jd (i:=2) (j:=3) iR.nd)
  (az (Dr 1 (λ_=>rfl) (aG a7 (hr.mono (by decide)) aU rfl rfl (ab (aM aC a9 (ae 1) (ae 3) (λ_ _=>rfl)) (ab (av 2 rfl) af))) (ae 3))))
  (az (o9 1))))⟩,λds h=>aK ds h⟩
abbrev gz:Stmt:=top 20
def jb:aF ["masks","placed","free","thing","mask"] ["masks","placed"] (ao gz):=⟨rfl,rfl,rfl,by decide +kernel,rfl,by decide +kernel,by decide +kernel⟩
def oX {f:Addr}{fd:FuncData}{aE:List D->FR}(F:gO K mg "free_things" gz ["masks","placed"] f fd)(B:i7 mg)(a7:cn P w K mg base ca "with_thing" ["placed","thing"] 1 aE):cn P w K mg base ca "free_things" ["masks","placed"] 2 (aV 5 2 (gu aE)):=
 ⟨⟨f,fd,F.mg,F.F.kp,F.b,aW (N:=["masks","placed","free","thing","mask"]) (k:=1) F.F jb λcdv A outer s H G E hr=>
  (aq (jk (i:=2) (cA af) jb.nd)
  (aq (jN PassesOwn.leaving rfl (vN rfl rfl B.enumerate (av 0 rfl)) (jd (i:=3) (j:=4) jb.nd)
  (az (cw (oR.t (xm (bg (dR hr.units) dQ (aG a7 (hr.mono (by decide)) aU rfl rfl (ab (av 1 rfl) (ab (av 3 rfl) af))) (ae 1) (aY _)) (sY (bg (dv hr.units) dQ (bD HQ IY (ae 1) (ae 4)) (ae 4) (aY _))) (λ_ _=>rfl)))
  (az (jV 2 (λ_=>rfl) (av 3 rfl)))
  bH)))
  (az (o9 2))))⟩,λds h=>aK ds h⟩
abbrev jD:Stmt:=top 21
def dE:aF ["masks","late","row","placed","free","early"] ["masks","late"] (ao jD):=⟨rfl,rfl,rfl,by decide +kernel,rfl,by decide +kernel,by decide +kernel⟩
def rT {f:Addr}{fd:FuncData}{c8 aE:List D->FR}(F:gO K mg "row_along" jD ["masks","late"] f fd)(B:i7 mg)(jP:cn P w K mg base ca "free_things" ["masks","placed"] 2 c8)(a7:cn P w K mg base ca "with_thing" ["placed","thing"] 1 aE):cn P w K mg base ca "row_along" ["masks","late"] 3 (aV 6 2 (jI c8 aE)):=
 ⟨⟨f,fd,F.mg,F.F.kp,F.b,aW (N:=["masks","late","row","placed","free","early"]) (k:=2) F.F dE λcdv A outer s H G E hr=>
  (aq (jk (i:=2) (cA af) dE.nd)
  (aq (bf (i:=3) ak dE.nd)
  (aq (nu 1000 PassesOwn.leaving (bg sM Aw (aP bI fC rfl B.len Nd (ae 2)) (aP bI fC rfl B.len Nd (ae 0)) (aY _))
  (aq (bf (i:=4) (aG jP (hr.mono (by decide)) aU rfl rfl (ab (av 0 rfl) (ab (av 3 rfl) af))) dE.nd)
  (aq (mT (i:=5) (NB:=["thing","late"]) (own:=1) (ixs:=[1]) [] rfl (bM (by kernel_rfl)) (λ_ _=>rfl) (jZ rfl (ae 4)) (λH0 G0 par br bx C ex s3 H3 pn=>(cP (i:=0) (show (["thing","late"]:List Str).Nodup by decide +kernel))) (λH0 G0 par br bx C ex s3 H3 pn hB1=>(eN (bg (fY hr.u1) oU (ae 0) (ae 1) (by with_unfolding_all rfl)))) (λH0 G0 par br bx C ex s3 H3 pn hB1=>(av 0 (hB1 0 (by decide)))) dE.nd)
  (aq (jV 2 (λ_=>rfl) (aM aC a9 (bD jt oF (ae 5) (ae 4)) ak (λ_ _=>rfl)))
  (az (bf (i:=3) (aG a7 (hr.mono (by decide)) aU rfl rfl (ab (av 3 rfl) (ab (aM aC a9 (ae 2) (Cc xg Bs ak) (λ_ _=>rfl)) af))) dE.nd))))))
  (az (aN (i6 c7 nz rfl B.tuple (by decide +kernel) (ae 2)))))))⟩,λds h=>aK ds h⟩
abbrev pH:Stmt:=top 23
def Bj:aF ["order"] ["order"] (ao pH):=⟨rfl,rfl,rfl,by decide +kernel,rfl,by decide +kernel,by decide +kernel⟩
def zM {f:Addr}{fd:FuncData}{aX cT fD:List D->FR}(F:gO K mg "turns" pH ["order"] f fd)(B:i7 mg)(cf:cn P w K mg base ca "need_order" ["thing"] 5 aX)(kA:cn P w K mg base ca "every_pair" ["many"] 1 cT)(la:cn P w K mg base ca "are_apart" ["order","a","b"] 1 fD):cn P w K mg base ca "turns" ["order"] 6 (aV 1 1 (pG aX cT fD)):=
 ⟨⟨f,fd,F.mg,F.F.kp,F.b,aW (N:=["order"]) (k:=5) F.F Bj λcdv A outer s H G E hr=>
  (aq (pe (aG cf (hr.mono (by decide)) aU rfl rfl (ab (av 0 rfl) af)))
  (az (l0 (bR (NB:=["a","b","order"]) (own:=2) (ixs:=[0]) [0] rfl (bM (by kernel_rfl)) (λ_ _=>rfl) (jZ rfl (aG kA (hr.mono (by decide)) aU rfl rfl (ab (aM aC a9 (ae 0) ak (λ_ _=>rfl)) af))) (λH0 G0 par br bx C ex s3 H3 pn=>(jd (i:=0) (j:=1) (show (["a","b","order"]:List Str).Nodup by decide +kernel))) (λH0 G0 par br bx C ex s3 H3 pn hB1=>(eN (bA rfl (aG la (hr.mono (by decide)) j6 rfl rfl (ab (av 2 (hB1 2 (by decide))) (ab (av 0 (hB1 0 (by decide))) (ab (av 1 (hB1 1 (by decide))) af))))))) (λH0 G0 par br bx C ex s3 H3 pn hB1=>(cz (ab (av 0 (hB1 0 (by decide))) (ab (av 1 (hB1 1 (by decide))) af))))))))⟩,λds h=>aK ds h⟩
abbrev kS:Stmt:=top 25
def oC:aF ["order","a","b","pairs"] ["order","a","b"] (ao kS):=⟨rfl,rfl,rfl,by decide +kernel,rfl,by decide +kernel,by decide +kernel⟩
def uS {f:Addr}{fd:FuncData}(F:gO K mg "is_sharp" kS ["order","a","b"] f fd)(B:i7 mg):cn P w K mg base ca "is_sharp" ["order","a","b"] 1 (aV 4 3 (ko)):=
 ⟨⟨f,fd,F.mg,F.F.kp,F.b,aW (N:=["order","a","b","pairs"]) (k:=0) F.F oC λcdv A outer s H G E hr=>
  (aq (bf (i:=3) (aM aC a9 (ae 0) ak (λ_ _=>rfl)) oC.nd)
  (aq (cw (bP (bA rfl (aP (fN rfl) fQ rfl B.all (by decide +kernel) (bR (NB:=["one","other","a","b","pairs"]) (own:=2) (ixs:=[1,2,3]) [2] rfl (bM (by kernel_rfl)) (λ_ _=>rfl) (jZ rfl (ae 3)) (λH0 G0 par br bx C ex s3 H3 pn=>(jd (i:=0) (j:=1) (show (["one","other","a","b","pairs"]:List Str).Nodup by decide +kernel))) (λH0 G0 par br bx C ex s3 H3 pn hB1=>(eN (bg (dv hr.units) dQ (ae 1) (ae 2) (aY _)))) (λH0 G0 par br bx C ex s3 H3 pn hB1=>(de (qI hr.u1) oU (cz (ab (av 0 (hB1 0 (by decide))) (ab (av 3 (hB1 3 (by decide))) af))) (ae 4) (by with_unfolding_all rfl)))))))
  (az (aN fo))
  bH)
  (az (aN (aP (fN rfl) fQ rfl B.all (by decide +kernel) (bR (NB:=["one","other","b","a","pairs"]) (own:=2) (ixs:=[2,1,3]) [1] rfl (bM (by kernel_rfl)) (λ_ _=>rfl) (jZ rfl (ae 3)) (λH0 G0 par br bx C ex s3 H3 pn=>(jd (i:=0) (j:=1) (show (["one","other","b","a","pairs"]:List Str).Nodup by decide +kernel))) (λH0 G0 par br bx C ex s3 H3 pn hB2=>(eN (bg (dv hr.units) dQ (ae 0) (ae 2) (aY _)))) (λH0 G0 par br bx C ex s3 H3 pn hB2=>(de (qI hr.u1) oU (cz (ab (av 3 (hB2 3 (by decide))) (ab (av 1 (hB2 1 (by decide))) af))) (ae 4) (by with_unfolding_all rfl)))))))))⟩,λds h=>aK ds h⟩
abbrev gA:Stmt:=top 24
def pV:aF ["order"] ["order"] (ao gA):=⟨rfl,rfl,rfl,by decide +kernel,rfl,by decide +kernel,by decide +kernel⟩
def o6 {f:Addr}{fd:FuncData}{lT gp:List D->FR}(F:gO K mg "sharp_turns" gA ["order"] f fd)(B:i7 mg)(tD:cn P w K mg base ca "turns" ["order"] 6 lT)(mF:cn P w K mg base ca "is_sharp" ["order","a","b"] 1 gp):cn P w K mg base ca "sharp_turns" ["order"] 7 (aV 1 1 (mn lT gp)):=
 ⟨⟨f,fd,F.mg,F.F.kp,F.b,aW (N:=["order"]) (k:=6) F.F pV λcdv A outer s H G E hr=>
  (az (l0 (bR (NB:=["a","b","order"]) (own:=2) (ixs:=[0]) [0] rfl (bM (by kernel_rfl)) (λ_ _=>rfl) (jZ rfl (aG tD (hr.mono (by decide)) aU rfl rfl (ab (av 0 rfl) af))) (λH0 G0 par br bx C ex s3 H3 pn=>(jd (i:=0) (j:=1) (show (["a","b","order"]:List Str).Nodup by decide +kernel))) (λH0 G0 par br bx C ex s3 H3 pn hB1=>(eN (bA rfl (aG mF (hr.mono (by decide)) j6 rfl rfl (ab (av 2 (hB1 2 (by decide))) (ab (av 0 (hB1 0 (by decide))) (ab (av 1 (hB1 1 (by decide))) af))))))) (λH0 G0 par br bx C ex s3 H3 pn hB1=>(cz (ab (av 0 (hB1 0 (by decide))) (ab (av 1 (hB1 1 (by decide))) af)))))))⟩,λds h=>aK ds h⟩
abbrev kM:Stmt:=top 26
def vL:aF ["order","turn","other"] ["order","turn","other"] (ao kM):=⟨rfl,rfl,rfl,by decide +kernel,rfl,by decide +kernel,by decide +kernel⟩
def tX {f:Addr}{fd:FuncData}(F:gO K mg "leads_on" kM ["order","turn","other"] f fd)(B:i7 mg):cn P w K mg base ca "leads_on" ["order","turn","other"] 1 (aV 3 3 (kc)):=
 ⟨⟨f,fd,F.mg,F.F.kp,F.b,aW (N:=["order","turn","other"]) (k:=0) F.F vL λcdv A outer s H G E hr=>
  (az (aN (FN (de (dv hr.units) dQ (aM aC a9 (ae 1) ak (λ_ _=>rfl)) (aM aC a9 (ae 2) ak (λ_ _=>rfl)) (aY _)) (je (de (qI hr.u1) oU (cz (ab (aM aC a9 (ae 1) ak (λ_ _=>rfl)) (ab (aM aC a9 (ae 2) ak (λ_ _=>rfl)) af))) (aM aC a9 (ae 0) ak (λ_ _=>rfl)) (by with_unfolding_all rfl))) (λ_ _=>rfl))))⟩,λds h=>aK ds h⟩
abbrev kQ:Stmt:=top 27
def vW:aF ["masks","a","b"] ["masks","a","b"] (ao kQ):=⟨rfl,rfl,rfl,by decide +kernel,rfl,by decide +kernel,by decide +kernel⟩
def uC {f:Addr}{fd:FuncData}{aE:List D->FR}(F:gO K mg "is_ahead" kQ ["masks","a","b"] f fd)(B:i7 mg)(a7:cn P w K mg base ca "with_thing" ["placed","thing"] 1 aE):cn P w K mg base ca "is_ahead" ["masks","a","b"] 2 (aV 3 3 (kB aE)):=
 ⟨⟨f,fd,F.mg,F.F.kp,F.b,aW (N:=["masks","a","b"]) (k:=1) F.F vW λcdv A outer s H G E hr=>
  (az (aN (de (dv hr.units) dQ (aG a7 (hr.mono (by decide)) aU rfl rfl (ab (aM aC a9 (ae 0) (ae 2) (λ_ _=>rfl)) (ab (av 1 rfl) af))) (aM aC a9 (ae 0) (ae 2) (λ_ _=>rfl)) (aY _))))⟩,λds h=>aK ds h⟩
abbrev jq:Stmt:=top 28
def uM:aF ["masks","turn"] ["masks","turn"] (ao jq):=⟨rfl,rfl,rfl,by decide +kernel,rfl,by decide +kernel,by decide +kernel⟩
def rO {f:Addr}{fd:FuncData}{bw:List D->FR}(F:gO K mg "is_turned" jq ["masks","turn"] f fd)(B:i7 mg)(cW:cn P w K mg base ca "is_ahead" ["masks","a","b"] 2 bw):cn P w K mg base ca "is_turned" ["masks","turn"] 3 (aV 2 2 (jF bw)):=
 ⟨⟨f,fd,F.mg,F.F.kp,F.b,aW (N:=["masks","turn"]) (k:=2) F.F uM λcdv A outer s H G E hr=>
  (az (aN (aG cW (hr.mono (by decide)) aU rfl rfl (ab (av 0 rfl) (ab (aM aC a9 (ae 1) ak (λ_ _=>rfl)) (ab (aM aC a9 (ae 1) ak (λ_ _=>rfl)) af))))))⟩,λds h=>aK ds h⟩
abbrev jm:Stmt:=top 29
def tw:aF ["masks","turn"] ["masks","turn"] (ao jm):=⟨rfl,rfl,rfl,by decide +kernel,rfl,by decide +kernel,by decide +kernel⟩
def rD {f:Addr}{fd:FuncData}{bw:List D->FR}(F:gO K mg "is_barred" jm ["masks","turn"] f fd)(B:i7 mg)(cW:cn P w K mg base ca "is_ahead" ["masks","a","b"] 2 bw):cn P w K mg base ca "is_barred" ["masks","turn"] 3 (aV 2 2 (jw bw)):=
 ⟨⟨f,fd,F.mg,F.F.kp,F.b,aW (N:=["masks","turn"]) (k:=2) F.F tw λcdv A outer s H G E hr=>
  (az (aN (aG cW (hr.mono (by decide)) aU rfl rfl (ab (av 0 rfl) (ab (aM aC a9 (ae 1) ak (λ_ _=>rfl)) (ab (aM aC a9 (ae 1) ak (λ_ _=>rfl)) af))))))⟩,λds h=>aK ds h⟩
abbrev kx:Stmt:=top 30
def lL:aF ["masks","turn","late","more"] ["masks","turn"] (ao kx):=⟨rfl,rfl,rfl,by decide +kernel,rfl,by decide +kernel,by decide +kernel⟩
def uy {f:Addr}{fd:FuncData}{bw aE:List D->FR}(F:gO K mg "put_turn" kx ["masks","turn"] f fd)(B:i7 mg)(cW:cn P w K mg base ca "is_ahead" ["masks","a","b"] 2 bw)(a7:cn P w K mg base ca "with_thing" ["placed","thing"] 1 aE):cn P w K mg base ca "put_turn" ["masks","turn"] 3 (aV 4 2 (kN bw aE)):=
 ⟨⟨f,fd,F.mg,F.F.kp,F.b,aW (N:=["masks","turn","late","more"]) (k:=2) F.F lL λcdv A outer s H G E hr=>
  (aq (bf (i:=2) (SE.wv (bR (NB:=["thing","turn","masks"]) (own:=1) (ixs:=[1,0]) [0] rfl (bM (by kernel_rfl)) (λ_ _=>rfl) (j4 rfl B.range (aP bI fC rfl B.len Nd (ae 0))) (λH0 G0 par br bx C ex s3 H3 pn=>(cP (i:=0) (show (["thing","turn","masks"]:List Str).Nodup by decide +kernel))) (λH0 G0 par br bx C ex s3 H3 pn hB1=>(eN (oR.t (fM (bg (dv hr.units) dQ (ae 0) (aM aC a9 (ae 1) ak (λ_ _=>rfl)) (aY _)) (eV (bA rfl (aG cW (hr.mono (by decide)) j6 rfl rfl (ab (av 2 (hB1 2 (by decide))) (ab (aM aC a9 (ae 1) ak (λ_ _=>rfl)) (ab (av 0 (hB1 0 (by decide))) af)))))) (λi hi=>hB1 i (by revert i hi;decide)))))) (λH0 G0 par br bx C ex s3 H3 pn hB1=>(av 0 (hB1 0 (by decide)))))) lL.nd)
  (aq (bf (i:=3) (aG a7 (hr.mono (by decide)) aU rfl rfl (ab (aM aC a9 (ae 0) (aM aC a9 (ae 1) ak (λ_ _=>rfl)) (λ_ _=>rfl)) (ab (aM aC a9 (ae 1) ak (λ_ _=>rfl)) af))) lL.nd)
  (az (l0 (bR (NB:=["thing","mask","late","more"]) (own:=2) (ixs:=[2,3]) [] rfl (bM (by kernel_rfl)) (λ_ _=>rfl) (SI.vb (vN rfl rfl B.enumerate (av 0 rfl))) (λH0 G0 par br bx C ex s3 H3 pn=>(jd (i:=0) (j:=1) (show (["thing","mask","late","more"]:List Str).Nodup by decide +kernel))) (λH0 G0 par br bx C ex s3 H3 pn hB2=>cX) (λH0 G0 par br bx C ex s3 H3 pn hB2=>(II (bg (qI hr.u1) oU (ae 0) (ae 2) (by with_unfolding_all rfl)) (bD Fp IG (ae 1) (ae 3)) (av 1 (hB2 1 (by decide))) (λi hi=>hB2 i (by revert i hi;decide)))))))))⟩,λds h=>aK ds h⟩
abbrev jy:Stmt:=top 31
def cZ:aF ["order","put","turn","paths","left","at","fresh"] ["order","put","turn"] (ao jy):=⟨rfl,rfl,rfl,by decide +kernel,rfl,by decide +kernel,by decide +kernel⟩
def rJ {f:Addr}{fd:FuncData}{eR:List D->FR}(F:gO K mg "ring_with" jy ["order","put","turn"] f fd)(B:i7 mg)(kR:cn P w K mg base ca "leads_on" ["order","turn","other"] 1 eR):cn P w K mg base ca "ring_with" ["order","put","turn"] 2 (aV 7 3 (jn eR)):=
 ⟨⟨f,fd,F.mg,F.F.kp,F.b,aW (N:=["order","put","turn","paths","left","at","fresh"]) (k:=1) F.F cZ λcdv A outer s H G E hr=>
  (aq (jk (i:=3) (cA (ab (SE.wv (cA (ab (av 2 rfl) af))) af)) cZ.nd)
  (aq (bf (i:=4) (av 1 rfl) cZ.nd)
  (aq (bf (i:=5) ak cZ.nd)
  (aq (nu 1000 PassesOwn.leaving (bP (bA rfl (aG kR (hr.mono (by decide)) aU rfl rfl (ab (av 0 rfl) (ab (aM aC a9 (aM aC a9 (ae 3) (ae 5) (λ_ _=>rfl)) (Cc xg Bs ak) (λ_ _=>rfl)) (ab (av 2 rfl) af))))))
  (aq (bf (i:=6) (SE.wv (bR (NB:=["other","order","paths","at"]) (own:=1) (ixs:=[0,3,5]) [0] rfl (bM (by kernel_rfl)) (λ_ _=>rfl) (jZ rfl (ae 4)) (λH0 G0 par br bx C ex s3 H3 pn=>(cP (i:=0) (show (["other","order","paths","at"]:List Str).Nodup by decide +kernel))) (λH0 G0 par br bx C ex s3 H3 pn hB1=>(eN (bA rfl (aG kR (hr.mono (by decide)) j6 rfl rfl (ab (av 1 (hB1 1 (by decide))) (ab (aM aC a9 (aM aC a9 (ae 2) (ae 3) (λ_ _=>rfl)) (Cc xg Bs ak) (λ_ _=>rfl)) (ab (av 0 (hB1 0 (by decide))) af))))))) (λH0 G0 par br bx C ex s3 H3 pn hB1=>(av 0 (hB1 0 (by decide)))))) cZ.nd)
  (aq (mT (i:=4) (NB:=["other","fresh"]) (own:=1) (ixs:=[6]) [] rfl (bM (by kernel_rfl)) (λ_ _=>rfl) (jZ rfl (ae 4)) (λH0 G0 par br bx C ex s3 H3 pn=>(cP (i:=0) (show (["other","fresh"]:List Str).Nodup by decide +kernel))) (λH0 G0 par br bx C ex s3 H3 pn hB2=>(eN (bg (fY hr.u1) oU (ae 0) (ae 1) (by with_unfolding_all rfl)))) (λH0 G0 par br bx C ex s3 H3 pn hB2=>(av 0 (hB2 0 (by decide)))) cZ.nd)
  (aq (zt 3 (λ_=>rfl) (bR (NB:=["other","paths","at"]) (own:=1) (ixs:=[3,5]) [] rfl (bM (by kernel_rfl)) (λ_ _=>rfl) (jZ rfl (ae 6)) (λH0 G0 par br bx C ex s3 H3 pn=>(cP (i:=0) (show (["other","paths","at"]:List Str).Nodup by decide +kernel))) (λH0 G0 par br bx C ex s3 H3 pn hB3=>cX) (λH0 G0 par br bx C ex s3 H3 pn hB3=>(SE.wv (bD jt oF (aM aC a9 (ae 1) (ae 2) (λ_ _=>rfl)) (cA (ab (av 0 (hB3 0 (by decide))) af)))))))
  (az (bf (i:=5) (bD gP gY (ae 5) ak) cZ.nd))))))
  (az (aN (aM aC a9 (ae 3) (ae 5) (λ_ _=>rfl))))))))⟩,λds h=>aK ds h⟩
abbrev l4:Stmt:=top 41
def mz:aF ["order","left","rows","number","turn","masks","put"] ["order","left","rows","number","turn"] (ao l4):=⟨rfl,rfl,rfl,by decide +kernel,rfl,by decide +kernel,by decide +kernel⟩
def wJ {T:Addr}{f:Addr}{fd:FuncData}{b9 bX fy fX:List D->FR}{k:Nat}(hk:6<=k)(F:gO K mg "case_of" l4 ["order","left","rows","number","turn"] f fd)(B:i7 mg)(iW:gL T P w K mg base ca "cases_on" ["order","left","rows"] k b9)(fF:cn P w K mg base ca "is_barred" ["masks","turn"] 3 bX)(lj:cn P w K mg base ca "ring_with" ["order","put","turn"] 2 fy)(mN:cn P w K mg base ca "put_turn" ["masks","turn"] 3 fX):gL T P w K mg base ca "case_of" ["order","left","rows","number","turn"] (k + 1) (aV 7 5 (iM b9 bX fy fX)):=
 ⟨⟨f,fd,F.mg,F.F.kp,F.b,jf (N:=["order","left","rows","number","turn","masks","put"]) (k:=k) F.F mz λcdv A outer s H G E hcd hT hr=>
  (aq (bf (i:=5) (aM aC a9 (aM aC a9 (ae 2) (ae 3) (λ_ _=>rfl)) ak (λ_ _=>rfl)) mz.nd)
  (aq (bf (i:=6) (aM aC a9 (aM aC a9 (ae 2) (ae 3) (λ_ _=>rfl)) ak (λ_ _=>rfl)) mz.nd)
  (aq (cw (bA rfl (aG fF (hr.mono (by omega)) aU rfl rfl (ab (av 5 rfl) (ab (av 4 rfl) af))))
  (az (aN (cz (ab lE (ab (av 3 rfl) (ab (aG lj (hr.mono (by omega)) aU rfl rfl (ab (av 0 rfl) (ab (av 6 rfl) (ab (av 4 rfl) af)))) af))))))
  bH)
  (az (aN (dB hT iW (hr.mono (by omega)) aU rfl rfl (ab (av 0 rfl) (ab (av 1 rfl) (ab (SE.wv (bD jt oF (bD jt oF (nj rfl (ae 2) pd (pA (ae 3))) (cA (ab (cz (ab (aG mN (hr.mono (by omega)) aU rfl rfl (ab (av 5 rfl) (ab (av 4 rfl) af))) (ab (bD CP FY (ae 6) (cz (ab (av 4 rfl) af))) af))) af))) (nj rfl (ae 2) (pA (bD gP gY (ae 3) ak)) pd))) af)))))))))⟩,λds h=>aK ds h⟩
abbrev jC:Stmt:=top 40
def uI:aF ["rows","turn"] ["rows","turn"] (ao jC):=⟨rfl,rfl,rfl,by decide +kernel,rfl,by decide +kernel,by decide +kernel⟩
def rA {f:Addr}{fd:FuncData}{bX:List D->FR}(F:gO K mg "free_rows" jC ["rows","turn"] f fd)(B:i7 mg)(fF:cn P w K mg base ca "is_barred" ["masks","turn"] 3 bX):cn P w K mg base ca "free_rows" ["rows","turn"] 4 (aV 2 2 (jl bX)):=
 ⟨⟨f,fd,F.mg,F.F.kp,F.b,aW (N:=["rows","turn"]) (k:=3) F.F uI λcdv A outer s H G E hr=>
  (az (aN (aP bI fC rfl B.len Nd (bR (NB:=["masks","put","turn"]) (own:=2) (ixs:=[1]) [1] rfl (bM (by kernel_rfl)) (λ_ _=>rfl) (jZ rfl (ae 0)) (λH0 G0 par br bx C ex s3 H3 pn=>(jd (i:=0) (j:=1) (show (["masks","put","turn"]:List Str).Nodup by decide +kernel))) (λH0 G0 par br bx C ex s3 H3 pn hB1=>(eN (bP (bA rfl (aG fF (hr.mono (by decide)) j6 rfl rfl (ab (av 0 (hB1 0 (by decide))) (ab (av 2 (hB1 2 (by decide))) af))))))) (λH0 G0 par br bx C ex s3 H3 pn hB1=>(av 0 (hB1 0 (by decide))))))))⟩,λds h=>aK ds h⟩
abbrev kO:Stmt:=top 39
def fB:aF ["order","left","rows","undone","turn","papers","number","found"] ["order","left","rows"] (ao kO):=⟨rfl,rfl,rfl,by decide +kernel,rfl,by decide +kernel,by decide +kernel⟩
def ug {T:Addr}{f:Addr}{fd:FuncData}{iH fG fg fq:List D->FR}{k:Nat}(hk:7<=k)(F:gO K mg "cases_on" kO ["order","left","rows"] f fd)(B:i7 mg){c:Addr}(hcode:fd.code=.ref c)(LT:zO mg base c T)(z7:gL T P w K mg base ca "case_of" ["order","left","rows","number","turn"] (k + 1) iH)(lA:cn P w K mg base ca "is_turned" ["masks","turn"] 3 fG)(lG:cn P w K mg base ca "row_along" ["masks","late"] 3 fg)(lu:cn P w K mg base ca "free_rows" ["rows","turn"] 4 fq):gL T P w K mg base ca "cases_on" ["order","left","rows"] (k + 1 + 1) (aV 8 3 (eQ iH fG fg fq)):=
 ⟨⟨f,fd,F.mg,F.F.kp,F.b,jf (N:=["order","left","rows","undone","turn","papers","number","found"]) (k:=(k + 1)) F.F fB λcdv A outer s H G E hcd hT hr=>
  (aq (mT (i:=3) (NB:=["turn","rows"]) (own:=1) (ixs:=[2]) [] rfl (bM (by kernel_rfl)) (λ_ _=>rfl) (jZ rfl (ae 1)) (λH0 G0 par br bx C ex s3 H3 pn=>(cP (i:=0) (show (["turn","rows"]:List Str).Nodup by decide +kernel))) (λH0 G0 par br bx C ex s3 H3 pn hB1=>(eN (bP (bA rfl (aP (vX rfl) fQ rfl B.any (by decide +kernel) (bR (NB:=["masks","put","turn"]) (own:=2) (ixs:=[0]) [0] rfl (bM (by kernel_rfl)) (λi hi=>hB1 i (by revert i hi;decide)) (jZ rfl (ae 1)) (λH0 G0 par br bx C ex s3 H3 pn=>(jd (i:=0) (j:=1) (show (["masks","put","turn"]:List Str).Nodup by decide +kernel))) (λH0 G0 par br bx C ex s3 H3 pn hB2=>cX) (λH0 G0 par br bx C ex s3 H3 pn hB2=>(aG lA (hr.mono (by omega)) j6 rfl rfl (ab (av 0 (hB2 0 (by decide))) (ab (av 2 (hB2 2 (by decide))) af)))))))))) (λH0 G0 par br bx C ex s3 H3 pn hB1=>(av 0 (hB1 0 (by decide)))) fB.nd)
  (aq (cw (bg (dv hr.units) dQ (aP bI fC rfl B.len Nd (ae 3)) ak (aY _))
  (az (aN (cz (ab lE (ab (SE.wv (bR (NB:=["masks","put"]) (own:=2) (ixs:=[]) [] rfl (bM (by kernel_rfl)) (λ_ _=>rfl) (jZ rfl (ae 2)) (λH0 G0 par br bx C ex s3 H3 pn=>(jd (i:=0) (j:=1) (show (["masks","put"]:List Str).Nodup by decide +kernel))) (λH0 G0 par br bx C ex s3 H3 pn hB3=>cX) (λH0 G0 par br bx C ex s3 H3 pn hB3=>(aG lG (hr.mono (by omega)) j6 rfl rfl (ab (av 0 (hB3 0 (by decide))) (ab (SE.wv (cA af)) af)))))) af)))))
  bH)
  (aq (bf (i:=4) (Ax (NB:=["one","rows"]) (ir:=2) rfl rfl rfl B.min (av 3 rfl) (Gq (NB:=["one","rows"]) (own:=1) (ixs:=[2]) (bM (by kernel_rfl)) rfl (hcd.symm.trans hcode) LT.hd LT.bt LT.ne) (λ_ _ _ _ _ _ I=>hT.mono (I.old.trans I.sub)) (bM (by kernel_rfl)) (by decide) rfl rfl hr.depth rfl rfl (λ_ _ _ _ _ _=>rfl) (λH0 G0 qn q c1 s1 H1 pn=>(aG lu ((hr.mono (by omega)).in1.deeper _) Kc rfl rfl (ab (av 1 rfl) (ab (av 0 rfl) af))))) fB.nd)
  (aq (jk (i:=5) (cA af) fB.nd)
  (aq (jN PassesOwn.leaving rfl (j4 rfl B.range (aP bI fC rfl B.len Nd (ae 2))) (cP (i:=6) fB.nd)
  (aq (bf (i:=7) (dB hT z7 (hr.mono (by omega)) aU rfl rfl (ab (av 0 rfl) (ab (av 3 rfl) (ab (av 2 rfl) (ab (av 6 rfl) (ab (av 4 rfl) af)))))) fB.nd)
  (aq (cw (bg (dv hr.units) dQ (aM aC a9 (ae 7) ak (λ_ _=>rfl)) lE (aY _))
  (az (o9 7))
  bH)
  (az (jV 5 (λ_=>rfl) (av 7 rfl))))))
  (az (aN (cz (ab lE (ab (av 4 rfl) (ab (i6 c7 nz rfl B.tuple (by decide +kernel) (ae 5)) af)))))))))))⟩,λds h=>aK ds h⟩
abbrev pf:Stmt:=top 38
def vA:aF ["order","count","bare"] ["order","count"] (ao pf):=⟨rfl,rfl,rfl,by decide +kernel,rfl,by decide +kernel,by decide +kernel⟩
def Ar {T:Addr}{f:Addr}{fd:FuncData}{c9 b9 c6:List D->FR}(F:gO K mg "cases" pf ["order","count"] f fd)(B:i7 mg)(jO:cn P w K mg base ca "masks_ahead" ["order"] 2 c9)(iW:gL T P w K mg base ca "cases_on" ["order","left","rows"] 87 b9)(jS:cn P w K mg base ca "sharp_turns" ["order"] 7 c6):gL T P w K mg base ca "cases" ["order","count"] 88 (aV 3 2 (pF c9 b9 c6)):=
 ⟨⟨f,fd,F.mg,F.F.kp,F.b,jf (N:=["order","count","bare"]) (k:=87) F.F vA λcdv A outer s H G E hcd hT hr=>
  (aq (bf (i:=2) (cz (ab (aG jO (hr.mono (by decide)) aU rfl rfl (ab (av 0 rfl) af)) (ab (cz af) af))) vA.nd)
  (az (aN (dB hT iW (hr.mono (by decide)) aU rfl rfl (ab (av 0 rfl) (ab (aG jS (hr.mono (by decide)) aU rfl rfl (ab (av 0 rfl) af)) (ab (SE.wv (Bx (cA (ab (av 2 rfl) af)) (ae 1))) af)))))))⟩,λds h=>aK ds h⟩
abbrev gy:Stmt:=top 35
def dz:aF ["order","count","found"] ["order"] (ao gy):=⟨rfl,rfl,rfl,by decide +kernel,rfl,by decide +kernel,by decide +kernel⟩
def oZ {T:Addr}{f:Addr}{fd:FuncData}{aX eH:List D->FR}(F:gO K mg "fewest_rows" gy ["order"] f fd)(B:i7 mg)(cf:cn P w K mg base ca "need_order" ["thing"] 5 aX)(kL:gL T P w K mg base ca "cases" ["order","count"] 88 eH):gL T P w K mg base ca "fewest_rows" ["order"] 89 (aV 3 1 (eh aX eH)):=
 ⟨⟨f,fd,F.mg,F.F.kp,F.b,jf (N:=["order","count","found"]) (k:=88) F.F dz λcdv A outer s H G E hcd hT hr=>
  (aq (pe (aG cf (hr.mono (by decide)) aU rfl rfl (ab (av 0 rfl) af)))
  (aq (bf (i:=1) ak dz.nd)
  (aq (bf (i:=2) (dB hT kL (hr.mono (by decide)) aU rfl rfl (ab (av 0 rfl) (ab (av 1 rfl) af))) dz.nd)
  (aq (nu 1000 PassesOwn.leaving (bg (dR hr.units) dQ (aM aC a9 (ae 2) ak (λ_ _=>rfl)) lE (aY _))
  (aq (bf (i:=1) (bD gP gY (ae 1) ak) dz.nd)
  (az (bf (i:=2) (dB hT kL (hr.mono (by decide)) aU rfl rfl (ab (av 0 rfl) (ab (av 1 rfl) af))) dz.nd))))
  (az (aN (aM aC a9 (ae 2) ak (λ_ _=>rfl))))))))⟩,λds h=>aK ds h⟩
abbrev nt:Stmt:=top 34
def As:aF ["order"] ["order"] (ao nt):=⟨rfl,rfl,rfl,by decide +kernel,rfl,by decide +kernel,by decide +kernel⟩
def xY {T:Addr}{f:Addr}{fd:FuncData}{bh:List D->FR}(F:gO K mg "fewest" nt ["order"] f fd)(B:i7 mg)(cH:gL T P w K mg base ca "fewest_rows" ["order"] 89 bh):gL T P w K mg base ca "fewest" ["order"] 90 (aV 1 1 (ng bh)):=
 ⟨⟨f,fd,F.mg,F.F.kp,F.b,jf (N:=["order"]) (k:=89) F.F As λcdv A outer s H G E hcd hT hr=>
  (az (aN (aP bI fC rfl B.len Nd (dB hT cH (hr.mono (by decide)) aU rfl rfl (ab (av 0 rfl) af)))))⟩,λds h=>aK ds h⟩
abbrev iG:Stmt:=top 37
def ra:aF ["thing"] ["thing"] (ao iG):=⟨rfl,rfl,rfl,by decide +kernel,rfl,by decide +kernel,by decide +kernel⟩
def qZ {f:Addr}{fd:FuncData}{bz:List D->FR}(F:gO K mg "need_count" iG ["thing"] f fd)(B:i7 mg)(cV:cn P w K mg base ca "is_whole" ["thing"] 1 bz){vC:Tok}(lh:mg "MOST_ROWS"=some (.int 8 vC)):cn P w K mg base ca "need_count" ["thing"] 2 (aV 1 1 (iq bz)):=
 ⟨⟨f,fd,F.mg,F.F.kp,F.b,aW (N:=["thing"]) (k:=1) F.F ra λcdv A outer s H G E hr=>
  (az (cw (oR.t (fM (bP (bA rfl (aG cV (hr.mono (by decide)) aU rfl rfl (ab (av 0 rfl) af)))) (eV (bP (vm qU qU yh yh ak (ae 0) (yW (by rfl) lh)))) (λ_ _=>rfl)))
  (az CG)
  bH))⟩,λds h=>aK ds h⟩
abbrev iu:Stmt:=top 36
def ml:aF ["order","count","found"] ["order","count"] (ao iu):=⟨rfl,rfl,rfl,by decide +kernel,rfl,by decide +kernel,by decide +kernel⟩
def pQ {T:Addr}{f:Addr}{fd:FuncData}{aX dF eH:List D->FR}(F:gO K mg "case_paper" iu ["order","count"] f fd)(B:i7 mg)(cf:cn P w K mg base ca "need_order" ["thing"] 5 aX)(km:cn P w K mg base ca "need_count" ["thing"] 2 dF)(kL:gL T P w K mg base ca "cases" ["order","count"] 88 eH):gL T P w K mg base ca "case_paper" ["order","count"] 89 (aV 3 2 (iA aX dF eH)):=
 ⟨⟨f,fd,F.mg,F.F.kp,F.b,jf (N:=["order","count","found"]) (k:=88) F.F ml λcdv A outer s H G E hcd hT hr=>
  (aq (pe (aG cf (hr.mono (by decide)) aU rfl rfl (ab (av 0 rfl) af)))
  (aq (pe (aG km (hr.mono (by decide)) aU rfl rfl (ab (av 1 rfl) af)))
  (aq (bf (i:=2) (dB hT kL (hr.mono (by decide)) aU rfl rfl (ab (av 0 rfl) (ab (av 1 rfl) af))) ml.nd)
  (aq (cw (bg (dv hr.units) dQ (aM aC a9 (ae 2) ak (λ_ _=>rfl)) lE (aY _))
  (az (aN Hh))
  bH)
  (az (o9 2))))))⟩,λds h=>aK ds h⟩
abbrev kz:Stmt:=top 43
def cQ:aF ["script","k","here","number","j","part"] ["script","k"] (ao kz):=⟨rfl,rfl,rfl,by decide +kernel,rfl,by decide +kernel,by decide +kernel⟩
def uh {f:Addr}{fd:FuncData}(F:gO K mg "_law_box" kz ["script","k"] f fd)(B:i7 mg):cn P w K mg base ca "_law_box" ["script","k"] 1 (aV 6 2 (iE)):=
 ⟨⟨f,fd,F.mg,F.F.kp,F.b,aW (N:=["script","k","here","number","j","part"]) (k:=0) F.F cQ λcdv A outer s H G E hr=>
  (aq (bf (i:=2) (bD gP gY (bD lC my ak (ae 1)) ak) cQ.nd)
  (aq (cw (bg sM Aw (ae 1) (aP bI fC rfl B.len Nd (ae 0)) (aY _))
  (az (bf (i:=2) (aM aC a9 (ae 0) (ae 1) (λ_ _=>rfl)) cQ.nd))
  bH)
  (aq (cw (bg (dv hr.units) dQ (bD mM sd (ae 2) ak) ak (aY _))
  (az (l0 (cA (ab (bD tZ Ji (ae 2) ak) af))))
  bH)
  (aq (bf (i:=3) ak cQ.nd)
  (aq (jN PassesOwn.leaving rfl (j4 rfl B.range ak) (cP (i:=4) cQ.nd)
  (aq (bf (i:=5) (bD mM sd (bD gP gY (bD gP gY (bD lC my (bD mM sd (ae 2) ak) ak) (bD lC my ak (ae 4))) ak) ak) cQ.nd)
  (aq (bf (i:=5) (bD mM sd (bD lC my (ae 5) (ae 5)) ak) cQ.nd)
  (az (bf (i:=3) (bD gP gY (bD lC my (ae 3) ak) (bD mM sd (bD lC my (ae 5) (bD gP gY (ae 5) ak)) ak)) cQ.nd)))))
  (az (l0 (cA (ab (av 3 rfl) af)))))))))⟩,λds h=>aK ds h⟩
abbrev jB:Stmt:=top 44
def nF:aF ["box","many","left","digit"] ["box","many"] (ao jB):=⟨rfl,rfl,rfl,by decide +kernel,rfl,by decide +kernel,by decide +kernel⟩
def rS {f:Addr}{fd:FuncData}(F:gO K mg "_law_take" jB ["box","many"] f fd)(B:i7 mg):oY P w K mg base "_law_take" ["box","many"] 1 fW:=by
 refine⟨⟨f,fd,F.mg,F.F.kp,F.b,?_⟩,λds β h=>?_⟩
 ·refine F.F.Fv nF (λvs H Q E h=>?_) (λcdv A outer s H vs Q E hr h=>?_)
  ·obtain⟨b,rest,G,ds,β,rfl,hb,gb,sG,hl,r,_⟩:=h
   rw[Nm,r.len,hl];rfl
  ·obtain⟨b,rest,G,ds,β,rfl,hb,gb,sG,hl,r,h⟩:=h
   obtain⟨m,rfl,h0,h1⟩:=y0 (λz=>by rw[z] at h;exact h)
   rw[tJ h0 h1] at h
   have kk:∀v G' H',gR (some b) H H'->H' b=some (.lst [.int (β / m)])->ah G G'->ah G' H'->(∀c,Mx H c->G c=none->G' c=none)->FV K H G' H' false (.int (β % m)) v->Q v H':=h
   cases r with
   |cons r1 r2=>
    cases r1
    cases r2
    refine⟨_,iO (p0 (mW u9 rfl B.divmod (by decide +kernel) (aQ (mf ij (pv 0) uo (λ_ _=>rfl)) (aQ (pv 1) bS))) (EO (i:=2) (j:=3) nF.nd rfl rfl rfl rfl rfl))
     (iO (p0 (pv 2) (tW (pv 0) uo set_list)) (jG (ou (pv 3)))),?_⟩
    refine⟨_,rfl,b,_,0,.int β,rfl,rfl,.inl (.inl hb),rfl,_,rfl,β,m,rfl,⟨h0,h1⟩,λp hp=>⟨p,_,rfl,.inl (.inl aA),rfl,_,_,rfl,_,_,rfl,rfl,?_⟩⟩
    have hbp:b≠p:=aJ hb hp
    exact⟨_,rfl,_,rfl,b,[.int β],0,0,rfl,rfl,by rw[ay hbp];exact hb,rfl,_,rfl,CK hb sG hp kk gb⟩
 ·obtain⟨m,rfl,_⟩:=y0 h
  rfl
abbrev iD:Stmt:=top 45
def rh:aF ["thing"] ["thing"] (ao iD):=⟨rfl,rfl,rfl,by decide +kernel,rfl,by decide +kernel,by decide +kernel⟩
def qQ {f:Addr}{fd:FuncData}(F:gO K mg "_law_whole" iD ["thing"] f fd)(B:i7 mg):cn P w K mg base ca "_law_whole" ["thing"] 1 (aV 1 1 (nD)):=
 ⟨⟨f,fd,F.mg,F.F.kp,F.b,aW (N:=["thing"]) (k:=0) F.F rh λcdv A outer s H G E hr=>
  (az (aN (i9 (gc "int" (by decide) rfl rfl B.isinstance rfl B.int (by decide +kernel) (ae 0)) (je (wR (gc "bool" (by decide) rfl rfl B.isinstance rfl B.bool (by decide +kernel) (ae 0)))) (λ_ _=>rfl))))⟩,λds h=>aK ds h⟩
abbrev eM:Stmt:=top 46
def gi:aF ["box","some","left","found"] ["box","some"] (ao eM):=⟨rfl,rfl,rfl,by decide +kernel,rfl,by decide +kernel,by decide +kernel⟩
def m6 {f:Addr}{fd:FuncData}{bJ:List D->Int->FB}(F:gO K mg "_law_shuffled" eM ["box","some"] f fd)(B:i7 mg)(cS:oY P w K mg base "_law_take" ["box","many"] 1 bJ):oY P w K mg base "_law_shuffled" ["box","some"] 2 (vJ 4 1 (eO bJ)):=
 ⟨⟨f,fd,F.mg,F.F.kp,F.b,vE (ca:=λ_=>0) (N:=["box","some","left","found"]) (k:=1) F.F gi (by decide) λcdv A outer s H G b E hr=>
  (aq (jk (i:=2) (i6 m9 B0 rfl B.list (by decide +kernel) (ae 1)) gi.nd)
  (aq (jk (i:=3) (cA af) gi.nd)
  (aq (nu 1000 PassesOwn.leaving (bg (dR hr.units) dQ (ae 2) (cA af) (aY _))
  (az (zW 3 2 (λ_=>rfl) (rY 0 cS (hr.mono (by decide)) aU rfl rfl (ab (aP bI fC rfl B.len Nd (ae 2)) af)))))
  (az (aN (i6 c7 nz rfl B.tuple (by decide +kernel) (ae 3)))))))⟩,λds β h=>wB ds β h⟩
abbrev jK:Stmt:=top 47
def ip:aF ["many","rows","found","a","b"] ["many","rows"] (ao jK):=⟨rfl,rfl,rfl,by decide +kernel,rfl,by decide +kernel,by decide +kernel⟩
def rP {f:Addr}{fd:FuncData}(F:gO K mg "_law_told" jK ["many","rows"] f fd)(B:i7 mg):cn P w K mg base ca "_law_told" ["many","rows"] 1 (aV 5 2 (jv)):=
 ⟨⟨f,fd,F.mg,F.F.kp,F.b,aW (N:=["many","rows","found","a","b"]) (k:=0) F.F ip λcdv A outer s H G E hr=>
  (aq (jk (i:=2) (cA af) ip.nd)
  (aq (jN PassesOwn.leaving rfl (j4 rfl B.range (ae 0)) (cP (i:=3) ip.nd)
  (az (jN PassesOwn.leaving rfl (j4 rfl B.range (ae 0)) (cP (i:=4) ip.nd)
  (az (cw (oR.t (xm (bg (dR hr.units) dQ (ae 3) (ae 4) (aY _)) (sY (bA rfl (aP (fN rfl) fQ rfl B.all (by decide +kernel) (bR (NB:=["row","a","b"]) (own:=1) (ixs:=[3,4]) [] rfl (bM (by kernel_rfl)) (λ_ _=>rfl) (jZ rfl (ae 1)) (λH0 G0 par br bx C ex s3 H3 pn=>(cP (i:=0) (show (["row","a","b"]:List Str).Nodup by decide +kernel))) (λH0 G0 par br bx C ex s3 H3 pn hB1=>cX) (λH0 G0 par br bx C ex s3 H3 pn hB1=>(de sM Aw (vH rfl (ae 0) (ae 1)) (vH rfl (ae 0) (ae 2)) (aY _))))))) (λ_ _=>rfl)))
  (az (jV 2 (λ_=>rfl) (cz (ab (av 3 rfl) (ab (av 4 rfl) af)))))
  bH)))))
  (az (aN (i6 c7 nz rfl B.tuple (by decide +kernel) (ae 2))))))⟩,λds h=>aK ds h⟩
abbrev ig:Stmt:=top 48
def cG:aF ["box","most","many","rows","lows","pairs","k"] ["box","most"] (ao ig):=⟨rfl,rfl,rfl,by decide +kernel,rfl,by decide +kernel,by decide +kernel⟩
def pP {f:Addr}{fd:FuncData}{bW:List D->FR}{bJ b7:List D->Int->FB}(F:gO K mg "_law_order" ig ["box","most"] f fd)(B:i7 mg)(fk:cn P w K mg base ca "_law_told" ["many","rows"] 1 bW)(cS:oY P w K mg base "_law_take" ["box","many"] 1 bJ)(eJ:oY P w K mg base "_law_shuffled" ["box","some"] 2 b7):oY P w K mg base "_law_order" ["box","most"] 3 (vJ 7 1 (eB bW bJ b7)):=
 ⟨⟨f,fd,F.mg,F.F.kp,F.b,vE (ca:=ca) (N:=["box","most","many","rows","lows","pairs","k"]) (k:=2) F.F cG (by decide) λcdv A outer s H G b E hr=>
  (aq (bf (i:=2) (bD gP gY ak (rY 0 cS (hr.mono (by decide)) aU rfl rfl (ab (av 1 rfl) af))) cG.nd)
  (aq (mT (i:=3) (NB:=["turn","box","many"]) (own:=1) (ixs:=[0,2]) [] rfl (bM (by kernel_rfl)) (λ_ _=>rfl) (j4 rfl B.range (bD gP gY ak (rY 0 cS (hr.mono (by decide)) aU rfl rfl (ab ak af)))) (λH0 G0 par br bx C ex s3 H3 pn=>(cP (i:=0) (show (["turn","box","many"]:List Str).Nodup by decide +kernel))) (λH0 G0 par br bx C ex s3 H3 pn hB1=>cX) (λH0 G0 par br bx C ex s3 H3 pn hB1=>(rY 1 eJ (hr.mono (by decide)) j6 rfl rfl (ab (SE.wv (mr rfl rfl B.list rfl B.range (ae 2))) af))) cG.nd)
  (aq (cw (oR.t (xm (bg (dv hr.units) dQ (ae 2) ak (aY _)) (sY (bg (dv hr.units) dQ (rY 0 cS (hr.mono (by decide)) aU rfl rfl (ab ak af)) ak (aY _))) (λ_ _=>rfl)))
  (aq (bf (i:=4) (rY 0 eJ (hr.mono (by decide)) aU rfl rfl (ab (SE.wv (mr rfl rfl B.list rfl B.range ak)) af)) cG.nd)
  (aq (bf (i:=5) (SE.wv (cA af)) cG.nd)
  (aq (jN PassesOwn.leaving rfl (j4 rfl B.range ak) (cP (i:=6) cG.nd)
  (az (bf (i:=5) (SE.wv (bD jt oF (ae 5) (bR (NB:=["j","k","lows"]) (own:=1) (ixs:=[6,4]) [] rfl (bM (by kernel_rfl)) (λ_ _=>rfl) (j4 rfl B.range ak) (λH0 G0 par br bx C ex s3 H3 pn=>(cP (i:=0) (show (["j","k","lows"]:List Str).Nodup by decide +kernel))) (λH0 G0 par br bx C ex s3 H3 pn hB2=>(eN (bg (dR hr.units) dQ (ae 0) (ae 1) (aY _)))) (λH0 G0 par br bx C ex s3 H3 pn hB2=>(cz (ab (aM aC a9 (ae 2) (ae 1) (λ_ _=>rfl)) (ab (aM aC a9 (ae 2) (bD gP gY ak (ae 0)) (λ_ _=>rfl)) af))))))) cG.nd)))
  (az (aN (cz (ab ak (ab (i6 c7 nz rfl B.tuple (by decide +kernel) (aP vf D4 rfl B.sorted (by decide +kernel) (ae 5))) af))))))))
  bH)
  (az (aN (cz (ab (av 2 rfl) (ab (aG fk (hr.mono (by decide)) aU rfl rfl (ab (av 2 rfl) (ab (av 3 rfl) af))) af))))))))⟩,λds β h=>wB ds β h⟩
abbrev hX:Stmt:=top 49
def rC:aF ["order","a","b"] ["order","a","b"] (ao hX):=⟨rfl,rfl,rfl,by decide +kernel,rfl,by decide +kernel,by decide +kernel⟩
def qw {f:Addr}{fd:FuncData}(F:gO K mg "_law_apart" hX ["order","a","b"] f fd)(B:i7 mg):cn P w K mg base ca "_law_apart" ["order","a","b"] 1 (aV 3 3 (nC)):=
 ⟨⟨f,fd,F.mg,F.F.kp,F.b,aW (N:=["order","a","b"]) (k:=0) F.F rC λcdv A outer s H G E hr=>
  (az (aN (i9 (de (dR hr.units) dQ (ae 1) (ae 2) (aY _)) (i9 (de (fY hr.u1) oU (cz (ab (av 1 rfl) (ab (av 2 rfl) af))) (aM aC a9 (ae 0) ak (λ_ _=>rfl)) (by with_unfolding_all rfl)) (je (de (fY hr.u1) oU (cz (ab (av 2 rfl) (ab (av 1 rfl) af))) (aM aC a9 (ae 0) ak (λ_ _=>rfl)) (by with_unfolding_all rfl))) (λ_ _=>rfl)) (λ_ _=>rfl))))⟩,λds h=>aK ds h⟩
abbrev ju:Stmt:=top 50
def nA:aF ["rows","order","row"] ["rows","order"] (ao ju):=⟨rfl,rfl,rfl,by decide +kernel,rfl,by decide +kernel,by decide +kernel⟩
def rQ {f:Addr}{fd:FuncData}{aO bW:List D->FR}(F:gO K mg "_law_tell" ju ["rows","order"] f fd)(B:i7 mg)(bE:cn P w K mg base ca "_law_whole" ["thing"] 1 aO)(fk:cn P w K mg base ca "_law_told" ["many","rows"] 1 bW):cn P w K mg base ca "_law_tell" ["rows","order"] 2 (aV 3 2 (jj aO bW)):=
 ⟨⟨f,fd,F.mg,F.F.kp,F.b,aW (N:=["rows","order","row"]) (k:=1) F.F nA λcdv A outer s H G E hr=>
  (aq (cw (oR.t (fM (bP (bA rfl (gc "list" (by decide) rfl rfl B.isinstance rfl B.list (by decide +kernel) (ae 0)))) (eV (bg (uZ hr.units) yR (ae 0) (cA af) (aY _))) (λ_ _=>rfl)))
  (az (aN fo))
  bH)
  (aq (jN PassesOwn.leaving rfl (Ke rfl (av 0 rfl)) (cP (i:=2) nA.nd)
  (aq (cw (oR.t (fM (bP (bA rfl (gc "tuple" (by decide) rfl rfl B.isinstance rfl B.tuple (by decide +kernel) (ae 2)))) (eV (bP (bA rfl (aP (fN rfl) fQ rfl B.all (by decide +kernel) (bR (NB:=["one"]) (own:=1) (ixs:=[]) [] rfl (bM (by kernel_rfl)) (λ_ _=>rfl) (jZ rfl (ae 2)) (λH0 G0 par br bx C ex s3 H3 pn=>(cP (i:=0) (show (["one"]:List Str).Nodup by decide +kernel))) (λH0 G0 par br bx C ex s3 H3 pn hB1=>cX) (λH0 G0 par br bx C ex s3 H3 pn hB1=>(aG bE (hr.mono (by decide)) j6 rfl rfl (ab (av 0 (hB1 0 (by decide))) af)))))))) (λ_ _=>rfl)))
  (az (aN fo))
  bH)
  (az (cw (bg (dR hr.units) dQ (aP xN Ea rfl B.sorted (by decide +kernel) (ae 2)) (mr rfl rfl B.list rfl B.range (aM aC a9 (ae 1) ak (λ_ _=>rfl))) (aY _))
  (az (aN fo))
  bH))))
  (az (aN (de (dv hr.units) dQ (aG fk (hr.mono (by decide)) aU rfl rfl (ab (aM aC a9 (ae 1) ak (λ_ _=>rfl)) (ab (av 0 rfl) af))) (aM aC a9 (ae 1) ak (λ_ _=>rfl)) (aY _))))))⟩,λds h=>aK ds h⟩
abbrev lO:Stmt:=top 51
def xy:aF ["order","one","other"] ["order","one","other"] (ao lO):=⟨rfl,rfl,rfl,by decide +kernel,rfl,by decide +kernel,by decide +kernel⟩
def v8 {f:Addr}{fd:FuncData}(F:gO K mg "_law_on" lO ["order","one","other"] f fd)(B:i7 mg):cn P w K mg base ca "_law_on" ["order","one","other"] 1 (aV 3 3 (rW)):=
 ⟨⟨f,fd,F.mg,F.F.kp,F.b,aW (N:=["order","one","other"]) (k:=0) F.F xy λcdv A outer s H G E hr=>
  (az (aN (FN (de (dv hr.units) dQ (aM aC a9 (ae 1) ak (λ_ _=>rfl)) (aM aC a9 (ae 2) ak (λ_ _=>rfl)) (aY _)) (je (de (qI hr.u1) oU (cz (ab (aM aC a9 (ae 1) ak (λ_ _=>rfl)) (ab (aM aC a9 (ae 2) ak (λ_ _=>rfl)) af))) (aM aC a9 (ae 0) ak (λ_ _=>rfl)) (by with_unfolding_all rfl))) (λ_ _=>rfl))))⟩,λds h=>aK ds h⟩
abbrev dI:Stmt:=top 52
def nG:aF ["order","thing"] ["order","thing"] (ao dI):=⟨rfl,rfl,rfl,by decide +kernel,rfl,by decide +kernel,by decide +kernel⟩
def mK {f:Addr}{fd:FuncData}{aO dD:List D->FR}(F:gO K mg "_law_turn_good" dI ["order","thing"] f fd)(B:i7 mg)(bE:cn P w K mg base ca "_law_whole" ["thing"] 1 aO)(kG:cn P w K mg base ca "_law_apart" ["order","a","b"] 1 dD):cn P w K mg base ca "_law_turn_good" ["order","thing"] 2 (aV 2 2 (dH aO dD)):=
 ⟨⟨f,fd,F.mg,F.F.kp,F.b,aW (N:=["order","thing"]) (k:=1) F.F nG λcdv A outer s H G E hr=>
  (aq (cw (oR.t (fM (bP (bA rfl (gc "tuple" (by decide) rfl rfl B.isinstance rfl B.tuple (by decide +kernel) (ae 1)))) (fM (bg (dR hr.units) dQ (aP bI fC rfl B.len Nd (ae 1)) ak (aY _)) (eV (bP (bA rfl (aP (fN rfl) fQ rfl B.all (by decide +kernel) (bR (NB:=["one"]) (own:=1) (ixs:=[]) [] rfl (bM (by kernel_rfl)) (λ_ _=>rfl) (jZ rfl (ae 1)) (λH0 G0 par br bx C ex s3 H3 pn=>(cP (i:=0) (show (["one"]:List Str).Nodup by decide +kernel))) (λH0 G0 par br bx C ex s3 H3 pn hB1=>cX) (λH0 G0 par br bx C ex s3 H3 pn hB1=>(aG bE (hr.mono (by decide)) j6 rfl rfl (ab (av 0 (hB1 0 (by decide))) af)))))))) (λ_ _=>rfl)) (λ_ _=>rfl)))
  (az (aN fo))
  bH)
  (az (aN (i9 (aP (fN rfl) fQ rfl B.all (by decide +kernel) (bR (NB:=["one","order"]) (own:=1) (ixs:=[0]) [] rfl (bM (by kernel_rfl)) (λ_ _=>rfl) (jZ rfl (ae 1)) (λH0 G0 par br bx C ex s3 H3 pn=>(cP (i:=0) (show (["one","order"]:List Str).Nodup by decide +kernel))) (λH0 G0 par br bx C ex s3 H3 pn hB2=>cX) (λH0 G0 par br bx C ex s3 H3 pn hB2=>(pM qU sM yh Aw ak (ae 0) (aM aC a9 (ae 1) ak (λ_ _=>rfl)))))) (je (aG kG (hr.mono (by decide)) aU rfl rfl (ab (av 0 rfl) (ab (aM aC a9 (ae 1) ak (λ_ _=>rfl)) (ab (aM aC a9 (ae 1) ak (λ_ _=>rfl)) af))))) (λ_ _=>rfl)))))⟩,λds h=>aK ds h⟩
abbrev jz:Stmt:=top 53
def uk:aF ["order","thing"] ["order","thing"] (ao jz):=⟨rfl,rfl,rfl,by decide +kernel,rfl,by decide +kernel,by decide +kernel⟩
def rR {f:Addr}{fd:FuncData}{aZ iJ:List D->FR}(F:gO K mg "_law_ring" jz ["order","thing"] f fd)(B:i7 mg)(cu:cn P w K mg base ca "_law_turn_good" ["order","thing"] 2 aZ)(n0:cn P w K mg base ca "_law_on" ["order","one","other"] 1 iJ):cn P w K mg base ca "_law_ring" ["order","thing"] 3 (aV 2 2 (jx aZ iJ)):=
 ⟨⟨f,fd,F.mg,F.F.kp,F.b,aW (N:=["order","thing"]) (k:=2) F.F uk λcdv A outer s H G E hr=>
  (aq (cw (oR.t (fM (bP (bA rfl (gc "list" (by decide) rfl rfl B.isinstance rfl B.list (by decide +kernel) (ae 1)))) (fM (bg (uZ hr.units) yR (ae 1) (cA af) (aY _)) (eV (bP (bA rfl (aP (fN rfl) fQ rfl B.all (by decide +kernel) (bR (NB:=["one","order"]) (own:=1) (ixs:=[0]) [0] rfl (bM (by kernel_rfl)) (λ_ _=>rfl) (jZ rfl (ae 1)) (λH0 G0 par br bx C ex s3 H3 pn=>(cP (i:=0) (show (["one","order"]:List Str).Nodup by decide +kernel))) (λH0 G0 par br bx C ex s3 H3 pn hB1=>cX) (λH0 G0 par br bx C ex s3 H3 pn hB1=>(aG cu (hr.mono (by decide)) j6 rfl rfl (ab (av 1 (hB1 1 (by decide))) (ab (av 0 (hB1 0 (by decide))) af))))))))) (λ_ _=>rfl)) (λ_ _=>rfl)))
  (az (aN fo))
  bH)
  (az (aN (aP (fN rfl) fQ rfl B.all (by decide +kernel) (bR (NB:=["at","order","thing"]) (own:=1) (ixs:=[0,1]) [0] rfl (bM (by kernel_rfl)) (λ_ _=>rfl) (j4 rfl B.range (aP bI fC rfl B.len Nd (ae 1))) (λH0 G0 par br bx C ex s3 H3 pn=>(cP (i:=0) (show (["at","order","thing"]:List Str).Nodup by decide +kernel))) (λH0 G0 par br bx C ex s3 H3 pn hB2=>cX) (λH0 G0 par br bx C ex s3 H3 pn hB2=>(aG n0 (hr.mono (by decide)) j6 rfl rfl (ab (av 1 (hB2 1 (by decide))) (ab (aM aC a9 (ae 2) (bD yb Bm (ae 0) ak) (λ_ _=>rfl)) (ab (aM aC a9 (ae 2) (ae 0) (λ_ _=>rfl)) af))))))))))⟩,λds h=>aK ds h⟩
abbrev iF:Stmt:=top 54
def jQ:aF ["thing","order","put","place","more"] ["thing","order","put"] (ao iF):=⟨rfl,rfl,rfl,by decide +kernel,rfl,by decide +kernel,by decide +kernel⟩
def qu {f:Addr}{fd:FuncData}{bF aO fm aZ:List D->FR}{k:Nat}(hk:3<=k)(F:gO K mg "_law_shows" iF ["thing","order","put"] f fd)(B:i7 mg)(fU:cn P w K mg base ca "_law_shows" ["thing","order","put"] k bF)(bE:cn P w K mg base ca "_law_whole" ["thing"] 1 aO)(lF:cn P w K mg base ca "_law_ring" ["order","thing"] 3 fm)(cu:cn P w K mg base ca "_law_turn_good" ["order","thing"] 2 aZ):cn P w K mg base ca "_law_shows" ["thing","order","put"] (k + 1) (aV 5 3 (h9 bF aO fm aZ)):=
 ⟨⟨f,fd,F.mg,F.F.kp,F.b,aW (N:=["thing","order","put","place","more"]) (k:=k) F.F jQ λcdv A outer s H G E hr=>
  (aq (cw (oR.t (fM (bP (bA rfl (gc "tuple" (by decide) rfl rfl B.isinstance rfl B.tuple (by decide +kernel) (ae 0)))) (eV (bg (dR hr.units) dQ (aP bI fC rfl B.len Nd (ae 0)) ak (aY _))) (λ_ _=>rfl)))
  (az (aN fo))
  bH)
  (aq (cw (bg IW Kb (aP (qp hr.gd hr.u1) yx rfl B.repr (by decide +kernel) (aM aC a9 (ae 0) ak (λ_ _=>rfl))) lE (aY _))
  (aq (cw (oR.t (fM (bP (bA rfl (aG bE (hr.mono (by omega)) aU rfl rfl (ab (aM aC a9 (ae 0) ak (λ_ _=>rfl)) af)))) (fM (bP (vm qU sM yh Aw ak (aM aC a9 (ae 0) ak (λ_ _=>rfl)) (aP bI fC rfl B.len Nd (ae 2)))) (eV (bP (bA rfl (aG lF (hr.mono (by omega)) aU rfl rfl (ab (av 1 rfl) (ab (aM aC a9 (ae 0) ak (λ_ _=>rfl)) af)))))) (λ_ _=>rfl)) (λ_ _=>rfl)))
  (az (aN fo))
  bH)
  (az (aN (de (dv hr.units) dQ (bR (NB:=["one","put","thing"]) (own:=1) (ixs:=[2,0]) [] rfl (bM (by kernel_rfl)) (λ_ _=>rfl) (jZ rfl (aM aC a9 (ae 0) ak (λ_ _=>rfl))) (λH0 G0 par br bx C ex s3 H3 pn=>(cP (i:=0) (show (["one","put","thing"]:List Str).Nodup by decide +kernel))) (λH0 G0 par br bx C ex s3 H3 pn hB1=>(eN (bg (fY hr.u1) oU (ae 0) (aM aC a9 (ae 1) (aM aC a9 (ae 2) ak (λ_ _=>rfl)) (λ_ _=>rfl)) (by with_unfolding_all rfl)))) (λH0 G0 par br bx C ex s3 H3 pn hB1=>(av 0 (hB1 0 (by decide))))) (cA af) (aY _)))))
  bH)
  (aq (cw (oR.t (fM (bg J4 IL (aP (qp hr.gd hr.u1) yx rfl B.repr (by decide +kernel) (aM aC a9 (ae 0) ak (λ_ _=>rfl))) lE (aY _)) (eV (bP (bA rfl (aG cu (hr.mono (by omega)) aU rfl rfl (ab (av 1 rfl) (ab (aM aC a9 (ae 0) ak (λ_ _=>rfl)) af)))))) (λ_ _=>rfl)))
  (az (aN fo))
  bH)
  (aq (cw (oR.t (fM (bP (bA rfl (gc "tuple" (by decide) rfl rfl B.isinstance rfl B.tuple (by decide +kernel) (aM aC a9 (ae 0) ak (λ_ _=>rfl))))) (eV (bg (dR hr.units) dQ (aP bI fC rfl B.len Nd (aM aC a9 (ae 0) ak (λ_ _=>rfl))) (aP bI fC rfl B.len Nd (ae 2)) (aY _))) (λ_ _=>rfl)))
  (az (aN fo))
  bH)
  (aq (jN PassesOwn.leaving rfl (j4 rfl B.range (aP bI fC rfl B.len Nd (ae 2))) (cP (i:=3) jQ.nd)
  (aq (bf (i:=4) (SE.wv (bD jt oF (bD jt oF (nj rfl (ae 2) pd (pA (ae 3))) (cA (ab (SE.wv (bD jt oF (aM aC a9 (ae 2) (ae 3) (λ_ _=>rfl)) (cA (ab (aM aC a9 (ae 0) ak (λ_ _=>rfl)) af)))) af))) (nj rfl (ae 2) (pA (bD gP gY (ae 3) ak)) pd))) jQ.nd)
  (az (cw (bP (bA rfl (aG fU (hr.mono (by omega)) aU rfl rfl (ab (aM aC a9 (aM aC a9 (ae 0) ak (λ_ _=>rfl)) (ae 3) (λ_ _=>rfl)) (ab (av 1 rfl) (ab (av 4 rfl) af))))))
  (az (aN fo))
  bH))))
  (az (aN fo)))))))⟩,λds h=>aK ds h⟩
abbrev mh:Stmt:=top 55
def oA:aF ["script","k","order","few","rows","put","kept"] ["script"] (ao mh):=⟨rfl,rfl,rfl,by decide +kernel,rfl,by decide +kernel,by decide +kernel⟩
def Fg {T:Addr}{f:Addr}{fd:FuncData}{gk i4 bh aO fj bF dN:List D->FR}{dO:List D->Int->FB}(F:gO K mg "law" mh ["script"] f fd)(B:i7 mg)(mJ:cn P w K mg base ca "_law_box" ["script","k"] 1 gk)(nJ:gL T P w K mg base ca "fewest" ["order"] 90 i4)(cH:gL T P w K mg base ca "fewest_rows" ["order"] 89 bh)(bE:cn P w K mg base ca "_law_whole" ["thing"] 1 aO)(lD:cn P w K mg base ca "_law_tell" ["rows","order"] 2 fj)(fU:cn P w K mg base ca "_law_shows" ["thing","order","put"] 43 bF)(kg:gL T P w K mg base ca "case_paper" ["order","count"] 89 dN)(kb:oY P w K mg base "_law_order" ["box","most"] 3 dO):e8 P w K mg base (mO P w) 91 f fd ["script"] (spT T K ca 1 (aV 7 1 (yp gk i4 bh aO fj bF dN dO))):=
 jf (N:=["script","k","order","few","rows","put","kept"]) (k:=90) F.F oA λcdv A outer s H G E hcd hT hr=>
  (aq (jN PassesOwn.leaving rfl (j4 rfl B.range (wH (Ap rfl) FX rfl B.max (by decide +kernel) ak (wH (z8 rfl) Im rfl B.min (by decide +kernel) (aP bI fC rfl B.len Nd (ae 0)) ak))) (cP (i:=1) oA.nd)
  (aq (bf (i:=2) (JZ kb (hr.mono (by decide)) aU rfl rfl (BH mJ (hr.mono (by decide)) aU rfl rfl (ab (av 0 rfl) (ab (av 1 rfl) af)))) oA.nd)
  (aq (Cp (i:=3) (j:=4) oA.nd (by decide) (dB hT nJ (hr.mono (by decide)) aU rfl rfl (ab (av 2 rfl) af)) (zZ hT cH (hr.mono (by decide)) aU rfl rfl (ab (av 2 rfl) af)))
  (aq (cw (oR.t (fM (bP (bA rfl (aG bE (hr.mono (by decide)) aU rfl rfl (ab (av 3 rfl) af)))) (fM (bP (bA rfl (Ai lD (hr.mono (by decide)) aU rfl rfl (ae 4) (ae 2)))) (eV (bg (dR hr.units) dQ (aP bI fC rfl B.len Nd (ae 4)) (ae 3) (aY _))) (λ_ _=>rfl)) (λ_ _=>rfl)))
  (az (aN fo))
  bH)
  (aq (cw (bg JF Ln (ae 3) ak (aY _))
  (aq (mT (i:=5) (NB:=["place"]) (own:=1) (ixs:=[]) [] rfl (bM (by kernel_rfl)) (λ_ _=>rfl) (j4 rfl B.range (bD yb Bm (ae 3) ak)) (λH0 G0 par br bx C ex s3 H3 pn=>(cP (i:=0) (show (["place"]:List Str).Nodup by decide +kernel))) (λH0 G0 par br bx C ex s3 H3 pn hB1=>cX) (λH0 G0 par br bx C ex s3 H3 pn hB1=>(SE.wv (cA af))) oA.nd)
  (az (cw (bP (bA rfl (aG fU (hr.mono (by decide)) aU rfl rfl (ab (dB hT kg (hr.mono (by decide)) aU rfl rfl (ab (av 2 rfl) (ab (bD yb Bm (ae 3) ak) af))) (ab (av 2 rfl) (ab (av 5 rfl) af))))))
  (az (aN fo))
  bH)))
  bH)
  (aq (bf (i:=6) (SE.wv (i6 m9 B0 rfl B.list (by decide +kernel) (ae 4))) oA.nd)
  (aq (jV 4 (λ_=>rfl) ak)
  (az (cw (oR.t (fM (bg (dR hr.units) dQ (dB hT cH (hr.mono (by decide)) aU rfl rfl (ab (av 2 rfl) af)) (ae 6) (aY _)) (eV (bg (dR hr.units) dQ (dB hT nJ (hr.mono (by decide)) aU rfl rfl (ab (av 2 rfl) af)) (ae 3) (aY _))) (λ_ _=>rfl)))
  (az (aN fo))
  bH)))))))))
  (az (aN fo)))
end
end RQ
namespace RM
open PySem L2
theorem B5 {t u:VF Bool}{vs:List Nv}{β:Int}{a b:Bool}(h:t vs β=.ok a β)(h':u vs β=.ok b β):yA t u vs β=.ok (a && b) β:=by
 rw[yc,h];dsimp only[R.bnd]
 cases a with
 |true=>rw[My rfl,h'];rfl
 |false=>rfl
theorem El {t u:VF Bool}{vs:List Nv}{β:Int}{a b:Bool}(h:t vs β=.ok a β)(h':u vs β=.ok b β):gf t u vs β=.ok (a || b) β:=by
 rw[pj,h];dsimp only[R.bnd]
 cases a with
 |true=>rfl
 |false=>rw[MG MI,h'];rfl
def bO {t:VF Bool}{vs:List Nv}{β:Int}{a:Bool}(h:t vs β=.ok a β):j9 t vs β=.ok (!a) β:=by rw[xX,h];rfl
def Hk (n:Nat):(fE n).Pairwise (· < ·):=by
 unfold fE
 rw[Od]
 exact List.pairwise_lt_range.imp λ{a b} h=>by omega
def Bu {fa:VF D}{vs:List Nv}{β:Int}{l:List Pr}{f:Pr->Bool}(h:fa vs β=.ok (.list (l.map λq=>PyData.bool (f q))) β):f1 fa (bB λbs=>bs.all id) vs β=.ok (.bool (l.all f)) β:=by
 refine dA h ?_
 simp only[bB]
 rw[fu]
 simp[all_map]
def upTo (n:Nat)(f:Pr->Bool)(i k:Nat):List Pr:=(OM.cB n).filter λp=>(decide (p.1 < i) || (decide (p.1=i) && decide (p.2 < k))) && f p
def BZ {n:Nat}(f:Pr->Bool)(i k:Nat)(h8:n<=8):(upTo n f i k).length<=64:=by
 have h1:(upTo n f i k).length<=(OM.cB n).length:=Nk _ _
 rw[fK] at h1
 have:n * n<=64:=N4 h8 h8
 omega
def zQ (n:Nat)(f:Pr->Bool):upTo n f 0 0= []:=by
 unfold upTo
 rw[List.filter_eq_nil_iff]
 intro p hp
 have:=OM.bC.mp hp
 rw[MR (by omega),MR (p:=p.2 < ((0:Nat):Int)) (by omega)];simp
def Bi (n:Nat)(f:Pr->Bool):upTo n f n 0=(OM.cB n).filter f:=by
 unfold upTo
 refine Oe λp hp=>?_
 have:=(OM.bC.mp hp).1.2
 rw[MB this];simp
def Ba (n:Nat)(f:Pr->Bool)(i:Nat):upTo n f i n=upTo n f (i + 1) 0:=by
 unfold upTo
 refine Oe λp hp=>?_
 have h:=OM.bC.mp hp
 congr 1
 rw[Na]
 simp only[NH,MP,MT]
 omega
def se {n i k:Nat}(f:Pr->Bool)(hi:i < n)(hk:k < n):upTo n f i (k + 1)=upTo n f i k ++ if f ((i:Int),(k:Int))=true then [((i:Int),(k:Int))] else []:=by
 refine OM.jr (OM.gj _ (OM.ja n)) ?_ λx=>?_
 ·show List.Pairwise OM.DG _
  rw[List.pairwise_append]
  refine⟨OM.gj _ (OM.ja n),?_,λp hp q hq=>?_⟩
  ·split <;> simp
  ·unfold upTo at hp
   have h1:=(ME.mp hp).2
   simp only[NH,MP,MT] at h1
   split at hq
   ·have:q=((i:Int),(k:Int)):=by simpa using hq
    subst this
    show p.1 < (i:Int)\/(p.1=(i:Int)/\p.2 < (k:Int))
    exact h1.1
   ·cases hq
 ·rw[MU]
  unfold upTo
  rw[ME,ME,OM.bC]
  simp only[NH,MP,MT]
  constructor
  ·rintro⟨h1,h2,h3⟩
   by_cases z:x.1=i/\x.2=k
   ·obtain⟨xa,xb⟩:=x
    simp only at z h3
    obtain⟨rfl,rfl⟩:=z
    rw[My h3]
    exact .inr (M4.mpr rfl)
   ·exact .inl ⟨h1,by omega,h3⟩
  ·rintro (⟨h1,h2,h3⟩ |h)
   ·exact⟨h1,by omega,h3⟩
   ·split at h
    ·rename_i hf
     have:x=((i:Int),(k:Int)):=by simpa using h
     subst this
     exact⟨⟨⟨by show (0:Int)<=(i:Int);omega,by show (i:Int) < n;omega⟩,by show (0:Int)<=(k:Int);omega,by show (k:Int) < n;omega⟩,.inr ⟨rfl,by show (k:Int) < ((k + 1:Nat):Int);omega⟩,hf⟩
    ·cases h
def tupI (r:List Int):D:=.tuple (r.map int)
def yk {fa fb:VF D}{vs:List Nv}{β:Int}{r:List Int}{k:Int}(h:fa vs β=.ok (tupI r) β)(h':fb vs β=.ok (.int k) β)(hk:k∈r):om fa fb vs β=.ok (.int (r.idxOf k:Nat)) β:=by
 unfold om
 rw[h]
 dsimp only[R.bnd]
 rw[My (by rfl),h']
 dsimp only[R.bnd,Ey,tupI]
 rw[j8]
 dsimp only
 rw[My hk];rfl
def DO {r:List Int}{a b:Int}(ha:a∈r)(hb:b∈r)(h:r.idxOf a=r.idxOf b):a=b:=by
 have h1:=List.getElem_idxOf (Oh.mpr ha)
 have h2:=List.getElem_idxOf (Oh.mpr hb)
 rw[<-h1,<-h2]
 congr 1
noncomputable def CQ:List D->FR:=aV 6 2 iE
def Hb (ns:List Int)(k:Nat):∃z,CQ [du ns,.int k]=.ok (.list [.int z]) true:=by
 show ∃z,fin (iE [.fz (du ns),.fz (.int k),.no,.no,.no,.no] 0)=.ok (.list [.int z]) true
 unfold iE
 have e0:f2 (f2 (cst (.int 7919)) (gv 1) df) (cst (.int 13)) cx [Nv.da (du ns),.da (.int k),.no,.no,.no,.no] 0=.ok (.int (7919 * k + 13)) 0:=aB (aB (x:=.int 7919) (y:=.int k) rfl rfl (p8 ⟨by omega,by omega⟩)) rfl rfl
 rw[aI (env':=[.fz (du ns),.fz (.int k),.fz (.int (7919 * k + 13)),.no,.no,.no]) (β':=0) ?h0]
 case h0=>
  show toS (f2 (f2 (cst (.int 7919)) (gv 1) df) (cst (.int 13)) cx [Nv.da (du ns),.da (.int k),.no,.no,.no,.no] 0) _=_
  rw[e0];rfl
 obtain⟨c,hc⟩:∃c:Int,iL ([] ++ []) (cC (f2 (gv 1) (f1 (gv 0) cy) sX)) (bQ 2 ([] ++ []) (f2 (gv 0) (gv 1) a8)) jU [.fz (du ns),.fz (.int k),.fz (.int (7919 * k + 13)),.no,.no,.no] 0=.nx [.fz (du ns),.fz (.int k),.fz (.int c),.no,.no,.no] 0:=by
  have e:cC (f2 (gv 1) (f1 (gv 0) cy) sX) (vl [.fz (du ns),.fz (.int k),.fz (.int (7919 * k + 13)),.no,.no,.no]) 0=.ok (decide ((k:Int) < (ns.map int).length)) 0:=GO rfl rfl
  by_cases h:k < ns.length
  ·rw[MB (by simp;exact h)] at e
   refine⟨ns[k],?_⟩
   rw[kW e]
   show toS (f2 (gv 0) (gv 1) a8 [Nv.da (du ns),.da (.int k),.da (.int (7919 * k + 13)),.no,.no,.no] 0) _=_
   rw[aB (x:=du ns) (y:=.int k) (d:=.int ns[k]) (β1:=0) (β2:=0) rfl rfl]
   ·rfl
   ·show k9 (ns.map int) (k:Int)=_
    rw[ny,qr h];rfl
  ·rw[MR (by simp;omega)] at e
   exact⟨_,by rw[iS e];rfl⟩
 rw[aI hc]
 have e1:cC (f2 (f2 (gv 2) (cst (.int 2)) kZ) (cst (.int 0)) (cR false)) (vl [.fz (du ns),.fz (.int k),.fz (.int c),.no,.no,.no]) 0=.ok (decide (c % 2=0)) 0:=dh (neg:=false) (aB rfl rfl (nY (by omega))) rfl
 by_cases h:c % 2=0
 ·rw[MB h] at e1
  refine⟨c / 2,?_⟩
  rw[jo (d:=.list [.int (c / 2)]) (b:=true) (β':=0)]
  ·rfl
  ·rw[kW e1]
   show toS (cY (aa (f2 (gv 2) (cst (.int 2)) GG) ag) [Nv.da (du ns),.da (.int k),.da (.int c),.no,.no,.no] 0) _=_
   rw[kh (ds:=[.int (c / 2)]) (β1:=0)]
   ·rfl
   ·have e2:f2 (gv 2) (cst (.int 2)) GG [Nv.da (du ns),.da (.int k),.da (.int c),.no,.no,.no] 0=.ok (.int (c / 2)) 0:=aB (x:=.int c) rfl rfl (FL (by omega) (by omega))
    rw[c4,e2];rfl
   ·simp
 ·rw[MR h] at e1
  rw[aI (env':=[.fz (du ns),.fz (.int k),.fz (.int c),.no,.no,.no]) (β':=0) (by rw[iS e1];rfl)]
  rw[aI (env':=[.fz (du ns),.fz (.int k),.fz (.int c),.fz (.int 0),.no,.no]) (β':=0) (by rfl)]
  obtain⟨env',β',el,z,x,y,rfl,rfl⟩:=iY (t:=.nm 4) (m:=aH (bQ 5 ((((([] ++ []) ++ []) ++ ([] ++ [])) ++ []) ++ []) (f2 (f2 (f2 (f2 (f2 (gv 2) (cst (.int 2147483647)) kZ) (cst (.int 48271)) df) (f2 (cst (.int 7919)) (gv 4) df) cx) (cst (.int 1)) cx) (cst (.int 2147483647)) kZ))
    (aH (bQ 5 (([] ++ []) ++ []) (f2 (f2 (gv 5) (gv 5) df) (cst (.int 2147483629)) kZ))
    (bQ 3 (([] ++ []) ++ (([] ++ ([] ++ [])) ++ [])) (f2 (f2 (gv 3) (cst (.int 2147483647)) df) (f2 (f2 (gv 5) (f2 (gv 5) (cst (.int 13)) cx) df) (cst (.int 2147483647)) kZ) cx)))) (ds:=dP 0 16) (k:=0)
   (λ_ env β=>∃(z:Int) (x y:Sl),env= [.fz (du ns),.fz (.int k),.fz (.int c),.fz (.int z),x,y]/\β=0) (env:=[.fz (du ns),.fz (.int k),.fz (.int c),.fz (.int 0),.no,.no]) (β:=0) ⟨0,.no,.no,rfl,rfl⟩ (by
    rintro i d env β hi ⟨z,x,y,rfl,rfl⟩
    obtain⟨_,rfl⟩:=iZ hi
    generalize (0 + (i:Int))=j
    refine⟨[.fz (du ns),.fz (.int k),.fz (.int c),.fz (.int z),.fz (.int j),y],rfl,?_⟩
    have b1:0<=c % 2147483647/\c % 2147483647 < 2147483647:=⟨Oa _ (by omega),N6 _ (by omega)⟩
    have a1:f2 (f2 (f2 (f2 (f2 (gv 2) (cst (.int 2147483647)) kZ) (cst (.int 48271)) df) (f2 (cst (.int 7919)) (gv 4) df) cx) (cst (.int 1)) cx) (cst (.int 2147483647)) kZ (vl [.fz (du ns),.fz (.int k),.fz (.int c),.fz (.int z),.fz (.int j),y]) 0=.ok (.int ((c % 2147483647 * 48271 + 7919 * j + 1) % 2147483647)) 0:=
     aB (aB (aB (aB (aB (x:=.int c) rfl rfl (nY (by omega))) rfl (A3 ⟨by omega,by omega⟩)) (aB (x:=.int 7919) (y:=.int j) rfl rfl (p8 ⟨by omega,by omega⟩)) rfl) rfl rfl) rfl (nY (by omega))
    generalize hp:(c % 2147483647 * 48271 + 7919 * j + 1) % 2147483647=p at a1
    have bp:0<=p/\p < 2147483647:=by rw[<-hp];exact⟨Oa _ (by omega),N6 _ (by omega)⟩
    rw[aI (env':=[.fz (du ns),.fz (.int k),.fz (.int c),.fz (.int z),.fz (.int j),.fz (.int p)]) (β':=0) ?k1]
    case k1=>rw[cM,a1];rfl
    have a2:f2 (f2 (gv 5) (gv 5) df) (cst (.int 2147483629)) kZ (vl [.fz (du ns),.fz (.int k),.fz (.int c),.fz (.int z),.fz (.int j),.fz (.int p)]) 0=.ok (.int (p * p % 2147483629)) 0:=
     aB (aB (x:=.int p) (y:=.int p) rfl rfl (p8 ⟨by omega,by omega⟩)) rfl (nY (by omega))
    generalize hq:p * p % 2147483629=q at a2
    have bq:0<=q/\q < 2147483629:=by rw[<-hq];exact⟨Oa _ (by omega),N6 _ (by omega)⟩
    rw[aI (env':=[.fz (du ns),.fz (.int k),.fz (.int c),.fz (.int z),.fz (.int j),.fz (.int q)]) (β':=0) ?k2]
    case k2=>rw[cM,a2];rfl
    have a3:f2 (f2 (gv 3) (cst (.int 2147483647)) df) (f2 (f2 (gv 5) (f2 (gv 5) (cst (.int 13)) cx) df) (cst (.int 2147483647)) kZ) cx (vl [.fz (du ns),.fz (.int k),.fz (.int c),.fz (.int z),.fz (.int j),.fz (.int q)]) 0=.ok (.int (z * 2147483647 + q * (q + 13) % 2147483647)) 0:=
     aB (aB (x:=.int z) rfl rfl (A3 ⟨by omega,by omega⟩)) (aB (aB (x:=.int q) (y:=.int (q + 13)) rfl rfl (p8 ⟨by omega,by omega⟩)) rfl (nY (by omega))) rfl
    refine⟨[.fz (du ns),.fz (.int k),.fz (.int c),.fz (.int (z * 2147483647 + q * (q + 13) % 2147483647)),.fz (.int j),.fz (.int q)],0,?_,_,_,_,rfl,rfl⟩
    rw[cM,a3];rfl)
  refine⟨z,?_⟩
  rw[aI (env':=[.fz (du ns),.fz (.int k),.fz (.int c),.fz (.int z),x,y]) (β':=0) ?h2]
  case h2=>exact el
  show fin (toS (cY (aa (gv 3) ag) [.da (du ns),.da (.int k),.da (.int c),.da (.int z),x.val,y.val] 0) _)=_
  rw[kh (ds:=[.int z]) (β1:=0) rfl (by simp)]
  rfl
noncomputable def sq:List D->Int->FB:=vJ 4 1 (eO fW)
def Gp (ns:List Int)(hz:ns.length<=100)(β:Int):∃(ms:List Int) (β':Int),sq [.list (ns.map int)] β=.ok (tupI ms) false β'/\ms.Perm ns:=by
 show ∃(ms:List Int) (β':Int),Dl (eO fW [.bx,.fz (.list (ns.map int)),.no,.no] β)=.ok (tupI ms) false β'/\ms.Perm ns
 unfold eO
 rw[aI (env':=[.bx,.fz (.list (ns.map int)),.ow (.list (ns.map int)),.no]) (β':=β) (by rfl)]
 have ez:cY ag [Nv.bx,.da (.list (ns.map int)),.da (.list (ns.map int)),.no] β=.ok (.list []) β:=kh rfl (by simp)
 rw[aI (env':=[.bx,.fz (.list (ns.map int)),.ow (.list (ns.map int)),.ow (.list [])]) (β':=β) ?h]
 case h=>
  show toS (cY ag [Nv.bx,.da (.list (ns.map int)),.da (.list (ns.map int)),.no] β) _=_
  rw[ez];rfl
 obtain⟨env',β',ew,ms,rfl,hp⟩:=jc (L:=[] ++ []) (t:=cC (f2 (gv 2) (cY ag) (cR true))) (m:=kj 3 2 ([] ++ []) (qz 0 fW (aa (f1 (gv 2) cy) ag)))
  (λk env β=>∃ls ms:List Int,env= [.bx,.fz (.list (ns.map int)),.ow (.list (ls.map int)),.ow (.list (ms.map int))]/\(ms ++ ls).Perm ns/\k=ls.length)
  (λenv β=>∃ms:List Int,env= [.bx,.fz (.list (ns.map int)),.ow (.list []),.ow (.list (ms.map int))]/\ms.Perm ns) (n:=1000) (k:=ns.length) (env:=[.bx,.fz (.list (ns.map int)),.ow (.list (ns.map int)),.ow (.list [])]) (β:=β) (by omega) ⟨ns,[],rfl,by simp,rfl⟩ (by
   rintro k env β ⟨ls,ms,rfl,hp,rfl⟩
   have e1:cY ag [Nv.bx,.da (.list (ns.map int)),.da (.list (ls.map int)),.da (.list (ms.map int))] β=.ok (.list (([]:List Int).map int)) β:=kh rfl (by simp)
   have et:cC (f2 (gv 2) (cY ag) (cR true)) [Nv.bx,.da (.list (ns.map int)),.da (.list (ls.map int)),.da (.list (ms.map int))] β=.ok (!decide (ls= [])) β:=
    cO _ _ _ _ (aB (x:=.list (ls.map int)) rfl e1 (by rw[wA];rfl))
   refine⟨_,_,et,?_⟩
   have hlen:=hp.length_eq
   rw[MY] at hlen
   cases ls with
   |nil=>exact .inl ⟨rfl,ms,rfl,by simpa using hp⟩
   |cons y ys=>
    refine .inr ⟨rfl,?_⟩
    have hm:(0:Int) < ((y :: ys).length:Nat)/\(((y :: ys).length:Nat):Int) < 1073741824:=by
     have:(y :: ys).length<=100:=by omega
     constructor
     ·simp
     ·omega
    obtain⟨j,hj⟩:∃j:Nat,β % (((y :: ys).length:Nat):Int)=j:=⟨(β % (((y :: ys).length:Nat):Int)).toNat,by have:=Oa β (b:=(((y :: ys).length:Nat):Int)) (by omega);omega⟩
    have hj2:j < (y :: ys).length:=by have:=N6 β hm.1;omega
    have ef:qz 0 fW (aa (f1 (gv 2) cy) ag) [Nv.bx,.da (.list (ns.map int)),.da (.list ((y :: ys).map int)),.da (.list (ms.map int))] β=.ok (.int (j:Int)) (β / (((y :: ys).length:Nat):Int)):=by
     refine nZ (ds:=[.int (((y :: ys).length:Nat):Int)]) (b:=false) (by rfl) ?_ (by rw[tJ hm.1 hm.2,hj])
     show R.ok [int ((((y :: ys).map int).length:Nat):Int)] β=_
     rw[MC]
    have hpop:Ao ((y :: ys).map int) (.int (j:Int))=some (.int (y :: ys)[j],((y :: ys).eraseIdx j).map int):=by
     unfold Ao
     dsimp only
     rw[My ⟨by omega,by omega⟩]
     have es:seqIndex? (j:Int) ((y :: ys).map int).length=some j:=by
      rw[MC]
      exact PySem.StrLaws.seqIndex_nonneg (by omega) (by omega)
     rw[es]
     dsimp only
     rw[ML,Mw hj2,rZ];rfl
    refine⟨[.bx,.fz (.list (ns.map int)),.ow (.list (((y :: ys).eraseIdx j).map int)),.ow (.list ((ms ++ [(y :: ys)[j]]).map int))],β / (((y :: ys).length:Nat):Int),((y :: ys).eraseIdx j).length,?_,?_,(y :: ys).eraseIdx j,ms ++ [(y :: ys)[j]],rfl,?_,rfl⟩
    ·show kj 3 2 ([] ++ []) (qz 0 fW (aa (f1 (gv 2) cy) ag)) [.bx,.fz (.list (ns.map int)),.ow (.list ((y :: ys).map int)),.ow (.list (ms.map int))] β=_
     rw[wW (ds:=ms.map int) (es:=(y :: ys).map int) (by rfl) (by rfl) (by decide) ef (by rfl) hpop (by rw[MC];omega),Nh]
     rfl
    ·rw[List.length_eraseIdx]
     rw[My hj2]
     show (y :: ys).length - 1 < (y :: ys).length
     simp
    ·rw[N1]
     exact (List.Perm.append_left ms (pO (Mw hj2))).trans hp)
 refine⟨ms,β',?_,hp⟩
 rw[aI ew]
 rfl
def nE (rows:List (List Int))(p:Pr):Bool:= !decide (p.1=p.2) && rows.all λr=>decide (r.idxOf p.1 < r.idxOf p.2)
def yQ {α:Type}{fa:VF D}{vs:List Nv}{β:Int}{l:List α}{f:α->Bool}(h:fa vs β=.ok (.list (l.map λq=>PyData.bool (f q))) β):f1 fa (bB λbs=>bs.all id) vs β=.ok (.bool (l.all f)) β:=by
 refine dA h ?_
 simp only[bB]
 rw[fu]
 simp[all_map]
def mG:List D->FR:=aV 5 2 jv
def yO {n:Nat}{rows:List (List Int)}(h8:n<=8)(hr:rows.length<=100)(hp:∀r,r∈rows->r.Perm (fE n)):mG [.int n,.list (rows.map tupI)]=.ok (.tuple (((OM.cB n).filter (nE rows)).map au)) false:=by
 show fin (jv [.fz (.int n),.fz (.list (rows.map tupI)),.no,.no,.no] 0)=_
 unfold jv
 rw[aI (env':=[.fz (.int n),.fz (.list (rows.map tupI)),.ow (.list []),.no,.no]) (β':=0) ?g1]
 case g1=>rw[ll,kh (ds:=[]) rfl (by simp)];rfl
 obtain⟨env',β',ef,s,t,rfl,rfl⟩:=iY (t:=.nm 3) (m:=hJ (.nm 4) [] (cN (gv 0))
   (iL (([] ++ []) ++ ([] ++ [])) (yA (cC (f2 (gv 3) (gv 4) (cR true))) (eZ (f1 (aL 1 [3,4] (.nm 0) (bK (gv 1)) jT (f2 (om (gv 0) (gv 1)) (om (gv 0) (gv 2)) sX)) (bB λbs=>bs.all id))))
   (mH 2 ([3] ++ ([4] ++ [])) (cq (aa (gv 3) (aa (gv 4) ag))))
   jU)) (ds:=dP 0 n) (k:=0)
  (λi env β=>∃s t:Sl,env= [.fz (.int n),.fz (.list (rows.map tupI)),.ow (.list ((upTo n (nE rows) i 0).map au)),s,t]/\β=0)
  (env:=[.fz (.int n),.fz (.list (rows.map tupI)),.ow (.list []),.no,.no]) (β:=0) ⟨.no,.no,by rw[zQ];rfl,rfl⟩ (by
   rintro i d env β hi ⟨s,t,rfl,rfl⟩
   obtain⟨hin,rfl⟩:=iZ hi
   refine⟨[.fz (.int n),.fz (.list (rows.map tupI)),.ow (.list ((upTo n (nE rows) (0 + i) 0).map au)),.fz (.int (0 + (i:Int))),t],rfl,?_⟩
   rw[NG,NL]
   obtain⟨env',β',ef,t2,rfl,rfl⟩:=iY (t:=.nm 4) (m:=iL (([] ++ []) ++ ([] ++ [])) (yA (cC (f2 (gv 3) (gv 4) (cR true))) (eZ (f1 (aL 1 [3,4] (.nm 0) (bK (gv 1)) jT (f2 (om (gv 0) (gv 1)) (om (gv 0) (gv 2)) sX)) (bB λbs=>bs.all id))))
     (mH 2 ([3] ++ ([4] ++ [])) (cq (aa (gv 3) (aa (gv 4) ag))))
     jU) (ds:=dP 0 n) (k:=0)
    (λk env β=>∃t:Sl,env= [.fz (.int n),.fz (.list (rows.map tupI)),.ow (.list ((upTo n (nE rows) i k).map au)),.fz (.int i),t]/\β=0)
    (env:=[.fz (.int n),.fz (.list (rows.map tupI)),.ow (.list ((upTo n (nE rows) i 0).map au)),.fz (.int i),t]) (β:=0) ⟨t,rfl,rfl⟩ (by
     rintro k d env β hk ⟨t,rfl,rfl⟩
     obtain⟨hkn,rfl⟩:=iZ hk
     refine⟨[.fz (.int n),.fz (.list (rows.map tupI)),.ow (.list ((upTo n (nE rows) i (0 + k)).map au)),.fz (.int i),.fz (.int (0 + (k:Int)))],rfl,?_⟩
     rw[NG,NL]
     have ec:aL 1 [3,4] (.nm 0) (bK (gv 1)) jT (f2 (om (gv 0) (gv 1)) (om (gv 0) (gv 2)) sX) (vl [.fz (.int n),.fz (.list (rows.map tupI)),.ow (.list ((upTo n (nE rows) i k).map au)),.fz (.int i),.fz (.int k)]) 0=.ok (.list (rows.map λr=>PyData.bool (decide (r.idxOf (i:Int) < r.idxOf (k:Int))))) 0:=by
      refine cF (l:=rows) (e:=tupI) (λr=>PyData.bool (decide (r.idxOf (i:Int) < r.idxOf (k:Int)))) rfl (by omega) λr hr=>⟨_,rfl,?_⟩
      have hp:=hp r hr
      refine aB (yk (r:=r) (k:=i) rfl rfl (hp.mem_iff.mpr (bV.mpr ⟨by omega,by omega⟩))) (yk (r:=r) (k:=k) rfl rfl (hp.mem_iff.mpr (bV.mpr ⟨by omega,by omega⟩))) ?_
      show some (PyData.bool (decide (((r.idxOf (i:Int):Nat):Int) < ((r.idxOf (k:Int):Nat):Int))))=_
      congr 2
      rw[Na,MT,MT]
      omega
     have et:yA (cC (f2 (gv 3) (gv 4) (cR true))) (eZ (f1 (aL 1 [3,4] (.nm 0) (bK (gv 1)) jT (f2 (om (gv 0) (gv 1)) (om (gv 0) (gv 2)) sX)) (bB λbs=>bs.all id))) (vl [.fz (.int n),.fz (.list (rows.map tupI)),.ow (.list ((upTo n (nE rows) i k).map au)),.fz (.int i),.fz (.int k)]) 0=.ok (nE rows ((i:Int),(k:Int))) 0:=
      B5 (dh (neg:=true) (i:=i) (j:=k) rfl rfl) (cI (yQ ec))
     have hl:=BZ (nE rows) i k h8
     by_cases c:nE rows ((i:Int),(k:Int))=true
     ·rw[c] at et
      refine⟨[.fz (.int n),.fz (.list (rows.map tupI)),.ow (.list ((upTo n (nE rows) i (k + 1)).map au)),.fz (.int i),.fz (.int k)],0,?_,_,rfl,rfl⟩
      rw[kW et,se (nE rows) hin hkn,My c,Nh]
      exact pI (i:=2) (L:=[3] ++ ([4] ++ [])) (env:=[.fz (.int n),.fz (.list (rows.map tupI)),.ow (.list ((upTo n (nE rows) i k).map au)),.fz (.int i),.fz (.int k)]) (ds:=(upTo n (nE rows) i k).map au) (by rfl) (dY rfl rfl) (by rfl) (by rw[MC];omega)
     ·rw[Bool.not_eq_true] at c
      rw[c] at et
      refine⟨[.fz (.int n),.fz (.list (rows.map tupI)),.ow (.list ((upTo n (nE rows) i (k + 1)).map au)),.fz (.int i),.fz (.int k)],0,?_,_,rfl,rfl⟩
      rw[iS et,se (nE rows) hin hkn,c]
      simp)
   rw[dJ,NG,Ba] at ef
   refine⟨[.fz (.int n),.fz (.list (rows.map tupI)),.ow (.list ((upTo n (nE rows) (i + 1) 0).map au)),.fz (.int i),t2],0,?_,_,_,rfl,rfl⟩
   rw[gC (env:=[.fz (.int n),.fz (.list (rows.map tupI)),.ow (.list ((upTo n (nE rows) i 0).map au)),.fz (.int i),t]) (c5 (n:=n) (β1:=0) rfl (by omega))]
   exact ef)
 rw[dJ,NG,Bi] at ef
 rw[aI (env':=[.fz (.int n),.fz (.list (rows.map tupI)),.ow (.list (((OM.cB n).filter (nE rows)).map au)),s,t]) (β':=0) ?g2]
 case g2=>
  rw[gC (env:=[.fz (.int n),.fz (.list (rows.map tupI)),.ow (.list []),.no,.no]) (c5 (n:=n) (β1:=0) rfl (by omega))]
  exact ef
 rfl
def pz {rows:List (List Int)}{p:Pr}:nE rows p=true↔p.1≠p.2/\∀r,r∈rows->r.idxOf p.1 < r.idxOf p.2:=by
 unfold nE
 rw[MP,Om,N2,MV]
 simp only[MT]
def Al {n:Nat}{rows:List (List Int)}(h1:1<=n)(h8:n<=8)(hne:rows≠ []):OM.Ord n ((OM.cB n).filter (nE rows)):=by
 refine⟨h1,h8,λp hm=>OM.bC.mp (ME.mp hm).1,OM.gj _ (OM.ja n),λa h=>?_,λa b c hab hbc=>?_⟩
 ·exact (pz.mp (ME.mp h).2).1 rfl
 ·obtain⟨g1,t1⟩:=ME.mp hab
  obtain⟨g2,t2⟩:=ME.mp hbc
  have g1:=OM.bC.mp g1
  have g2:=OM.bC.mp g2
  obtain⟨n1,q1⟩:=pz.mp t1
  obtain⟨n2,q2⟩:=pz.mp t2
  refine ME.mpr ⟨OM.bC.mpr ⟨g1.1,g2.2⟩,pz.mpr ⟨λe=>?_,λr hr=>OK (q1 r hr) (q2 r hr)⟩⟩
  simp only at e q1 q2
  subst e
  cases rows with
  |nil=>exact hne rfl
  |cons r rest=>
   have hr:r∈r :: rest:=MM ..
   exact absurd (OK (q1 r hr) (q2 r hr)) (M8 _)
theorem qX {α:Type}{t:Tg}{fe:VF D}{vs:List Nv}(e:α->D)(P:α->Prop):∀{ds:List D} {β:Int},(∀d,d∈ds->∃vs1,mY t d vs=some vs1/\∀β,∃a β',fe vs1 β=.ok (e a) β'/\P a)->
  ∃(as:List α) (β':Int),gH t jT fe vs ds β=.ok (as.map e) β'/\as.length=ds.length/\∀a,a∈as->P a
 | [],β,_=>⟨[],β,rfl,rfl,λa h=>(by cases h)⟩
 |d :: ds,β,h=>by
  obtain⟨vs1,hb,hf⟩:=h d (MM ..)
  obtain⟨a,β1,ef,pa⟩:=hf β
  obtain⟨as,β2,ec,hl,hP⟩:=qX e P (ds:=ds) (β:=β1) λd' hd=>h d' (MN _ hd)
  refine⟨a :: as,β2,?_,by rw[Nm,Nm,hl],λx hx=>?_⟩
  ·unfold gH
   rw[hb]
   dsimp only[jT,R.okb]
   rw[My rfl,ef]
   dsimp only
   rw[ec];rfl
  ·rcases MH.mp hx with z |z
   ·rw[z];exact pa
   ·exact hP x z
def Ek:D->Bool
 | .tuple _=>true
 |_=>false
theorem DT {d:D}(h:Ek d=true):∃ds,d=.tuple ds:=by
 cases d with
 |tuple ds=>exact⟨ds,rfl⟩
 |_=>cases h
def C4 {d:D}(h:fA d=false):fV "tuple" d=some (.bool (Ek d)):=by
 unfold fV;rw[h];cases d <;> rfl
section
variable {fa fb:VF D}{vs:List Nv}{β:Int}
def ym {d:D}(ha:fa vs β=.ok d β)(h:fA d=false):eZ (f1 fa (fV "tuple")) vs β=.ok (Ek d) β:=cI (dA ha (C4 h))
def tE {l:List D}{f:D->Bool}(h:fa vs β=.ok (.list (l.map λq=>PyData.bool (f q))) β):f1 fa (bB λbs=>bs.all id) vs β=.ok (.bool (l.all f)) β:=by
 refine dA h ?_
 simp only[bB]
 rw[fu]
 simp[all_map]
def FH {ds:List D}(ha:fa vs β=.ok (.tuple ds) β):f1 fa cy vs β=.ok (.int ds.length) β:=dA ha rfl
def GU {ds:List D}{k:Int}(ha:fa vs β=.ok (.tuple ds) β):cC (f2 (f1 fa cy) (cst (.int k)) (cR true)) vs β=.ok (!decide ((ds.length:Int)=k)) β:=dh (neg:=true) (FH ha) rfl
def CJ {t u:VF Bool}(h:t vs β=.ok true β):gf t u vs β=.ok true β:=by rw[pj,h];rfl
def fR {t u:VF Bool}{c:Bool}(h:t vs β=.ok false β)(h':u vs β=.ok c β):gf t u vs β=.ok c β:=by rw[pj,h];exact h'
def KU (h:fa vs β=.ok (.bool true) β):G6 fa fb vs β=.ok (.bool true) β:=by unfold G6;rw[h];rfl
def Lw {d:D}(h:fa vs β=.ok (.bool false) β)(h':fb vs β=.ok d β):G6 fa fb vs β=.ok d β:=by unfold G6;rw[h];exact h'
end
section
variable {vs:List Nv}{β β1 β2:Int}{fa:VF D}{fr:VF (List D)}{d:D}{ds:List D}
def ac {fa:VF D}{fr:VF (List D)}(h:fa vs β=.ok d β)(h':fr vs β=.ok ds β):aa fa fr vs β=.ok (d :: ds) β:=by rw[c4,h];dsimp only[R.bnd];rw[h']
def an:ag vs β=.ok [] β:=rfl
def tp (h:fr vs β=.ok ds β)(hz:ds.length<=1000:=by simp):cq fr vs β=.ok (.tuple ds) β:=jJ h hz
def lp (h:fr vs β=.ok ds β)(hz:ds.length<=1000:=by simp):cY fr vs β=.ok (.list ds) β:=kh h hz
def ck (d:D):cst d vs β=.ok d β:=rfl
end
def yC {P:D->Prop}{x y:D}(hx:P x)(hy:P y):∀d,d∈ [x,y]->P d:=λd hd=>by
 rcases MH.mp hd with rfl |hd
 ·exact hx
 ·rw[M4] at hd;subst hd;exact hy
def BW {d:D}(h:fA d=false):fV "list" d=some (.bool (match d with | .list _=>true |_=>false)):=by
 unfold fV;rw[h];cases d <;> rfl
def LM:D->Bool
 | .list _=>true
 |_=>false
def FW {fa:VF D}{vs:List Nv}{β:Int}{d:D}(ha:fa vs β=.ok d β)(h:fA d=false):f1 fa (fV "list") vs β=.ok (.bool (LM d)) β:=dA ha (by rw[BW h];cases d <;> rfl)
def kK {fa:VF D}{vs:List Nv}{β:Int}{ds:List D}(ha:fa vs β=.ok (.list ds) β):f1 fa cy vs β=.ok (.int ds.length) β:=dA ha rfl
def Ge (e:D):Prop:=fA e=false/\∀es,e=.tuple es->es.length<=100/\∀x,x∈es->fA x=false
def Lq (n:Int):D->Bool
 | .tuple [x,y]=>nU x n && nU y n
 |_=>false
theorem xk {es:List D}:(decide ((es.length:Int)=2)=false/\∀n,Lq n (.tuple es)=false)\/∃x y,es= [x,y]:=by
 match es with
 | []=>exact .inl ⟨rfl,λ_=>rfl⟩
 | [_]=>exact .inl ⟨rfl,λ_=>rfl⟩
 | [x,y]=>exact .inr ⟨x,y,rfl⟩
 |_ :: _ :: _ :: _=>exact .inl ⟨MR (by simp;omega),λ_=>rfl⟩
def AG:List D->FR:=aV 1 1 nD
def Ee {d:D}(h:fA d=false):AG [d]=.ok (.bool (oq d)) false:=by
 have:=zl [d] (by rw[lZ h];exact λz=>by cases z)
 rw[lZ h] at this
 exact this
def Sp (p:Pr):Prop:=(0<=p.1/\p.1<=8)/\(0<=p.2/\p.2<=8)
def Cn {es:List D}(hl:es.length<=100)(h:∀x,x∈es->fA x=false):Ge (.tuple es):=⟨rfl,λes' e=>by cases e;exact⟨hl,h⟩⟩
def yD {fa fb:VF D}{vs:List Nv}{β:Int}{ds:List D}{i:Nat}(ha:fa vs β=.ok (.list ds) β)(hb:fb vs β=.ok (.int ((i:Nat):Int)) β):BA fa (C0 fb) (λ_ β=>.ok none β) vs β=.ok (.list (ds.drop i)) β:=by
 unfold BA C0
 rw[ha];dsimp only[R.bnd]
 rw[hb];dsimp only[R.bnd]
 congr 2
 unfold cutD
 rw[HT.vU,HT.yB]
 by_cases h:i<=ds.length
 ·rw[Nat.min_eq_left h];exact List.take_of_length_le (by rw[Ou];omega)
 ·rw[Nat.min_eq_right (by omega),drop_length,List.drop_of_length_le (by omega)];simp
def wm {fa fb:VF D}{vs:List Nv}{β:Int}{ds:List D}{i:Nat}(ha:fa vs β=.ok (.list ds) β)(hb:fb vs β=.ok (.int ((i:Nat):Int)) β):BA fa (λ_ β=>.ok none β) (C0 fb) vs β=.ok (.list (ds.take i)) β:=by
 unfold BA C0
 rw[ha];dsimp only[R.bnd]
 rw[hb];dsimp only[R.bnd]
 congr 2
 unfold cutD
 rw[HT.vU,HT.yB]
 by_cases h:i<=ds.length
 ·rw[Nat.min_eq_left h];rfl
 ·rw[Nat.min_eq_right (by omega),List.take_of_length_le (show ds.length<=i by omega)];simp
end RM
namespace RM
open PySem PySem.Spec L2 PyProof.Rows
theorem oM:∀{l m:List Int},l.Nodup->(∀x,x∈l->x∈m)->m.length<=l.length->l.Perm m
 | [],m,_,_,h=>by
  have:m= []:=List.length_eq_zero_iff.mp (by simpa using h)
  rw[this]
 |x :: l,m,nd,hs,h=>by
  obtain⟨h1,h2⟩:=Nn.mp nd
  have hx:x∈m:=hs x (MM ..)
  have pm:m.Perm (x :: m.erase x):=List.perm_cons_erase hx
  refine (List.Perm.cons x (oM (m:=m.erase x) h2 (λy hy=>?_) ?_)).trans pm.symm
  ·have hy':=pm.mem_iff.mp (hs y (MN _ hy))
   rcases MH.mp hy' with rfl |q
   ·exact absurd hy h1
   ·exact q
  ·have:=pm.length_eq
   rw[Nm] at this h
   omega
def A7 {n:Nat}{r:List Int}(hl:r.length=n)(hb:∀x,x∈r->0<=x/\x < n)(nd:r.Nodup):r.Perm (fE n):=oM nd (λx hx=>bV.mpr (hb x hx)) (by rw[iz];omega)
theorem j8:∀r:List Int,kU (r.map int)=some r
 | []=>rfl
 |x :: r=>by
  have:=j8 r
  simp only[NR,kU,this]
  try rfl
end RM
namespace RM
open PySem L2
def zA (l:List Pr)(r:List Int):Bool:=l.all λp=>decide (r.idxOf p.1 < r.idxOf p.2)
def Row (n:Nat)(l:List Pr)(r:List Int):Prop:=r.Perm (fE n)/\zA l r=true
def Gt (d:D):Prop:=fA d=false/\∀ds,d=.list ds->ds.length<=100/\∀e,e∈ds->Ge e
def FT (rs:List (List Int))(p:Pr):Bool:=rs.all λr=>decide (r.idxOf p.1 < r.idxOf p.2)
theorem any_ints (a:Int):∀s:List Int,((s.map int).any λe=>PyData.eqv e (.int a))=decide (a∈s)
 | []=>rfl
 |b :: s=>by
  rw[NR,NZ,any_ints a s]
  show ((b == a) || _)=_
  rw[Na]
  simp only[NH,beq_iff_eq,MT,MH]
  exact⟨λh=>h.imp Eq.symm id,λh=>h.imp Eq.symm id⟩
def z0 (s:List Int):(s.map int).all SeqAt.shaped=true:=by
 rw[MV]
 intro d hd
 obtain⟨p,_,rfl⟩:=MZ.mp hd
 rfl
def A6 {a b:List D}(h:a.length + b.length<=1000):qW (.tuple a) (.tuple b)=some (.tuple (a ++ b)):=My (by rw[Nc];omega)
def AW (l:List Pr)(r:List Int)(x:Int):List Int:=(l.filter λp=>decide (p.2=x) && !decide (p.1∈r)).map (·.1)
def kI {l:List Pr}{r:List Int}{x a:Int}:a∈AW l r x↔(a,x)∈l/\a∉r:=by
 unfold AW
 rw[MZ]
 constructor
 ·rintro⟨p,hp,rfl⟩
  have:=ME.mp hp
  simp only[MP,MT,Om,N2] at this
  obtain⟨pa,pb⟩:=p
  obtain⟨h1,h2,h3⟩:=this
  simp only at h2 h3
  subst h2
  exact⟨h1,h3⟩
 ·rintro⟨h1,h2⟩
  exact⟨(a,x),ME.mpr ⟨h1,by simp[h2]⟩,rfl⟩
def zK {n:Nat}{l:List Pr}(O:OM.Ord n l)(r:List Int)(x:Int):(AW l r x).Nodup:=by
 unfold AW
 rw[NM,Od]
 refine OJ (λ{a b} ha hb h e=>h ?_) (NM.mp ((OM.oy O.ris).filter _))
 have h1:=(ME.mp ha).2
 have h2:=(ME.mp hb).2
 simp only[MP,MT] at h1 h2
 exact Prod.ext e (h1.1.trans h2.1.symm)
theorem least {n:Nat}{l:List Pr}(O:OM.Ord n l)(r:List Int):∀(k:Nat) (x:Int),(0<=x/\x < n)->x∉r->(AW l r x).length<=k->∃y:Int,(0<=y/\y < n)/\y∉r/\AW l r y= []
 | 0,x,hx,hr,hk=>⟨x,hx,hr,List.length_eq_zero_iff.mp (by omega)⟩
 |k + 1,x,hx,hr,hk=>by
  by_cases he:AW l r x= []
  ·exact⟨x,hx,hr,he⟩
  ·obtain⟨a,ha⟩:=List.exists_mem_of_ne_nil _ he
   obtain⟨h1,h2⟩:=kI.mp ha
   refine least O r k a (O.wn _ h1).1 h2 ?_
   have nd:(a :: AW l r a).Nodup:=Nn.mpr ⟨λq=>O.irr a (kI.mp q).1,zK O r a⟩
   have:=L2.ST.fw nd (m:=AW l r x) λy hy=>by
    rcases MH.mp hy with rfl |hy
    ·exact ha
    ·obtain⟨q1,q2⟩:=kI.mp hy
     exact kI.mpr ⟨O.tr _ _ _ q1 h1,q2⟩
   rw[Nm] at this
   omega
structure Dh (n:Nat)(l:List Pr)(r:List Int):Prop where
 nd:r.Nodup
 inn:∀x,x∈r->0<=x/\x < (n:Int)
 fit:∀p,p∈l->p.2∈r->p.1∈r/\r.idxOf p.1 < r.idxOf p.2
def Dh.len {n:Nat}{l:List Pr}{r:List Int}(B:Dh n l r):r.length<=n:=by
 have:=L2.ST.fw B.nd (m:=fE n) λx hx=>bV.mpr (B.inn x hx)
 rwa [iz] at this
def Dh.row {n:Nat}{l:List Pr}{r:List Int}(O:OM.Ord n l)(B:Dh n l r)(h:n<=r.length):Row n l r:=by
 have pm:=A7 (Nat.le_antisymm B.len h) B.inn B.nd
 refine⟨pm,MV.mpr λp hp=>MB ?_⟩
 exact (B.fit p hp (pm.mem_iff.mpr (bV.mpr (O.wn p hp).2))).2
def g7 (l:List Pr)(r:List Int)(x:Int):Bool:= !decide (x∈r) && decide (AW l r x= [])
def Dh.more {n:Nat}{l:List Pr}{r:List Int}{x:Int}(B:Dh n l r)(hx:0<=x/\x < (n:Int))(hf:g7 l r x=true):Dh n l (r ++ [x]):=by
 unfold g7 at hf
 rw[MP,Om,N2,MT] at hf
 obtain⟨h1,h2⟩:=hf
 refine⟨?_,λy hy=>?_,λp hp hm=>?_⟩
 ·rw[List.nodup_append]
  refine⟨B.nd,Nn.mpr ⟨by simp,List.nodup_nil⟩,λa ha b hb=>?_⟩
  rw[M4] at hb
  subst hb
  exact λq=>h1 (q▸ha)
 ·rcases MU.mp hy with hy |hy
  ·exact B.inn y hy
  ·rw[M4] at hy;subst hy;exact hx
 ·rcases MU.mp hm with hm |hm
  ·obtain⟨q1,q2⟩:=B.fit p hp hm
   refine⟨Of _ q1,?_⟩
   rw[ON,ON,My q1,My hm]
   exact q2
  ·rw[M4] at hm
   have hp1:p.1∈r:=by
    by_cases z:p.1∈r
    ·exact z
    ·have:p.1∈AW l r x:=kI.mpr ⟨by rw[<-hm];exact hp,z⟩
     rw[h2] at this;cases this
   refine⟨Of _ hp1,?_⟩
   rw[ON,ON,My hp1,MG (by rw[hm];exact h1)]
   have:=Oh.mpr hp1
   omega
def Dh.free {n:Nat}{l:List Pr}{r:List Int}(O:OM.Ord n l)(B:Dh n l r)(h:r.length < n):(fE n).filter (g7 l r)≠ []:=by
 have:∃x,x∈fE n/\x∉r:=by
  apply Classical.byContradiction
  intro z
  have:=L2.ST.fw (nO n) (m:=r) λx hx=>Classical.byContradiction λq=>z ⟨x,hx,q⟩
  rw[iz] at this
  omega
 obtain⟨x,hx,hr⟩:=this
 obtain⟨y,hy,hyr,hp⟩:=least O r _ x (bV.mp hx) hr (MA _)
 intro q
 have:y∈(fE n).filter (g7 l r):=ME.mpr ⟨bV.mpr hy,by unfold g7;simp[hyr,hp]⟩
 rw[q] at this
 cases this
def dC (l:List Pr)(r:List Int)(i:Nat):List Int:=(fE i).filter (g7 l r)
def Be (i:Nat):fE (i + 1)=fE i ++ [(i:Int)]:=by unfold fE;rw[List.range_succ,Nh];rfl
def sf (l:List Pr)(r:List Int)(i:Nat):dC l r (i + 1)=dC l r i ++ if g7 l r (i:Int)=true then [(i:Int)] else []:=by
 unfold dC
 rw[Be,List.filter_append]
 congr 1
 by_cases h:g7 l r (i:Int)=true
 ·rw[My h];simp[h]
 ·rw[MG h];simp[h]
def nI (l:List Pr)(r:List Int)(i:Nat):(dC l r i).length<=i:=by
 have:(dC l r i).length<=(fE i).length:=Nk _ _
 rwa [iz] at this
theorem vG:∀rs:List (List Int),PyData.canLayAll0 (rs.map tupI)=true
 | []=>rfl
 |r :: rs=>by
  show ((tupI r).canLay0 && PyData.canLayAll0 (rs.map tupI))=true
  rw[vG rs,show (tupI r).canLay0=true by unfold tupI;simp only[PyData.canLay0];exact lay_ints r];rfl
def EG (r:List Int):(tupI r).depth=1:=by unfold tupI;simp only[PyData.depth];rw[ql]
theorem wc:∀rs:List (List Int),PyData.depthAll (rs.map tupI)<=1
 | []=>by show (0:Nat)<=1;omega
 |r :: rs=>by
  show max (tupI r).depth (PyData.depthAll (rs.map tupI))<=1
  have h1:=EG r
  have h2:=wc rs
  omega
def oD (rs:List (List Int)):SeqAt.shaped (.list (rs.map tupI))=true:=by
 unfold SeqAt.shaped
 have h1:(PyData.list (rs.map tupI)).canLay0=true:=by simp only[PyData.canLay0];exact vG rs
 have h2:(PyData.list (rs.map tupI)).depth<=64:=by simp only[PyData.depth];have:=wc rs;omega
 rw[h1,MB h2];rfl
def Fb (r q:List Int):PyData.eqv (tupI r) (tupI q)=decide (r=q):=by
 unfold tupI
 simp only[PyData.eqv,qY]
theorem wa:∀l m:List (List Int),PyData.eqvAll (l.map tupI) (m.map tupI)=decide (l=m)
 | [],[]=>rfl
 | [],_ :: _=>rfl
 |_ :: _,[]=>rfl
 |p :: l,q :: m=>by
  show (PyData.eqv (tupI p) (tupI q) && PyData.eqvAll (l.map tupI) (m.map tupI))=_
  rw[Fb,wa l m,Na]
  simp
def BN (neg:Bool)(l m:List (List Int)):cR neg (.list (l.map tupI)) (.list (m.map tupI))=some (.bool (if neg then !decide (l=m) else decide (l=m))):=by
 unfold cR
 rw[oD,oD]
 simp only[Ol,NJ,PyData.eqv,wa]
structure WP (r:SO)(Q:SO->Prop):Prop where
 out:Q r
section
variable {m m' m1 m2:SF}{env env1:En}{β β1 β2 z:Int}{Q:SO->Prop}{f fa fb:VF D}{t:VF Bool}{d e:D}{L La Lb:List Nat}{i j:Nat}{c:Bool}
def wp_at (env1:En)(e:env=env1)(k:WP (m env1 β) Q):WP (m env β) Q:=by rw[e];exact k
def wp_seq (h:m env β=.nx env1 β1)(k:WP (m' env1 β1) Q):WP (aH m m' env β) Q:=by rw[aI h];exact k
theorem xr (h:WP (aH m jU env β) Q):WP (m env β) Q:=by
 obtain⟨h⟩:=h
 unfold aH at h
 cases e:m env β with
 |_=>rw[e] at h;exact⟨h⟩
def oE (q:Q (.nx env β)):WP (jU env β) Q:=⟨q⟩
def dS (h:f (vl env) β=.ok d β1)(k:WP (m' ((aS L env).set i (.fz d)) β1) Q):WP (aH (bQ i L f) m' env β) Q:=wp_seq (by unfold bQ;rw[h];rfl) k
def EZ (h:f (vl env) β=.ok d β1)(k:WP (m' ((aS L env).set i (.ow d)) β1) Q):WP (aH (kY i L f) m' env β) Q:=wp_seq (by unfold kY;rw[h];rfl) k
def tK (h:f (vl env) β=.ok d β1)(k:WP (m' (aS L env) β1) Q):WP (aH (oB L f) m' env β) Q:=wp_seq (by unfold oB;rw[h];rfl) k
def C5 {ds:List D}(hi:env[i]? =some (.ow (.list ds)))(h:f (vl env) β=.ok d β1)(hL:(aS L env)[i]? =some (.ow (.list ds)))(hz:ds.length<=1000)(k:WP (m' ((aS L env).set i (.ow (.list (ds ++ [d])))) β1) Q):WP (aH (mH i L f) m' env β) Q:=wp_seq (pI hi h hL hz) k
def dq (h:t (vl env) β=.ok false β1)(k:WP (m' (aS L env) β1) Q):WP (aH (iL L t m1 jU) m' env β) Q:=wp_seq (by rw[iS h];rfl) k
def nq (h:t (vl env) β=.ok true β1)(k:WP (aH m1 m' (aS L env) β1) Q):WP (aH (iL L t m1 m2) m' env β) Q:=by
 have:aH (iL L t m1 m2) m' env β=aH m1 m' (aS L env) β1:=by unfold aH;rw[kW h]
 rw[this];exact k
def E1 (h:t (vl env) β=.ok false β1)(k:WP (m2 (aS L env) β1) Q):WP (iL L t m1 m2 env β) Q:=by rw[iS h];exact k
def jh (h:f (vl env) β=.ok d β1)(q:Q (.rt d false β1)):WP (bo f env β) Q:=⟨by unfold bo;rw[h];exact q⟩
def sZ (h:f (vl env) β=.ok d β1)(q:Q (.rt d false β1)):WP (aH (bo f) m' env β) Q:=⟨by unfold aH bo;rw[h];exact q⟩
def gm {R:FR}(h:WP (m env β) λr=>fin r=R):fin (m env β)=R:=h.out
def xc {t:Tg}{fi:VF (List D)}{ds:List D}(I:Nat->En->Int->Prop)(hi:fi (vl env) β=.ok ds β1)(h0:I 0 (aS L env) β1)
  (hs:∀i d env β,ds[i]? =some d->I i env β->∃env1,gJ t d env=some env1/\WP (m env1 β) λr=>∃env2 β2,r=.nx env2 β2/\I (i + 1) env2 β2)
  (k:∀env β,I ds.length env β->WP (m' env β) Q):WP (aH (hJ t L fi m) m' env β) Q:=by
 obtain⟨env',β',e,h⟩:=iY (t:=t) (m:=m) I (ds:=ds) (k:=0) h0 λi d env β hd h=>by
  rw[NG] at h
  obtain⟨env1,e1,⟨env2,β2,e2,h2⟩⟩:=hs i d env β hd h
  exact⟨env1,e1,env2,β2,e2,by rw[NG];exact h2⟩
 rw[NG] at h
 exact wp_seq ((gC hi).trans e) (k _ _ h)
def Cr {n:Nat}(I:Nat->En->Int->Prop)(Dn:En->Int->Prop)(b:Nat)(hb:b < n)(h0:I b env β)
  (hs:∀k env β,I k env β->∃c β1,t (vl env) β=.ok c β1/\((c=false/\Dn (aS L env) β1)\/(c=true/\WP (m (aS L env) β1) λr=>∃env2 β2 k',r=.nx env2 β2/\k' < k/\I k' env2 β2)))
  (k:∀env β,Dn env β->WP (m' env β) Q):WP (aH (gW L t m n) m' env β) Q:=by
 obtain⟨env',β',e,h⟩:=jc (L:=L) (t:=t) (m:=m) I Dn (n:=n) hb h0 λk env β h=>by
  obtain⟨c,β1,e1,h⟩:=hs k env β h
  refine⟨c,β1,e1,?_⟩
  rcases h with h | ⟨h1,⟨h2⟩⟩
  ·exact .inl h
  ·exact .inr ⟨h1,h2⟩
 exact wp_seq e (k _ _ h)
end
def BD (c:Int)(hc:0<=c/\c<=100)(ns:List Int)(vs:List Nv)(β:Int)(h:gv 0 vs β=.ok (du ns) β):∃m:Nat,m<=101/\cN (f2 (cst (.int 1)) (f2 (f1 (gv 0) cy) (cst (.int c)) (vq λi j=>.int (if j < i then j else i))) (vq λi j=>.int (if j > i then j else i))) vs β=.ok (dP 0 m) β:=by
 have e1:f2 (cst (.int 1)) (f2 (f1 (gv 0) cy) (cst (.int c)) (vq λi j=>.int (if j < i then j else i))) (vq λi j=>.int (if j > i then j else i)) vs β=.ok (.int (if (if c < ((ns.map int).length:Int) then c else ((ns.map int).length:Int)) > 1 then (if c < ((ns.map int).length:Int) then c else ((ns.map int).length:Int)) else 1)) β:=
  aB (x:=.int 1) rfl (aB (x:=.int (ns.map int).length) (y:=.int c) (dA h rfl) rfl rfl) rfl
 generalize ((ns.map int).length:Nat)=k at e1
 refine⟨(if (if c < (k:Int) then c else (k:Int)) > 1 then (if c < (k:Int) then c else (k:Int)) else 1).toNat,?_,c5 (e1.trans ?_) ?_⟩
 ·split <;> split <;> omega
 ·congr 2
  split <;> split <;> omega
 ·split <;> split <;> omega
def B3 {n:Nat}{r:List Int}:(sortI r=fE n)↔r.Perm (fE n):=by
 constructor
 ·intro h;rw[<-h];exact (sortI_perm r).symm
 ·intro h;exact (mP h.symm ((Hk n).imp λh=>Int.le_of_lt h)).symm
def Ck {ds:List D}{k:Nat}(h:k < ds.length):∃d,ds[k]? =some d/\d∈ds/\k9 ds (k:Int)=some d:=⟨ds[k],Mw h,NO h,iC (Mw h)⟩
def IE {fa fb:VF D}{vs:List Nv}{β β1 β2:Int}{a b:List D}(h1:fa vs β=.ok (.tuple a) β1)(h2:fb vs β1=.ok (.tuple b) β2)(hz:a.length + b.length<=1000):f2 fa fb qW vs β=.ok (.tuple (a ++ b)) β2:=aB h1 h2 (A6 hz)
def u5 {fa fb:VF D}{vs:List Nv}{β β1 β2:Int}{a b:List D}(h1:fa vs β=.ok (.list a) β1)(h2:fb vs β1=.ok (.list b) β2)(hz:a.length + b.length<=1000):f2 fa fb ka vs β=.ok (.list (a ++ b)) β2:=aB h1 h2 (pK (by omega))
def LA {fa:VF D}{vs:List Nv}{β:Int}{i:Nat}(h:fa vs β=.ok (.int (i:Nat)) β):f2 fa (cst (.int 1)) cx vs β=.ok (.int ((i + 1:Nat):Int)) β:=aB h rfl (by show some (int ((i:Int) + 1))=_;rw[show ((i + 1:Nat):Int)=(i:Int) + 1 by omega])
section
variable {m m' m1 m2:SF}{env env1:En}{β β1 β2 z:Int}{Q:SO->Prop}{f fa fb:VF D}{t:VF Bool}{d e:D}{L La Lb:List Nat}{i j:Nat}{c:Bool}
theorem zk (h:WP (m env β) λr=>(∀a b,r≠.nx a b)/\Q r):WP (aH m m' env β) Q:=by
 obtain⟨h1,h2⟩:=h.out
 refine⟨?_⟩
 unfold aH
 cases e:m env β with
 |nx a b=>exact absurd e (h1 a b)
 |_=>rw[e] at h2;exact h2
theorem GX (J:En->Int->Prop)(h:∃c β1,t (vl env) β=.ok c β1/\(c=true->WP (m1 (aS L env) β1) λs=>∃env2 β2,s=.nx env2 β2/\J env2 β2)/\(c=false->WP (m2 (aS L env) β1) λs=>∃env2 β2,s=.nx env2 β2/\J env2 β2))(k:∀env β,J env β->WP (m' env β) Q):WP (aH (iL L t m1 m2) m' env β) Q:=by
 obtain⟨c,β1,e,h1,h2⟩:=h
 cases c with
 |true=>obtain⟨env2,β2,e2,hj⟩:=(h1 rfl).out;exact wp_seq ((kW e).trans e2) (k _ _ hj)
 |false=>obtain⟨env2,β2,e2,hj⟩:=(h2 rfl).out;exact wp_seq ((iS e).trans e2) (k _ _ hj)
end
def L4 (ms:List Int)(m i:Nat)(ps:List Pr):Prop:=ps.Nodup/\ps.length<=4 * i/\∀p,p∈ps->∃i' j:Nat,i' < i/\j < m/\ms[i']? =some p.1/\ms[m + j]? =some p.2
def Dw {ms:List Int}{m i:Nat}{ps:List Pr}(h3:3<=m)(h4:m<=4)(hi:i<=m)(hp:ms.Perm (fE (2 * m)))(h:L4 ms m i ps):OM.Ord (2 * m) (OM.iw 8 (OM.Mem ps))/\ps.all Iv=true/\ps.length < 64:=by
 obtain⟨nd,hl,hc⟩:=h
 have ndm:ms.Nodup:=hp.nodup_iff.mpr (nO _)
 have wn:OM.Wn (2 * m) ps:=λp hm=>by
  obtain⟨i',j,_,_,e1,e2⟩:=hc p hm
  exact⟨bV.mp (hp.mem_iff.mp (MS e1)),bV.mp (hp.mem_iff.mp (MS e2))⟩
 rw[Iz (by omega) wn]
 refine⟨⟨by omega,by omega,OM.E7 _ _,OM.iQ _ _,λa h=>?_,λa b c h k=>?_⟩,Gn (by omega) wn,by omega⟩
 ·obtain⟨i',j,hi',_,e1,e2⟩:=hc _ (OM.dX.mp h).2
  have:=lb ndm e1 e2
  omega
 ·obtain⟨i',j,hi',_,e1,e2⟩:=hc _ (OM.dX.mp h).2
  obtain⟨i2,j2,hi2,_,e3,e4⟩:=hc _ (OM.dX.mp k).2
  have:=lb ndm e2 e3
  omega
noncomputable def Hq:List D->Int->FB:=vJ 7 1 (eB mG fW sq)
abbrev oe (n:Nat)(rows:D)(ms:List Int)(ps:List Pr)(s6:Sl):En:=[.bx,.fz (.int 6),.fz (.int n),.fz rows,.fz (tupI ms),.fz (.list (ps.map au)),s6]
def Fj (β:Int):∃(n:Nat) (l:List Pr) (β':Int),Hq [.int ((6:Nat):Int)] β=.ok (ar n l) false β'/\OM.Ord n l/\n<=6:=by
 obtain⟨j,hj,ej⟩:=qA (m:=6) (by omega) (by omega) β
 show ∃(n:Nat) (l:List Pr) (β':Int),Dl (eB mG fW sq [.bx,.fz (.int ((6:Nat):Int)),.no,.no,.no,.no,.no] β)=.ok (ar n l) false β'/\OM.Ord n l/\n<=6
 unfold eB
 generalize hβ1:β / ((6:Nat):Int)=β1 at ej
 have e1:f2 (cst (.int 1)) (qz 0 fW (aa (gv 1) ag)) cx (vl [.bx,.fz (.int ((6:Nat):Int)),.no,.no,.no,.no,.no]) β=.ok (.int ((1 + j:Nat):Int)) β1:=by
  refine aB (x:=.int 1) rfl (nZ (by rfl) rfl ej) ?_
  show some (int (1 + (j:Int)))=_
  rw[show ((1 + j:Nat):Int)=1 + (j:Int) by omega]
 rw[aI (env':=[.bx,.fz (.int 6),.fz (.int ((1 + j:Nat):Int)),.no,.no,.no,.no]) (β':=β1) ?g1]
 case g1=>rw[cM,e1];rfl
 have n6:1 + j<=6:=by omega
 generalize hn:1 + j=n at n6
 have n1:1<=n:=by omega
 obtain⟨q,hq,eq⟩:=qA (m:=3) (by omega) (by omega) β1
 generalize hβ2:β1 / ((3:Nat):Int)=β2 at eq
 have e2:f2 (cst (.int 1)) (qz 0 fW (aa (cst (.int 3)) ag)) cx (vl [.bx,.fz (.int 6),.fz (.int n),.no,.no,.no,.no]) β1=.ok (.int ((1 + q:Nat):Int)) β2:=by
  refine aB (x:=.int 1) rfl (nZ (ds:=[.int 3]) (by rfl) rfl eq) ?_
  show some (int (1 + (q:Int)))=_
  rw[show ((1 + q:Nat):Int)=1 + (q:Int) by omega]
 have shuf:∀(k:Nat),k<=6->∀b,∃(ms:List Int) (b':Int),sq [.list ((fE k).map int)] b=.ok (tupI ms) false b'/\ms.Perm (fE k):=λk hk b=>Gp (fE k) (by rw[iz];omega) b
 obtain⟨rows,β3,ec,hl,hP⟩:=qX (t:=.nm 0) (fe:=qz 1 sq (aa (f1 (gv 2) fT) ag)) (vs:=fL 1 [0,2] (vl [.bx,.fz (.int 6),.fz (.int n),.no,.no,.no,.no])) tupI (λr:List Int=>r.Perm (fE n)) (ds:=dP 0 (1 + q)) (β:=β2) (by
  intro d hd
  refine⟨[.da d,.bx,.da (.int n)],rfl,λb=>?_⟩
  obtain⟨ms,b',em,pm⟩:=shuf n n6 b
  refine⟨ms,b',nZ (ds:=[.list ((fE n).map int)]) (β1:=b) (by rfl) ?_ em,pm⟩
  rw[c4,dA (x:=.int n) (d:=.list ((fE n).map int)) (β1:=b) rfl (lB (by omega))];rfl)
 rw[dJ] at hl
 have ef:aL 1 [0,2] (.nm 0) (cN (f2 (cst (.int 1)) (qz 0 fW (aa (cst (.int 3)) ag)) cx)) jT (qz 1 sq (aa (f1 (gv 2) fT) ag)) (vl [.bx,.fz (.int 6),.fz (.int n),.no,.no,.no,.no]) β1=.ok (.list (rows.map tupI)) β3:=by
  unfold aL
  rw[c5 (n:=1 + q) e2 (by omega)]
  dsimp only[R.bnd]
  rw[My (sz _ (by rw[dJ];omega)),ec];rfl
 rw[aI (env':=[.bx,.fz (.int 6),.fz (.int n),.fz (.list (rows.map tupI)),.no,.no,.no]) (β':=β3) ?g2]
 case g2=>rw[cM,ef];rfl
 have hne:rows≠ []:=λz=>by rw[z] at hl;simp at hl;omega
 have told:∀β4,∃(n':Nat) (l:List Pr) (β':Int),Dl (bo (cq (aa (gv 2) (aa (aw mG (aa (gv 2) (aa (gv 3) ag))) ag))) [.bx,.fz (.int 6),.fz (.int n),.fz (.list (rows.map tupI)),.no,.no,.no] β4)=.ok (ar n' l) false β'/\OM.Ord n' l/\n'<=6:=λβ4=>by
  refine⟨n,(OM.cB n).filter (nE rows),β4,?_,Al n1 (by omega) hne,n6⟩
  have a1:aw mG (aa (gv 2) (aa (gv 3) ag)) (vl [.bx,.fz (.int 6),.fz (.int n),.fz (.list (rows.map tupI)),.no,.no,.no]) β4=.ok (.tuple (((OM.cB n).filter (nE rows)).map au)) β4:=ax rfl (yO (by omega) (by omega) hP)
  rw[gB,jJ (ds:=[.int n,.tuple (((OM.cB n).filter (nE rows)).map au)]) (β1:=β4) ?k3 (by simp)]
  case k3=>
   rw[c4]
   show (R.ok (int n) β4).bnd _=_
   dsimp only[R.bnd]
   rw[c4,a1];rfl
  rfl
 have t1:cC (f2 (gv 2) (cst (.int 6)) (cR false)) (vl [.bx,.fz (.int 6),.fz (.int n),.fz (.list (rows.map tupI)),.no,.no,.no]) β3=.ok (decide ((n:Int)=6)) β3:=dh (neg:=false) (i:=n) (j:=6) rfl rfl
 by_cases qn:(n:Int)=6
 case neg=>
  rw[MR qn] at t1
  have t:yA (cC (f2 (gv 2) (cst (.int 6)) (cR false))) (cC (f2 (qz 0 fW (aa (cst (.int 3)) ag)) (cst (.int 2)) (cR false))) (vl [.bx,.fz (.int 6),.fz (.int n),.fz (.list (rows.map tupI)),.no,.no,.no]) β3=.ok false β3:=by rw[yc,t1];rfl
  rw[aI (env':=[.bx,.fz (.int 6),.fz (.int n),.fz (.list (rows.map tupI)),.no,.no,.no]) (β':=β3) (by rw[iS t];rfl)]
  exact told β3
 rw[MB qn] at t1
 obtain⟨g,hg,eg⟩:=qA (m:=3) (by omega) (by omega) β3
 generalize hβ4:β3 / ((3:Nat):Int)=β4 at eg
 have t:yA (cC (f2 (gv 2) (cst (.int 6)) (cR false))) (cC (f2 (qz 0 fW (aa (cst (.int 3)) ag)) (cst (.int 2)) (cR false))) (vl [.bx,.fz (.int 6),.fz (.int n),.fz (.list (rows.map tupI)),.no,.no,.no]) β3=.ok (decide ((g:Int)=2)) β4:=by
  have t2:cC (f2 (qz 0 fW (aa (cst (.int 3)) ag)) (cst (.int 2)) (cR false)) (vl [.bx,.fz (.int 6),.fz (.int n),.fz (.list (rows.map tupI)),.no,.no,.no]) β3=.ok (decide ((g:Int)=2)) β4:=dh (neg:=false) (i:=g) (j:=2) (nZ (ds:=[.int 3]) (by rfl) rfl eg) rfl
  rw[yc,t1]
  exact t2
 by_cases qg:(g:Int)=2
 case neg=>
  rw[MR qg] at t
  rw[aI (env':=[.bx,.fz (.int 6),.fz (.int n),.fz (.list (rows.map tupI)),.no,.no,.no]) (β':=β4) (by rw[iS t];rfl)]
  exact told β4
 rw[MB qg] at t
 obtain⟨ms,β5,em,hp⟩:=shuf 6 (by omega) β4
 have hml:ms.length=6:=by rw[hp.length_eq,iz]
 have ndm:ms.Nodup:=hp.nodup_iff.mpr (nO _)
 generalize hR:PyData.list (rows.map tupI)=R3 at t ⊢
 obtain⟨env',β',ef6,ps,s6,rfl,rfl,hC⟩:=iY (t:=.nm 6) (m:=bQ 5 ([] ++ ([] ++ [])) (f2 (gv 5) (aL 1 [6,4] (.nm 0) (cN (cst (.int 3))) (cC (f2 (gv 0) (gv 1) (cR true))) (cq (aa (f2 (gv 2) (gv 1) a8) (aa (f2 (gv 2) (f2 (cst (.int 3)) (gv 0) cx) a8) ag)))) ka)) (ds:=dP 0 3) (k:=0)
  (λi env β=>∃(ps:List Pr) (s6:Sl),env=oe n R3 ms ps s6/\β=β5/\L4 ms 3 i ps)
  (env:=oe n R3 ms [] .no) (β:=β5) ⟨[],.no,rfl,rfl,List.nodup_nil,by simp,λp hp=>by cases hp⟩ (by
   rintro i d env β hi ⟨ps,s6,rfl,rfl,nd,hl,hc⟩
   obtain⟨hin,rfl⟩:=iZ hi
   rw[NG] at hl hc
   rw[NG,NL]
   refine⟨oe n R3 ms ps (.fz (.int i)),rfl,?_⟩
   have him:i < ms.length:=by omega
   generalize hO:((List.range 3).filter λ(j:Nat)=> !decide ((j:Int)=(i:Int)))=js
   have hjs:∀j,j∈js->j < 3:=λj hj=>by rw[<-hO] at hj;exact Nb.mp (ME.mp hj).1
   have hjn:js.Nodup:=by rw[<-hO];exact nodup_range.filter _
   have hjl:js.length<=3:=by rw[<-hO];have:=Nk (λ(j:Nat)=> !decide ((j:Int)=(i:Int))) (List.range 3);rw[NC] at this;exact this
   have at_:∀k:Nat,k < ms.length->a8 (tupI ms) (.int (k:Int))=some (.int (ms.getD k 0)):=λk hk=>by
    show k9 (ms.map int) (k:Int)=_
    rw[ny,qr hk,MQ,Mw hk];rfl
   have ed:aL 1 [6,4] (.nm 0) (cN (cst (.int 3))) (cC (f2 (gv 0) (gv 1) (cR true))) (cq (aa (f2 (gv 2) (gv 1) a8) (aa (f2 (gv 2) (f2 (cst (.int 3)) (gv 0) cx) a8) ag))) (vl (oe n R3 ms ps (.fz (.int i)))) β=.ok (.list ((js.map λ(j:Nat)=>((ms.getD i 0,ms.getD (3 + j) 0):Pr)).map au)) β:=by
    rw[<-hO,OL]
    refine b8 (l:=List.range 3) (e:=λ(k:Nat)=>int (0 + (k:Int))) (λ(j:Nat)=> !decide ((j:Int)=(i:Int))) (λj=>au (ms.getD i 0,ms.getD (3 + j) 0)) (c5 (n:=3) rfl (by omega)) (by rw[NC];omega) λj hj=>⟨_,rfl,?_,λ_=>?_⟩
    ·rw[NL];exact dh (neg:=true) (i:=j) (j:=i) rfl rfl
    ·have hj:=Nb.mp hj
     refine dY (aB (x:=tupI ms) (y:=.int i) rfl rfl (at_ i him)) (aB (x:=tupI ms) (y:=.int ((3 + j:Nat):Int)) rfl (aB (x:=.int 3) (y:=.int (0 + (j:Int))) rfl rfl ?_) (at_ (3 + j) (by omega)))
     show some (int (3 + (0 + (j:Int))))=_
     congr 2;omega
   refine⟨oe n R3 ms (ps ++ js.map λ(j:Nat)=>((ms.getD i 0,ms.getD (3 + j) 0):Pr)) (.fz (.int i)),β,?_,_,_,rfl,rfl,?_,?_,?_⟩
   ·rw[cM,aB (x:=.list (ps.map au)) (β1:=β) rfl ed (pK (by rw[MC,MC,MC];omega)),<-Nh];rfl
   ·have hd:∀j,j < 3->ms[3 + j]? =some (ms.getD (3 + j) 0):=λj hj=>by rw[MQ,Mw (by omega)];rfl
    have hdi:ms[i]? =some (ms.getD i 0):=by rw[MQ,Mw him];rfl
    refine List.nodup_append.mpr ⟨nd,?_,λp hp q hq e=>?_⟩
    ·rw[NM,Od]
     refine OJ (λ{a b} ha hb h e=>?_) (NM.mp hjn)
     have e2:=(Prod.mk.inj e).2
     have:=lb ndm (hd a (hjs a ha)) (by rw[e2];exact hd b (hjs b hb))
     omega
    ·subst e
     obtain⟨j,hj,rfl⟩:=MZ.mp hq
     obtain⟨i',j',h1,h2,h3,h4⟩:=hc _ hp
     have:=lb ndm h3 hdi
     omega
   ·rw[MY,MC];omega
   ·intro p hp
    rcases MU.mp hp with hp |hp
    ·obtain⟨i',j',h1,h2,h3,h4⟩:=hc _ hp
     exact⟨i',j',by omega,h2,h3,h4⟩
    ·obtain⟨j,hj,rfl⟩:=MZ.mp hp
     refine⟨i,j,by omega,hjs j hj,?_,?_⟩
     ·show ms[i]? =some (ms.getD i 0)
      rw[MQ,Mw him];rfl
     ·have:=hjs j hj
      show ms[3 + j]? =some (ms.getD (3 + j) 0)
      rw[MQ,Mw (by omega)];rfl)
 rw[dJ,NG] at hC
 obtain⟨O,hsm,hl64⟩:=Dw (by omega) (by omega) (MA 3) hp hC
 have g9:qd (.list (ps.map au))=some (.list ((OM.iw 8 (OM.Mem ps)).map au)):=by
  unfold qd
  dsimp only
  rw[i3]
  dsimp only
  rw[My ⟨hsm,hC.1,hl64⟩]
 rw[jo (d:=ar 6 (OM.iw 8 (OM.Mem ps))) (b:=false) (β':=β') ?z]
 ·exact⟨6,_,_,rfl,O,by omega⟩
 case z=>
  rw[kW t]
  rw[aI (env':=[.bx,.fz (.int 6),.fz (.int n),.fz R3,.fz (tupI ms),.no,.no]) (β':=β') ?y1]
  case y1=>
   show bQ 4 _ _ [.bx,.fz (.int 6),.fz (.int n),.fz R3,.no,.no,.no] β4=_
   rw[cM,nZ (ds:=[.list ((fE 6).map int)]) (β1:=β4) (by rfl) ?hu1 em]
   ·rfl
   case hu1=>rw[c4,dA (x:=.int ((6:Nat):Int)) (d:=.list ((fE 6).map int)) (β1:=β4) rfl (lB (by omega))];rfl
  rw[aI (env':=oe n R3 ms [] .no) (β':=β') ?y2]
  case y2=>rw[cM,kh (ds:=[]) (β1:=β') rfl (by simp)];rfl
  rw[aI (env':=oe n R3 ms ps s6) (β':=β') ?y3]
  case y3=>
   rw[gC (env:=oe n R3 ms [] .no) (ds:=dP 0 3) (β1:=β') (c5 (n:=3) rfl (by omega))]
   exact ef6
  rw[gB,jJ (ds:=[.int 6,.tuple ((OM.iw 8 (OM.Mem ps)).map au)]) (β1:=β') ?y4 (by simp)]
  ·rfl
  case y4=>
   rw[c4,Gk,nV,c4,dA (dA (x:=.list (ps.map au)) rfl g9) (by rfl)];rfl
end RM
namespace RM
open PySem L2 PyProof.Rows
def mk (f:Nat->Bool):Nat->Nat
 | 0=>0
 |n + 1=>mk f n ||| if f n=true then 2 ^ n else 0
theorem gZ (f:Nat->Bool):∀(n i:Nat),(mk f n).testBit i=(decide (i < n) && f i)
 | 0,i=>by simp[mk]
 |n + 1,i=>by
  unfold mk
  rw[Nat.testBit_or,gZ f n i]
  by_cases h:f n=true
  ·rw[My h,Nat.testBit_two_pow]
   by_cases e:n=i
   ·subst e;simp[h]
   ·have e2:decide (i < n)=decide (i < n + 1):=by
     rw[NI];omega
    simp[e,e2]
  ·rw[MG h]
   by_cases e:i=n
   ·subst e;simp[h]
   ·have e2:decide (i < n)=decide (i < n + 1):=by
     rw[NI];omega
    simp[e2]
def mk_eq {f g:Nat->Bool}{n:Nat}:mk f n=mk g n↔∀i,i < n->f i=g i:=by
 constructor
 ·intro h i hi
  have:=congrArg (λx=>x.testBit i) h
  simp only[gZ,MB hi,Bool.true_and] at this
  exact this
 ·intro h
  apply Ov
  intro i
  rw[gZ,gZ]
  by_cases hi:i < n
  ·rw[h i hi]
  ·rw[MR hi];simp
def g4 (f:Nat->Bool)(t:Nat):Nat->Bool:=λi=>f i || decide (i=t)
def J1 {f:Nat->Bool}{n t:Nat}(h:t < n):mk f n ||| 2 ^ t=mk (g4 f t) n:=by
 apply Ov
 intro i
 rw[Nat.testBit_or,gZ,gZ,Nat.testBit_two_pow]
 unfold g4
 by_cases e:t=i
 ·subst e;simp[h]
 ·have e':¬i=t:=λq=>e q.symm
  simp[e,e']
def Hf {f g:Nat->Bool}{n:Nat}:(mk f n &&& mk g n=mk g n)↔∀i,i < n->g i=true->f i=true:=by
 have e:mk f n &&& mk g n=mk (λi=>f i && g i) n:=by
  apply Ov
  intro i
  rw[Nat.testBit_and,gZ,gZ,gZ]
  by_cases h:i < n
  ·simp[h]
  ·simp[h]
 rw[e,mk_eq]
 constructor
 ·intro h i hi hg
  have:=h i hi
  rw[hg,Bool.and_true] at this
  exact this
 ·intro h i hi
  cases hg:g i with
  |false=>simp
  |true=>rw[h i hi hg];rfl
def sg (a b:Nat):Builtin.bitOr (a:Int) (b:Int)=((a ||| b:Nat):Int):=by
 have h1:¬(0<=Builtin.bitNot (a:Int)):=by show ¬(0<= -(a:Int) - 1);omega
 have h2:¬(0<=Builtin.bitNot (b:Int)):=by show ¬(0<= -(b:Int) - 1);omega
 show Builtin.bitNot (Builtin.bitAnd (Builtin.bitNot a) (Builtin.bitNot b))=_
 rw[bitAnd_nn h1 h2]
 have e1:Builtin.bitNot (Builtin.bitNot (a:Int))=a:=by show -(-(a:Int) - 1) - 1=a;omega
 have e2:Builtin.bitNot (Builtin.bitNot (b:Int))=b:=by show -(-(b:Int) - 1) - 1=b;omega
 rw[e1,e2]
 show -(-((((a:Int).toNat ||| (b:Int).toNat:Nat):Int)) - 1) - 1=_
 rw[Nf,Nf];omega
def wX (a b:Nat):Builtin.bitAnd (a:Int) (b:Int)=((a &&& b:Nat):Int):=by
 rw[bitAnd_pp (by omega) (by omega),Nf,Nf]
def mI (f:Nat->Bool)(n:Nat):D:=.int ((mk f n:Nat):Int)
def GR:∀t:Nat,t < 8->G7 (.int 1) (.int (t:Int))=some (.int ((2 ^ t:Nat):Int)):=by
 intro t ht
 have:t=0\/t=1\/t=2\/t=3\/t=4\/t=5\/t=6\/t=7:=by omega
 rcases this with rfl |rfl |rfl |rfl |rfl |rfl |rfl |rfl <;> rfl
def v9:List D->FR:=aV 2 2 iB
def Ce {f:Nat->Bool}{n t:Nat}(h8:n<=8)(h:t < n):v9 [mI f n,.int (t:Int)]=.ok (mI (g4 f t) n) false:=by
 show fin (iB [.fz (mI f n),.fz (.int t)] 0)=_
 unfold iB
 rw[gB,aB (x:=mI f n) (y:=.int ((2 ^ t:Nat):Int)) (d:=mI (g4 f t) n) (β1:=0) (β2:=0) rfl (aB (x:=.int 1) (y:=.int t) rfl rfl (GR t (by omega))) ?a]
 ·rfl
 case a=>
  show some (int (Builtin.bitOr _ _))=_
  rw[sg,J1 h];rfl
def cc (n:Nat)(M:Nat->Nat->Bool):D:=.list ((List.range n).map λb=>mI (M b) n)
def bu (l:List Pr)(b a:Nat):Bool:=decide ((((a:Nat):Int),((b:Nat):Int))∈l)
def Cj {n b:Nat}{M:Nat->Nat->Bool}(h:b < n):k9 ((List.range n).map λb=>mI (M b) n) (b:Int)=some (mI (M b) n):=iC (by rw[ML,Oi h];rfl)
def LI:List D->FR:=aV 4 1 (gr v9)
def orM (M:Nat->Nat->Bool)(p:Pr)(b a:Nat):Bool:=M b a || (decide ((b:Int)=p.2) && decide ((a:Int)=p.1))
def GF {n:Nat}{M:Nat->Nat->Bool}{p:Pr}(h1:0<=p.1/\p.1 < n)(h2:0<=p.2/\p.2 < n):((List.range n).map λb=>mI (M b) n).set p.2.toNat (mI (g4 (M p.2.toNat) p.1.toNat) n)=(List.range n).map λb=>mI (orM M p b) n:=by
 refine List.ext_getElem (by simp) λi h3 h4=>?_
 rw[List.getElem_set]
 simp only[List.getElem_map,List.getElem_range]
 unfold mI
 by_cases e:p.2.toNat=i
 ·rw[My e]
  congr 2
  rw[mk_eq]
  intro j hj
  unfold g4 orM
  rw[e]
  have e1:((i:Nat):Int)=p.2:=by omega
  rw[MB e1,Bool.true_and]
  congr 1
  rw[NI];omega
 ·rw[MG e]
  congr 2
  rw[mk_eq]
  intro j hj
  unfold orM
  rw[MR (by omega:¬((i:Nat):Int)=p.2)];simp
theorem zd {n:Nat}{l:List Pr}(h8:n<=8):∀(ps:List Pr) (M:Nat->Nat->Bool) (s2 s3:Sl),OM.Wn n ps->∃M' s2' s3',k0 (.two 2 3) (vZ 1 (([] ++ []) ++ ([2] ++ [])) [] (aw v9 (aa (f2 (gv 1) (gv 3) a8) (aa (gv 2) ag))) (gv 3)) (ps.map au) [.fz (ar n l),.ow (cc n M),s2,s3] 0=.nx [.fz (ar n l),.ow (cc n M'),s2',s3'] 0/\∀b a,b < n->a < n->M' b a=(M b a || bu ps b a)
 | [],M,s2,s3,_=>⟨M,s2,s3,rfl,λb a _ _=>by unfold bu;simp⟩
 |p :: ps,M,s2,s3,wn=>by
  have hp:=wn p (MM ..)
  obtain⟨M',s2',s3',e,hM⟩:=zd (l:=l) h8 ps (orM M p) (.fz (.int p.1)) (.fz (.int p.2)) λq hq=>wn q (MN _ hq)
  refine⟨M',s2',s3',?_,λb a hb ha=>?_⟩
  ·rw[NR]
   unfold k0
   rw[show gJ (.two 2 3) (au p) [.fz (ar n l),.ow (cc n M),s2,s3]=some [.fz (ar n l),.ow (cc n M),.fz (.int p.1),.fz (.int p.2)] from rfl]
   dsimp only
   have e1:(p.2.toNat:Int)=p.2:=by omega
   have e2:(p.1.toNat:Int)=p.1:=by omega
   have ew:aw v9 (aa (f2 (gv 1) (gv 3) a8) (aa (gv 2) ag)) (vl [.fz (ar n l),.ow (cc n M),.fz (.int p.1),.fz (.int p.2)]) 0=.ok (mI (g4 (M p.2.toNat) p.1.toNat) n) 0:=by
    refine ax (b:=false) (ds:=[mI (M p.2.toNat) n,.int (p.1.toNat:Int)]) (ac (aB (x:=cc n M) (y:=.int p.2) rfl rfl ?_) (ac ?_ an)) (Ce h8 (by omega))
    ·have:=Cj (n:=n) (M:=M) (b:=p.2.toNat) (by omega)
     rw[e1] at this
     exact this
    ·show R.ok (int p.1) 0=_
     rw[e2]
   rw[B7 (ds:=(List.range n).map λb=>mI (M b) n) (d:=mI (g4 (M p.2.toNat) p.1.toNat) n) (k:=p.2) (n:=p.2.toNat) (β1:=0) (β2:=0) ew (by rfl) rfl (by rfl) (by
    unfold q8
    rw[My hp.2.1,My (by simp;omega)]),GF hp.1 hp.2]
   dsimp only
   exact e
  ·rw[hM b a hb ha]
   unfold orM bu
   obtain⟨p1,p2⟩:=p
   rw[Bool.or_assoc]
   congr 1
   rw[Na]
   simp only[NH,MP,MT,MH,Prod.mk.injEq]
   constructor
   ·rintro (⟨h1,h2⟩ |h)
    ·exact .inl ⟨h2,h1⟩
    ·exact .inr h
   ·rintro (⟨h1,h2⟩ |h)
    ·exact .inl ⟨h2,h1⟩
    ·exact .inr h
def Aa {n:Nat}{M N:Nat->Nat->Bool}(h:∀b a,b < n->a < n->M b a=N b a):cc n M=cc n N:=by
 unfold cc
 congr 1
 refine NV λb hb=>?_
 unfold mI
 congr 2
 rw[mk_eq]
 exact λa ha=>h b a (Nb.mp hb) ha
def LG {n:Nat}{l:List Pr}(O:OM.Ord n l):LI [ar n l]=.ok (cc n (bu l)) true:=by
 have h8:=O.hi
 show fin (gr v9 [.fz (ar n l),.no,.no,.no] 0)=_
 unfold gr
 rw[aI (env':=[.fz (ar n l),.ow (cc n λ_ _=>false),.no,.no]) (β':=0) ?a]
 case a=>
  have e:f2 (cY (aa (cst (.int 0)) ag)) (f2 (gv 0) (cst (.int 0)) a8) uL (vl [.fz (ar n l),.no,.no,.no]) 0=.ok (cc n λ_ _=>false) 0:=by
   refine aB (lp (ac (ck _) an)) (Kn (n:=n) (l:=l) rfl) ?_
   simp only[uL]
   rw[My ⟨by omega,by omega,by rw[Nc];simp;omega⟩]
   unfold cc
   congr 2
   rw[Nf]
   have hz:∀m,mk (λ_=>false) m=0:=λm=>by
    induction m with
    |zero=>rfl
    |succ m ih=>unfold mk;rw[ih];simp
   unfold mI
   simp only[hz]
   have:∀m:Nat,(List.replicate m [int 0]).flatten=List.replicate m (int 0):=λm=>by
    induction m with
    |zero=>rfl
    |succ m ih=>rw[Nw,Nw,NT,ih];rfl
   rw[this]
   refine List.ext_getElem (by simp) λi h1 h2=>by simp
  rw[ll,e];rfl
 obtain⟨M',s2,s3,e,hM⟩:=zd (l:=l) h8 l (λ_ _=>false) .no .no O.wn
 have hm:cc n M'=cc n (bu l):=Aa λb a hb ha=>by rw[hM b a hb ha];rfl
 rw[hm] at e
 rw[aI (env':=[.fz (ar n l),.ow (cc n (bu l)),s2,s3]) (β':=0) (by
  rw[gC (env:=[.fz (ar n l),.ow (cc n λ_ _=>false),.no,.no]) (ds:=l.map au) (β1:=0) (by unfold bK;rw[J0 (n:=n) (l:=l) rfl];rfl)]
  exact e)]
 rfl
end RM
namespace RM
open PySem L2
def dM (r:List Int)(i:Nat):Bool:=decide ((i:Int)∈r)
def Ki:List D->FR:=aV 5 2 (gu v9)
def CU {n:Nat}{l:List Pr}(O:OM.Ord n l){r:List Int}{t:Nat}(ht:t < n):(!decide (mk (g4 (dM r) t) n=mk (dM r) n) && decide (mk (dM r) n &&& mk (bu l t) n=mk (bu l t) n))=g7 l r t:=by
 unfold g7
 congr 1
 ·congr 1
  rw[NI,mk_eq]
  constructor
  ·intro h
   have:=h t ht
   unfold g4 dM at this
   simp at this
   exact this
  ·intro h i hi
   unfold g4 dM
   by_cases e:i=t
   ·subst e;simp[h]
   ·simp[e]
 ·rw[NI,Hf]
  constructor
  ·intro h
   rw[List.eq_nil_iff_forall_not_mem]
   intro a ha
   obtain⟨h1,h2⟩:=kI.mp ha
   have hw:=(O.wn _ h1).1
   simp only at hw
   have e:((a.toNat:Nat):Int)=a:=by omega
   have:=h a.toNat (by omega) (by unfold bu;rw[e];exact MB h1)
   unfold dM at this
   rw[e] at this
   exact h2 (Ng this)
  ·intro h i hi hg
   unfold dM
   refine MB (Classical.byContradiction λq=>?_)
   have:(i:Int)∈AW l r t:=kI.mpr ⟨Ng hg,q⟩
   rw[h] at this;cases this
def Dk {n:Nat}{l:List Pr}(O:OM.Ord n l)(r:List Int):∃s3 s4,k0 (.two 3 4) (iL ((([1] ++ ([3] ++ [])) ++ []) ++ (([] ++ []) ++ [])) (yA (cC (f2 (aw v9 (aa (gv 1) (aa (gv 3) ag))) (gv 1) (cR true))) (cC (f2 (f2 (gv 1) (gv 4) C3) (gv 4) (cR false))))
  (mH 2 [3] (gv 3)) jU) (j5 ((List.range n).map λb=>mI (bu l b) n)) [.fz (cc n (bu l)),.fz (mI (dM r) n),.ow (.list []),.no,.no] 0=.nx [.fz (cc n (bu l)),.fz (mI (dM r) n),.ow (.list ((dC l r n).map int)),s3,s4] 0:=by
 have h8:=O.hi
 obtain⟨env',β',ef,s3,s4,rfl,rfl⟩:=iY (t:=.two 3 4) (m:=iL ((([1] ++ ([3] ++ [])) ++ []) ++ (([] ++ []) ++ [])) (yA (cC (f2 (aw v9 (aa (gv 1) (aa (gv 3) ag))) (gv 1) (cR true))) (cC (f2 (f2 (gv 1) (gv 4) C3) (gv 4) (cR false))))
  (mH 2 [3] (gv 3)) jU) (ds:=j5 ((List.range n).map λb=>mI (bu l b) n)) (k:=0)
  (λk env b=>∃s3 s4,env= [.fz (cc n (bu l)),.fz (mI (dM r) n),.ow (.list ((dC l r k).map int)),s3,s4]/\b=0)
  (env:=[.fz (cc n (bu l)),.fz (mI (dM r) n),.ow (.list []),.no,.no]) (β:=0) ⟨.no,.no,rfl,rfl⟩ (by
   rintro k d env b hk ⟨s3,s4,rfl,rfl⟩
   unfold j5 at hk
   rw[List.getElem?_mapIdx,ML] at hk
   have hkn:k < n:=by
    by_cases h:k < n
    ·exact h
    ·rw[N0 (by simp;omega)] at hk;cases hk
   rw[Oi hkn] at hk
   cases hk
   refine⟨[.fz (cc n (bu l)),.fz (mI (dM r) n),.ow (.list ((dC l r (0 + k)).map int)),.fz (.int k),.fz (mI (bu l k) n)],rfl,?_⟩
   rw[NG]
   have et:yA (cC (f2 (aw v9 (aa (gv 1) (aa (gv 3) ag))) (gv 1) (cR true))) (cC (f2 (f2 (gv 1) (gv 4) C3) (gv 4) (cR false))) (vl [.fz (cc n (bu l)),.fz (mI (dM r) n),.ow (.list ((dC l r k).map int)),.fz (.int k),.fz (mI (bu l k) n)]) 0=.ok (g7 l r k) 0:=by
    rw[<-CU O hkn]
    refine B5 (cO _ _ _ _ (aB (x:=mI (g4 (dM r) k) n) (y:=mI (dM r) n) (ax (ds:=[mI (dM r) n,.int k]) rfl (Ce h8 hkn)) rfl ?_)) (cO _ _ _ _ (aB (x:=.int ((mk (dM r) n &&& mk (bu l k) n:Nat):Int)) (y:=mI (bu l k) n) (aB (x:=mI (dM r) n) (y:=mI (bu l k) n) rfl rfl ?_) rfl ?_))
    ·unfold mI;rw[mX,My rfl];congr 3;rw[NI];omega
    ·show some (int (Builtin.bitAnd _ _))=_
     rw[wX]
    ·unfold mI;rw[mX,MG MI];congr 2;rw[NI];omega
   cases c:g7 l r (k:Int) with
   |true=>
    rw[c] at et
    refine⟨[.fz (cc n (bu l)),.fz (mI (dM r) n),.ow (.list ((dC l r (k + 1)).map int)),.fz (.int k),.fz (mI (bu l k) n)],0,?_,_,_,rfl,rfl⟩
    rw[kW et]
    have hz:=nI l r k
    rw[show aS ((([1] ++ ([3] ++ [])) ++ []) ++ (([] ++ []) ++ [])) [.fz (cc n (bu l)),.fz (mI (dM r) n),.ow (.list ((dC l r k).map int)),.fz (.int k),.fz (mI (bu l k) n)]= [.fz (cc n (bu l)),.fz (mI (dM r) n),.ow (.list ((dC l r k).map int)),.fz (.int k),.fz (mI (bu l k) n)] from rfl]
    rw[pI (i:=2) (ds:=(dC l r k).map int) (d:=.int k) (β':=0) (by rfl) rfl (by rfl) (by rw[MC];omega),sf,My c,Nh]
    rfl
   |false=>
    rw[c] at et
    refine⟨[.fz (cc n (bu l)),.fz (mI (dM r) n),.ow (.list ((dC l r (k + 1)).map int)),.fz (.int k),.fz (mI (bu l k) n)],0,?_,_,_,rfl,rfl⟩
    rw[iS et,sf,c,show dC l r k ++ (if false=true then [(k:Int)] else [])=dC l r k by simp]
    rfl)
 have hle:(j5 ((List.range n).map λb=>mI (bu l b) n)).length=n:=by unfold j5;simp
 rw[NG,hle] at ef
 exact⟨s3,s4,ef⟩
def LK {n:Nat}{l:List Pr}(O:OM.Ord n l)(r:List Int):Ki [cc n (bu l),mI (dM r) n]=.ok (.list ((dC l r n).map int)) true:=by
 show fin (gu v9 [.fz (cc n (bu l)),.fz (mI (dM r) n),.no,.no,.no] 0)=_
 unfold gu
 rw[aI (env':=[.fz (cc n (bu l)),.fz (mI (dM r) n),.ow (.list []),.no,.no]) (β':=0) (by rw[ll,lp (ds:=[]) an];rfl)]
 obtain⟨s3,s4,e⟩:=Dk O r
 rw[aI (env':=[.fz (cc n (bu l)),.fz (mI (dM r) n),.ow (.list ((dC l r n).map int)),s3,s4]) (β':=0) (by
  rw[gC (env:=[.fz (cc n (bu l)),.fz (mI (dM r) n),.ow (.list []),.no,.no]) (ds:=j5 ((List.range n).map λb=>mI (bu l b) n)) (β1:=0) rfl]
  exact e)]
 rfl
noncomputable def Iu:List D->FR:=aV 6 2 (jI Ki v9)
structure GQ (n:Nat)(l:List Pr)(late r:List Int):Prop where
 beg:Dh n l r
 late:∀q x,(q ++ [x]) <+:r->x∈late->∀y:Int,(0<=y/\y < n)->g7 l q y=true->y∈late
def wg (neg:Bool)(a:Int)(s:List Int):lQ neg (.int a) (.list (s.map int))=some (.bool (if neg then !decide (a∈s) else decide (a∈s))):=by
 unfold lQ
 simp only[mB,z0,any_ints]
 rfl
def GQ.more {n:Nat}{l:List Pr}{late r:List Int}{x:Int}(R:GQ n l late r)(hx:0<=x/\x < (n:Int))(hf:g7 l r x=true)(hl:x∈late->∀y:Int,(0<=y/\y < n)->g7 l r y=true->y∈late):GQ n l late (r ++ [x]):=by
 refine⟨R.beg.more hx hf,λq z hp hz y hy hfy=>?_⟩
 rcases List.prefix_concat_iff.mp hp with e |hp
 ·have:=List.append_inj' e rfl
  obtain⟨rfl,e2⟩:=this
  cases e2
  exact hl hz y hy hfy
 ·exact R.late q z hp hz y hy hfy
def Hr (n:Nat):mI (dM []) n=.int 0:=by
 unfold mI
 congr 1
 have:mk (dM []) n=0:=by
  induction n with
  |zero=>rfl
  |succ m ih=>unfold mk;rw[ih];simp[dM]
 rw[this];rfl
def Gz {n:Nat}{r:List Int}{x:Int}(h:0<=x/\x < n):mI (g4 (dM r) x.toNat) n=mI (dM (r ++ [x])) n:=by
 unfold mI
 congr 2
 rw[mk_eq]
 intro i hi
 unfold g4 dM
 rw[Na]
 simp only[NH,MT,MU,M4]
 constructor
 ·rintro (h |h)
  ·exact .inl h
  ·exact .inr (by omega)
 ·rintro (h |h)
  ·exact .inl h
  ·exact .inr (by omega)
def JQ {n:Nat}{l:List Pr}{late:List Int}(O:OM.Ord n l)(hz:late.length<=100):∃r,Iu [cc n (bu l),.list (late.map int)]=.ok (tupI r) false/\Row n l r/\GQ n l late r:=by
 have h8:=O.hi
 show ∃r,fin (jI Ki v9 [.fz (cc n (bu l)),.fz (.list (late.map int)),.no,.no,.no,.no] 0)=.ok (tupI r) false/\Row n l r/\GQ n l late r
 unfold jI
 rw[aI (env':=[.fz (cc n (bu l)),.fz (.list (late.map int)),.ow (.list (([]:List Int).map int)),.no,.no,.no]) (β':=0) (by rw[ll,lp (ds:=[]) an];rfl)]
 rw[aI (env':=[.fz (cc n (bu l)),.fz (.list (late.map int)),.ow (.list (([]:List Int).map int)),.fz (mI (dM []) n),.no,.no]) (β':=0) (by rw[cM,Hr];rfl)]
 obtain⟨env',β',ew,r,s4,s5,rfl,rfl,hr,R⟩:=jc (L:=[] ++ []) (t:=cC (f2 (f1 (gv 2) cy) (f1 (gv 0) cy) sX))
  (m:=aH (bQ 4 ([0] ++ ([3] ++ [])) (aw Ki (aa (gv 0) (aa (gv 3) ag))))
   (aH (bQ 5 ([] ++ []) (aL 1 [1] (.nm 0) (bK (gv 4)) (cC (f2 (gv 0) (gv 1) (lQ true))) (gv 0)))
   (aH (mH 2 (([] ++ []) ++ []) (f2 (f2 (gv 5) (gv 4) ka) (cst (.int 0)) a8))
   (bQ 3 ([3] ++ (([] ++ []) ++ [])) (aw v9 (aa (gv 3) (aa (f2 (gv 2) (f1 (cst (.int 1)) o8) a8) ag)))))))
  (λk env b=>∃r s4 s5,env= [.fz (cc n (bu l)),.fz (.list (late.map int)),.ow (.list (r.map int)),.fz (mI (dM r) n),s4,s5]/\b=0/\GQ n l late r/\k=n - r.length)
  (λenv b=>∃r s4 s5,env= [.fz (cc n (bu l)),.fz (.list (late.map int)),.ow (.list (r.map int)),.fz (mI (dM r) n),s4,s5]/\b=0/\Row n l r/\GQ n l late r)
  (n:=1000) (k:=n) (env:=[.fz (cc n (bu l)),.fz (.list (late.map int)),.ow (.list (([]:List Int).map int)),.fz (mI (dM []) n),.no,.no]) (β:=0) (by omega)
  ⟨[],.no,.no,rfl,rfl,⟨⟨List.nodup_nil,(λx hx=>by cases hx),(λp _ h=>by cases h)⟩,λq x hp=>by simp at hp⟩,by simp⟩ (by
   rintro k env b ⟨r,s4,s5,rfl,rfl,R,rfl⟩
   have hrl:=R.beg.len
   have et:cC (f2 (f1 (gv 2) cy) (f1 (gv 0) cy) sX) (vl [.fz (cc n (bu l)),.fz (.list (late.map int)),.ow (.list (r.map int)),.fz (mI (dM r) n),s4,s5]) 0=.ok (decide ((r.length:Int) < n)) 0:=by
    refine cO _ _ _ _ (aB (x:=.int r.length) (y:=.int n) (β1:=0) ?_ ?_ rfl)
    ·rw[kK (ds:=r.map int) rfl,MC]
    ·rw[kK (ds:=(List.range n).map λb=>mI (bu l b) n) rfl,MC,NC]
   refine⟨_,_,et,?_⟩
   by_cases hlt:r.length < n
   ·refine .inr ⟨MB (by omega),?_⟩
    show ∃env2 β2 k',aH _ _ [.fz (cc n (bu l)),.fz (.list (late.map int)),.ow (.list (r.map int)),.fz (mI (dM r) n),s4,s5] 0=.nx env2 β2/\k' < n - r.length/\_
    rw[aI (env':=[.fz (cc n (bu l)),.fz (.list (late.map int)),.ow (.list (r.map int)),.fz (mI (dM r) n),.fz (.list ((dC l r n).map int)),s5]) (β':=0) (by rw[cM,ax (ds:=[cc n (bu l),mI (dM r) n]) (β1:=0) rfl (LK O r)];rfl)]
    have ec:aL 1 [1] (.nm 0) (bK (gv 4)) (cC (f2 (gv 0) (gv 1) (lQ true))) (gv 0) (vl [.fz (cc n (bu l)),.fz (.list (late.map int)),.ow (.list (r.map int)),.fz (mI (dM r) n),.fz (.list ((dC l r n).map int)),s5]) 0=.ok (.list (((dC l r n).filter λx=> !decide (x∈late)).map int)) 0:=by
     refine b8 (l:=dC l r n) (e:=int) (λx=> !decide (x∈late)) int rfl (by have:=nI l r n;omega) λx hx=>⟨_,rfl,?_,λ_=>rfl⟩
     exact cO _ _ _ _ (aB (x:=.int x) (y:=.list (late.map int)) rfl rfl (wg true x late))
    generalize hEE:((dC l r n).filter λx=> !decide (x∈late))=EE at ec
    rw[aI (env':=[.fz (cc n (bu l)),.fz (.list (late.map int)),.ow (.list (r.map int)),.fz (mI (dM r) n),.fz (.list ((dC l r n).map int)),.fz (.list (EE.map int))]) (β':=0) (by rw[cM,ec];rfl)]
    have hne:dC l r n≠ []:=R.beg.free O hlt
    have hEl:EE.length<=n:=by rw[<-hEE];exact Nx (Nk _ _) (nI l r n)
    have hfl:=nI l r n
    obtain⟨x,L,hx⟩:∃x L,EE ++ dC l r n=x :: L:=List.exists_cons_of_ne_nil (by simp[hne])
    have hxm:x∈dC l r n:=by
     have:x∈EE ++ dC l r n:=by rw[hx];exact MM ..
     rcases MU.mp this with h |h
     ·rw[<-hEE] at h;exact (ME.mp h).1
     ·exact h
    obtain⟨hm1,hm2⟩:=ME.mp hxm
    have hxr:=bV.mp hm1
    have hlate:x∈late->∀y:Int,(0<=y/\y < n)->g7 l r y=true->y∈late:=λhxl y hy hfy=>by
     apply Classical.byContradiction
     intro hn
     have hyE:y∈EE:=by rw[<-hEE];exact ME.mpr ⟨ME.mpr ⟨bV.mpr hy,hfy⟩,by simp[hn]⟩
     cases hE:EE with
     |nil=>rw[hE] at hyE;cases hyE
     |cons z Z=>
      rw[hE,List.cons_append] at hx
      have e1:=(List.cons.inj hx).1
      have:z∈EE:=by rw[hE];exact MM ..
      rw[<-hEE] at this
      have:=(ME.mp this).2
      rw[e1] at this
      simp[hxl] at this
    have R':=R.more hxr hm2 hlate
    rw[aI (env':=[.fz (cc n (bu l)),.fz (.list (late.map int)),.ow (.list ((r ++ [x]).map int)),.fz (mI (dM r) n),.fz (.list ((dC l r n).map int)),.fz (.list (EE.map int))]) (β':=0) ?bb]
    case bb=>
     have ei:f2 (f2 (gv 5) (gv 4) ka) (cst (.int 0)) a8 (vl [.fz (cc n (bu l)),.fz (.list (late.map int)),.ow (.list (r.map int)),.fz (mI (dM r) n),.fz (.list ((dC l r n).map int)),.fz (.list (EE.map int))]) 0=.ok (.int x) 0:=by
      refine aB (x:=.list ((EE ++ dC l r n).map int)) (y:=.int 0) (aB (x:=.list (EE.map int)) (y:=.list ((dC l r n).map int)) rfl rfl ?_) rfl ?_
      ·rw[pK (by rw[MC,MC];omega),Nh]
      ·rw[hx];exact iC (xs:=.int x :: L.map int) (j:=0) rfl
     rw[pI (i:=2) (ds:=r.map int) (d:=.int x) (β':=0) (by rfl) ei (by rfl) (by rw[MC];omega),Nh]
     rfl
    have e1:(x.toNat:Int)=x:=by omega
    have el:f2 (gv 2) (f1 (cst (.int 1)) o8) a8 (vl [.fz (cc n (bu l)),.fz (.list (late.map int)),.ow (.list ((r ++ [x]).map int)),.fz (mI (dM r) n),.fz (.list ((dC l r n).map int)),.fz (.list (EE.map int))]) 0=.ok (.int (x.toNat:Int)) 0:=by
     refine aB (x:=.list ((r ++ [x]).map int)) (y:=.int (-1)) rfl rfl ?_
     show k9 ((r ++ [x]).map int) (-1)=_
     rw[e1]
     unfold k9 q8
     rw[MG (by omega),My (by simp;omega)]
     show ((r ++ [x]).map int)[((-1:Int) + ((((r ++ [x]).map int).length:Nat):Int)).toNat]? =_
     rw[show ((-1:Int) + ((((r ++ [x]).map int).length:Nat):Int)).toNat=r.length by simp;omega,Nh,M9 (by simp)]
     simp
    refine⟨[.fz (cc n (bu l)),.fz (.list (late.map int)),.ow (.list ((r ++ [x]).map int)),.fz (mI (dM (r ++ [x])) n),.fz (.list ((dC l r n).map int)),.fz (.list (EE.map int))],0,n - (r ++ [x]).length,?_,by rw[MY,Nj];omega,_,_,_,rfl,rfl,R',rfl⟩
    rw[cM,ax (ds:=[mI (dM r) n,.int (x.toNat:Int)]) (β1:=0) (ac rfl (ac el an)) (Ce h8 (by omega)),Gz hxr];rfl
   ·refine .inl ⟨MR (by omega),r,s4,s5,rfl,rfl,R.beg.row O (by omega),R⟩)
 rw[aI (env':=[.fz (cc n (bu l)),.fz (.list (late.map int)),.ow (.list (r.map int)),.fz (mI (dM r) n),s4,s5]) (β':=0) ew]
 exact⟨r,rfl,hr,R⟩
def k8 (l:List Pr)(x y:Int):Bool:=decide (x=y) || decide ((x,y)∈l)
def eG {l:List Pr}{x y:Int}:k8 l x y=true↔x=y\/(x,y)∈l:=by unfold k8;simp
def tu {n:Nat}{l:List Pr}(O:OM.Ord n l){x y z:Int}(h:k8 l x y=true)(k:k8 l y z=true):k8 l x z=true:=by
 rw[eG] at *
 rcases h with rfl |h
 ·exact k
 ·rcases k with rfl |k
  ·exact .inr h
  ·exact .inr (O.tr _ _ _ h k)
def putL (n:Nat)(l:List Pr)(t:Pr):List Pr:=(OM.cB n).filter λp=>decide (p∈l) || (k8 l p.1 t.2 && k8 l t.1 p.2)
def lK {n:Nat}{l:List Pr}{t p:Pr}(h:(0<=p.1/\p.1 < n)/\(0<=p.2/\p.2 < n)):p∈putL n l t↔p∈l\/(k8 l p.1 t.2=true/\k8 l t.1 p.2=true):=by
 unfold putL
 rw[ME,OM.bC,NH,MP,MT]
 exact⟨λh=>h.2,λk=>⟨h,k⟩⟩
def mq {n:Nat}{l:List Pr}{t p:Pr}(h:p∈putL n l t):p∈l\/(k8 l p.1 t.2=true/\k8 l t.1 p.2=true):=by
 unfold putL at h
 have:=(ME.mp h).2
 rw[NH,MP,MT] at this
 exact this
def EW {n:Nat}{l:List Pr}{t:Pr}(O:OM.Ord n l)(h:k8 l t.1 t.2=false):OM.Ord n (putL n l t):=by
 have hn:¬k8 l t.1 t.2=true:=by rw[h];exact MI
 refine⟨O.lo,O.hi,λp hp=>OM.bC.mp (ME.mp hp).1,OM.gj _ (OM.ja n),λa ha=>?_,λa b c hab hbc=>?_⟩
 ·rcases mq ha with q | ⟨q1,q2⟩
  ·exact O.irr a q
  ·exact hn (tu O q2 q1)
 ·have g1:=OM.bC.mp (ME.mp hab).1
  have g2:=OM.bC.mp (ME.mp hbc).1
  refine (lK (p:=(a,c)) ⟨g1.1,g2.2⟩).mpr ?_
  rcases mq hab with q | ⟨q1,q2⟩
  ·rcases mq hbc with r | ⟨r1,r2⟩
   ·exact .inl (O.tr _ _ _ q r)
   ·exact .inr ⟨tu O (eG.mpr (.inr q)) r1,r2⟩
  ·rcases mq hbc with r | ⟨r1,r2⟩
   ·exact .inr ⟨q1,tu O q2 (eG.mpr (.inr r))⟩
   ·exact .inr ⟨q1,r2⟩
def zg {n:Nat}{l:List Pr}{t p:Pr}(O:OM.Ord n l)(h:p∈l):p∈putL n l t:=(lK (O.wn p h)).mpr (.inl h)
def qk {n:Nat}{l:List Pr}{t:Pr}(h:(0<=t.1/\t.1 < n)/\(0<=t.2/\t.2 < n)):(t.2,t.1)∈putL n l t:=(lK ⟨h.2,h.1⟩).mpr (.inr ⟨eG.mpr (.inl rfl),eG.mpr (.inl rfl)⟩)
def Ej:List D->FR:=aV 3 3 (kB v9)
def GK {n:Nat}{l:List Pr}{a b:Int}(h8:n<=8)(ha:0<=a/\a < n)(hb:0<=b/\b < n):Ej [cc n (bu l),.int a,.int b]=.ok (.bool (decide ((a,b)∈l))) false:=by
 have ea:((a.toNat:Nat):Int)=a:=by omega
 have eb:((b.toNat:Nat):Int)=b:=by omega
 show fin (kB v9 [.fz (cc n (bu l)),.fz (.int a),.fz (.int b)] 0)=_
 unfold kB
 have em:f2 (gv 0) (gv 2) a8 (vl [.fz (cc n (bu l)),.fz (.int a),.fz (.int b)]) 0=.ok (mI (bu l b.toNat) n) 0:=by
  refine aB (x:=cc n (bu l)) (y:=.int b) rfl rfl ?_
  have:=Cj (n:=n) (M:=bu l) (b:=b.toNat) (by omega)
  rw[eb] at this
  exact this
 rw[gB,aB (x:=mI (g4 (bu l b.toNat) a.toNat) n) (y:=mI (bu l b.toNat) n) (d:=.bool (decide ((a,b)∈l))) (β1:=0) (β2:=0) (ax (b:=false) (ds:=[mI (bu l b.toNat) n,.int (a.toNat:Int)]) (ac em (ac (by rw[ea];rfl) an)) (Ce h8 (by omega))) em ?z]
 ·rfl
 case z=>
  unfold mI
  rw[mX,MG MI]
  congr 2
  rw[NI]
  constructor
  ·intro h
   have h:mk (g4 (bu l b.toNat) a.toNat) n=mk (bu l b.toNat) n:=by omega
   have:=mk_eq.mp h a.toNat (by omega)
   unfold g4 bu at this
   rw[ea,eb] at this
   simpa using this
  ·intro h
   have:mk (g4 (bu l b.toNat) a.toNat) n=mk (bu l b.toNat) n:=mk_eq.mpr λi hi=>by
    unfold g4 bu
    by_cases e:i=a.toNat
    ·rw[e,ea,eb];simp[h]
    ·simp[e]
   rw[this]
def Cw:List D->FR:=aV 2 2 (jw Ej)
def HI {n:Nat}{l:List Pr}{t:Pr}(h8:n<=8)(h:(0<=t.1/\t.1 < n)/\(0<=t.2/\t.2 < n)):Cw [cc n (bu l),au t]=.ok (.bool (decide (t∈l))) false:=by
 show fin (jw Ej [.fz (cc n (bu l)),.fz (au t)] 0)=_
 unfold jw
 rw[gB,ax (ds:=[cc n (bu l),.int t.1,.int t.2]) (β1:=0) rfl (GK h8 h.1 h.2)];rfl
def FZ {f g:Nat->Bool}{n:Nat}:mk f n ||| mk g n=mk (λi=>f i || g i) n:=by
 apply Ov
 intro i
 rw[Nat.testBit_or,gZ,gZ,gZ]
 by_cases h:i < n <;> simp[h]
noncomputable def Hj:List D->FR:=aV 4 2 (kN Ej v9)
def KL {n:Nat}{l:List Pr}{t:Pr}(h8:n<=8)(h:(0<=t.1/\t.1 < n)/\(0<=t.2/\t.2 < n)):Hj [cc n (bu l),au t]=.ok (cc n (bu (putL n l t))) true:=by
 have e2:((t.2.toNat:Nat):Int)=t.2:=by omega
 show fin (kN Ej v9 [.fz (cc n (bu l)),.fz (au t),.no,.no] 0)=_
 unfold kN
 have el:f1 (gv 0) cy (vl [.fz (cc n (bu l)),.fz (au t),.no,.no]) 0=.ok (.int n) 0:=by
  rw[kK (ds:=(List.range n).map λb=>mI (bu l b) n) rfl,MC,NC]
 have ec:aL 1 [1,0] (.nm 0) (cN (f1 (gv 0) cy)) (gf (cC (f2 (gv 0) (f2 (gv 1) (cst (.int 0)) a8) (cR false))) (eZ (aw Ej (aa (gv 2) (aa (f2 (gv 1) (cst (.int 0)) a8) (aa (gv 0) ag)))))) (gv 0) (vl [.fz (cc n (bu l)),.fz (au t),.no,.no]) 0=.ok (.list (((fE n).filter λx=>k8 l t.1 x).map int)) 0:=by
  refine b8 (l:=fE n) (e:=int) (λx=>k8 l t.1 x) int ?_ (by rw[iz];omega) λx hx=>⟨[.da (.int x),.da (au t),.da (cc n (bu l))],rfl,?_,λ_=>rfl⟩
  ·rw[<-sv];exact c5 (n:=n) el (by omega)
  ·have hx:=bV.mp hx
   have:=El (dh (neg:=false) (fa:=gv 0) (fb:=f2 (gv 1) (cst (.int 0)) a8) (vs:=[.da (.int x),.da (au t),.da (cc n (bu l))]) (β:=0) (i:=x) (j:=t.1) rfl rfl) (cI (ax (F:=Ej) (fr:=aa (gv 2) (aa (f2 (gv 1) (cst (.int 0)) a8) (aa (gv 0) ag))) (vs:=[.da (.int x),.da (au t),.da (cc n (bu l))]) (β:=0) (ds:=[cc n (bu l),.int t.1,.int x]) rfl (GK h8 h.1 hx)))
   rw[this]
   congr 1
   unfold k8
   rw[MG MI]
   congr 1
   rw[NI];exact⟨Eq.symm,Eq.symm⟩
 rw[aI (env':=[.fz (cc n (bu l)),.fz (au t),.fz (.list (((fE n).filter λx=>k8 l t.1 x).map int)),.no]) (β':=0) (by rw[cM,ec];rfl)]
 have em:f2 (gv 0) (f2 (gv 1) (cst (.int 1)) a8) a8 (vl [.fz (cc n (bu l)),.fz (au t),.fz (.list (((fE n).filter λx=>k8 l t.1 x).map int)),.no]) 0=.ok (mI (bu l t.2.toNat) n) 0:=by
  refine aB (x:=cc n (bu l)) (y:=.int t.2) rfl (aB rfl rfl rfl) ?_
  have:=Cj (n:=n) (M:=bu l) (b:=t.2.toNat) (by omega)
  rw[e2] at this
  exact this
 rw[aI (env':=[.fz (cc n (bu l)),.fz (au t),.fz (.list (((fE n).filter λx=>k8 l t.1 x).map int)),.fz (mI (g4 (bu l t.2.toNat) t.2.toNat) n)]) (β':=0) (by
  rw[cM,ax (b:=false) (ds:=[mI (bu l t.2.toNat) n,.int (t.2.toNat:Int)]) (β1:=0) (ac em (ac (by rw[e2];rfl) an)) (Ce h8 (by omega))];rfl)]
 have ed:aL 2 [2,3] (.two 0 1) (Fi (gv 0)) jT (Kl (cC (f2 (gv 0) (gv 2) (lQ false))) (f2 (gv 1) (gv 3) Ko) (gv 1)) (vl [.fz (cc n (bu l)),.fz (au t),.fz (.list (((fE n).filter λx=>k8 l t.1 x).map int)),.fz (mI (g4 (bu l t.2.toNat) t.2.toNat) n)]) 0=.ok (cc n (bu (putL n l t))) 0:=by
  unfold cc
  refine cF (l:=List.range n) (e:=λb=>.tuple [.int b,mI (bu l b) n]) (λb=>mI (bu (putL n l t) b) n) ?_ (by rw[NC];omega) λb hb=>⟨[.da (.int b),.da (mI (bu l b) n),.da (.list (((fE n).filter λx=>k8 l t.1 x).map int)),.da (mI (g4 (bu l t.2.toNat) t.2.toNat) n)],rfl,?_⟩
  ·show R.ok (j5 ((List.range n).map λb=>mI (bu l b) n)) 0=_
   congr 1
   unfold j5
   refine List.ext_getElem (by simp) λi h1 h2=>by simp
  ·have hbn:=Nb.mp hb
   have hmem:decide ((b:Int)∈(fE n).filter λx=>k8 l t.1 x)=k8 l t.1 b:=by
    rw[Na,MT,ME]
    exact⟨λh=>h.2,λh=>⟨bV.mpr ⟨by omega,by omega⟩,h⟩⟩
   have et:cC (f2 (gv 0) (gv 2) (lQ false)) [.da (.int b),.da (mI (bu l b) n),.da (.list (((fE n).filter λx=>k8 l t.1 x).map int)),.da (mI (g4 (bu l t.2.toNat) t.2.toNat) n)] 0=.ok (k8 l t.1 b) 0:=by
    rw[<-hmem]
    exact cO _ _ _ _ (aB (x:=.int b) (y:=.list (((fE n).filter λx=>k8 l t.1 x).map int)) rfl rfl (wg false b _))
   rw[Hm,et]
   show (if k8 l t.1 b=true then _ else _)=_
   have key:∀a,a < n->bu (putL n l t) b a=(bu l b a || (k8 l a t.2 && k8 l t.1 b)):=λa ha=>by
    unfold bu
    rw[Na,MT,lK ⟨⟨by simp only;omega,by simp only;omega⟩,⟨by simp only;omega,by simp only;omega⟩⟩,NH,MP,MT]
   by_cases c:k8 l t.1 b=true
   ·rw[My c]
    refine aB (x:=mI (bu l b) n) (y:=mI (g4 (bu l t.2.toNat) t.2.toNat) n) rfl rfl ?_
    show some (int (Builtin.bitOr _ _))=_
    rw[sg,FZ]
    unfold mI
    congr 3
    rw[mk_eq]
    intro a ha
    rw[key a ha,c,Bool.and_true]
    unfold g4 k8 bu
    rw[e2]
    congr 1
    rw[Bool.or_comm]
    congr 1
    rw[NI];omega
   ·rw[MG c]
    show R.ok (mI (bu l b) n) 0=_
    unfold mI
    congr 3
    rw[mk_eq]
    intro a ha
    rw[key a ha]
    have c:k8 l t.1 b=false:=by simpa using c
    rw[c,Bool.and_false,Bool.or_false]
 rw[vP,ed];rfl
def oo (l:List Pr)(p q:Pr):Bool:=decide (p.1=q.2) || decide ((p.1,q.2)∈l)
def E2:List D->FR:=aV 3 3 kc
theorem HE (n:Nat)(l:List Pr)(p q:Pr):E2 [ar n l,au p,au q]=.ok (.bool (oo l p q)) false:=by
 show fin (kc [.fz (ar n l),.fz (au p),.fz (au q)] 0)=_
 unfold kc
 have i0:f2 (gv 1) (cst (.int 0)) a8 (vl [.fz (ar n l),.fz (au p),.fz (au q)]) 0=.ok (.int p.1) 0:=aB (x:=au p) (y:=.int 0) rfl rfl rfl
 have i1:f2 (gv 2) (cst (.int 1)) a8 (vl [.fz (ar n l),.fz (au p),.fz (au q)]) 0=.ok (.int q.2) 0:=aB (x:=au q) (y:=.int 1) rfl rfl rfl
 have e1:f2 (f2 (gv 1) (cst (.int 0)) a8) (f2 (gv 2) (cst (.int 1)) a8) (cR false) (vl [.fz (ar n l),.fz (au p),.fz (au q)]) 0=.ok (.bool (decide (p.1=q.2))) 0:=aB i0 i1 (mX false p.1 q.2)
 have e2:f2 (cq (aa (f2 (gv 1) (cst (.int 0)) a8) (aa (f2 (gv 2) (cst (.int 1)) a8) ag))) (f2 (gv 0) (cst (.int 1)) a8) (lQ false) (vl [.fz (ar n l),.fz (au p),.fz (au q)]) 0=.ok (.bool (decide ((p.1,q.2)∈l))) 0:=aB (x:=au (p.1,q.2)) (dY i0 i1) (J0 (n:=n) (l:=l) rfl) (nr false (p.1,q.2) l)
 rw[gB]
 unfold oo
 cases c:decide (p.1=q.2) with
 |true=>rw[c] at e1;rw[KU e1];rfl
 |false=>rw[c] at e1;rw[Lw e1 e2];rfl
def FA (l:List Pr)(ps:List Pr):Bool:=(List.range ps.length).all λi=>oo l (ps.getD (if i=0 then ps.length - 1 else i - 1) (0,0)) (ps.getD i (0,0))
def Ew {i:Nat}{L:List Nat}{f:VF D}{env:En}{β β':Int}{ds es:List D}(hi:env[i]? =some (.ow (.list ds)))(hf:f (vl env) β=.ok (.list es) β')(hL:(aS L env)[i]? =some (.ow (.list ds)))(hz:ds.length + es.length<=10000) :
  z5 i L f env β=.nx ((aS L env).set i (.ow (.list (ds ++ es)))) β':=by
 unfold z5
 rw[My (by rw[hi];rfl),hf]
 exact tO hL (My (by rw[Nc];omega))
def putAll (n:Nat)(l:List Pr)(put:List Pr):List Pr:=put.foldl (putL n) l
theorem pN {n:Nat}{U:Int->Prop}:∀{put l:List Pr},(∀u v,(u,v)∈l->U u->U v)->(∀t,t∈put->U t.2->U t.1)->∀u v,(u,v)∈putAll n l put->U u->U v
 | [],l,h0,_=>h0
 |t :: put,l,h0,h1=>by
  have q:∀u v,k8 l u v=true->U u->U v:=λu v h hu=>by
   rcases eG.mp h with rfl |h
   ·exact hu
   ·exact h0 _ _ h hu
  refine pN (put:=put) (l:=putL n l t) (λu v h hu=>?_) (λx hx=>h1 x (MN _ hx))
  rcases mq h with h | ⟨a,b⟩
  ·exact h0 _ _ h hu
  ·exact q _ _ b (h1 t (MM ..) (q _ _ a hu))
def Ks (l:List Pr)(p:List Pr):Prop:=∀i a b,p[i]? =some a->p[i + 1]? =some b->oo l a b=true
structure RI (l put:List Pr)(t:Pr)(ph:List (List Pr))(left:List Pr)(at':Nat):Prop where
 pth:∀p,p∈ph->∃q,p=t :: q/\(∀x,x∈q->x∈put/\¬x∈left)/\p.Nodup/\Ks l p
 lft:∀x,x∈left->x∈put
 rch:∀x,x∈put->x∈left\/∃p,p∈ph/\p.getLast? =some x
 fst:∃p,p∈ph/\p.getLast? =some t
 old:∀i p s,i < at'->ph[i]? =some p->p.getLast? =some s->oo l s t=false/\∀x,x∈left->oo l s x=false
 cnt:ph.length + left.length=put.length + 1
 le:at'<=ph.length
def RI.lt {n:Nat}{l put:List Pr}{t:Pr}{ph:List (List Pr)}{left:List Pr}{k:Nat}(R:RI l put t ph left k)(O:OM.Ord n l)(hb:t∈putAll n l put):k < ph.length:=by
 apply Classical.byContradiction
 intro hn
 have hk:k=ph.length:=by have:=R.le;omega
 have idx:∀p,p∈ph->∃i:Nat,i < k/\ph[i]? =some p:=λp hp=>by
  obtain⟨i,hi⟩:=Nt.mp hp
  exact⟨i,by rw[hk];exact (MF.mp hi).1,hi⟩
 have key:=pN (n:=n) (U:=λx=>∃s:Pr,(∃p,p∈ph/\p.getLast? =some s)/\k8 l s.1 x=true) (put:=put) (l:=l) (by
  rintro u v h ⟨s,hs,hl⟩
  exact⟨s,hs,tu O hl (eG.mpr (.inr h))⟩) (by
  rintro x hx ⟨s,⟨p,hp,hs⟩,hl⟩
  rcases R.rch x hx with h |h
  ·obtain⟨i,hi,hpi⟩:=idx p hp
   have h2:oo l s x=false:=(R.old i p s hi hpi hs).2 x h
   have hl:oo l s x=true:=hl
   rw[h2] at hl;cases hl
  ·exact⟨x,h,eG.mpr (.inl rfl)⟩) t.1 t.2 hb ⟨t,R.fst,eG.mpr (.inl rfl)⟩
 obtain⟨s,⟨p,hp,hs⟩,hl⟩:=key
 obtain⟨i,hi,hpi⟩:=idx p hp
 have h2:oo l s t=false:=(R.old i p s hi hpi hs).1
 have hl:oo l s t=true:=hl
 rw[h2] at hl;cases hl
theorem yV {α:Type}(f:α->Bool):∀L:List α,(L.filter f).length + (L.filter λx=> !f x).length=L.length
 | []=>rfl
 |x :: L=>by
  have:=yV f L
  cases h:f x <;> simp[List.filter_cons,h] <;> omega
def DQ {l p:List Pr}{s x:Pr}(h:Ks l p)(hs:p.getLast? =some s)(hx:oo l s x=true):Ks l (p ++ [x]):=by
 intro i a b ha hb
 have hl:p≠ []:=λe=>by rw[e] at hs;cases hs
 have hpos:=List.length_pos_iff.mpr hl
 by_cases c:i + 1 < p.length
 ·rw[M6 (by omega)] at ha
  rw[M6 c] at hb
  exact h i a b ha hb
 ·by_cases d:i + 1=p.length
  ·rw[M6 (by omega)] at ha
   rw[M9 (by omega),d,Nat.sub_self] at hb
   cases hb
   rw[OE,show p.length - 1=i by omega,ha] at hs
   cases hs
   exact hx
  ·rw[N0 (by rw[MY,Nj];omega)] at hb
   cases hb
def RI.step {l put:List Pr}{t s:Pr}{ph:List (List Pr)}{left p fr:List Pr}{k:Nat}(R:RI l put t ph left k)(htp:¬t∈put)(hp:ph[k]? =some p)(hs:p.getLast? =some s)(hst:oo l s t=false)(hfr:left.filter (λx=>oo l s x)=fr):RI l put t (ph ++ fr.map λx=>p ++ [x]) (left.filter λx=> !decide (x∈fr)) (k + 1):=by
 have hpm:p∈ph:=Nt.mpr ⟨k,hp⟩
 have hk:k < ph.length:=(MF.mp hp).1
 have mfr:∀x,x∈fr↔x∈left/\oo l s x=true:=λx=>by rw[<-hfr];exact ME
 have mlf:∀x,x∈(left.filter λx=> !decide (x∈fr))↔x∈left/\¬x∈fr:=λx=>by rw[ME];simp
 refine⟨λr hr=>?_,λx hx=>R.lft x ((mlf x).mp hx).1,λx hx=>?_,?_,λi r s' hi hr hs'=>?_,?_,?_⟩
 ·rcases MU.mp hr with hr |hr
  ·obtain⟨q,e,h1,h2,h3⟩:=R.pth r hr
   exact⟨q,e,λx hx=>⟨(h1 x hx).1,λhm=>(h1 x hx).2 ((mlf x).mp hm).1⟩,h2,h3⟩
  ·obtain⟨x,hx,rfl⟩:=MZ.mp hr
   obtain⟨q,e,h1,h2,h3⟩:=R.pth p hpm
   have hxf:=(mfr x).mp hx
   refine⟨q ++ [x],by rw[e];rfl,λy hy=>?_,?_,DQ h3 hs hxf.2⟩
   ·rcases MU.mp hy with hy |hy
    ·exact⟨(h1 y hy).1,λhm=>(h1 y hy).2 ((mlf y).mp hm).1⟩
    ·rw[M4] at hy;subst hy
     exact⟨R.lft _ hxf.1,λhm=>((mlf _).mp hm).2 hx⟩
   ·refine List.nodup_append.mpr ⟨h2,by simp,λa ha b hb eab=>?_⟩
    rw[M4] at hb;subst hb;subst eab
    rw[e] at ha
    rcases MH.mp ha with rfl |ha
    ·exact htp (R.lft _ hxf.1)
    ·exact (h1 _ ha).2 hxf.1
 ·rcases R.rch x hx with h | ⟨r,h1,h2⟩
  ·by_cases c:x∈fr
   ·exact .inr ⟨p ++ [x],MU.mpr (.inr (MZ.mpr ⟨x,c,rfl⟩)),by simp⟩
   ·exact .inl ((mlf x).mpr ⟨h,c⟩)
  ·exact .inr ⟨r,MU.mpr (.inl h1),h2⟩
 ·obtain⟨r,h1,h2⟩:=R.fst
  exact⟨r,MU.mpr (.inl h1),h2⟩
 ·rw[M6 (by omega)] at hr
  by_cases c:i=k
  ·subst c
   rw[hp] at hr;cases hr
   rw[hs] at hs';cases hs'
   refine⟨hst,λx hx=>?_⟩
   obtain⟨a,b⟩:=(mlf x).mp hx
   cases z:oo l s x with
   |false=>rfl
   |true=>exact absurd ((mfr x).mpr ⟨a,z⟩) b
  ·obtain⟨a,b⟩:=R.old i r s' (by omega) hr hs'
   exact⟨a,λx hx=>b x ((mlf x).mp hx).1⟩
 ·have h1:=yV (λx=>oo l s x) left
  have h2:(left.filter λx=> !decide (x∈fr))=left.filter λx=> !oo l s x:=Oe λx hx=>by
   congr 1
   rw[Na,MT,mfr x]
   exact⟨λh=>h.2,λh=>⟨hx,h⟩⟩
  rw[h2,MY,MC,<-hfr]
  have:=R.cnt
  omega
 ·rw[MY];omega
theorem xM:∀{q put:List Pr},q.Nodup->(∀x,x∈q->x∈put)->q.length<=put.length
 | [],_,_,_=>Nl _
 |x :: q,put,nd,h=>by
  have nd:=Nn.mp nd
  have hx:=h x (MM ..)
  have:=xM (q:=q) (put:=put.erase x) nd.2 λy hy=>(List.mem_erase_of_ne (λe=>nd.1 (by rw[<-e];exact hy))).mpr (h y (MN _ hy))
  rw[OI hx] at this
  have:=List.length_pos_of_mem hx
  rw[Nm];omega
abbrev pD (p:List Pr):D:=.list (p.map au)
def Bl {fs:List Pr}{s:Pr}(h:fs.getLast? =some s):k9 (fs.map au) (-1)=some (au s):=by
 have hl:fs≠ []:=λe=>by rw[e] at h;cases h
 have hpos:=List.length_pos_iff.mpr hl
 unfold k9 q8
 rw[MG (by omega),My (by simp;omega)]
 show (fs.map au)[((-1:Int) + (((fs.map au).length:Nat):Int)).toNat]? =_
 rw[show ((-1:Int) + (((fs.map au).length:Nat):Int)).toNat=fs.length - 1 by simp;omega,ML,<-OE,h];rfl
def yt {ph:List (List Pr)}{p:List Pr}{k:Nat}(h:ph[k]? =some p):k9 (ph.map pD) (k:Int)=some (pD p):=by
 have hk:k < ph.length:=(MF.mp h).1
 rw[ny,qr hk]
 have:ph[k]=p:=by rw[Mw hk] at h;exact Option.some.inj h
 rw[this];rfl
noncomputable def Ir:List D->FR:=aV 7 3 (jn E2)
def Gd {l p:List Pr}{s:Pr}(h:Ks l p)(hs:p.getLast? =some s){t:Pr}{q:List Pr}(e:p=t :: q)(hst:oo l s t=true):FA l p=true:=by
 unfold FA
 rw[MV]
 intro i hi
 have hi:=Nb.mp hi
 by_cases c:i=0
 ·subst c
  rw[My rfl,MQ,<-OE,hs,e]
  exact hst
 ·rw[MG c]
  refine h (i - 1) _ _ ?_ ?_
  ·rw[MQ,Mw (by omega)];rfl
  ·rw[show i - 1 + 1=i by omega,MQ,Mw hi];rfl
def LU {n:Nat}{l put:List Pr}{t:Pr}(O:OM.Ord n l)(hz:put.length<=100)(htp:¬t∈put)(hb:t∈putAll n l put):∃r,Ir [ar n l,.tuple (put.map au),au t]=.ok (.list (r.map au)) false/\(∀x,x∈r->x=t\/x∈put)/\r.Nodup/\r≠ []/\FA l r=true:=by
 show ∃r,fin (jn E2 [.fz (ar n l),.fz (.tuple (put.map au)),.fz (au t),.no,.no,.no,.no] 0)=_/\_
 unfold jn
 rw[aI (env':=[.fz (ar n l),.fz (.tuple (put.map au)),.fz (au t),.ow (.list ([[t]].map pD)),.no,.no,.no]) (β':=0) (by
  rw[ll,lp (ds:=[pD [t]]) (ac (lp (ds:=[au t]) (ac rfl an)) an)];rfl)]
 rw[aI (env':=[.fz (ar n l),.fz (.tuple (put.map au)),.fz (au t),.ow (.list ([[t]].map pD)),.fz (.tuple (put.map au)),.no,.no]) (β':=0) (by rfl)]
 rw[aI (env':=[.fz (ar n l),.fz (.tuple (put.map au)),.fz (au t),.ow (.list ([[t]].map pD)),.fz (.tuple (put.map au)),.fz (.int ((0:Nat):Int)),.no]) (β':=0) (by rfl)]
 obtain⟨env',β',ew,ph,left,k,p,s,s6,x4,rfl,rfl,R,hp,hs,hst⟩:=jc (L:=[0] ++ ((([] ++ []) ++ []) ++ ([2] ++ []))) (t:=j9 (eZ (aw E2 (aa (gv 0) (aa (f2 (f2 (gv 3) (gv 5) a8) (f1 (cst (.int 1)) o8) a8) (aa (gv 2) ag))))))
  (m:=aH (bQ 6 ([] ++ [0]) (aL 1 [0,3,5] (.nm 0) (bK (gv 4)) (eZ (aw E2 (aa (gv 1) (aa (f2 (f2 (gv 2) (gv 3) a8) (f1 (cst (.int 1)) o8) a8) (aa (gv 0) ag))))) (gv 0)))
   (aH (bQ 4 ([] ++ []) (aL 1 [6] (.nm 0) (bK (gv 4)) (cC (f2 (gv 0) (gv 1) (lQ true))) (gv 0)))
   (aH (z5 3 ([] ++ []) (aL 1 [3,5] (.nm 0) (bK (gv 6)) jT (f2 (f2 (gv 1) (gv 2) a8) (cY (aa (gv 0) ag)) ka)))
   (bQ 5 ([] ++ []) (f2 (gv 5) (cst (.int 1)) cx)))))
  (λm env b=>∃ph left k s6,∃q4:List D->D,(q4=PyData.list\/q4=PyData.tuple)/\env= [.fz (ar n l),.fz (.tuple (put.map au)),.fz (au t),.ow (.list (ph.map pD)),.fz (q4 (left.map au)),.fz (.int ((k:Nat):Int)),s6]/\b=0/\RI l put t ph left k/\m=put.length + 1 - k)
  (λenv b=>∃ph left k p s s6 x4,env= [.fz (ar n l),.fz (.tuple (put.map au)),.fz (au t),.ow (.list (ph.map pD)),.fz x4,.fz (.int ((k:Nat):Int)),s6]/\b=0/\RI l put t ph left k/\ph[k]? =some p/\p.getLast? =some s/\oo l s t=true)
  (n:=1000) (k:=put.length + 1) (env:=[.fz (ar n l),.fz (.tuple (put.map au)),.fz (au t),.ow (.list ([[t]].map pD)),.fz (.tuple (put.map au)),.fz (.int ((0:Nat):Int)),.no]) (β:=0) (by omega)
  ⟨[[t]],put,0,.no,PyData.tuple,.inr rfl,rfl,rfl,⟨λp hp=>by
    rw[M4] at hp;subst hp
    exact⟨[],rfl,(λx hx=>by cases hx),by simp,(λi a b _ hb=>by simp at hb)⟩,λx hx=>hx,λx hx=>.inl hx,⟨[t],by simp,rfl⟩,λi p s hi=>by omega,by simp;omega,by omega⟩,by omega⟩ (by
   rintro m env b ⟨ph,left,k,s6,q4,h4,rfl,rfl,R,rfl⟩
   have hk:=R.lt O hb
   obtain⟨p,hp⟩:∃p,ph[k]? =some p:=⟨_,Mw hk⟩
   have hpm:p∈ph:=Nt.mpr ⟨k,hp⟩
   obtain⟨q,eq,hq,hnd,hch⟩:=R.pth p hpm
   obtain⟨s,hs⟩:∃s,p.getLast? =some s:=⟨_,List.getLast?_eq_some_getLast (by rw[eq];exact List.cons_ne_nil _ _)⟩
   have hcnt:=R.cnt
   have hpl:p.length<=put.length + 1:=by
    have h1:q.length<=put.length:=by
     rw[eq] at hnd
     exact xM (Nn.mp hnd).2 λx hx=>(hq x hx).1
    rw[eq,Nm];omega
   have el:∀s6:Sl,f2 (f2 (gv 3) (gv 5) a8) (f1 (cst (.int 1)) o8) a8 (vl [.fz (ar n l),.fz (.tuple (put.map au)),.fz (au t),.ow (.list (ph.map pD)),.fz (q4 (left.map au)),.fz (.int ((k:Nat):Int)),s6]) 0=.ok (au s) 0:=λs6=>aB (x:=pD p) (y:=.int (-1)) (aB (x:=.list (ph.map pD)) (y:=.int k) rfl rfl (yt hp)) rfl (Bl hs)
   have et:j9 (eZ (aw E2 (aa (gv 0) (aa (f2 (f2 (gv 3) (gv 5) a8) (f1 (cst (.int 1)) o8) a8) (aa (gv 2) ag))))) (vl [.fz (ar n l),.fz (.tuple (put.map au)),.fz (au t),.ow (.list (ph.map pD)),.fz (q4 (left.map au)),.fz (.int ((k:Nat):Int)),s6]) 0=.ok (!oo l s t) 0:=bO (cI (ax (F:=E2) (ds:=[ar n l,au s,au t]) (b:=false) (ac rfl (ac (el s6) (ac rfl an))) (HE n l s t)))
   refine⟨_,_,et,?_⟩
   cases hst:oo l s t with
   |true=>exact .inl ⟨rfl,ph,left,k,p,s,s6,_,rfl,rfl,R,hp,hs,hst⟩
   |false=>
    refine .inr ⟨rfl,?_⟩
    show ∃env2 β2 k',aH _ _ [.fz (ar n l),.fz (.tuple (put.map au)),.fz (au t),.ow (.list (ph.map pD)),.fz (q4 (left.map au)),.fz (.int ((k:Nat):Int)),s6] 0=.nx env2 β2/\k' < put.length + 1 - k/\_
    generalize hfr:left.filter (λx=>oo l s x)=fr
    have hfl:fr.length<=left.length:=by rw[<-hfr];exact Nk _ _
    have e6:aL 1 [0,3,5] (.nm 0) (bK (gv 4)) (eZ (aw E2 (aa (gv 1) (aa (f2 (f2 (gv 2) (gv 3) a8) (f1 (cst (.int 1)) o8) a8) (aa (gv 0) ag))))) (gv 0) (vl [.fz (ar n l),.fz (.tuple (put.map au)),.fz (au t),.ow (.list (ph.map pD)),.fz (q4 (left.map au)),.fz (.int ((k:Nat):Int)),s6]) 0=.ok (.list (fr.map au)) 0:=by
     rw[<-hfr]
     refine b8 (l:=left) (e:=au) (λx=>oo l s x) au (by rcases h4 with h4 |h4 <;> rw[h4] <;> rfl) (by omega) λx hx=>⟨[.da (au x),.da (ar n l),.da (.list (ph.map pD)),.da (.int ((k:Nat):Int))],rfl,?_,λ_=>rfl⟩
     have e2:f2 (f2 (gv 2) (gv 3) a8) (f1 (cst (.int 1)) o8) a8 [.da (au x),.da (ar n l),.da (.list (ph.map pD)),.da (.int ((k:Nat):Int))] 0=.ok (au s) 0:=aB (x:=pD p) (y:=.int (-1)) (aB (x:=.list (ph.map pD)) (y:=.int k) rfl rfl (yt hp)) rfl (Bl hs)
     exact cI (ax (F:=E2) (ds:=[ar n l,au s,au x]) (b:=false) (ac rfl (ac e2 (ac rfl an))) (HE n l s x))
    rw[aI (env':=[.fz (ar n l),.fz (.tuple (put.map au)),.fz (au t),.ow (.list (ph.map pD)),.fz (q4 (left.map au)),.fz (.int ((k:Nat):Int)),.fz (.list (fr.map au))]) (β':=0) (by rw[cM,e6];rfl)]
    have e4:aL 1 [6] (.nm 0) (bK (gv 4)) (cC (f2 (gv 0) (gv 1) (lQ true))) (gv 0) (vl [.fz (ar n l),.fz (.tuple (put.map au)),.fz (au t),.ow (.list (ph.map pD)),.fz (q4 (left.map au)),.fz (.int ((k:Nat):Int)),.fz (.list (fr.map au))]) 0=.ok (.list ((left.filter λx=> !decide (x∈fr)).map au)) 0:=by
     refine b8 (l:=left) (e:=au) (λx=> !decide (x∈fr)) au (by rcases h4 with h4 |h4 <;> rw[h4] <;> rfl) (by omega) λx hx=>⟨_,rfl,?_,λ_=>rfl⟩
     exact cO _ _ _ _ (aB (x:=au x) (y:=.list (fr.map au)) rfl rfl (yN true x fr))
    have R':=R.step htp hp hs hst hfr
    generalize hlf:(left.filter λx=> !decide (x∈fr))=left' at e4 R'
    rw[aI (env':=[.fz (ar n l),.fz (.tuple (put.map au)),.fz (au t),.ow (.list (ph.map pD)),.fz (.list (left'.map au)),.fz (.int ((k:Nat):Int)),.fz (.list (fr.map au))]) (β':=0) (by rw[cM,e4];rfl)]
    have e3:aL 1 [3,5] (.nm 0) (bK (gv 6)) jT (f2 (f2 (gv 1) (gv 2) a8) (cY (aa (gv 0) ag)) ka) (vl [.fz (ar n l),.fz (.tuple (put.map au)),.fz (au t),.ow (.list (ph.map pD)),.fz (.list (left'.map au)),.fz (.int ((k:Nat):Int)),.fz (.list (fr.map au))]) 0=.ok (.list ((fr.map λx=>p ++ [x]).map pD)) 0:=by
     rw[OL]
     refine cF (l:=fr) (e:=au) (λx=>pD (p ++ [x])) rfl (by omega) λx hx=>⟨[.da (au x),.da (.list (ph.map pD)),.da (.int ((k:Nat):Int))],rfl,?_⟩
     refine aB (x:=pD p) (y:=.list [au x]) (aB (x:=.list (ph.map pD)) (y:=.int k) rfl rfl (yt hp)) (lp (ds:=[au x]) (ac rfl an)) ?_
     rw[pK (by rw[MC,Nj];omega)]
     show some (PyData.list (p.map au ++ [x].map au))=_
     rw[<-Nh]
    rw[aI (env':=[.fz (ar n l),.fz (.tuple (put.map au)),.fz (au t),.ow (.list ((ph ++ fr.map λx=>p ++ [x]).map pD)),.fz (.list (left'.map au)),.fz (.int ((k:Nat):Int)),.fz (.list (fr.map au))]) (β':=0) ?g3]
    case g3=>
     rw[Ew (i:=3) (ds:=ph.map pD) (by rfl) e3 (by rfl) (by rw[MC,MC,MC];omega),<-Nh];rfl
    refine⟨[.fz (ar n l),.fz (.tuple (put.map au)),.fz (au t),.ow (.list ((ph ++ fr.map λx=>p ++ [x]).map pD)),.fz (.list (left'.map au)),.fz (.int ((k + 1:Nat):Int)),.fz (.list (fr.map au))],0,put.length + 1 - (k + 1),?_,by omega,_,_,_,_,PyData.list,.inl rfl,rfl,rfl,R',rfl⟩
    rw[show ((k + 1:Nat):Int)=(k:Int) + 1 by omega];rfl)
 obtain⟨q,eq,hq,hnd,hch⟩:=R.pth p (Nt.mpr ⟨k,hp⟩)
 refine⟨p,?_,λx hx=>?_,hnd,by rw[eq];exact List.cons_ne_nil _ _,Gd hch hs eq hst⟩
 ·rw[aI ew,gB,aB (x:=.list (ph.map pD)) (y:=.int k) (d:=pD p) (β1:=0) (β2:=0) rfl rfl (yt hp)];rfl
 ·rw[eq] at hx
  rcases MH.mp hx with h |h
  ·exact .inl h
  ·exact .inr (hq x h).1
def uW (l:List Pr)(p:Pr):Bool:=((l.filter λq=>decide (q.2=p.1)).all λq=>decide ((q.1,p.2)∈l)) && ((l.filter λq=>decide (q.1=p.2)).all λq=>decide ((p.1,q.2)∈l))
def tY:List D->FR:=aV 4 3 ko
theorem EA {n:Nat}{l:List Pr}(hl:l.length<=1000)(a b:Int):tY [ar n l,.int a,.int b]=.ok (.bool (uW l (a,b))) false:=by
 show fin (ko [.fz (ar n l),.fz (.int a),.fz (.int b),.no] 0)=_
 unfold ko
 rw[aI (env':=[.fz (ar n l),.fz (.int a),.fz (.int b),.fz (.tuple (l.map au))]) (β':=0) (by rfl)]
 have e1:aL 2 [1,2,3] (.two 0 1) (bK (gv 3)) (cC (f2 (gv 1) (gv 2) (cR false))) (f2 (cq (aa (gv 0) (aa (gv 3) ag))) (gv 4) (lQ false)) [.da (ar n l),.da (.int a),.da (.int b),.da (.tuple (l.map au))] 0=.ok (.list ((l.filter λq=>decide (q.2=a)).map λq=>PyData.bool (decide ((q.1,b)∈l)))) 0:=
  b8 (l:=l) (e:=au) (λq=>decide (q.2=a)) (λq=>PyData.bool (decide ((q.1,b)∈l))) rfl hl λq hq=>⟨_,rfl,dh (neg:=false) (i:=q.2) (j:=a) rfl rfl,λ_=>aB (dY (a:=q.1) (b:=b) rfl rfl) rfl (nr false (q.1,b) l)⟩
 have e2:aL 2 [2,1,3] (.two 0 1) (bK (gv 3)) (cC (f2 (gv 0) (gv 2) (cR false))) (f2 (cq (aa (gv 3) (aa (gv 1) ag))) (gv 4) (lQ false)) [.da (ar n l),.da (.int a),.da (.int b),.da (.tuple (l.map au))] 0=.ok (.list ((l.filter λq=>decide (q.1=b)).map λq=>PyData.bool (decide ((a,q.2)∈l)))) 0:=
  b8 (l:=l) (e:=au) (λq=>decide (q.1=b)) (λq=>PyData.bool (decide ((a,q.2)∈l))) rfl hl λq hq=>⟨_,rfl,dh (neg:=false) (i:=q.1) (j:=b) rfl rfl,λ_=>aB (dY (a:=a) (b:=q.2) rfl rfl) rfl (nr false (a,q.2) l)⟩
 have t1:j9 (eZ (f1 (aL 2 [1,2,3] (.two 0 1) (bK (gv 3)) (cC (f2 (gv 1) (gv 2) (cR false))) (f2 (cq (aa (gv 0) (aa (gv 3) ag))) (gv 4) (lQ false))) (bB λbs=>bs.all id))) (vl [.fz (ar n l),.fz (.int a),.fz (.int b),.fz (.tuple (l.map au))]) 0=.ok (!((l.filter λq=>decide (q.2=a)).all λq=>decide ((q.1,b)∈l))) 0:=bO (cI (Bu e1))
 unfold uW
 dsimp only
 cases c:((l.filter λq=>decide (q.2=a)).all λq=>decide ((q.1,b)∈l)) with
 |false=>
  rw[c] at t1
  rw[jo (d:=.bool false) (b:=false) (β':=0) ?g]
  case g=>rw[kW t1];rfl
  rfl
 |true=>
  rw[c] at t1
  rw[aI (env':=[.fz (ar n l),.fz (.int a),.fz (.int b),.fz (.tuple (l.map au))]) (β':=0) ?g]
  case g=>rw[iS t1];rfl
  rw[gB]
  show fin (toS (f1 (aL 2 [2,1,3] (.two 0 1) (bK (gv 3)) (cC (f2 (gv 0) (gv 2) (cR false))) (f2 (cq (aa (gv 3) (aa (gv 1) ag))) (gv 4) (lQ false))) (bB λbs=>bs.all id) [.da (ar n l),.da (.int a),.da (.int b),.da (.tuple (l.map au))] 0) _)=_
  rw[Bu e2];rfl
noncomputable def ub:List D->FR:=aV 1 1 (mn pR tY)
def CW {n:Nat}{l:List Pr}(O:OM.Ord n l):ub [ar n l]=.ok (.list (((mR n l).filter (uW l)).map au)) true:=by
 have hl:=uF O
 have e:aL 2 [0] (.two 0 1) (bK (aw pR (aa (gv 0) ag))) (eZ (aw tY (aa (gv 2) (aa (gv 0) (aa (gv 1) ag))))) (cq (aa (gv 0) (aa (gv 1) ag))) [.da (ar n l)] 0=.ok (.list (((mR n l).filter (uW l)).map au)) 0:=by
  have hi:bK (aw pR (aa (gv 0) ag)) [.da (ar n l)] 0=.ok ((mR n l).map au) 0:=by
   unfold bK
   rw[ax (ds:=[ar n l]) rfl (E9 O)];rfl
  exact b8 (l:=mR n l) (e:=au) (uW l) au hi (by have:=DD (l:=l) O.hi;omega) λp hp=>⟨_,rfl,cI (ax (ds:=[ar n l,.int p.1,.int p.2]) rfl (EA (by omega) p.1 p.2)),λ_=>dY rfl rfl⟩
 show fin (toS (aL 2 [0] (.two 0 1) (bK (aw pR (aa (gv 0) ag))) (eZ (aw tY (aa (gv 2) (aa (gv 0) (aa (gv 1) ag))))) (cq (aa (gv 0) (aa (gv 1) ag))) [.da (ar n l)] 0) _)=_
 rw[e];rfl
def iX (n:Nat)(l put:List Pr)(t:Pr):putAll n l (put ++ [t])=putL n (putAll n l put) t:=by unfold putAll;rw[List.foldl_append];rfl
theorem uw {n:Nat}:∀{put l:List Pr} {p:Pr},((0<=p.1/\p.1 < n)/\(0<=p.2/\p.2 < n))->p∈l->p∈putAll n l put
 | [],l,p,_,h=>h
 |t :: put,l,p,hr,h=>uw (put:=put) (l:=putL n l t) hr ((lK hr).mpr (.inl h))
def DZ {n:Nat}{l:List Pr}{r:List Int}{t:Pr}(hR:Row n l r)(h:r.idxOf t.2 < r.idxOf t.1):Row n (putL n l t) r:=by
 refine⟨hR.1,?_⟩
 have hf:=hR.2
 unfold zA at hf ⊢
 rw[MV] at hf ⊢
 intro p hp
 have q:∀x y:Int,k8 l x y=true->r.idxOf x<=r.idxOf y:=λx y hxy=>by
  rcases eG.mp hxy with e |hm
  ·rw[e];exact MA _
  ·exact N5 (Ng (hf _ hm))
 rcases mq hp with hm | ⟨a,b⟩
 ·exact hf p hm
 ·have:=q _ _ a
  have:=q _ _ b
  exact MB (by omega)
def tH {n:Nat}{l:List Pr}{r:List Int}{p:Pr}(hR:Row n l r)(h:p∈l):r.idxOf p.1 < r.idxOf p.2:=by
 have hf:=hR.2
 unfold zA at hf
 exact Ng (MV.mp hf p h)
structure Pt (n:Nat)(l:List Pr)(put:List Pr):Prop where
 ord:OM.Ord n (putAll n l put)
 tr:∀p,p∈put->p∈mR n l
 tnd:∀p,p∈put->(p.2,p.1)∈putAll n l put
def tm {n:Nat}{l:List Pr}(O:OM.Ord n l):Pt n l []:=⟨O,(λp h=>by cases h),λp h=>by cases h⟩
def Pt.more {n:Nat}{l put:List Pr}{t:Pr}(h:Pt n l put)(ht:t∈mR n l)(hb:¬t∈putAll n l put):Pt n l (put ++ [t]):=by
 obtain⟨hr,ha⟩:=cg.mp ht
 have hn:k8 (putAll n l put) t.1 t.2=false:=by
  cases z:k8 (putAll n l put) t.1 t.2 with
  |false=>rfl
  |true=>
   rcases eG.mp z with e |e
   ·unfold ve at ha;rw[e] at ha;simp at ha
   ·exact absurd e hb
 refine⟨by rw[iX];exact EW h.ord hn,λp hp=>?_,λp hp=>?_⟩
 ·rcases MU.mp hp with z |z
  ·exact h.tr p z
  ·rw[M4] at z;subst z;exact ht
 ·rw[iX]
  rcases MU.mp hp with z |z
  ·exact zg h.ord (h.tnd p z)
  ·rw[M4] at z;subst z;exact qk hr
def uc (n:Nat)(l put:List Pr):D:=.tuple [cc n (bu (putAll n l put)),.tuple (put.map au)]
def dU (n:Nat)(l:List Pr)(pts:List (List Pr)):D:=.list (pts.map (uc n l))
def zS:List D->FR:=aV 2 2 (jF Ej)
def Jk {n:Nat}{l:List Pr}{t:Pr}(h8:n<=8)(h:(0<=t.1/\t.1 < n)/\(0<=t.2/\t.2 < n)):zS [cc n (bu l),au t]=.ok (.bool (decide ((t.2,t.1)∈l))) false:=by
 show fin (jF Ej [.fz (cc n (bu l)),.fz (au t)] 0)=_
 unfold jF
 exact gm (jh (ax (ds:=[cc n (bu l),.int t.2,.int t.1]) (ac rfl (ac (aB (x:=au t) (y:=.int 1) rfl rfl rfl) (ac (aB (x:=au t) (y:=.int 0) rfl rfl rfl) an))) (GK h8 h.2 h.1)) rfl)
def z6 (n:Nat)(l:List Pr)(pts:List (List Pr))(t:Pr):Bool:=pts.any λput=>decide ((t.2,t.1)∈putAll n l put)
noncomputable def Ay:List D->FR:=aV 2 2 (jl Cw)
def Iw {n:Nat}{l:List Pr}{pts:List (List Pr)}{t:Pr}(h8:n<=8)(hz:pts.length<=100)(h:(0<=t.1/\t.1 < n)/\(0<=t.2/\t.2 < n)):∃k:Nat,Ay [dU n l pts,au t]=.ok (.int k) false:=by
 refine⟨(pts.filter λput=> !decide (t∈putAll n l put)).length,?_⟩
 show fin (jl Cw [.fz (dU n l pts),.fz (au t)] 0)=_
 unfold jl
 have ec:aL 2 [1] (.two 0 1) (bK (gv 0)) (j9 (eZ (aw Cw (aa (gv 0) (aa (gv 2) ag))))) (gv 0) (vl [.fz (dU n l pts),.fz (au t)]) 0=.ok (.list ((pts.filter λput=> !decide (t∈putAll n l put)).map λput=>cc n (bu (putAll n l put)))) 0:=
  b8 (l:=pts) (e:=uc n l) (λput=> !decide (t∈putAll n l put)) (λput=>cc n (bu (putAll n l put))) rfl (by omega) λput _=>⟨[.da (cc n (bu (putAll n l put))),.da (.tuple (put.map au)),.da (au t)],rfl,bO (cI (ax (ds:=[cc n (bu (putAll n l put)),au t]) rfl (HI h8 h))),λ_=>rfl⟩
 refine gm (jh (dA ec ?_) rfl)
 show some (int _)=_
 rw[MC]
def Gi {ir:Nat}{fa fb:VF D}{vs:List Nv}{β:Int}{ts:List Pr}{dr:D}(h:fa vs β=.ok (.list (ts.map au)) β)(hr:vs[ir]? =some (.da dr))(hne:ts≠ [])(hk:∀t,t∈ts->∃k:Nat,fb [.da (au t),.da dr] β=.ok (.int k) β):∃t,t∈ts/\zb ir fa fb vs β=.ok (au t) β:=by
 have hl:0 < ts.length:=List.length_pos_iff.mpr hne
 unfold zb
 rw[h]
 dsimp only[R.bnd]
 rw[show dat vs[ir]? =some dr by rw[hr];rfl]
 dsimp only
 have hall:(ts.map au).all (λd=>(ly fb dr β d).isSome)=true:=by
  rw[MV]
  intro d hd
  obtain⟨t,ht,rfl⟩:=MZ.mp hd
  obtain⟨k,e⟩:=hk t ht
  unfold ly
  rw[e];rfl
 rw[My ⟨by rw[MC];exact hl,hall⟩]
 have hb:=(qE (ks:=(ts.map au).map λd=>(ly fb dr β d).getD 0) (by rw[MC,MC];exact hl)).1
 generalize v5 ((ts.map au).map λd=>(ly fb dr β d).getD 0)=b at hb
 rw[MC,MC] at hb
 refine⟨ts[b],NO hb,?_⟩
 rw[ML,Mw hb];rfl
section
variable {m m':SF}{env:En}{β β1:Int}{Q:SO->Prop}{L:List Nat}
def E6 {t:Tg}{fi:VF (List D)}{ds:List D}(Pd:D->Prop)(I:Nat->En->Int->Prop)(hi:fi (vl env) β=.ok ds β1)(h0:I 0 (aS L env) β1)
  (hs:∀i d env β,ds[i]? =some d->I i env β->∃env1,gJ t d env=some env1/\WP (m env1 β) λs=>(∃d β2,s=.rt d false β2/\Pd d)\/∃env2 β2,s=.nx env2 β2/\I (i + 1) env2 β2)
  (kr:∀d β,Pd d->Q (.rt d false β)) (k:∀env β,I ds.length env β->WP (m' env β) Q):WP (aH (hJ t L fi m) m' env β) Q:=by
 have key:∀(k i:Nat),i + k=ds.length->∀env β,I i env β->(∃d β2,k0 t m (ds.drop i) env β=.rt d false β2/\Pd d)\/∃env2 β2,k0 t m (ds.drop i) env β=.nx env2 β2/\I ds.length env2 β2:=by
  intro k
  induction k with
  |zero=>
   intro i hik env β h
   have:i=ds.length:=by omega
   subst this
   rw[drop_length]
   exact .inr ⟨env,β,rfl,h⟩
  |succ k ih=>
   intro i hik env β h
   have hlt:i < ds.length:=by omega
   obtain⟨env1,e1,⟨h1⟩⟩:=hs i ds[i] env β (Mw hlt) h
   rw[OC hlt]
   rcases h1 with⟨d,β2,e2,hp⟩ | ⟨env2,β2,e2,h2⟩
   ·exact .inl ⟨d,β2,by unfold k0;rw[e1];dsimp only;rw[e2],hp⟩
   ·have e3:k0 t m (ds[i] :: ds.drop (i + 1)) env β=k0 t m (ds.drop (i + 1)) env2 β2:=by conv=>lhs;unfold k0;rw[e1];dsimp only;rw[e2]
    rw[e3]
    exact ih (i + 1) (by omega) env2 β2 h2
 have e0:=key ds.length 0 (by omega) _ _ h0
 rw[List.drop_zero] at e0
 rcases e0 with⟨d,β2,e,hp⟩ | ⟨env2,β2,e,h2⟩
 ·exact⟨by rw[jo ((gC hi).trans e)];exact kr d β2 hp⟩
 ·exact wp_seq ((gC hi).trans e) (k _ _ h2)
end
def cK (pts:List (List Pr))(i:Nat)(t:Pr):List (List Pr):=pts.take i ++ [pts.getD i [] ++ [t]] ++ pts.drop (i + 1)
def nv {pts:List (List Pr)}{i:Nat}{t:Pr}(hi:i < pts.length):(cK pts i t).length=pts.length:=by
 unfold cK;rw[MY,MY,Np,Ou,Nj];omega
def ki {pts:List (List Pr)}{i:Nat}{t:Pr}{put:List Pr}(hi:pts[i]? =some put)(j:Nat):(cK pts i t)[j]? =if j=i then some (put ++ [t]) else pts[j]?:=by
 have hlt:=(MF.mp hi).1
 have hg:pts.getD i []=put:=by rw[MQ,hi];rfl
 unfold cK
 rw[hg]
 by_cases h:j < i
 ·rw[MG (by omega),N1,M6 (by rw[Np];omega),List.getElem?_take,My h]
 ·rw[N1,M9 (by rw[Np];omega),Np,Nat.min_eq_left (by omega)]
  by_cases e:j=i
  ·rw[My e,show j - i=0 by omega];rfl
  ·rw[MG e,M9 (by rw[Nj];omega),Nj,List.getElem?_drop]
   congr 1
   omega
def Ft (n:Nat)(l:List Pr)(pts:List (List Pr))(rs:List (List Int)):Prop:=rs.length=pts.length/\∀(i:Nat) (r:List Int) (put:List Pr),rs[i]? =some r->pts[i]? =some put->Row n (putAll n l put) r
def Tn (r:List Int)(t:Pr):Prop:=r.idxOf t.2 < r.idxOf t.1
def KI (n:Nat)(l:List Pr)(pts:List (List Pr))(left:List Pr):Prop:=∀rs,Ft n l pts rs->∃t,t∈left/\∀r,r∈rs->¬Tn r t
def Jq (n:Nat)(l:List Pr)(pts:List (List Pr))(left:List Pr)(d:D):Prop:=∃rs,d=.tuple [.str "rows",.list (rs.map tupI)]/\Ft n l pts rs/\∀t,t∈left->∃r,r∈rs/\Tn r t
def EJ (n:Nat)(l:List Pr):Nat->D->List (List Pr)->Prop
 | 0,_,_=>False
 |k + 1,d,pts=>(∃(i:Nat) (r q:List Pr),d=.tuple [.str "ring",.int i,.list (r.map au)]/\pts[i]? =some q/\(∀x,x∈r->x∈q)/\r≠ []/\FA l r=true/\r.length<=100/\∀x,x∈r->x∈mR n l)\/
  ∃(t:Pr) (zs:List D),d=.tuple [.str "turn",au t,.tuple zs]/\t∈mR n l/\zs.length=pts.length/\∀i z,zs[i]? =some z->EJ n l k z (cK pts i t)
noncomputable def HL (F:List D->FR):List D->FR:=aV 7 5 (iM F Cw Ir Hj)
noncomputable def Di (F:List D->FR):List D->FR:=aV 8 3 (eQ (HL F) zS Iu Ay)
def Bp {n:Nat}{l:List Pr}{pts:List (List Pr)}{i:Nat}{put:List Pr}(hi:pts[i]? =some put):a8 (dU n l pts) (.int (i:Int))=some (uc n l put):=iC (by rw[ML,hi];rfl)
def Cq {n:Nat}{l:List Pr}{pts:List (List Pr)}{i:Nat}{t:Pr}{put:List Pr}(hi:pts[i]? =some put):dU n l (cK pts i t)=.list ((pts.map (uc n l)).take i ++ [PyData.tuple [cc n (bu (putL n (putAll n l put) t)),.tuple (put.map au ++ [au t])]] ++ (pts.map (uc n l)).drop (i + 1)):=by
 have hg:pts.getD i []=put:=by rw[MQ,hi];rfl
 unfold dU cK
 rw[hg,Nh,Nh,List.map_take,List.map_drop]
 show PyData.list (_ ++ [uc n l (put ++ [t])] ++ _)=_
 unfold uc
 rw[iX,Nh];rfl
def Df {n:Nat}{l:List Pr}{F:List D->FR}{pts:List (List Pr)}{left:D}{i:Nat}{put:List Pr}{t:Pr}{Q:SO->Prop}(h8:n<=8)(hi:pts[i]? =some put)(hr:(0<=t.1/\t.1 < n)/\(0<=t.2/\t.2 < n))
  (k:WP (aH (iL ([5] ++ ([4] ++ [])) (λvs β=>eZ (aw Cw (aa (gv 5) (aa (gv 4) ag))) vs β)
    (bo (cq (aa (cst (.str "ring")) (aa (gv 3) (aa (aw Ir (aa (gv 0) (aa (gv 6) (aa (gv 4) ag)))) ag)))))
    jU)
   (bo (aw F (aa (gv 0) (aa (gv 1) (aa (f2 (f2 (BA (gv 2) (λ_ β=>.ok none β) (C0 (gv 3))) (cY (aa (cq (aa (aw Hj (aa (gv 5) (aa (gv 4) ag))) (aa (f2 (gv 6) (cq (aa (gv 4) ag)) qW) ag))) ag)) ka) (BA (gv 2) (C0 (f2 (gv 3) (cst (.int 1)) cx)) (λ_ β=>.ok none β)) ka) ag))))) [.fz (ar n l),.fz left,.fz (dU n l pts),.fz (.int (i:Int)),.fz (au t),.fz (cc n (bu (putAll n l put))),.fz (.tuple (put.map au))] 0) Q) :
  WP (iM F Cw Ir Hj [.fz (ar n l),.fz left,.fz (dU n l pts),.fz (.int (i:Int)),.fz (au t),.no,.no] 0) Q:=by
 unfold iM
 refine dS (d:=cc n (bu (putAll n l put))) (β1:=0) (aB (x:=uc n l put) (y:=.int 0) (aB (x:=dU n l pts) (y:=.int i) rfl rfl (Bp hi)) rfl rfl) ?_
 refine dS (d:=.tuple (put.map au)) (β1:=0) (aB (x:=uc n l put) (y:=.int 1) (aB (x:=dU n l pts) (y:=.int i) rfl rfl (Bp hi)) rfl rfl) ?_
 exact wp_at [.fz (ar n l),.fz left,.fz (dU n l pts),.fz (.int (i:Int)),.fz (au t),.fz (cc n (bu (putAll n l put))),.fz (.tuple (put.map au))] rfl k
def Jv {n:Nat}{l:List Pr}{F:List D->FR}{pts:List (List Pr)}{left:D}{i:Nat}{put:List Pr}{t:Pr}(O:OM.Ord n l)(hi:pts[i]? =some put)(hp:Pt n l put)(hz:put.length<=100)(ht:t∈mR n l)(hb:t∈putAll n l put) :
  ∃r,HL F [ar n l,left,dU n l pts,.int (i:Int),au t]=.ok (.tuple [.str "ring",.int i,.list (r.map au)]) false/\(∀x,x∈r->x=t\/x∈put)/\r.Nodup/\r≠ []/\FA l r=true:=by
 obtain⟨hr,ha⟩:=cg.mp ht
 have htp:¬t∈put:=λh=>hp.ord.irr _ (hp.ord.tr _ _ _ hb (hp.tnd t h))
 obtain⟨r,er,h1,h2,h3,h4⟩:=LU O hz htp hb
 refine⟨r,?_,h1,h2,h3,h4⟩
 show fin (iM F Cw Ir Hj [.fz (ar n l),.fz left,.fz (dU n l pts),.fz (.int (i:Int)),.fz (au t),.no,.no] 0)=_
 refine gm (Df O.hi hi hr ?_)
 have eb:eZ (aw Cw (aa (gv 5) (aa (gv 4) ag))) (vl [.fz (ar n l),.fz left,.fz (dU n l pts),.fz (.int (i:Int)),.fz (au t),.fz (cc n (bu (putAll n l put))),.fz (.tuple (put.map au))]) 0=.ok true 0:=by
  rw[<-MB hb]
  exact cI (ax (ds:=[cc n (bu (putAll n l put)),au t]) rfl (HI O.hi hr))
 refine nq eb (sZ (jJ (ds:=[.str "ring",.int i,.list (r.map au)]) (ac rfl (ac rfl (ac (ax (ds:=[ar n l,.tuple (put.map au),au t]) rfl er) an))) (by simp)) rfl)
def IU {n:Nat}{l:List Pr}{F:List D->FR}{pts:List (List Pr)}{left d:D}{i:Nat}{put:List Pr}{t:Pr}{b:Bool}(h8:n<=8)(hi:pts[i]? =some put)(hl:pts.length<=100)(hz:put.length<=100)(ht:t∈mR n l)(hb:¬t∈putAll n l put)(hF:F [ar n l,left,dU n l (cK pts i t)]=.ok d b) :
  HL F [ar n l,left,dU n l pts,.int (i:Int),au t]=.ok d false:=by
 obtain⟨hr,ha⟩:=cg.mp ht
 show fin (iM F Cw Ir Hj [.fz (ar n l),.fz left,.fz (dU n l pts),.fz (.int (i:Int)),.fz (au t),.no,.no] 0)=_
 refine gm (Df h8 hi hr ?_)
 have eb:eZ (aw Cw (aa (gv 5) (aa (gv 4) ag))) (vl [.fz (ar n l),.fz left,.fz (dU n l pts),.fz (.int (i:Int)),.fz (au t),.fz (cc n (bu (putAll n l put))),.fz (.tuple (put.map au))]) 0=.ok false 0:=by
  rw[<-MR hb]
  exact cI (ax (ds:=[cc n (bu (putAll n l put)),au t]) rfl (HI h8 hr))
 refine dq eb (wp_at [.fz (ar n l),.fz left,.fz (dU n l pts),.fz (.int (i:Int)),.fz (au t),.fz (cc n (bu (putAll n l put))),.fz (.tuple (put.map au))] rfl ?_)
 refine jh (ax (ds:=[ar n l,left,dU n l (cK pts i t)]) (ac rfl (ac rfl (ac ?_ an))) hF) rfl
 rw[Cq hi]
 have a1:aw Hj (aa (gv 5) (aa (gv 4) ag)) (vl [.fz (ar n l),.fz left,.fz (dU n l pts),.fz (.int (i:Int)),.fz (au t),.fz (cc n (bu (putAll n l put))),.fz (.tuple (put.map au))]) 0=.ok (cc n (bu (putL n (putAll n l put) t))) 0:=ax (ds:=[cc n (bu (putAll n l put)),au t]) rfl (KL h8 hr)
 have a2:f2 (gv 6) (cq (aa (gv 4) ag)) qW (vl [.fz (ar n l),.fz left,.fz (dU n l pts),.fz (.int (i:Int)),.fz (au t),.fz (cc n (bu (putAll n l put))),.fz (.tuple (put.map au))]) 0=.ok (.tuple (put.map au ++ [au t])) 0:=IE (a:=put.map au) (b:=[au t]) rfl (tp (ac rfl an)) (by rw[MC];simp;omega)
 refine u5 (u5 (wm (ds:=pts.map (uc n l)) rfl rfl) (lp (ac (tp (ac a1 (ac a2 an))) an)) ?_) (yD (ds:=pts.map (uc n l)) rfl (LA rfl)) ?_
 ·rw[Np,MC];simp;omega
 ·rw[MY,Np,Ou,MC];simp;omega
open Classical in
noncomputable def rv (n:Nat)(l put:List Pr):List Int:=if h:OM.Ord n (putAll n l put) then Classical.choose (JQ (late:=[]) h (by simp)) else []
def qh {n:Nat}{l put:List Pr}(h:OM.Ord n (putAll n l put)):Iu [cc n (bu (putAll n l put)),.list []]=.ok (tupI (rv n l put)) false/\Row n (putAll n l put) (rv n l put):=by
 have:=Classical.choose_spec (JQ (late:=[]) h (by simp))
 unfold rv
 rw[dif_pos h]
 exact⟨this.1,this.2.1⟩
def Ex (n:Nat)(l:List Pr)(pts:List (List Pr))(left:List Pr):List Pr:=left.filter λt=> !z6 n l pts t
abbrev cE (n:Nat)(l:List Pr)(pts:List (List Pr))(left:List Pr)(s3 s4 s5 s6 s7:Sl):En:=[.fz (ar n l),.fz (.list (left.map au)),.fz (dU n l pts),s3,s4,s5,s6,s7]
def EH {α:Type}{fa:VF D}{vs:List Nv}{β:Int}{l:List α}{f:α->Bool}(h:fa vs β=.ok (.list (l.map λq=>PyData.bool (f q))) β):f1 fa (bB λbs=>bs.any id) vs β=.ok (.bool (l.any f)) β:=dA h (by simp only[bB];rw[fu];simp[List.any_map])
def FQ {n:Nat}{l:List Pr}{pts:List (List Pr)}{left:List Pr}(h8:n<=8)(hl:pts.length<=100)(hz:left.length<=100)(ht:∀t,t∈left->t∈mR n l)(s3 s4 s5 s6 s7:Sl) :
  aL 1 [2] (.nm 0) (bK (gv 1)) (j9 (eZ (f1 (aL 2 [0] (.two 0 1) (bK (gv 1)) jT (aw zS (aa (gv 0) (aa (gv 2) ag)))) (bB λbs=>bs.any id)))) (gv 0) (vl (cE n l pts left s3 s4 s5 s6 s7)) 0=.ok (.list ((Ex n l pts left).map au)) 0:=by
 refine b8 (l:=left) (e:=au) (λt=> !z6 n l pts t) au rfl (by omega) λt hm=>⟨[.da (au t),.da (dU n l pts)],rfl,bO (cI ?_),λ_=>rfl⟩
 refine EH (l:=pts) (f:=λput=>decide ((t.2,t.1)∈putAll n l put)) ?_
 exact cF (l:=pts) (e:=uc n l) (λput=>PyData.bool (decide ((t.2,t.1)∈putAll n l put))) rfl (by omega) λput _=>⟨[.da (cc n (bu (putAll n l put))),.da (.tuple (put.map au)),.da (au t)],rfl,ax (ds:=[cc n (bu (putAll n l put)),au t]) rfl (Jk h8 (cg.mp (ht t hm)).1)⟩
def JD {n:Nat}{l:List Pr}{pts:List (List Pr)}{t:Pr}(h:z6 n l pts t=true):∃(j:Nat) (put:List Pr),pts[j]? =some put/\(t.2,t.1)∈putAll n l put:=by
 unfold z6 at h
 obtain⟨put,hm,hd⟩:=List.any_eq_true.mp h
 obtain⟨j,hj⟩:=Nt.mp hm
 exact⟨j,put,hj,Ng hd⟩
def JP {n:Nat}{l:List Pr}{pts:List (List Pr)}{rs:List (List Int)}(h:Ft n l pts rs){j:Nat}{put:List Pr}(hj:pts[j]? =some put):∃r,rs[j]? =some r/\r∈rs/\Row n (putAll n l put) r:=by
 have hlt:=(MF.mp hj).1
 have hl:=h.1
 have e:rs[j]? =some (rs[j]'(by omega)):=Mw (by omega)
 exact⟨_,e,NO (by omega),h.2 j _ _ e hj⟩
def Fw {n:Nat}{l:List Pr}{pts:List (List Pr)}{rs:List (List Int)}{t:Pr}(h:Ft n l pts rs)(ht:z6 n l pts t=true):∃r,r∈rs/\Tn r t:=by
 obtain⟨j,put,hj,hm⟩:=JD ht
 obtain⟨r,_,hr,hR⟩:=JP h hj
 exact⟨r,hr,tH hR hm⟩
def Fc {n:Nat}{l:List Pr}{pts:List (List Pr)}{rs:List (List Int)}{i:Nat}{t:Pr}{put:List Pr}(hi:pts[i]? =some put)(hP:∀q,q∈pts->Pt n l q)(h:Ft n l (cK pts i t) rs):Ft n l pts rs:=by
 have hlt:=(MF.mp hi).1
 refine⟨by rw[h.1,nv hlt],λj r q hr hq=>?_⟩
 by_cases e:j=i
 ·subst e
  rw[hi] at hq;cases hq
  have:=h.2 j r (put ++ [t]) hr (by rw[ki hi,My rfl])
  rw[iX] at this
  refine⟨this.1,?_⟩
  have hf:=this.2
  unfold zA at hf ⊢
  rw[MV] at hf ⊢
  exact λp hp=>hf p (zg (hP _ (MS hi)).ord hp)
 ·exact h.2 j r q hr (by rw[ki hi,MG e];exact hq)
def Dy {n:Nat}{l:List Pr}{pts:List (List Pr)}{rs:List (List Int)}{i:Nat}{t:Pr}{put:List Pr}{r:List Int}(hi:pts[i]? =some put)(hr:rs[i]? =some r)(ht:Tn r t)(h:Ft n l pts rs):Ft n l (cK pts i t) rs:=by
 have hlt:=(MF.mp hi).1
 refine⟨by rw[h.1,nv hlt],λj r' q hr' hq=>?_⟩
 rw[ki hi] at hq
 by_cases e:j=i
 ·subst e
  rw[My rfl] at hq;cases hq
  rw[hr] at hr';cases hr'
  rw[iX]
  exact DZ (h.2 j r put hr hi) ht
 ·rw[MG e] at hq
  exact h.2 j r' q hr' hq
def Br (n:Nat)(l:List Pr)(pts:List (List Pr))(ud:List Pr)(t:Pr)(j:Nat):Prop:=∀rs r,Ft n l pts rs->rs[j]? =some r->Tn r t->∃u,u∈ud/\∀r,r∈rs->¬Tn r u
def xO:SeqAt.shaped (.str "rows")=true/\∀s∈([Str.ofString "rows",Str.ofString "ring",Str.ofString "turn"]:List Str),SeqAt.shaped (.str s)=true/\PyData.eqv (.str s) (.str "rows")=decide (s="rows"):=by decide +kernel
def nk {fa:VF D}{vs:List Nv}{β:Int}{s:Str}(hs:s∈([Str.ofString "rows",Str.ofString "ring",Str.ofString "turn"]:List Str)){neg:Bool}(h:fa vs β=.ok (.str s) β):cC (f2 fa (cst (.str "rows")) (cR neg)) vs β=.ok (if neg then !decide (s="rows") else decide (s="rows")) β:=cO _ _ _ _ (aB h rfl (by unfold cR;rw[(xO.2 s hs).1,xO.1,(xO.2 s hs).2];cases neg <;> rfl))
theorem len0 {fa:VF D}{vs:List Nv}{β:Int}{ds:List D}(h:fa vs β=.ok (.list ds) β):cC (f2 (f1 fa cy) (cst (.int 0)) (cR false)) vs β=.ok ds.isEmpty β:=by
 have:=dh (neg:=false) (fa:=f1 fa cy) (fb:=cst (.int 0)) (vs:=vs) (β:=β) (i:=ds.length) (j:=0) (kK h) rfl
 rw[this]
 cases ds with
 |nil=>rfl
 |cons d ds=>congr 1
def Fy {n:Nat}{l:List Pr}{F:List D->FR}{pts:List (List Pr)}{left:List Pr}(O:OM.Ord n l)(hl:pts.length<=64)(hP:∀put,put∈pts->Pt n l put)(ht:∀t,t∈left->t∈mR n l)(hz:left.length<=64)(hu:Ex n l pts left= []):∃d,Di F [ar n l,.list (left.map au),dU n l pts]=.ok d false/\Jq n l pts left d:=by
 have hR:Ft n l pts (pts.map (rv n l)):=⟨by rw[MC],λi r put hr hp=>by
  rw[ML,hp] at hr
  cases hr
  exact (qh (hP put (MS hp)).ord).2⟩
 refine⟨.tuple [.str "rows",.list ((pts.map (rv n l)).map tupI)],?_,pts.map (rv n l),rfl,hR,λt hm=>?_⟩
 ·show fin (eQ (HL F) zS Iu Ay (cE n l pts left .no .no .no .no .no) 0)=_
  unfold eQ
  have eu:=FQ (pts:=pts) O.hi (by omega) (by omega) ht .no .no .no .no .no
  rw[hu] at eu
  refine gm (dS eu (wp_at (cE n l pts left (.fz (.list [])) .no .no .no .no) rfl ?_))
  refine nq (len0 (ds:=[]) rfl) (sZ (jJ (ds:=[.str "rows",.list ((pts.map (rv n l)).map tupI)]) (ac rfl (ac ?_ an)) (by simp)) rfl)
  rw[OL]
  exact cF (l:=pts) (e:=uc n l) (λput=>tupI (rv n l put)) rfl (by omega) λput hp=>⟨[.da (cc n (bu (putAll n l put))),.da (.tuple (put.map au))],rfl,ax (ds:=[cc n (bu (putAll n l put)),.list []]) (ac rfl (ac (lp (ds:=[]) an) an)) (qh (hP put hp).ord).1⟩
 ·have:z6 n l pts t=true:=by
   cases c:z6 n l pts t with
   |true=>rfl
   |false=>
    have:t∈Ex n l pts left:=ME.mpr ⟨hm,by rw[c];rfl⟩
    rw[hu] at this;cases this
  exact Fw hR this
theorem K6 {n:Nat}{l:List Pr}(O:OM.Ord n l):∀(k:Nat) (pts:List (List Pr)) (left:List Pr),pts.length<=64->(∀put,put∈pts->Pt n l put)->(∀t,t∈left->t∈mR n l)->left.length<=64->(Ex n l pts left).length<=k->(∀put,put∈pts->put.length + k<=70)->
  ∃d,k7 Di (k + 1) [ar n l,.list (left.map au),dU n l pts]=.ok d false/\(Jq n l pts left d\/((∃t zs,d=.tuple [.str "turn",au t,.tuple zs]/\zs.length=pts.length)/\EJ n l (k + 1) d pts/\KI n l pts left)):=by
 intro k
 induction k with
 |zero=>
  intro pts left hl hP ht hz hu hk
  obtain⟨d,e,h⟩:=Fy (F:=k7 Di 0) O hl hP ht hz (List.length_eq_zero_iff.mp (by omega))
  exact⟨d,e,.inl h⟩
 |succ k ih=>
  intro pts left hl hP ht hz hu hk
  by_cases hu0:Ex n l pts left= []
  ·obtain⟨d,e,h⟩:=Fy (F:=k7 Di (k + 1)) O hl hP ht hz hu0
   exact⟨d,e,.inl h⟩
  have eu:=FQ (pts:=pts) O.hi (by omega) (by omega) ht .no .no .no .no .no
  have hud:∀t,t∈Ex n l pts left->t∈left/\z6 n l pts t=false:=λt h=>by
   have:=ME.mp h
   exact⟨this.1,by simpa using this.2⟩
  generalize hU:Ex n l pts left=ud at eu hu hu0 hud
  have hut:∀t,t∈ud->t∈mR n l:=λt h=>ht t (hud t h).1
  have huz:ud.length<=64:=by rw[<-hU];exact Nx (Nk _ _) hz
  obtain⟨t,htu,em⟩:=Gi (ir:=2) (fa:=gv 3) (fb:=aw Ay (aa (gv 1) (aa (gv 0) ag))) (vs:=vl (cE n l pts left (.fz (.list (ud.map au))) .no .no .no .no)) (β:=0) (ts:=ud) (dr:=dU n l pts) rfl rfl hu0 λt h=>by
   obtain⟨j,e⟩:=Iw (l:=l) (pts:=pts) O.hi (by omega) (cg.mp (hut t h)).1
   exact⟨j,ax (ds:=[dU n l pts,au t]) rfl e⟩
  have htt:=hut t htu
  have br:∀i,i < pts.length->∃d,HL (k7 Di (k + 1)) [ar n l,.list (ud.map au),dU n l pts,.int (i:Int),au t]=.ok d false/\(Jq n l pts left d\/((∃s y z,d=.tuple [.str s,y,z]/\(s="ring"\/s="turn"))/\EJ n l (k + 1) d (cK pts i t)/\Br n l pts ud t i)):=λi hi=>by
   obtain⟨put,hp⟩:∃put,pts[i]? =some put:=⟨_,Mw hi⟩
   have hpm:=MS hp
   have hpk:=hk put hpm
   by_cases hb:t∈putAll n l put
   ·obtain⟨r,e,h1,h2,h3,h4⟩:=Jv (F:=k7 Di (k + 1)) (left:=.list (ud.map au)) O hp (hP put hpm) (by omega) htt hb
    have hmr:∀x,x∈r->x∈put ++ [t]:=λx hx=>by
     rcases h1 x hx with h |h
     ·simp[h]
     ·simp[h]
    refine⟨_,e,.inr ⟨⟨_,_,_,rfl,.inl rfl⟩,.inl ⟨i,r,put ++ [t],rfl,by rw[ki hp,My rfl],hmr,h3,h4,?_,λx hx=>?_⟩,λrs r' hf hr hT=>?_⟩⟩
    ·have:=xM h2 hmr
     rw[MY,Nj] at this
     omega
    ·rcases h1 x hx with h |h
     ·rw[h];exact htt
     ·exact (hP put hpm).tr x h
    ·have:=tH (hf.2 i r' put hr hp) hb
     unfold Tn at hT
     omega
   ·have hlt:(Ex n l (cK pts i t) ud).length<=k:=by
     have hlt:(ud.filter λu=> !z6 n l (cK pts i t) u).length < ud.length:=by
      rw[List.length_filter_lt_length_iff_exists]
      refine⟨t,htu,?_⟩
      have:z6 n l (cK pts i t) t=true:=by
       unfold z6
       refine List.any_eq_true.mpr ⟨put ++ [t],Nt.mpr ⟨i,by rw[ki hp,My rfl]⟩,MB ?_⟩
       rw[iX]
       exact qk (cg.mp htt).1
      rw[this];simp
     have e9:Ex n l (cK pts i t) ud=ud.filter λu=> !z6 n l (cK pts i t) u:=rfl
     rw[e9];omega
    have hmem:∀q,q∈cK pts i t->q=put ++ [t]\/q∈pts:=λq hq=>by
     obtain⟨j,hj⟩:=Nt.mp hq
     rw[ki hp] at hj
     split at hj
     ·cases hj;exact .inl rfl
     ·exact .inr (MS hj)
    obtain⟨d,e,h⟩:=ih (cK pts i t) ud (by rw[nv hi];exact hl) (λq hq=>by
     rcases hmem q hq with rfl |h
     ·exact (hP put hpm).more htt hb
     ·exact hP q h) hut huz hlt (λq hq=>by
     rcases hmem q hq with rfl |h
     ·rw[MY,Nj];omega
     ·have:=hk q h;omega)
    refine⟨d,IU O.hi hp (by omega) (by omega) htt hb e,?_⟩
    rcases h with⟨rs,rfl,hf,hT⟩ | ⟨⟨t',zs,rfl,_⟩,hPap,hN⟩
    ·have hf':=Fc hp hP hf
     refine .inl ⟨rs,rfl,hf',λu hu'=>?_⟩
     cases c:z6 n l pts u with
     |true=>exact Fw hf' c
     |false=>exact hT u (by rw[<-hU];exact ME.mpr ⟨hu',by rw[c];rfl⟩)
    ·exact .inr ⟨⟨_,_,_,rfl,.inr rfl⟩,hPap,λrs r hf hr hT=>hN rs (Dy hp hr hT hf)⟩
  have W:WP (eQ (HL (k7 Di (k + 1))) zS Iu Ay (cE n l pts left .no .no .no .no .no) 0) λs=>∃d β,s=.rt d false β/\(Jq n l pts left d\/((∃t zs,d=.tuple [.str "turn",au t,.tuple zs]/\zs.length=pts.length)/\EJ n l (k + 1 + 1) d pts/\KI n l pts left)):=by
   unfold eQ
   refine dS eu (wp_at (cE n l pts left (.fz (.list (ud.map au))) .no .no .no .no) rfl ?_)
   have e0:=len0 (fa:=gv 3) (vs:=vl (cE n l pts left (.fz (.list (ud.map au))) .no .no .no .no)) (β:=0) (ds:=ud.map au) rfl
   rw[show (ud.map au).isEmpty=false by cases ud with |nil=>exact absurd rfl hu0 |cons a b=>rfl] at e0
   refine dq e0 (wp_at (cE n l pts left (.fz (.list (ud.map au))) .no .no .no .no) rfl ?_)
   refine dS em (wp_at (cE n l pts left (.fz (.list (ud.map au))) (.fz (au t)) .no .no .no) rfl ?_)
   refine EZ (lp (ds:=[]) an) (wp_at (cE n l pts left (.fz (.list (ud.map au))) (.fz (au t)) (.ow (.list [])) .no .no) rfl ?_)
   refine E6 (ds:=dP 0 pts.length) (β1:=0) (Jq n l pts left) (λi env β=>β=0/\∃zs s6 s7,env=cE n l pts left (.fz (.list (ud.map au))) (.fz (au t)) (.ow (.list zs)) s6 s7/\zs.length=i/\i<=pts.length/\∀j z,zs[j]? =some z->EJ n l (k + 1) z (cK pts j t)/\Br n l pts ud t j) ?_ ⟨rfl,[],.no,.no,rfl,rfl,Nl _,λj z h=>by simp at h⟩ ?_ (λd β h=>⟨d,β,rfl,.inl h⟩) ?_
   ·refine c5 ?_ (by omega)
    rw[kK (ds:=pts.map (uc n l)) rfl,MC]
   ·rintro i d env β hd ⟨rfl,zs,s6,s7,rfl,hzl,_,hzs⟩
    obtain⟨hi,rfl⟩:=iZ hd
    rw[NL]
    refine⟨cE n l pts left (.fz (.list (ud.map au))) (.fz (au t)) (.ow (.list zs)) (.fz (.int (i:Int))) s7,rfl,?_⟩
    obtain⟨d,ed,hd⟩:=br i hi
    refine dS (d:=d) (β1:=0) (ax (ds:=[ar n l,.list (ud.map au),dU n l pts,.int (i:Int),au t]) rfl ed) (wp_at (cE n l pts left (.fz (.list (ud.map au))) (.fz (au t)) (.ow (.list zs)) (.fz (.int (i:Int))) (.fz d)) rfl ?_)
    rcases hd with h | ⟨⟨s,y,z,rfl,hs⟩,hPap,hB⟩
    ·have h':=h
     obtain⟨rs,rfl,_⟩:=h'
     refine nq (nk (neg:=false) (s:="rows") (by simp) (aB (x:=.tuple [.str "rows",.list (rs.map tupI)]) (y:=.int 0) rfl rfl rfl)) (zk ?_)
     exact⟨(λa b z=>by cases z),.inl ⟨_,_,rfl,h⟩⟩
    ·have hsm:s∈([Str.ofString "rows",Str.ofString "ring",Str.ofString "turn"]:List Str):=by rcases hs with h |h <;> simp[h]
     have e2:=nk (neg:=false) hsm (fa:=f2 (gv 7) (cst (.int 0)) a8) (vs:=vl (cE n l pts left (.fz (.list (ud.map au))) (.fz (au t)) (.ow (.list zs)) (.fz (.int (i:Int))) (.fz (.tuple [.str s,y,z])))) (β:=0) (aB (x:=.tuple [.str s,y,z]) (y:=.int 0) rfl rfl rfl)
     have hne:decide (s="rows")=false:=by rcases hs with rfl |rfl <;> decide +kernel
     rw[hne] at e2
     refine dq e2 (wp_at (cE n l pts left (.fz (.list (ud.map au))) (.fz (au t)) (.ow (.list zs)) (.fz (.int (i:Int))) (.fz (.tuple [.str s,y,z]))) rfl (xr ?_))
     refine C5 (ds:=zs) rfl rfl rfl (by omega) (oE (.inr ⟨_,_,rfl,rfl,zs ++ [.tuple [.str s,y,z]],_,_,rfl,by rw[MY,Nj];omega,by omega,λj z' hj=>?_⟩))
     by_cases c:j < zs.length
     ·rw[M6 c] at hj
      exact hzs j z' hj
     ·rw[M9 (by omega)] at hj
      have hj0:j - zs.length=0:=by
       have:=(MF.mp hj).1
       rw[Nj] at this;omega
      rw[hj0] at hj
      cases hj
      have:j=i:=by omega
      subst this
      exact⟨hPap,hB⟩
   ·rintro env β ⟨rfl,zs,s6,s7,rfl,hzl,_,hzs⟩
    rw[dJ] at hzl
    refine jh (jJ (ds:=[.str "turn",au t,.tuple zs]) (ac rfl (ac rfl (ac (dA (x:=.list zs) rfl rfl) an))) (by simp)) ⟨_,_,rfl,.inr ⟨⟨t,zs,rfl,hzl⟩,.inr ⟨t,zs,rfl,htt,hzl,λj z hj=>(hzs j z hj).1⟩,λrs hf=>?_⟩⟩
    by_cases c:∃r,r∈rs/\Tn r t
    ·obtain⟨r,hr,hT⟩:=c
     obtain⟨j,hj⟩:=Nt.mp hr
     have hjl:j < zs.length:=by
      have:=(MF.mp hj).1
      have:=hf.1
      omega
     obtain⟨u,hu1,hu2⟩:=(hzs j _ (Mw hjl)).2 rs r hf hj hT
     exact⟨u,(hud u hu1).1,hu2⟩
    ·exact⟨t,(hud t htu).1,λr hr hT=>c ⟨r,hr,hT⟩⟩
  obtain⟨d,β,e,h⟩:=W.out
  refine⟨d,?_,h⟩
  show fin (eQ (HL (k7 Di (k + 1))) zS Iu Ay (cE n l pts left .no .no .no .no .no) 0)=_
  rw[e];rfl
abbrev xH (n:Nat)(l:List Pr):List Pr:=(mR n l).filter (uW l)
noncomputable def Ip:List D->FR:=aV 3 2 (pF LI (k7 Di 40) ub)
def Dm (n:Nat)(l:List Pr)(c:Nat):Prop:=∃rs:List (List Int),rs.length=c/\(∀r,r∈rs->Row n l r)/\∀t,t∈xH n l->∃r,r∈rs/\Tn r t
def xT {n:Nat}{l:List Pr}{c:Nat}{rs:List (List Int)}:Ft n l (List.replicate c []) rs↔rs.length=c/\∀r,r∈rs->Row n l r:=by
 constructor
 ·rintro⟨h1,h2⟩
  rw[Nq] at h1
  refine⟨h1,λr hr=>?_⟩
  obtain⟨i,hi⟩:=Nt.mp hr
  exact h2 i r [] hi (by rw[ND,My (by have:=(MF.mp hi).1;omega)])
 ·rintro⟨h1,h2⟩
  refine⟨by rw[Nq];exact h1,λi r put hr hp=>?_⟩
  rw[ND] at hp
  split at hp
  ·cases hp;exact h2 r (MS hr)
  ·cases hp
def EL {n:Nat}{l:List Pr}{c:Nat}:KI n l (List.replicate c []) (xH n l)↔¬Dm n l c:=by
 constructor
 ·rintro h ⟨rs,h1,h2,h3⟩
  obtain⟨t,ht,hn⟩:=h rs (xT.mpr ⟨h1,h2⟩)
  obtain⟨r,hr,hT⟩:=h3 t ht
  exact hn r hr hT
 ·intro h rs hf
  refine Classical.byContradiction λhc=>h ?_
  obtain⟨h1,h2⟩:=xT.mp hf
  refine⟨rs,h1,h2,λt ht=>Classical.byContradiction λhn=>hc ⟨t,ht,λr hr hT=>hn ⟨r,hr,hT⟩⟩⟩
def Dm.mono {n:Nat}{l:List Pr}{c c':Nat}(O:OM.Ord n l)(h:Dm n l c)(hc:c<=c'):Dm n l c':=by
 obtain⟨rs,h1,h2,h3⟩:=h
 have hv:=(qh (n:=n) (l:=l) (put:=[]) O).2
 refine⟨rs ++ List.replicate (c' - c) (rv n l []),by rw[MY,Nq];omega,λr hr=>?_,λt ht=>?_⟩
 ·rcases MU.mp hr with h |h
  ·exact h2 r h
  ·rw[NK h];exact hv
 ·obtain⟨r,hr,hT⟩:=h3 t ht
  exact⟨r,MU.mpr (.inl hr),hT⟩
def Gs {n:Nat}{l:List Pr}(O:OM.Ord n l):Dm n l (xH n l).length:=by
 refine⟨(xH n l).map λt=>rv n l [t],by rw[MC],λr hr=>?_,λt ht=>⟨rv n l [t],MZ.mpr ⟨t,ht,rfl⟩,?_⟩⟩
 ·obtain⟨t,ht,rfl⟩:=MZ.mp hr
  have htt:=(ME.mp ht).1
  have hP:=(tm O).more htt (λh=>by
   have:=(cg.mp htt).2
   unfold ve at this
   have h:t∈l:=h
   simp[h] at this)
  have:=(qh hP.ord).2
  refine⟨this.1,?_⟩
  have hf:=this.2
  unfold zA at hf ⊢
  rw[MV] at hf ⊢
  exact λp hp=>hf p (uw (O.wn p hp) hp)
 ·have htt:=(ME.mp ht).1
  have hP:=(tm O).more htt (λh=>by
   have:=(cg.mp htt).2
   unfold ve at this
   have h:t∈l:=h
   simp[h] at this)
  exact tH (qh hP.ord).2 (hP.tnd t (by simp))
def Gu {n:Nat}{l:List Pr}(h6:n<=6):(xH n l).length<=36:=by
 refine Nx (Nk _ _) ?_
 unfold mR
 refine Nx (Nk _ _) ?_
 have:(OM.cB n).length=n * n:=fK n
 rw[this]
 exact N4 h6 h6
def BC {d:D}{c:Nat}(h:c<=64):uL (.list [d]) (.int (c:Int))=some (.list (List.replicate c d)):=by
 have e:(List.replicate c [d]).flatten=List.replicate c d:=by
  clear h
  induction c with
  |zero=>rfl
  |succ c ih=>rw[Nw,NT,ih,Nw];rfl
 have key:∀k:Int,0<=k->k<=64->uL (.list [d]) (.int k)=some (.list (List.replicate k.toNat [d]).flatten):=λk h0 h1=>My ⟨by omega,by omega,sz _ (by simp;omega)⟩
 rw[key c (by omega) (by omega),Nf,e]
def Hs {n:Nat}{l:List Pr}{c:Nat}(O:OM.Ord n l)(hs:(xH n l).length<=39)(hc:c<=64):∃d,Ip [ar n l,.int (c:Int)]=.ok d false/\((∃rs:List (List Int),d=.tuple [.str "rows",.list (rs.map tupI)]/\rs.length=c/\(∀r,r∈rs->Row n l r)/\∀t,t∈xH n l->∃r,r∈rs/\Tn r t)\/((∃t zs,d=.tuple [.str "turn",au t,.tuple zs]/\zs.length=c)/\EJ n l 40 d (List.replicate c [])/\¬Dm n l c)):=by
 obtain⟨d,e,h⟩:=K6 O 39 (List.replicate c []) (xH n l) (by rw[Nq];exact hc) (λput hp=>by rw[NK hp];exact tm O) (λt ht=>(ME.mp ht).1) (by omega) (Nx (Nk _ _) hs) (λput hp=>by rw[NK hp];simp)
 refine⟨d,?_,?_⟩
 ·show fin (pF LI (k7 Di 40) ub [.fz (ar n l),.fz (.int (c:Int)),.no] 0)=_
  unfold pF
  refine gm (dS (d:=uc n l []) (β1:=0) (jJ (ds:=[cc n (bu l),.tuple []]) (ac (ax (ds:=[ar n l]) rfl (LG O)) (ac (tp (ds:=[]) an) an)) (by simp)) (wp_at [.fz (ar n l),.fz (.int (c:Int)),.fz (uc n l [])] rfl ?_))
  refine jh (ax (ds:=[ar n l,.list ((xH n l).map au),dU n l (List.replicate c [])]) (ac rfl (ac (ax (ds:=[ar n l]) rfl (CW O)) (ac (aB (x:=.list [uc n l []]) (y:=.int c) (lp (ds:=[uc n l []]) (ac rfl an)) rfl ?_) an))) e) rfl
  show uL (.list [uc n l []]) (.int c)=some (dU n l (List.replicate c []))
  rw[BC hc]
  unfold dU
  rw[List.map_replicate]
 ·rcases h with⟨rs,rfl,hf,hT⟩ | ⟨⟨t,zs,rfl,hz⟩,hP,hN⟩
  ·obtain⟨h1,h2⟩:=xT.mp hf
   exact .inl ⟨rs,rfl,h1,h2,hT⟩
  ·exact .inr ⟨⟨t,zs,rfl,by rw[hz,Nq]⟩,hP,EL.mp hN⟩
noncomputable def LZ:List D->FR:=aV 3 1 (eh j0 Ip)
structure y7 (n:Nat)(l:List Pr)(rs:List (List Int)):Prop where
 pos:1<=rs.length
 few:rs.length<=40
 row:∀r,r∈rs->Row n l r
 tn:∀t,t∈xH n l->∃r,r∈rs/\Tn r t
 least:∀c,1<=c->c < rs.length->¬Dm n l c
def y7.dm {n:Nat}{l:List Pr}{rs:List (List Int)}(h:y7 n l rs):Dm n l rs.length:=⟨rs,rfl,h.row,h.tn⟩
def y7.iff {n:Nat}{l:List Pr}{rs:List (List Int)}(h:y7 n l rs)(O:OM.Ord n l){c:Nat}(hc:1<=c):Dm n l c↔rs.length<=c:=⟨λd=>Nat.le_of_not_lt λz=>h.least c hc z d,λz=>h.dm.mono O z⟩
def K3 {n:Nat}{l:List Pr}(O:OM.Ord n l)(hs:(xH n l).length<=39):∃rs,LZ [ar n l]=.ok (.list (rs.map tupI)) false/\y7 n l rs:=by
 have W:WP (eh j0 Ip [.fz (ar n l),.no,.no] 0) λs=>∃d β,s=.rt d false β/\∃rs:List (List Int),d=.list (rs.map tupI)/\y7 n l rs:=by
  unfold eh
  refine tK (ax (ds:=[ar n l]) (ac rfl an) (tR O)) (wp_at [.fz (ar n l),.no,.no] rfl ?_)
  refine dS (d:=.int 1) (β1:=0) rfl (wp_at [.fz (ar n l),.fz (.int ((1:Nat):Int)),.no] rfl ?_)
  obtain⟨d1,e1,h1⟩:=Hs (c:=1) O hs (by omega)
  refine dS (d:=d1) (β1:=0) (ax (ds:=[ar n l,.int ((1:Nat):Int)]) rfl e1) (wp_at [.fz (ar n l),.fz (.int ((1:Nat):Int)),.fz d1] rfl ?_)
  refine Cr (λb env β=>β=0/\∃(c:Nat) (d:D),env= [.fz (ar n l),.fz (.int (c:Int)),.fz d]/\b=60 - c/\1<=c/\c<=40/\(∀c',1<=c'->c' < c->¬Dm n l c')/\((∃rs:List (List Int),d=.tuple [.str "rows",.list (rs.map tupI)]/\rs.length=c/\(∀r,r∈rs->Row n l r)/\∀t,t∈xH n l->∃r,r∈rs/\Tn r t)\/((∃t zs,d=.tuple [.str "turn",au t,.tuple zs]/\zs.length=c)/\EJ n l 40 d (List.replicate c [])/\¬Dm n l c)))
   (λenv β=>β=0/\∃(c:Nat) (rs:List (List Int)),env= [.fz (ar n l),.fz (.int (c:Int)),.fz (.tuple [.str "rows",.list (rs.map tupI)])]/\y7 n l rs) 59 (by omega) ⟨rfl,1,d1,rfl,rfl,by omega,by omega,λc' h1 h2=>by omega,h1⟩ ?_ ?_
  ·rintro b env β ⟨rfl,c,d,rfl,rfl,hc1,hc2,hn,h⟩
   rcases h with⟨rs,rfl,hl,hr,ht⟩ | ⟨⟨t,zs,rfl,hz⟩,hP,hD⟩
   ·refine⟨_,_,nk (neg:=true) (s:="rows") (by simp) (aB (x:=.tuple [.str "rows",.list (rs.map tupI)]) (y:=.int 0) rfl rfl rfl),.inl ⟨by rfl,rfl,c,rs,rfl,⟨by omega,by omega,hr,ht,λc' h1 h2=>hn c' h1 (by omega)⟩⟩⟩
   ·refine⟨_,_,nk (neg:=true) (s:="turn") (by simp) (aB (x:=.tuple [.str "turn",au t,.tuple zs]) (y:=.int 0) rfl rfl rfl),.inr ⟨by decide +kernel,wp_at [.fz (ar n l),.fz (.int (c:Int)),.fz (.tuple [.str "turn",au t,.tuple zs])] rfl ?_⟩⟩
    have hc:c < 40:=by
     refine Nat.lt_of_not_le λz=>hD ((Gs O).mono O (by omega))
    refine dS (d:=.int ((c + 1:Nat):Int)) (β1:=0) (LA rfl) (wp_at [.fz (ar n l),.fz (.int ((c + 1:Nat):Int)),.fz (.tuple [.str "turn",au t,.tuple zs])] rfl ?_)
    obtain⟨d2,e2,h2⟩:=Hs (c:=c + 1) O hs (by omega)
    refine xr (dS (d:=d2) (β1:=0) (ax (ds:=[ar n l,.int ((c + 1:Nat):Int)]) rfl e2) (oE ⟨_,_,60 - (c + 1),rfl,by omega,rfl,c + 1,d2,rfl,rfl,by omega,by omega,λc' h1 h2=>?_,h2⟩))
    by_cases e:c'=c
    ·subst e;exact hD
    ·exact hn c' h1 (by omega)
  ·rintro env β ⟨rfl,c,rs,rfl,h⟩
   exact jh (aB (x:=.tuple [.str "rows",.list (rs.map tupI)]) (y:=.int 1) rfl rfl rfl) ⟨_,_,rfl,rs,rfl,h⟩
 obtain⟨d,β,e,rs,rfl,h⟩:=W.out
 refine⟨rs,?_,h⟩
 show fin (eh j0 Ip [.fz (ar n l),.no,.no] 0)=_
 rw[e];rfl
def nW {l:List Pr}{p:Pr}:ve l p=true↔p.1≠p.2/\(p.1,p.2)∉l/\(p.2,p.1)∉l:=by
 unfold ve
 simp only[MP,Om,N2,ne_eq]
def Gw {l:List Pr}{p:Pr}:uW l p=true↔(∀c,(c,p.1)∈l->(c,p.2)∈l)/\∀c,(p.2,c)∈l->(p.1,c)∈l:=by
 unfold uW
 rw[MP,MV,MV]
 constructor
 ·rintro⟨h1,h2⟩
  exact⟨λc hc=>Ng (h1 (c,p.1) (ME.mpr ⟨hc,MB rfl⟩)),λc hc=>Ng (h2 (p.2,c) (ME.mpr ⟨hc,MB rfl⟩))⟩
 ·rintro⟨h1,h2⟩
  constructor
  ·intro q hq
   obtain⟨hm,he⟩:=ME.mp hq
   have he:=Ng he
   refine MB (h1 q.1 ?_)
   rw[<-he];exact hm
  ·intro q hq
   obtain⟨hm,he⟩:=ME.mp hq
   have he:=Ng he
   refine MB (h2 q.2 ?_)
   rw[<-he];exact hm
def KH (n:Nat)(l:List Pr)(a:Int):Nat:=((fE n).filter λx=>decide ((x,a)∈l)).length
def KN (n:Nat)(l:List Pr)(a:Int):Nat:=((fE n).filter λx=>decide ((a,x)∈l)).length
def filter_lt {L:List Int}{p q:Int->Bool}(h:∀x,x∈L->p x=true->q x=true){y:Int}(hy:y∈L)(h1:q y=true)(h2:p y=false):(L.filter p).length < (L.filter q).length:=by
 have e:L.filter p=(L.filter q).filter p:=by
  rw[List.filter_filter]
  refine Oe λx hx=>?_
  cases c:p x with
  |false=>rfl
  |true=>rw[h x hx c];rfl
 rw[e]
 exact List.length_filter_lt_length_iff_exists.mpr ⟨y,ME.mpr ⟨hy,h1⟩,by rw[h2];simp⟩
def IS {n:Nat}{l:List Pr}(O:OM.Ord n l){a c:Int}(h:(c,a)∈l):KH n l c < KH n l a:=by
 refine filter_lt (y:=c) (λx _ hx=>MB (O.tr x c a (Ng hx) h)) (bV.mpr (O.wn _ h).1) (MB h) (MR (O.irr c))
def Js {n:Nat}{l:List Pr}(O:OM.Ord n l){a c:Int}(h:(a,c)∈l):KN n l c < KN n l a:=by
 refine filter_lt (y:=c) (λx _ hx=>MB (O.tr a c x h (Ng hx))) (bV.mpr (O.wn _ h).2) (MB h) (MR (O.irr c))
def Mi (l:List Pr)(q p:Pr):Prop:=(q.1=p.1\/(q.1,p.1)∈l)/\(q.2=p.2\/(p.2,q.2)∈l)
theorem lx {n:Nat}{l:List Pr}(O:OM.Ord n l):∀(k:Nat) (p:Pr),KH n l p.1 + KN n l p.2<=k->p∈mR n l->∃q,q∈mR n l/\uW l q=true/\Mi l q p
 |k,p,hk,hp=>by
  by_cases hs:uW l p=true
  ·exact⟨p,hp,hs,.inl rfl,.inl rfl⟩
  ·rw[Gw,Classical.not_and_iff_not_or_not] at hs
   obtain⟨hg,ha⟩:=cg.mp hp
   obtain⟨a1,a2,a3⟩:=nW.mp ha
   rcases hs with hs |hs
   ·obtain⟨c,hc⟩:=Classical.not_forall.mp hs
    obtain⟨hc1,hc2⟩:=Classical.not_imp.mp hc
    have hlt:=IS O hc1
    have hm:((c,p.2):Pr)∈mR n l:=cg.mpr ⟨⟨(O.wn _ hc1).1,hg.2⟩,nW.mpr ⟨λe=>by
     simp only at e
     exact a3 (e▸hc1),hc2,λh=>a3 (O.tr _ _ _ h hc1)⟩⟩
    match k,hk with
    | 0,hk=>omega
    |k + 1,hk=>
     obtain⟨q,h1,h2,h3,h4⟩:=lx O k (c,p.2) (by simp only;omega) hm
     refine⟨q,h1,h2,.inr ?_,h4⟩
     rcases h3 with h3 |h3
     ·rw[h3];exact hc1
     ·exact O.tr _ _ _ h3 hc1
   ·obtain⟨c,hc⟩:=Classical.not_forall.mp hs
    obtain⟨hc1,hc2⟩:=Classical.not_imp.mp hc
    have hlt:=Js O hc1
    have hm:((p.1,c):Pr)∈mR n l:=cg.mpr ⟨⟨hg.1,(O.wn _ hc1).2⟩,nW.mpr ⟨λe=>by
     simp only at e
     exact a3 (e▸hc1),hc2,λh=>a3 (O.tr _ _ _ hc1 h)⟩⟩
    match k,hk with
    | 0,hk=>omega
    |k + 1,hk=>
     obtain⟨q,h1,h2,h3,h4⟩:=lx O k (p.1,c) (by simp only;omega) hm
     refine⟨q,h1,h2,h3,.inr ?_⟩
     rcases h4 with h4 |h4
     ·rw[h4];exact hc1
     ·exact O.tr _ _ _ hc1 h4
def zI {n:Nat}{l:List Pr}{q p:Pr}{r:List Int}(hR:Row n l r)(h:Mi l q p)(ht:r.idxOf q.2 < r.idxOf q.1):r.idxOf p.2 < r.idxOf p.1:=by
 have fit:∀{a b:Int},(a,b)∈l->r.idxOf a < r.idxOf b:=λ{a b} hm=>Ng (MV.mp hR.2 (a,b) hm)
 obtain⟨h1,h2⟩:=h
 have g1:r.idxOf q.1<=r.idxOf p.1:=h1.elim (λe=>by rw[e];exact MA _) λh=>N5 (fit h)
 have g2:r.idxOf p.2<=r.idxOf q.2:=h2.elim (λe=>by rw[e];exact MA _) λh=>N5 (fit h)
 omega
def AD {n:Nat}{l:List Pr}{rs:List (List Int)}(O:OM.Ord n l)(h1:rs≠ [])(h:∀r,r∈rs->Row n l r):(OM.cB n).filter (FT rs)=l↔∀p,p∈mR n l->∃r,r∈rs/\r.idxOf p.2 < r.idxOf p.1:=by
 have sh:∀p,FT rs p=true↔∀r,r∈rs->r.idxOf p.1 < r.idxOf p.2:=λp=>by
  unfold FT
  rw[MV]
  exact⟨λh r hr=>Ng (h r hr),λh r hr=>MB (h r hr)⟩
 have fit:∀{a b:Int} {r:List Int},r∈rs->(a,b)∈l->r.idxOf a < r.idxOf b:=λ{a b r} hr hm=>Ng (MV.mp (h r hr).2 (a,b) hm)
 constructor
 ·intro e p hp
  obtain⟨hg,ha⟩:=cg.mp hp
  obtain⟨a1,a2,a3⟩:=nW.mp ha
  have hn:¬FT rs p=true:=λhs=>a2 (by rw[<-e];exact ME.mpr ⟨OM.bC.mpr hg,hs⟩)
  rw[sh] at hn
  obtain⟨r,hr⟩:=Classical.not_forall.mp hn
  obtain⟨hr1,hr2⟩:=Classical.not_imp.mp hr
  refine⟨r,hr1,Nat.lt_of_le_of_ne (Nat.le_of_not_lt hr2) λz=>a1 ?_⟩
  have pm:=(h r hr1).1
  exact (DO (pm.mem_iff.mpr (bV.mpr hg.2)) (pm.mem_iff.mpr (bV.mpr hg.1)) z).symm
 ·intro ht
  refine OM.jr (OM.gj _ (OM.ja n)) O.ris λp=>?_
  rw[ME,sh]
  constructor
  ·rintro⟨hg,hs⟩
   by_cases c:p∈l
   ·exact c
   ·obtain⟨r,rs',rfl⟩:∃r rs',rs=r :: rs':=by
     cases rs with
     |nil=>exact absurd rfl h1
     |cons r rs'=>exact⟨r,rs',rfl⟩
    have hr:r∈r :: rs':=MM ..
    have l1:=hs r hr
    obtain⟨q,hq1,hq2⟩:=ht p (cg.mpr ⟨OM.bC.mp hg,nW.mpr ⟨λe=>by rw[e] at l1;omega,c,λz=>by have:=fit hr z;omega⟩⟩)
    have:=hs q hq1
    omega
  ·intro hm
   exact⟨OM.bC.mpr (O.wn p hm),λr hr=>fit hr hm⟩
def Cg {n:Nat}{l:List Pr}{rs:List (List Int)}(O:OM.Ord n l)(h1:rs≠ [])(h:∀r,r∈rs->Row n l r):(OM.cB n).filter (FT rs)=l↔∀p,p∈(mR n l).filter (uW l)->∃r,r∈rs/\r.idxOf p.2 < r.idxOf p.1:=by
 rw[AD O h1 h]
 constructor
 ·exact λk p hp=>k p (ME.mp hp).1
 ·intro k p hp
  obtain⟨q,hq1,hq2,hu⟩:=lx O _ p (MA _) hp
  obtain⟨r,hr,ht⟩:=k q (ME.mpr ⟨hq1,hq2⟩)
  exact⟨r,hr,zI (h r hr) hu ht⟩
theorem Dt {n:Nat}{l:List Pr}(O:OM.Ord n l){x:Int}:∀{bs:List Int},(∀b,b∈bs->(x,b)∈mR n l)->Pt n l (bs.reverse.map λb=>(x,b))/\∀z,(x,z)∈putAll n l (bs.reverse.map λb=>(x,b))->(x,z)∈l:=by
 intro bs
 induction bs with
 |nil=>exact λ_=>⟨tm O,λz h=>h⟩
 |cons b bs ih=>
  intro h
  obtain⟨hP,hu⟩:=ih λb hb=>h b (by simp[hb])
  have hb:=h b (by simp)
  have ha:=(nW.mp (cg.mp hb).2)
  have hn:¬(x,b)∈putAll n l (bs.reverse.map λb=>(x,b)):=λz=>ha.2.1 (hu b z)
  rw[List.reverse_cons,Nh]
  refine⟨hP.more hb hn,λz hz=>?_⟩
  have hz:(x,z)∈putAll n l (bs.reverse.map (λb=>(x,b)) ++ [(x,b)]):=hz
  rw[iX] at hz
  rcases mq hz with h1 | ⟨h1,_⟩
  ·exact hu z h1
  ·rcases eG.mp h1 with e |e
   ·exact absurd e ha.1
   ·exact absurd e hn
def KZ {n:Nat}{l:List Pr}(O:OM.Ord n l):Dm n l n:=by
 let bs:Int->List Int:=λx=>(fE n).filter λb=>ve l (x,b)
 have hb:∀x,(0<=x/\x < (n:Int))->∀b,b∈bs x->(x,b)∈mR n l:=λx hx b hb=>cg.mpr ⟨⟨hx,bV.mp (ME.mp hb).1⟩,(ME.mp hb).2⟩
 have fit:∀x,(0<=x/\x < (n:Int))->Pt n l ((bs x).reverse.map λb=>(x,b)):=λx hx=>(Dt O (hb x hx)).1
 refine⟨(fE n).map λx=>rv n l ((bs x).reverse.map λb=>(x,b)),by rw[MC,iz],λr hr=>?_,λt ht=>?_⟩
 ·obtain⟨x,hx,rfl⟩:=MZ.mp hr
  have:=(qh (fit x (bV.mp hx)).ord).2
  refine⟨this.1,?_⟩
  have hf:=this.2
  unfold zA at hf ⊢
  rw[MV] at hf ⊢
  exact λp hp=>hf p (uw (O.wn p hp) hp)
 ·obtain⟨hr,ha⟩:=cg.mp (ME.mp ht).1
  refine⟨_,MZ.mpr ⟨t.1,bV.mpr hr.1,rfl⟩,?_⟩
  exact tH (qh (fit t.1 hr.1).ord).2 ((fit t.1 hr.1).tnd t (MZ.mpr ⟨t.2,List.mem_reverse.mpr <|ME.mpr ⟨bV.mpr hr.2,ha⟩,rfl⟩))
def y7.le {n:Nat}{l:List Pr}{rs:List (List Int)}(h:y7 n l rs)(O:OM.Ord n l):rs.length<=n:=(h.iff O O.lo).mp (KZ O)
def y7.ne {n:Nat}{l:List Pr}{rs:List (List Int)}(h:y7 n l rs):rs≠ []:=λe=>by have:=h.pos;rw[e] at this;simp at this
def y7.tell {n:Nat}{l:List Pr}{rs:List (List Int)}(h:y7 n l rs)(O:OM.Ord n l):(OM.cB n).filter (FT rs)=l:=(Cg O h.ne h.row).mpr h.tn
def GJ {n:Nat}{rs:List (List Int)}(h1:rs≠ []):(OM.cB n).filter (nE rs)=(OM.cB n).filter (FT rs):=by
 refine Oe λp _=>?_
 unfold nE FT
 rw[Na,MP,Om,N2]
 refine⟨λh=>h.2,λh=>⟨λe=>?_,h⟩⟩
 obtain⟨r,hr⟩:=List.exists_mem_of_ne_nil _ h1
 have:=Ng (MV.mp h r hr)
 rw[e] at this
 omega
def AO (n:Int)(l:List Pr)(d:D):Bool:=Lq n d && match d with
 | .tuple [.int a,.int b]=>ve l (a,b)
 |_=>false
def FP {n:Int}{l:List Pr}{p:Pr}(h:(0<=p.1/\p.1 < n)/\(0<=p.2/\p.2 < n)):AO n l (au p)=ve l p:=by
 show ((decide (0<=p.1/\p.1 < n) && decide (0<=p.2/\p.2 < n)) && ve l (p.1,p.2))=ve l p
 rw[MB h.1,MB h.2];rfl
def L9 (n:Int)(l:List Pr):D->Bool
 | .list ds=>ds.all (AO n l)
 |_=>false
noncomputable def G9:List D->FR:=aV 2 2 (dH AG HP)
theorem HF {n:Int}{l:List Pr}{x y:D}(h:(oq x && oq y)=false):AO n l (.tuple [x,y])=false:=by
 unfold AO Lq
 cases x with
 |int a=>
  cases y with
  |int b=>cases h
  |_=>simp[nU]
 |_=>simp[nU]
theorem JE {n:Nat}{l:List Pr}{d:D}(h:Ge d):G9 [ar n l,d]=.ok (.bool (AO n l d)) false:=by
 show fin (dH AG HP [.fz (ar n l),.fz d] 0)=_
 unfold dH
 have g1:gv 1 (vl [.fz (ar n l),.fz d]) 0=.ok d 0:=rfl
 have t1:=ym g1 h.1
 cases hy:Ek d with
 |false=>
  rw[hy] at t1
  rw[jo (d:=.bool false) (b:=false) (β':=0) ?a]
  ·cases d <;> first |rfl |cases hy
  case a=>rw[kW (CJ (bO t1))];rfl
 |true=>
  obtain⟨es,rfl⟩:=DT hy
  rw[hy] at t1
  have t2:=GU (k:=2) g1
  rcases xk (es:=es) with⟨q,z⟩ | ⟨x,y,rfl⟩
  ·rw[q] at t2
   rw[show AO n l (.tuple es)=false by unfold AO;rw[z];rfl,jo (d:=.bool false) (b:=false) (β':=0) (by rw[kW (fR (bO t1) (CJ t2))];rfl)];rfl
  ·have hs:=(h.2 _ rfl).2
   have ec:aL 1 [] (.nm 0) (bK (gv 1)) jT (aw AG (aa (gv 0) ag)) (vl [.fz (ar n l),.fz (.tuple [x,y])]) 0=.ok (.list ([x,y].map λe=>PyData.bool (oq e))) 0:=
    lM (λe=>PyData.bool (oq e)) rfl (by simp) λe he=>⟨_,rfl,ax (ds:=[e]) rfl (Ee (hs e he))⟩
   have ea:=tE ec
   have e2: [x,y].all oq=(oq x && oq y):=by simp
   rw[e2] at ea
   cases hw:(oq x && oq y) with
   |false=>
    rw[hw] at ea
    rw[HF hw,jo (d:=.bool false) (b:=false) (β':=0) (by rw[kW (fR (bO t1) (fR t2 (bO (cI ea))))];rfl)];rfl
   |true=>
    rw[hw] at ea
    rw[MP] at hw
    cases x with
    |int a=>
     cases y with
     |int b=>
      rw[aI (env':=[.fz (ar n l),.fz (.tuple [.int a,.int b])]) (β':=0) (by rw[iS (fR (bO t1) (fR t2 (bO (cI ea))))];rfl)]
      have ed:aL 1 [0] (.nm 0) (bK (gv 1)) jT (fH (cst (.int 0)) (gv 0) (f2 (gv 1) (cst (.int 0)) a8) vK sX) (vl [.fz (ar n l),.fz (.tuple [.int a,.int b])]) 0=.ok (.list ([a,b].map λ(e:Int)=>PyData.bool (decide (0<=e) && decide (e < (n:Int))))) 0:=
       cF (l:=[a,b]) (e:=int) (λ(e:Int)=>PyData.bool (decide (0<=e) && decide (e < (n:Int)))) rfl (by simp) λe he=>⟨_,rfl,lH (lo:=0) (i:=e) (n:=n) rfl rfl (Kn (n:=n) (l:=l) rfl) rfl⟩
      have eb:=yQ ed
      rw[gB,tT eb (ax (ds:=[ar n l,.int a,.int b]) rfl (Jd n l a b))]
      show FR.ok (.bool (_ && ve l (a,b))) false=.ok (.bool ((decide (0<=a/\a < (n:Int)) && decide (0<=b/\b < (n:Int))) && ve l (a,b))) false
      rw[Bool.decide_and,Bool.decide_and]
      simp
     |_=>cases hw.2
    |_=>cases hw.1
def EU:List D->FR:=aV 3 3 rW
def Jx (n:Nat)(l:List Pr)(p q:Pr):EU [ar n l,au p,au q]=.ok (.bool (oo l p q)) false:=HE n l p q
def Ff {ps:List Pr}{i:Nat}(hi:i < ps.length):k9 (ps.map au) ((i:Int) - 1)=some (au (ps.getD (if i=0 then ps.length - 1 else i - 1) (0,0))):=by
 have key:∀k:Nat,k < ps.length->k9 (ps.map au) (k:Int)=some (au (ps.getD k (0,0))):=λk hk=>by
  rw[ny,qr hk,MQ,Mw hk];rfl
 by_cases h:i=0
 ·subst h
  rw[My rfl,<-key _ (by omega)]
  have e1:q8 ps.length (((0:Nat):Int) - 1)=some (ps.length - 1):=by
   unfold q8
   rw[MG (by omega),My (by omega)]
   congr 1;omega
  have e2:q8 ps.length ((ps.length - 1:Nat):Int)=some (ps.length - 1):=by
   unfold q8
   rw[My (by omega),My (by omega)]
   congr 1
  unfold k9
  rw[MC,e1,e2]
 ·rw[MG h,<-key _ (by omega),show ((i - 1:Nat):Int)=(i:Int) - 1 by omega]
def AI {F:List D->FR}{n:Nat}{l:List Pr}(hF:∀p q,F [ar n l,au p,au q]=.ok (.bool (oo l p q)) false){ps:List Pr}(hz:ps.length<=100){vs:List Nv}(h1:vs[1]? =some (.da (.list (ps.map au))))(h0:vs[0]? =some (.da (ar n l))) :
  f1 (aL 1 [0,1] (.nm 0) (cN (f1 (gv 1) cy)) jT (aw F (aa (gv 1) (aa (f2 (gv 2) (f2 (gv 0) (cst (.int 1)) nh) a8) (aa (f2 (gv 2) (gv 0) a8) ag))))) (bB λbs=>bs.all id) vs 0=.ok (.bool (FA l ps)) 0:=by
 have g0:gv 1 vs 0=.ok (.list (ps.map au)) 0:=by rw[AY,h1];rfl
 have hb:fL 1 [0,1] vs= [.no,.da (ar n l),.da (.list (ps.map au))]:=by simp[fL,h0,h1]
 have ec:aL 1 [0,1] (.nm 0) (cN (f1 (gv 1) cy)) jT (aw F (aa (gv 1) (aa (f2 (gv 2) (f2 (gv 0) (cst (.int 1)) nh) a8) (aa (f2 (gv 2) (gv 0) a8) ag)))) vs 0=.ok (.list ((List.range ps.length).map λi=>PyData.bool (oo l (ps.getD (if i=0 then ps.length - 1 else i - 1) (0,0)) (ps.getD i (0,0))))) 0:=by
  refine cF (l:=List.range ps.length) (e:=λ(k:Nat)=>int (0 + (k:Int))) (λi=>PyData.bool (oo l (ps.getD (if i=0 then ps.length - 1 else i - 1) (0,0)) (ps.getD i (0,0)))) ?_ (by rw[NC];omega) λi hi=>⟨[.da (.int (0 + (i:Int))),.da (ar n l),.da (.list (ps.map au))],by rw[hb];rfl,?_⟩
  ·have:=c5 (fa:=f1 (gv 1) cy) (vs:=vs) (β:=0) (β1:=0) (n:=ps.length) (by rw[kK (ds:=ps.map au) g0,MC]) (by omega)
   rw[this];rfl
  ·have hi:=Nb.mp hi
   rw[NL]
   refine ax (b:=false) (ds:=[ar n l,au (ps.getD (if i=0 then ps.length - 1 else i - 1) (0,0)),au (ps.getD i (0,0))]) ?_ (hF _ _)
   have a1:f2 (gv 2) (f2 (gv 0) (cst (.int 1)) nh) a8 [.da (.int i),.da (ar n l),.da (.list (ps.map au))] 0=.ok (au (ps.getD (if i=0 then ps.length - 1 else i - 1) (0,0))) 0:=aB (x:=.list (ps.map au)) (y:=.int ((i:Int) - 1)) rfl (aB (x:=.int i) (y:=.int 1) rfl rfl rfl) (Ff hi)
   have a2:f2 (gv 2) (gv 0) a8 [.da (.int i),.da (ar n l),.da (.list (ps.map au))] 0=.ok (au (ps.getD i (0,0))) 0:=by
    refine aB (x:=.list (ps.map au)) (y:=.int i) rfl rfl ?_
    show k9 (ps.map au) (i:Int)=_
    rw[ny,qr hi,MQ,Mw hi];rfl
   exact ac rfl (ac a1 (ac a2 an))
 exact dA ec (by simp only[bB];rw[fu];simp[all_map,FA])
noncomputable def IX:List D->FR:=aV 2 2 (jx G9 EU)
def Kf {d:List D}{vs:List Nv}(h:gv 1 vs 0=.ok (.list d) 0):cC (f2 (gv 1) (cY ag) uv) vs 0=.ok d.isEmpty 0:=cO _ _ _ _ (aB h (lp (ds:=[]) an) rfl)
theorem JG {n:Nat}{l:List Pr}{ps:List Pr}(h:Gt (.list (ps.map au)))(hts:L9 n l (.list (ps.map au))=true):IX [ar n l,.list (ps.map au)]=.ok (.bool (!ps.isEmpty && FA l ps)) false:=by
 show fin (jx G9 EU [.fz (ar n l),.fz (.list (ps.map au))] 0)=_
 unfold jx
 have e1:=FW (fa:=gv 1) (vs:=vl [.fz (ar n l),.fz (.list (ps.map au))]) (β:=0) rfl h.1
 have hd:=h.2 _ rfl
 have hz:ps.length<=100:=by have:=hd.1;rw[MC] at this;exact this
 have t2:=Kf (d:=ps.map au) (vs:=vl [.fz (ar n l),.fz (.list (ps.map au))]) rfl
 have ec:aL 1 [0] (.nm 0) (bK (gv 1)) jT (aw G9 (aa (gv 1) (aa (gv 0) ag))) (vl [.fz (ar n l),.fz (.list (ps.map au))]) 0=.ok (.list ((ps.map au).map λe=>PyData.bool (AO n l e))) 0:=
  lM (λe=>PyData.bool (AO n l e)) rfl (by omega) λe he=>⟨_,rfl,ax (ds:=[ar n l,e]) rfl (JE (hd.2 e he))⟩
 have ea:=tE ec
 have hts:(ps.map au).all (AO n l)=true:=hts
 rw[hts] at ea
 cases ps with
 |nil=>rw[jo (d:=.bool false) (b:=false) (β':=0) (by rw[kW (fR (bO (cI e1)) (CJ t2))];rfl)];rfl
 |cons p ps=>
  rw[aI (env':=[.fz (ar n l),.fz (.list ((p :: ps).map au))]) (β':=0) (by rw[iS (fR (bO (cI e1)) (fR t2 (bO (cI ea))))];rfl)]
  rw[gB,AI (F:=EU) (n:=n) (l:=l) (Jx n l) hz rfl rfl];rfl
def lq (pts:List (List Pr)):D:=.list (pts.map λps=>PyData.list (ps.map au))
noncomputable def Iq (F:List D->FR):List D->FR:=aV 5 3 (h9 F AG IX G9)
def zj:∀s∈([Str.ofString "ring",Str.ofString "turn"]:List Str),DP (.str s)=true/\(decide ((PyData.str s).shown="'ring'")=decide (s="ring"))/\(decide ((PyData.str s).shown="'turn'")=decide (s="turn")):=by decide +kernel
section
variable {fa:VF D}{vs:List Nv}{β:Int}{s:Str}
def Jf (h:fa vs β=.ok (.str s) β)(hs:s∈([Str.ofString "ring",Str.ofString "turn"]:List Str)):cC (f2 (f1 fa n5) (cst (.str "'ring'")) (zL false)) vs β=.ok (decide (s="ring")) β:=cO _ _ _ _ (aB (dA h (My (zj s hs).1)) rfl (by rw[<-(zj s hs).2.1];rfl))
def K4 (h:fa vs β=.ok (.str s) β)(hs:s∈([Str.ofString "ring",Str.ofString "turn"]:List Str)):cC (f2 (f1 fa n5) (cst (.str "'turn'")) (zL true)) vs β=.ok (!decide (s="turn")) β:=cO _ _ _ _ (aB (dA h (My (zj s hs).1)) rfl (by rw[<-(zj s hs).2.2];rfl))
end
def E3 {pts:List (List Pr)}{i:Nat}{t:Pr}{ps:List Pr}(hi:pts[i]? =some ps):lq (cK pts i t)=.list ((pts.map λps=>PyData.list (ps.map au)).take i ++ [PyData.list (ps.map au ++ [au t])] ++ (pts.map λps=>PyData.list (ps.map au)).drop (i + 1)):=by
 unfold lq cK
 rw[MQ,hi,Nh,Nh,List.map_take,List.map_drop]
 simp
abbrev ge (d o p:D)(s3 s4:Sl):En:=[.fz d,.fz o,.fz p,s3,s4]
def C2 {n:Nat}{l ps:List Pr}(ht:∀p,p∈ps->p∈mR n l):L9 n l (.list (ps.map au))=true:=by
 show (ps.map au).all (AO n l)=true
 rw[MV]
 intro d hd
 obtain⟨p,hp,rfl⟩:=MZ.mp hd
 obtain⟨hr,ha⟩:=cg.mp (ht p hp)
 rw[FP hr];exact ha
def GY {ps:List Pr}(hl:ps.length<=100):Gt (.list (ps.map au)):=⟨rfl,λds e=>by
 cases e
 refine⟨by rw[MC];exact hl,λe he=>?_⟩
 obtain⟨p,_,rfl⟩:=MZ.mp he
 exact Cn (es:=[.int p.1,.int p.2]) (by simp) (yC rfl rfl)⟩
theorem Ik {n:Nat}{l:List Pr}:∀(k:Nat) (d:D) (pts:List (List Pr)) (m:Nat),k<=m->EJ n l k d pts->pts.length<=8->(∀ps,ps∈pts->ps.length + k<=80)->k7 Iq m [d,ar n l,lq pts]=.ok (.bool true) false:=by
 intro k
 induction k with
 |zero=>intro d pts m _ h;exact h.elim
 |succ k ih=>
  intro d pts m hm h hl hp
  obtain⟨m,rfl⟩:∃m',m=m' + 1:=⟨m - 1,by omega⟩
  show fin (h9 (k7 Iq m) AG IX G9 (ge d (ar n l) (lq pts) .no .no) 0)=_
  unfold h9
  have lenB:∀(d:D) (s3 s4:Sl),f1 (gv 2) cy (vl (ge d (ar n l) (lq pts) s3 s4)) 0=.ok (.int (pts.length:Nat)) 0:=λd s3 s4=>by
   have:=kK (fa:=gv 2) (vs:=vl (ge d (ar n l) (lq pts) s3 s4)) (β:=0) (ds:=pts.map λps=>PyData.list (ps.map au)) rfl
   rw[MC] at this;exact this
  have three:∀(x y z p:D),gf (j9 (eZ (f1 (gv 0) (fV "tuple")))) (cC (f2 (f1 (gv 0) cy) (cst (.int 3)) (cR true))) (vl (ge (.tuple [x,y,z]) (ar n l) p .no .no)) 0=.ok false 0:=λx y z p=>fR (bO (ym (d:=.tuple [x,y,z]) rfl rfl)) (dh (neg:=true) (i:=3) (j:=3) rfl rfl)
  rcases h with⟨i,r,q,rfl,hq,hm',hne,hrg,hrl,hrt⟩ | ⟨t,zs,rfl,ht,hzl,hz⟩
  ·have hi:=(MF.mp hq).1
   have hts:=C2 hrt
   have hG:=GY hrl
   have e2:IX [ar n l,.list (r.map au)]=.ok (.bool true) false:=by
    rw[JG hG hts,hrg]
    cases r with
    |nil=>exact absurd rfl hne
    |cons a b=>rfl
   ·refine gm (dq (three _ _ _ _) (nq (Jf (s:="ring") (aB (x:=.tuple [.str "ring",.int i,.list (r.map au)]) (y:=.int 0) rfl rfl rfl) (by simp)) (zk ?_)))
    have y1:f2 (gv 0) (cst (.int 1)) a8 (vl (ge (.tuple [.str "ring",.int i,.list (r.map au)]) (ar n l) (lq pts) .no .no)) 0=.ok (.int i) 0:=aB (x:=.tuple [.str "ring",.int i,.list (r.map au)]) (y:=.int 1) rfl rfl rfl
    have w1:eZ (aw AG (aa (f2 (gv 0) (cst (.int 1)) a8) ag)) (vl (ge (.tuple [.str "ring",.int i,.list (r.map au)]) (ar n l) (lq pts) .no .no)) 0=.ok true 0:=cI (ax (ds:=[.int i]) (ac y1 an) (Ee rfl))
    have ch:=lH (g':=sX) (fa:=cst (.int 0)) (fb:=f2 (gv 0) (cst (.int 1)) a8) (fc:=f1 (gv 2) cy) (vs:=vl (ge (.tuple [.str "ring",.int i,.list (r.map au)]) (ar n l) (lq pts) .no .no)) (β:=0) (lo:=0) (i:=i) (n:=(pts.length:Nat)) (q:=decide ((i:Int) < (pts.length:Nat))) rfl y1 (lenB _ _ _) rfl
    rw[MB (by omega),MB (by omega)] at ch
    have lr:eZ (aw IX (aa (gv 1) (aa (f2 (gv 0) (cst (.int 2)) a8) ag))) (vl (ge (.tuple [.str "ring",.int i,.list (r.map au)]) (ar n l) (lq pts) .no .no)) 0=.ok true 0:=cI (ax (ds:=[ar n l,.list (r.map au)]) (ac rfl (ac (aB (x:=.tuple [.str "ring",.int i,.list (r.map au)]) (y:=.int 2) rfl rfl rfl) an)) e2)
    refine dq (fR (bO w1) (fR (bO (cO _ _ _ _ ch)) (bO lr))) ?_
    have pB:∀v,f2 (gv 1) (f2 (gv 2) (cst (.int 1)) a8) a8 [v,.da (lq pts),.da (.tuple [.str "ring",.int i,.list (r.map au)])] 0=.ok (.list (q.map au)) 0:=λv=>aB (x:=lq pts) (y:=.int i) rfl (aB (x:=.tuple [.str "ring",.int i,.list (r.map au)]) (y:=.int 1) rfl rfl rfl) (iC (by rw[ML,hq];rfl))
    have ec:aL 1 [2,0] (.nm 0) (bK (f2 (gv 0) (cst (.int 2)) a8)) (cC (f2 (gv 0) (f2 (gv 1) (f2 (gv 2) (cst (.int 1)) a8) a8) (lQ true))) (gv 0) (vl (ge (.tuple [.str "ring",.int i,.list (r.map au)]) (ar n l) (lq pts) .no .no)) 0=.ok (.list ((r.filter λp=> !decide (p∈q)).map au)) 0:=
     b8 (l:=r) (e:=au) (λp=> !decide (p∈q)) au rfl (by omega) λp _=>⟨[.da (au p),.da (lq pts),.da (.tuple [.str "ring",.int i,.list (r.map au)])],rfl,cO _ _ _ _ (aB (x:=au p) rfl (pB _) (yN true p q)),λ_=>rfl⟩
    have hem:(r.filter λp=> !decide (p∈q))= []:=List.filter_eq_nil_iff.mpr λx hx=>by simp[hm' x hx]
    rw[hem] at ec
    exact jh (aB ec (lp (ds:=[]) an) rfl) ⟨(λa b z=>by cases z),rfl⟩
  ·have ch:∀i z,zs[i]? =some z->k7 Iq m [z,ar n l,lq (cK pts i t)]=.ok (.bool true) false:=λi z hi=>by
    have hlt:=(MF.mp hi).1
    obtain⟨put,hput⟩:∃put,pts[i]? =some put:=⟨_,Mw (by omega)⟩
    refine ih z (cK pts i t) m (by omega) (hz i z hi) (by rw[nv (by omega)];exact hl) λps hps=>?_
    obtain⟨j,hj⟩:=Nt.mp hps
    rw[ki hput] at hj
    split at hj
    ·cases hj
     have:=hp put (MS hput)
     rw[MY,Nj];omega
    ·have:=hp ps (MS hj);omega
   have hU:AO n l (au t)=true:=by rw[FP (cg.mp ht).1];exact (cg.mp ht).2
   have hY:Ge (au t):=Cn (es:=[.int t.1,.int t.2]) (by simp) (yC rfl rfl)
   have x0:∀(s3 s4:Sl) (p:D),f2 (gv 0) (cst (.int 0)) a8 (vl (ge (.tuple [.str "turn",au t,.tuple zs]) (ar n l) p s3 s4)) 0=.ok (.str "turn") 0:=λs3 s4 p=>aB (x:=.tuple [.str "turn",au t,.tuple zs]) (y:=.int 0) rfl rfl rfl
   have y1:∀(s3 s4:Sl) (p:D),f2 (gv 0) (cst (.int 1)) a8 (vl (ge (.tuple [.str "turn",au t,.tuple zs]) (ar n l) p s3 s4)) 0=.ok (au t) 0:=λs3 s4 p=>aB (x:=.tuple [.str "turn",au t,.tuple zs]) (y:=.int 1) rfl rfl rfl
   have z2:∀(s3 s4:Sl) (p:D),f2 (gv 0) (cst (.int 2)) a8 (vl (ge (.tuple [.str "turn",au t,.tuple zs]) (ar n l) p s3 s4)) 0=.ok (.tuple zs) 0:=λs3 s4 p=>aB (x:=.tuple [.str "turn",au t,.tuple zs]) (y:=.int 2) rfl rfl rfl
   have nrg:decide ((Str.ofString "turn")="ring")=false:=by decide +kernel
   have ytr:(!decide ((Str.ofString "turn")="turn"))=false:=by decide +kernel
   have eqn:(!decide ((zs.length:Int)=(pts.length:Nat)))=false:=by rw[MB (by omega)];rfl
   ·have r1:=Jf (s:="turn") (x0 .no .no (lq pts)) (by simp)
    have r2:=K4 (s:="turn") (x0 .no .no (lq pts)) (by simp)
    rw[nrg] at r1
    rw[ytr] at r2
    have u:=cI (ax (F:=G9) (fr:=aa (gv 1) (aa (f2 (gv 0) (cst (.int 1)) a8) ag)) (ds:=[ar n l,au t]) (ac rfl (ac (y1 .no .no (lq pts)) an)) (JE hY))
    rw[hU] at u
    have k1:=ym (z2 .no .no (lq pts)) rfl
    have k2:=dh (neg:=true) (FH (z2 .no .no (lq pts))) (lenB (.tuple [.str "turn",au t,.tuple zs]) .no .no)
    rw[My rfl,eqn] at k2
    refine gm (dq (three _ _ _ _) (dq r1 (dq (fR r2 (bO u)) (dq (fR (bO k1) k2) ?_))))
    refine xc (ds:=dP 0 pts.length) (β1:=0) (λ_ env β=>β=0/\∃s3 s4,env=ge (.tuple [.str "turn",au t,.tuple zs]) (ar n l) (lq pts) s3 s4) (c5 (lenB _ _ _) (by omega)) ⟨rfl,_,_,rfl⟩ ?_ ?_
    ·rintro _ d env β hd ⟨rfl,s3,s4,rfl⟩
     obtain⟨hi,rfl⟩:=iZ hd
     rename_i i
     rw[NL]
     refine⟨ge (.tuple [.str "turn",au t,.tuple zs]) (ar n l) (lq pts) (.fz (.int i)) s4,rfl,?_⟩
     obtain⟨qs,hq⟩:∃qs,pts[i]? =some qs:=⟨_,Mw hi⟩
     have hqs:=hp qs (MS hq)
     have pq:(pts.map λps=>PyData.list (ps.map au))[i]? =some (.list (qs.map au)):=by rw[ML,hq];rfl
     refine dS (d:=lq (cK pts i t)) (β1:=0) ?_ ?_
     ·rw[E3 hq]
      refine u5 (u5 (wm (ds:=pts.map λps=>PyData.list (ps.map au)) rfl rfl) (lp (ac (u5 (a:=qs.map au) (b:=[au t]) (aB (x:=lq pts) (y:=.int i) rfl rfl (iC pq)) (lp (ac (y1 _ _ _) an)) (by rw[MC];simp;omega)) an)) ?_) (yD (ds:=pts.map λps=>PyData.list (ps.map au)) rfl (LA rfl)) ?_
      ·rw[Np,MC];simp;omega
      ·rw[MY,Np,Ou,MC];simp;omega
     refine wp_at (ge (.tuple [.str "turn",au t,.tuple zs]) (ar n l) (lq pts) (.fz (.int i)) (.fz (lq (cK pts i t)))) rfl ?_
     obtain⟨e,he⟩:∃e,zs[i]? =some e:=⟨_,Mw (by omega)⟩
     have ea:f2 (f2 (gv 0) (cst (.int 2)) a8) (gv 3) a8 (vl (ge (.tuple [.str "turn",au t,.tuple zs]) (ar n l) (lq pts) (.fz (.int i)) (.fz (lq (cK pts i t))))) 0=.ok e 0:=aB (x:=.tuple zs) (y:=.int i) (z2 _ _ _) rfl (iC he)
     have tt:=cI (ax (F:=k7 Iq m) (fr:=aa (f2 (f2 (gv 0) (cst (.int 2)) a8) (gv 3) a8) (aa (gv 1) (aa (gv 4) ag))) (ds:=[e,ar n l,lq (cK pts i t)]) (ac ea (ac rfl (ac rfl an))) (ch i e he))
     exact E1 (bO tt) (oE ⟨_,_,rfl,rfl,_,_,rfl⟩)
    ·exact λenv β _=>jh rfl rfl
def xG (ds:List D)(h:j0 ds≠.bad):aV 1 1 (gX iV) ds=j0 ds:=by
 unfold j0 at h
 split at h
 ·obtain⟨n,l,rfl,O⟩:=wq h
  rw[tR O]
  show fin (gX iV [.fz (ar n l)] 0)=_
  exact gm (E1 (bO (cI (ax (ds:=[ar n l]) rfl (sN O)))) (oE rfl))
 ·exact absurd rfl h
def KS:List D->FR:=aV 1 1 (iq jg)
def LJ {c:Nat}(h1:1<=c)(h8:c<=8):KS [.int c]=.ok .none false:=by
 show fin (iq jg [.fz (.int c)] 0)=_
 unfold iq
 have t1:eZ (aw jg (aa (gv 0) ag)) (vl [.fz (.int c)]) 0=.ok true 0:=cI (ax (ds:=[.int c]) rfl (lZ rfl))
 have t2:=lH (g':=vK) (fa:=cst (.int 1)) (fb:=gv 0) (fc:=cst (.int 8)) (vs:=vl [.fz (.int c)]) (β:=0) (lo:=1) (i:=c) (n:=8) (q:=decide ((c:Int)<=8)) rfl rfl rfl rfl
 rw[MB (by omega),MB (by omega)] at t2
 rw[iS (fR (bO t1) (bO (cO _ _ _ _ t2)))];rfl
noncomputable def JL:List D->FR:=aV 3 2 (iA j0 KS Ip)
def Lx {n:Nat}{l:List Pr}{c:Nat}(O:OM.Ord n l)(hs:(xH n l).length<=39)(h1:1<=c)(hc:c<=8):(Dm n l c/\JL [ar n l,.int (c:Int)]=.ok .none false)\/(¬Dm n l c/\∃t zs,JL [ar n l,.int (c:Int)]=.ok (.tuple [.str "turn",au t,.tuple zs]) false/\zs.length=c/\EJ n l 40 (.tuple [.str "turn",au t,.tuple zs]) (List.replicate c [])):=by
 obtain⟨d,e,h⟩:=Hs O hs (c:=c) (by omega)
 have run:∀{R:FR} (s:Str) (x:D) (xs:List D),d=.tuple (.str s :: x :: xs)->s∈([Str.ofString "rows",Str.ofString "ring",Str.ofString "turn"]:List Str)->(decide (s="rows")=true->R=.ok .none false)->(decide (s="rows")=false->R=.ok d false)->JL [ar n l,.int (c:Int)]=R:=by
  intro R s x xs hd hs h2 h3
  show fin (iA j0 KS Ip [.fz (ar n l),.fz (.int (c:Int)),.no] 0)=_
  refine gm ?_
  unfold iA
  refine tK (ax (ds:=[ar n l]) (ac rfl an) (tR O)) (wp_at [.fz (ar n l),.fz (.int (c:Int)),.no] rfl ?_)
  refine tK (ax (ds:=[.int c]) (ac rfl an) (LJ h1 hc)) (wp_at [.fz (ar n l),.fz (.int (c:Int)),.no] rfl ?_)
  refine dS (d:=d) (β1:=0) (ax (ds:=[ar n l,.int (c:Int)]) rfl e) (wp_at [.fz (ar n l),.fz (.int (c:Int)),.fz d] rfl ?_)
  subst hd
  have t:=nk (neg:=false) hs (fa:=f2 (gv 2) (cst (.int 0)) a8) (vs:=vl [.fz (ar n l),.fz (.int (c:Int)),.fz (.tuple (.str s :: x :: xs))]) (β:=0) (aB (x:=.tuple (.str s :: x :: xs)) (y:=.int 0) rfl rfl (iC (j:=0) rfl))
  cases q:decide (s="rows") with
  |true=>rw[q] at t;exact nq t (sZ rfl (h2 q).symm)
  |false=>
   rw[q] at t
   refine dq t ⟨?_⟩
   rw[h3 q];rfl
 rcases h with⟨rs,rfl,hl,hr,ht⟩ | ⟨⟨t,zs,rfl,hz⟩,hP,hD⟩
 ·exact .inl ⟨⟨rs,hl,hr,ht⟩,run "rows" _ _ rfl (by simp) (λ_=>rfl) (λq=>by exact absurd q (by decide +kernel))⟩
 ·exact .inr ⟨hD,t,zs,run "turn" _ _ rfl (by simp) (λq=>by exact absurd q (by decide +kernel)) (λ_=>rfl),hz,hP⟩
theorem vM:∀l:List Pr,bN (l.map au)=true
 | []=>rfl
 |p :: l=>by
  show (hW (au p) && bN (l.map au))=true
  rw[vM l];rfl
theorem su:∀g:List Int,bN (g.map int)=true
 | []=>rfl
 |p :: l=>by
  show (hW (.int p) && bN (l.map int))=true
  rw[su l];rfl
def CL (n:Nat)(l:List Pr):bN [ar n l]=true:=by
 show (hW (.tuple [.int n,.tuple (l.map au)]) && true)=true
 simp only[hW,bN,vM,Ol]
def Ah {F:List D->FR}{fa fb:VF D}{vs:List Nv}{β β1 β2:Int}{d1 d2 d:D}{b:Bool}(h1:fa vs β=.ok d1 β1)(h2:fb vs β1=.ok d2 β2)(e:F [d1,d2]=.ok d b)(hf:hW d=true):pS F fa fb vs β=.ok d β2:=by
 unfold pS
 rw[h1];dsimp only[R.bnd]
 rw[h2];dsimp only[R.bnd]
 rw[e];exact My hf
noncomputable def CZ:List D->FR:=aV 3 2 (jj AG mG)
def IZ {N:Nat}{L:List Pr}{ws:List (List Int)}(h8:N<=8)(hz:ws.length<=100)(hne:ws≠ [])(hp:∀w,w∈ws->w.Perm (fE N))(he:(OM.cB N).filter (nE ws)=L):CZ [.list (ws.map tupI),ar N L]=.ok (.bool true) false:=by
 show fin (jj AG mG [.fz (.list (ws.map tupI)),.fz (ar N L),.no] 0)=_
 refine gm ?_
 unfold jj
 refine dq (fR (c:=false) (bO (cI (c:=true) (FW (d:=.list (ws.map tupI)) rfl rfl))) (cO _ _ _ _ (aB (x:=.list (ws.map tupI)) (y:=.list []) rfl (lp (ds:=[]) an) (by cases ws with |nil=>exact absurd rfl hne |cons a b=>rfl)))) ?_
 refine xc (ds:=ws.map tupI) (λ_ env _=>∃s,env= [.fz (.list (ws.map tupI)),.fz (ar N L),s]) rfl ⟨_,rfl⟩ ?_ ?_
 ·rintro i dw env β hi ⟨s,rfl⟩
  rw[ML] at hi
  cases hw:ws[i]? with
  |none=>rw[hw] at hi;cases hi
  |some w=>
   rw[hw] at hi
   cases hi
   have pw:=hp w (MS hw)
   have hl:w.length=N:=by rw[pw.length_eq,iz]
   refine⟨[.fz (.list (ws.map tupI)),.fz (ar N L),.fz (tupI w)],rfl,?_⟩
   have ea:=tE (lM (own:=1) (ixs:=[]) (t:=.nm 0) (fi:=bK (gv 2)) (fe:=aw AG (aa (gv 0) ag)) (vs:=vl [.fz (.list (ws.map tupI)),.fz (ar N L),.fz (tupI w)]) (β:=β) (ds:=w.map int) (λe=>PyData.bool (oq e)) rfl (by rw[MC];omega) λe he=>⟨[.da e],rfl,ax (ds:=[e]) rfl (Ee (by obtain⟨x,_,rfl⟩:=MZ.mp he;rfl))⟩)
   rw[MV.mpr λe he=>by obtain⟨x,_,rfl⟩:=MZ.mp he;rfl] at ea
   refine dq (fR (c:=false) (bO (a:=true) (ym (d:=tupI w) rfl rfl)) (bO (a:=true) (cI ea))) ?_
   have es:p4 (tupI w)=some (.list ((sortI w).map int)):=by
    unfold p4 tupI
    dsimp only[mB]
    rw[j8]
    dsimp only
    rw[My (by omega)]
   exact xr (dq (cO _ _ _ _ (aB (x:=.list ((sortI w).map int)) (y:=.list ((fE N).map int)) (dA (x:=tupI w) rfl es) (dA (x:=.int N) (Kn (n:=N) (l:=L) rfl) (lB (by omega))) (by rw[wA,My rfl,MB (B3.mpr pw)];rfl))) (oE ⟨_,_,rfl,_,rfl⟩))
 ·rintro env β ⟨s,rfl⟩
  refine jh (aB (ax (ds:=[.int N,.list (ws.map tupI)]) (ac (Kn (n:=N) (l:=L) rfl) (ac rfl an)) (yO h8 hz hp)) (J0 (n:=N) (l:=L) rfl) (u4 false _ _)) ?_
  rw[he,MG (by simp),MB rfl];rfl
theorem sy:∀rs:List (List Int),bN (rs.map tupI)=true
 | []=>rfl
 |r :: rs=>by
  show (bN (r.map int) && bN (rs.map tupI))=true
  rw[su,sy rs];rfl
noncomputable def FG:List D->FR:=n9 LZ
noncomputable def Jh:List D->FR:=aV 1 1 (ng FG)
def K8 {n:Nat}{l:List Pr}(O:OM.Ord n l)(hs:(xH n l).length<=39):∃rs,FG [ar n l]=.ok (.list (rs.map tupI)) true/\Jh [ar n l]=.ok (.int (rs.length:Nat)) false/\y7 n l rs:=by
 obtain⟨rs,e,h⟩:=K3 O hs
 have e2:FG [ar n l]=.ok (.list (rs.map tupI)) true:=uK e (CL n l) (sy rs)
 refine⟨rs,e2,?_,h⟩
 show fin (ng FG [.fz (ar n l)] 0)=_
 unfold ng
 have:=kK (fa:=aw FG (aa (gv 0) ag)) (vs:=vl [.fz (ar n l)]) (β:=0) (ax (ds:=[ar n l]) rfl e2)
 rw[MC] at this
 exact gm (jh this rfl)
def BS {m':SF}{env:En}{β β1 β2:Int}{Q:SO->Prop}{fa fb:VF D}{d e:D}{La Lb:List Nat}{i j:Nat}(h:fa (vl env) β=.ok d β1)(h':fb (vl env) β1=.ok e β2)(k:WP (m' (((aS (La ++ Lb) env).set i (.fz d)).set j (.ow e)) β2) Q):WP (aH (uJ i j La Lb fa fb) m' env β) Q:=wp_seq (by unfold uJ;rw[h];dsimp only[toS];rw[h']) k
noncomputable def HK:List D->FR:=aV 7 1 (yp CQ Jh FG AG CZ (k7 Iq 40) JL Hq)
abbrev le (ns:List Int)(i n:Nat)(l:List Pr)(s3 s4 s5 s6:Sl):En:=[.fz (du ns),.fz (.int i),.fz (ar n l),s3,s4,s5,s6]
def JI (ns:List Int):HK [du ns]=.ok (.bool true) false:=by
 show fin (yp CQ Jh FG AG CZ (k7 Iq 40) JL Hq [.fz (du ns),.no,.no,.no,.no,.no,.no] 0)=_
 refine gm ?_
 obtain⟨m0,hm0,em⟩:=BD 2 (by omega) ns (vl [.fz (du ns),.no,.no,.no,.no,.no,.no]) 0 rfl
 unfold yp
 refine xc (λ_ env _=>∃s1 s2 s3 s4 s5 s6,env= [.fz (du ns),s1,s2,s3,s4,s5,s6]) em ⟨_,_,_,_,_,_,rfl⟩ ?_ λenv β ⟨s1,s2,s3,s4,s5,s6,e⟩=>jh (d:=.bool true) rfl rfl
 rintro i d env β hi ⟨s1,s2,s3,s4,s5,s6,rfl⟩
 obtain⟨_,rfl⟩:=iZ hi
 rw[NL]
 refine⟨[.fz (du ns),.fz (.int i),s2,s3,s4,s5,s6],rfl,?_⟩
 obtain⟨z,ez⟩:=Hb ns i
 obtain⟨n,l,β1,e1,O,h6⟩:=Fj z
 obtain⟨t3,t4,t5,t6,hcl⟩:∃t3 t4 t5 t6:Sl,(aS ([0] ++ ([1] ++ [])) [.fz (du ns),.fz (.int i),s2,s3,s4,s5,s6]).set 2 (.fz (ar n l))=le ns i n l t3 t4 t5 t6:=⟨_,_,_,_,rfl⟩
 refine dS (d:=ar n l) (β1:=β) (Ij (z:=z) (vB (ds:=[du ns,.int i]) rfl ez) e1) (wp_at _ hcl ?_)
 have hs:(xH n l).length<=39:=by have:=Gu (l:=l) h6;omega
 obtain⟨rs,er,ew,hF⟩:=K8 O hs
 obtain⟨t5,t6,hcl⟩:∃t5' t6':Sl,((aS (([2] ++ []) ++ ([2] ++ [])) (le ns i n l t3 t4 t5 t6)).set 3 (.fz (.int (rs.length:Nat)))).set 4 (.ow (.list (rs.map tupI)))=le ns i n l (.fz (.int (rs.length:Nat))) (.ow (.list (rs.map tupI))) t5' t6':=⟨_,_,rfl⟩
 refine BS (ax (ds:=[ar n l]) rfl ew) (vB (ds:=[ar n l]) rfl er) (wp_at _ hcl ?_)
 have hn:=hF.le O
 have hne:=hF.ne
 have htell:CZ [.list (rs.map tupI),ar n l]=.ok (.bool true) false:=IZ O.hi (by have:=hF.few;omega) hne (λr hr=>(hF.row r hr).1) (by rw[GJ hne,hF.tell O])
 have k1:eZ (aw AG (aa (gv 3) ag)) (vl (le ns i n l (.fz (.int (rs.length:Nat))) (.ow (.list (rs.map tupI))) t5 t6)) β=.ok true β:=cI (ax (ds:=[.int (rs.length:Nat)]) rfl (Ee rfl))
 have k2:eZ (pS CZ (gv 4) (gv 2)) (vl (le ns i n l (.fz (.int (rs.length:Nat))) (.ow (.list (rs.map tupI))) t5 t6)) β=.ok true β:=cI (Ah (d1:=.list (rs.map tupI)) (d2:=ar n l) rfl rfl htell rfl)
 have hlen:=kK (fa:=gv 4) (vs:=vl (le ns i n l (.fz (.int (rs.length:Nat))) (.ow (.list (rs.map tupI))) t5 t6)) (β:=β) (ds:=rs.map tupI) rfl
 rw[MC] at hlen
 have k3:=dh (neg:=true) hlen (fb:=gv 3) (j:=(rs.length:Nat)) rfl
 rw[My rfl,MB rfl] at k3
 refine dq (fR (bO k1) (fR (bO k2) k3)) (wp_at (le ns i n l (.fz (.int (rs.length:Nat))) (.ow (.list (rs.map tupI))) t5 t6) rfl ?_)
 refine GX (λenv b=>b=β/\∃t5,env=le ns i n l (.fz (.int (rs.length:Nat))) (.ow (.list (rs.map tupI))) t5 t6) ⟨decide ((rs.length:Int) > 1),β,cO _ _ _ _ (aB (x:=.int (rs.length:Nat)) (y:=.int 1) rfl rfl rfl),λh1=>?_,λ_=>oE ⟨_,_,rfl,rfl,_,rfl⟩⟩ ?_
 ·have h1:1 < rs.length:=by have:=Ng h1;omega
  refine wp_at (le ns i n l (.fz (.int (rs.length:Nat))) (.ow (.list (rs.map tupI))) t5 t6) rfl ?_
  obtain⟨c,hc⟩:∃c:Nat,c=rs.length - 1:=⟨_,rfl⟩
  have ec:∀s5,f2 (gv 3) (cst (.int 1)) nh (vl (le ns i n l (.fz (.int (rs.length:Nat))) (.ow (.list (rs.map tupI))) s5 t6)) β=.ok (.int (c:Int)) β:=λs5=>aB (x:=.int (rs.length:Nat)) (y:=.int 1) rfl rfl (by show some (int ((rs.length:Int) - 1))=_;rw[show ((c:Nat):Int)=(rs.length:Int) - 1 by omega])
  have ep:aL 1 [] (.nm 0) (cN (f2 (gv 3) (cst (.int 1)) nh)) jT (cY ag) (vl (le ns i n l (.fz (.int (rs.length:Nat))) (.ow (.list (rs.map tupI))) t5 t6)) β=.ok (lq (List.replicate c [])) β:=by
   rw[lM (ds:=dP 0 c) (λ_=>PyData.list []) (c5 (n:=c) (ec _) (by omega)) (by rw[dJ];omega) λd hd=>⟨_,rfl,lp an⟩]
   congr 2
   rw[List.map_const',dJ,List.map_replicate];rfl
  refine dS ep (wp_at (le ns i n l (.fz (.int (rs.length:Nat))) (.ow (.list (rs.map tupI))) (.fz (lq (List.replicate c []))) t6) rfl ?_)
  rcases Lx O hs (c:=c) (by omega) (by omega) with⟨hD,e⟩ | ⟨hD,t,zs,e,hz,hP⟩
  ·exact absurd hD (hF.least c (by omega) (by omega))
  have b2:=Ik 40 _ (List.replicate c []) 40 (by omega) hP (by rw[Nq];omega) (λps hp=>by rw[NK hp];simp)
  refine E1 (bO (cI (ax (ds:=[.tuple [.str "turn",au t,.tuple zs],ar n l,lq (List.replicate c [])]) (ac (ax (ds:=[ar n l,.int (c:Int)]) (ac rfl (ac (ec _) an)) e) (ac rfl (ac rfl an))) b2))) (oE ⟨_,_,rfl,rfl,_,rfl⟩)
 ·rintro env b ⟨rfl,t5,rfl⟩
  refine dS (d:=.list (rs.map tupI)) (β1:=b) (dA (x:=.list (rs.map tupI)) rfl rfl) (wp_at (le ns i n l (.fz (.int (rs.length:Nat))) (.ow (.list (rs.map tupI))) t5 (.fz (.list (rs.map tupI)))) rfl ?_)
  refine C5 (ds:=rs.map tupI) rfl rfl rfl (by rw[MC];omega) (wp_at (le ns i n l (.fz (.int (rs.length:Nat))) (.ow (.list (rs.map tupI ++ [.int 0]))) t5 (.fz (.list (rs.map tupI)))) rfl ?_)
  have k1:cC (f2 (aw FG (aa (gv 2) ag)) (gv 6) (cR true)) (vl (le ns i n l (.fz (.int (rs.length:Nat))) (.ow (.list (rs.map tupI ++ [.int 0]))) t5 (.fz (.list (rs.map tupI))))) b=.ok false b:=cO _ _ _ _ (aB (x:=.list (rs.map tupI)) (y:=.list (rs.map tupI)) (ax (ds:=[ar n l]) rfl er) rfl (by rw[BN,My rfl,MB rfl];rfl))
  have k2:cC (f2 (aw Jh (aa (gv 2) ag)) (gv 3) (cR true)) (vl (le ns i n l (.fz (.int (rs.length:Nat))) (.ow (.list (rs.map tupI ++ [.int 0]))) t5 (.fz (.list (rs.map tupI))))) b=.ok false b:=by
   have:=dh (neg:=true) (fa:=aw Jh (aa (gv 2) ag)) (fb:=gv 3) (vs:=vl (le ns i n l (.fz (.int (rs.length:Nat))) (.ow (.list (rs.map tupI ++ [.int 0]))) t5 (.fz (.list (rs.map tupI))))) (β:=b) (i:=(rs.length:Nat)) (j:=(rs.length:Nat)) (ax (ds:=[ar n l]) rfl ew) rfl
   rw[My rfl,MB rfl] at this
   exact this
  exact E1 (fR k1 k2) (oE ⟨_,_,rfl,_,_,_,_,_,_,rfl⟩)
end RM
namespace RO
open PySem L2
abbrev kJ:Stmt:=RQ.fJ
abbrev nH:Stmt:=RQ.top 13
abbrev Fn (K:Frag)(mg:Str->Option Value)(x:Str)(st:Stmt)(ps:List Str)(f:Addr)(fd:FuncData):Prop:=gO K mg x st ps f fd
abbrev Bt (mg:Str->Option Value):Prop:=i7 mg
end RO
section
namespace L2
open PySem PySem.Spec PyProof.Rows
section
variable {K:Frag}{H H':Hp}{a:Addr}
theorem ba.snoc {x y:Int}(q:gM K H a [.int x,.int y]):∀{vs:List V} {ps:List (Int×Int)},ba K H vs ps->ba K H (vs ++ [.ref a]) (ps ++ [(x,y)])
 |_,_,.nil=>.cons ⟨a,rfl,q⟩ .nil
 |_,_,.cons r t=>.cons r (ba.snoc q t)
def ba.len {vs:List V}{ps:List (Int×Int)}(h:ba K H vs ps):vs.length=ps.length:=Paired.length h
def ba.same {vs:List V}{ps:List (Int×Int)}(h:ba K H vs ps)(s:ah H H'):ba K H' vs ps:=h.grow s.grow
def ba.at {vs:List V}{ps:List (Int×Int)}{i:Nat}{v:V}(h:ba K H vs ps)(e:vs[i]? =some v):∃p:Int×Int,ps[i]? =some p/\∃b,v=.ref b/\gM K H b [.int p.1,.int p.2]:=Paired.getP h e
def ah.put {o:HO}(s:ah H H')(h:H a=none)(hf:∀x y,H' a≠some (.aS x y)):ah H (L2.upd H' a o):=λb u e=>lI (s b u e) (aJ e h) hf
def Fu (h:H a=none):∀x y,H a≠some (.aS x y):=λx y z=>by rw[h] at z;cases z
def IC {xs:List V}(h:H a=some (.lst xs)):∀x y,H a≠some (.aS x y):=λx y z=>by rw[h] at z;cases z
end
end L2
namespace RO
open PySem L2
def Ct (N:List Str)(sc:Scope)(NB:List Str)(own:Nat)(ixs:List Nat)(scope:Scope):Bool:=
 decide (scope.kind=.function) && (scope.names.all λy=>decide (scope.names.lookup y.1=some y.2)) &&
 (scope.names.all λy=>decide (y.2=.free->(sc.names.lookup y.1=some .cell\/sc.names.lookup y.1=some .free))) && decide NB.Nodup && decide (NB.length=own + ixs.length) &&
 ((List.range ixs.length).all λk=>decide (NB[own + k]? =N[ixs.getD k 0]?) && (match NB[own + k]? with |some x=>decide ((x,NameKind.free)∈scope.names) |none=>true))
def oz {X:Cx}{NB:List Str}{own:Nat}{ixs:List Nat}{scope:Scope}(h:Ct X.N X.env.scope NB own ixs scope=true):bY X NB own ixs scope:=by
 unfold Ct at h
 simp only[MP,MV,MT,Nb] at h
 obtain⟨⟨⟨⟨⟨h1,h3⟩,h4⟩,h5⟩,h6⟩,h7⟩:=h
 refine⟨h1,h3,h4,h5,h6,λk hk=>⟨(h7 k hk).1,λx hx=>?_⟩⟩
 have:=(h7 k hk).2
 rw[hx] at this
 simpa using this
section
variable {X:Cx}{tg l:Expr}{tl:TE}{K:Frag}{H H1:Hp}{a:Addr}{xs:List V}{σ:St}
def KC (K:Frag)(tl:TE):TI:=λσ H R=>tl σ H λx H1=>∃a xs,x=.ref a/\((gN K H1 a xs/\R (AH K a) H1)\/(gM K H1 a xs/\R (FD K a) H1))
end
def Ma (K:Frag){X:Cx}(h:X.K=K:=by rfl):CM X (Il K):=by subst h;exact ij
def HY (K:Frag)(i j:Nat){X:Cx}{x y:Str}{px py pos:Pos}{k:Nat}(hN:X.N.Nodup)(hi:X.N[i]? =some x)(hj:X.N[j]? =some y)(hx:X.env.scope.names.lookup x=some .local)(hy:X.env.scope.names.lookup y=some .local)(hc:X.calm=true)(hK:X.K=K) :
  PG X (.Tuple [.Name x px,.Name y py] k pos) (Fe K 2 (qb (l9 i) (qb (l9 j) E8))):=by
 subst hK
 exact qJ hc (dW (dg hN hi (Or.inl hx) (Or.inr hx)) (dW (dg hN hj (Or.inl hy) (Or.inr hy)) nK))
section
open PySem.Spec PyProof.Rows
variable {X:Cx}{tg l:Expr}{tl:TE}
def G8 (hl:PE X l tl):PI X tg l (KC X.K tl):=by
 intro pins s σ H R I h
 refine cD (hl pins s σ H _ I h) λv s1 ⟨x,H1,I1,r1,q1⟩=>?_
 obtain⟨a,xs,e,q⟩:=q1
 subst e
 cases r1
 rcases q with⟨hq,q⟩ | ⟨hq,q⟩
 ·obtain⟨its,rv,p,hz⟩:=I1.list hq
  refine Oc p.isList ?_
  refine⟨s1.heap.objs.size,[s1.heap.objs.size],_,_,H1,rfl,I1.kept (t':=s1.toks) λb o e=>MD _ e,oh a _,⟨_,MO _ rfl,rfl,rfl⟩,λb hb=>?_,q⟩
  have e:b=s1.heap.objs.size:=by simpa using hb
  subst e
  exact I1.fpOk (MA _) (I1.hok.fresh (MA _))
 ·obtain⟨its,rv,p,hz⟩:=I1.tuple hq
  refine wpAny_pyIter_tuple (show s1.heap.IsTuple a its.toArray from p) ?_
  refine⟨s1.heap.objs.size,[s1.heap.objs.size],_,_,H1,rfl,I1.kept (t':=s1.toks) λb o e=>MD _ e,p6 a _,⟨_,MO _ rfl,rfl,rfl⟩,λb hb=>?_,q⟩
  have e:b=s1.heap.objs.size:=by simpa using hb
  subst e
  exact I1.fpOk (MA _) (I1.hok.fresh (MA _))
end
section
variable {K:Frag}{H H1 H':Hp}{a:Addr}{xs:List V}{σ:St}
abbrev IJ (J:It)(g:TG)(tb:TS)(D:Ends)(σ:St)(H:Hp):Prop:=∃W:Nat->Nat->St->Hp->Prop,(∃m,W 0 m σ H)/\∀i m σ H,W i m σ H->
   (J.stop i H/\D.nx σ H)\/(J.go i H/\∃N:St->Hp->Prop,(∀σ' H',N σ' H'->∃m',m' < m/\W (i + 1) m' σ' H')/\∀x H',J.yld i H x H'->g x σ H' λσ2 H2=>tb {D with nx:=N,ct:=N,bk:=D.nx} σ2 H2)
def DU (s:ah H1 H')(hq:gN K H1 a xs\/gM K H1 a xs):gN K H' a xs\/gM K H' a xs:=hq.elim (λq=>.inl (s.seq q)) λq=>.inr (q.grow s.grow)
def DH {g:TG}{tb:TS}{D:Ends}(hq:gN K H1 a xs\/gM K H1 a xs)(Pv:Nat->St->Hp->Prop)(h0:Pv 0 σ H)(hl:∀i σ H',Pv i σ H'->ah H1 H')
  (hs:∀i x σ H,xs[i]? =some x->Pv i σ H->g x σ H λσ2 H2=>tb {D with nx:=Pv (i + 1),ct:=Pv (i + 1),bk:=D.nx} σ2 H2) (hd:∀σ H,Pv xs.length σ H->D.nx σ H) :
  (gN K H a xs/\IJ (AH K a) g tb D σ H)\/(gM K H a xs/\IJ (FD K a) g tb D σ H):=
 hq.elim (λq=>.inl ⟨(hl _ _ _ h0).seq q,vD Pv h0 (λi σ H' _ p=>(hl i σ H' p).seq q) hs hd⟩) λq=>.inr ⟨q.grow (hl _ _ _ h0).grow,Ef Pv h0 (λi σ H' _ p=>q.grow (hl i σ H' p).grow) hs hd⟩
def yP (J:It)(own:Nat)(ixs:List Nat)(g:TG)(tt:TT)(te:TE)(Q:VK)(D:Addr)(σ:St)(H:Hp):Prop:=∃W:Nat->Nat->St->Hp->Prop,(∃m,W 0 m (dM own ixs σ) (upd H D (.lst [])))/\∀i m σ' H',W i m σ' H'->
   (J.stop i H'/\(∃acc,H' D=some (.lst acc))/\Q (.ref D) H')\/
   (J.go i H'/\∃N:St->Hp->Prop,(∀σ2 H2,N σ2 H2->∃m',m' < m/\W (i + 1) m' σ2 H2)/\∀x H2,J.yld i H' x H2->fO g tt te D x σ' H2 N)
structure wG (own:Nat)(ixs:List Nat)(wi:TI)(g:TG)(tt:TT)(te:TE)(σ:St)(H:Hp)(Q:VK):Prop where
 out:wi σ H λJ H1=>∀D,H1 D=none->yP J own ixs g tt te Q D σ H1
def xi {own:Nat}{ixs:List Nat}{wi:TI}{g:TG}{tt:TT}{te:TE}{Q:VK}(h:wi σ H λJ H1=>∀D,H1 D=none->yP J own ixs g tt te Q D σ H1):wG own ixs wi g tt te σ H Q:=⟨h⟩
def ur {X:Cx}{NB:List Str}{own:Nat}{ixs:List Nat}{scope:Scope}{tg iter elt:Expr}{ifs:List Expr}{wi:TI}{g:TG}{tt:TT}{te:TE}{pos:Pos}(hc:X.calm=true)(S:bY X NB own ixs scope)(hi:PI X tg iter wi)
  (hg:∀C ex s3 H3 pn,PG (ji X NB scope C ex s3 H3 pn) tg g) (ht:∀C ex s3 H3 pn,Bf (ji X NB scope C ex s3 H3 pn) ifs tt) (he:∀C ex s3 H3 pn,PE (ji X NB scope C ex s3 H3 pn) elt te)
  (hs:∀x,foldedSetIterable iter X.env x=pure x:=by intro _;rfl):PE X (.ListComp elt [⟨tg,iter,ifs,0⟩] scope pos) (wG own ixs wi g tt te):=
 λpins s σ H Q I h=>vj hc S hi hg ht he hs pins s σ H Q I h.out
section
variable {own:Nat}{ixs:List Nat}{g:TG}{tt:TT}{te:TE}{Q:VK}{D:Addr}
def Eh (Pv:Nat->St->Hp->Prop)(h0:Pv 0 (dM own ixs σ) (upd H D (.lst [])))(hl:∀i σ H,i<=xs.length->Pv i σ H->gN K H a xs)
  (hs:∀i x σ H,xs[i]? =some x->Pv i σ H->fO g tt te D x σ H (Pv (i + 1))) (hd:∀σ H,Pv xs.length σ H->(∃acc,H D=some (.lst acc))/\Q (.ref D) H):yP (AH K a) own ixs g tt te Q D σ H:=zU Pv h0 hl hs hd
def vh {lo:Int}{n:Nat}(Pv:Nat->St->Hp->Prop)(h0:Pv 0 (dM own ixs σ) (upd H D (.lst [])))
  (hs:∀i σ H,i < n->Pv i σ H->fO g tt te D (.int (lo + i)) σ H (Pv (i + 1))) (hd:∀σ H,Pv n σ H->(∃acc,H D=some (.lst acc))/\Q (.ref D) H):yP (BL lo n) own ixs g tt te Q D σ H:=xC Pv h0 hs hd
end
def v3 {i:Nat}{te:TE}{D:Addr}{x:V}{N:St->Hp->Prop}(h:te (σ.set i (some x)) H λv H5=>∃acc,H5 D=some (.lst acc)/\acc.length < sizeLine/\N (σ.set i (some x)) (upd H5 D (.lst (acc ++ [v])))):fO (l9 i) HN te D x σ H N:=by
 unfold fO l9 HN
 exact qe h
def Bv {i j:Nat}{x y:V}{Q:St->Hp->Prop}(h:gM K H a [x,y])(q:Q ((σ.set i (some x)).set j (some y)) H):Fe K 2 (qb (l9 i) (qb (l9 j) E8)) (.ref a) σ H Q:=⟨a,_,rfl,h,rfl,x,_,rfl,y,_,rfl,rfl,q⟩
def Lo {c A B:Prop}[Decidable c](h:c)(a:A):if c then A else B:=by rw[My h];exact a
def Lz {c A B:Prop}[Decidable c](h:¬c)(b:B):if c then A else B:=by rw[MG h];exact b
def take_snoc {α:Type}{l:List α}{i:Nat}{x:α}(h:l[i]? =some x):l.take (i + 1)=l.take i ++ [x]:=by
 rw[List.take_add_one,h];rfl
def take_all {α:Type}(l:List α):l.take l.length=l:=List.take_of_length_le (MA _)
end
def fK (n:Nat):(OM.cB n).length=n * n:=by unfold OM.cB;simp
def EB {n i:Nat}(h:i < n * n):(OM.cB n)[i]? =some (((i / n:Nat):Int),((i % n:Nat):Int)):=by
 unfold OM.cB
 rw[ML,Oi h];rfl
def Mh {n:Nat}(h:n<=8):n * n<=64:=N4 h h
section
variable {P:Program}{w:World}{K:Frag}{mg:Str->Option Value}{base:Heap}
def yH (K:Frag):Sp:=λvs H Q _=>∃n:Nat,vs= [.int n]/\1<=n/\n<=8/\∀H' l ws,ah H H'->H l=none->H' l=some (.lst ws)->ba K H' ws (OM.cB n)->Q (.ref l) H'
def Du:aF ["many"] ["many"] (ao kJ):=⟨rfl,rfl,rfl,by decide +kernel,rfl,by decide +kernel,by decide +kernel⟩
def JX:(["number","many"]:List Str).Nodup:=by decide +kernel
def AZ {f:Addr}{fd:FuncData}(F:Fn K mg "every_pair" kJ ["many"] f fd)(B:Bt mg):e8 P w K mg base GP 1 f fd ["many"] (yH K):=by
 refine F.F.ok Du (λvs H Q E h=>?_) (λcdv A outer s H vs Q E hr h=>?_)
 ·obtain⟨n,rfl,_⟩:=h;rfl
 ·obtain⟨n,rfl,h1,h8,k⟩:=h
  refine⟨_,jG (ou (ur (NB:=["number","many"]) (own:=1) (ixs:=[0]) rfl (oz (by kernel_rfl)) (lR rfl B.range (aQ (sE lC (pv 0) (pv 0)) bS))
   (λC ex s3 H3 pn=>dg (i:=0) JX rfl (Or.inl rfl) (hf:=Or.inr rfl)) (λC ex s3 H3 pn=>uU)
   (λC ex s3 H3 pn=>wQ (aQ (sE tZ (pv 0) (pv 1)) (aQ (sE mM (pv 0) (pv 1)) bS))))),?_⟩
  have hn:=Mh h8
  have e0:((n:Int) * (n:Int))=((n * n:Nat):Int):=by rw[Int.natCast_mul]
  refine xi ⟨_,rfl,_,rfl,_,_,rfl,rfl,.inl ⟨by omega,by omega⟩,_,rfl,by rw[e0];omega,by rw[e0];omega,λD hD=>?_⟩
  rw[e0,Nf]
  refine vh (λi σ' H'=>(∃v,σ'= [v,some (.int n)])/\ah H H'/\∃vs,H' D=some (.lst vs)/\ba K H' vs ((OM.cB n).take i)) ⟨⟨none,rfl⟩,(ah.refl H).put hD (Fu hD),[],aA,.nil⟩ ?_ ?_
  ·rintro i σ' H' hi ⟨⟨v,rfl⟩,s1,vs,hv,hp⟩
   have hn0:(0:Int) < (n:Int):=by omega
   refine v3 ⟨_,rfl,_,rfl,_,_,rfl,rfl,⟨hn0,by omega⟩,_,rfl,_,rfl,_,_,rfl,rfl,hn0,by show 2<=sizeLine;rw[Nc];omega,λp hp0=>?_⟩
   have hpD:D≠p:=aJ hv hp0
   have hl:=hp.len
   refine⟨vs,by rw[ay hpD];exact hv,?_,⟨_,rfl⟩,?_,vs ++ [.ref p],aA,?_⟩
   ·rw[hl,Np,Nc];rw[fK];omega
   ·exact (s1.put (s1.free hp0) (Fu hp0)).put hD (IC (xs:=vs) (by rw[ay hpD];exact hv))
   ·rw[take_snoc (EB hi)]
    have g1:i5 H' (upd H' p (.tup [.int ((0 + (i:Int)) / n),.int ((0 + (i:Int)) % n)])):=i5.new hp0
    have g2:∀o,i5 (upd H' p (.tup [.int ((0 + (i:Int)) / n),.int ((0 + (i:Int)) % n)])) (upd (upd H' p (.tup [.int ((0 + (i:Int)) / n),.int ((0 + (i:Int)) % n)])) D o):=λo=>i5.list (by rw[ay hpD];exact hv)
    refine ba.snoc ?_ (hp.grow (g1.trans (g2 _)))
    refine (gM.grow ?_ (g2 _))
    refine .inl (.inl ?_)
    rw[aA,NL];rfl
  ·rintro σ' H' ⟨_,s1,vs,hv,hp⟩
   refine⟨⟨_,hv⟩,k H' D vs s1 hD hv ?_⟩
   rw[<-fK n,take_all] at hp
   exact hp
end
end RO
end
namespace RO
open PySem L2
structure TabAt (n:Nat)(M:OM.Tb)(L:Addr)(r:Nat->Addr)(H:Hp):Prop where
 top:H L=some (.lst ((List.range n).map λi=>V.ref (r i)))
 row:∀i,i < n->H (r i)=some (.lst ((List.range n).map λj=>V.bl (M i j)))
 inj:∀i j,i < n->j < n->r i=r j->i=j
 ne:∀i,i < n->r i≠L
def yF {n x:Nat}(h:x < n):q8 n (x:Int)=some x:=by
 unfold q8;rw[My (by omega),My (by omega)];simp
def Ck {α:Type}{xs:List α}{x:Nat}(h:x < xs.length):k9 xs (x:Int)=xs[x]?:=by
 unfold k9;rw[yF h];rfl
def gE {f:Nat->V}{n x:Nat}(h:x < n):k9 ((List.range n).map f) (x:Int)=some (f x):=by
 rw[Ck (by simpa using h),ML,Oi h];rfl
def so {f:Nat->V}{n x:Nat}(h:x < n):q8 ((List.range n).map f).length (x:Int)=some x:=by
 rw[MC,NC];exact yF h
def AM {f:Nat->V}{n y:Nat}{v:V}:((List.range n).map f).set y v=(List.range n).map λj=>if j=y then v else f j:=by
 apply List.ext_getElem?
 intro i
 by_cases hi:i < n
 ·by_cases e:y=i
  ·subst e;simp[List.getElem?_set,hi]
  ·have e':¬i=y:=λz=>e z.symm
   simp[List.getElem?_set,hi,e,e']
 ·rw[N0 (by simp;omega),N0 (by simp;omega)]
section
variable {n:Nat}{M:OM.Tb}{L:Addr}{r:Nat->Addr}{H H':Hp}
def TabAt.set (T:TabAt n M L r H){x y:Nat}(hx:x < n):TabAt n (M.set x y) L r (upd H (r x) (.lst (((List.range n).map λj=>V.bl (M x j)).set y (.bl true)))):=by
 refine⟨by rw[ay (T.ne x hx).symm];exact T.top,λi hi=>?_,T.inj,T.ne⟩
 by_cases e:i=x
 ·subst e
  rw[aA,AM]
  refine congrArg _ (congrArg _ (NV λj _=>?_))
  unfold OM.Tb.set
  by_cases c:j=y
  ·simp[c]
  ·simp[c]
 ·rw[ay (λz=>e (T.inj i x hi hx z)),T.row i hi]
  refine congrArg _ (congrArg _ (NV λj _=>?_))
  unfold OM.Tb.set;simp[e]
def TabAt.same (T:TabAt n M L r H)(s:ah H H'):TabAt n M L r H':=⟨s _ _ T.top,λi hi=>s _ _ (T.row i hi),T.inj,T.ne⟩
end
def t7 {n:Nat}{ps:List (Int×Int)}(w:OM.Wn n ps){p:Int×Int}(h:p∈ps):∃u v:Nat,p=((u:Int),(v:Int))/\u < n/\v < n:=by
 obtain⟨x,y⟩:=p
 have q:=w _ h
 simp only at q
 exact⟨x.toNat,y.toNat,by rw[Int.toNat_of_nonneg q.1.1,Int.toNat_of_nonneg q.2.1],by omega,by omega⟩
def jA {M0 M:OM.Tb}{m:Nat}{D D':Nat->Nat->Prop}(P:OM.Phase M0 M m D)(h:∀a b,D a b↔D' a b):OM.Phase M0 M m D':=λa b=>by rw[P a b,h a b]
def lV {l:List (Int×Int)}{u v a b:Nat}:(((a:Int),(b:Int))∈l\/(a=u/\b=v))↔((a:Int),(b:Int))∈l ++ [((u:Int),(v:Int))]:=by
 rw[MU,M4,Prod.mk.injEq]
 constructor
 ·rintro (h | ⟨h1,h2⟩)
  ·exact .inl h
  ·exact .inr ⟨by omega,by omega⟩
 ·rintro (h | ⟨h1,h2⟩)
  ·exact .inl h
  ·exact .inr ⟨by omega,by omega⟩
def Ec {M:OM.Tb}{u v a b:Nat}:M.set u v a b=true↔M a b=true\/(a=u/\b=v):=by
 unfold OM.Tb.set
 by_cases c:a=u/\b=v
 ·simp[c]
 ·rw[MG c];exact⟨.inl,λh=>h.resolve_right c⟩
def JA (n:Nat)(x:V):(List.replicate n [x]).flatten=(List.range n).map λ_=>x:=by
 rw[List.flatten_replicate_singleton,List.map_const',NC]
section
variable {P:Program}{w:World}{K:Frag}{mg:Str->Option Value}{base:Heap}
def A1 (K:Frag):Sp:=λvs H Q _=>∃(n:Nat) (a:Addr) (xs:List V) (ps:List (Int×Int)),vs= [.int n,.ref a]/\1<=n/\n<=8/\(gN K H a xs\/gM K H a xs)/\ba K H xs ps/\OM.Wn n ps/\
 ∀H' t ws,ah H H'->H t=none->H' t=some (.tup ws)->ba K H' ws (OM.iw n (OM.Tr (OM.Mem ps)))->Q (.ref t) H'
def gG:aF ["many","pairs","corners","leads","a","b","middle"] ["many","pairs"] (ao nH):=⟨rfl,rfl,rfl,by decide +kernel,rfl,by decide +kernel,by decide +kernel⟩
def J6:(["start","many"]:List Str).Nodup:=by decide +kernel
def He:(["a","b","leads"]:List Str).Nodup:=by decide +kernel
set_option maxHeartbeats 1000000 in
theorem AF {f g:Addr}{fd gd:FuncData}(F:Fn K mg "closed" nH ["many","pairs"] f fd)(G:Fn K mg "every_pair" kJ ["many"] g gd)(GE:e8 P w K mg base GP 1 g gd ["many"] (yH K))(B:Bt mg):e8 P w K mg base GP 2 f fd ["many","pairs"] (A1 K):=by
 refine F.F.ok gG (λvs H Q E h=>?_) (λcdv A outer s H vs Q E hr h=>?_)
 ·obtain⟨n,a,xs,ps,rfl,_⟩:=h;rfl
 ·obtain⟨n,a,xs,ps,rfl,h1,h8,hq,hp,wn,k⟩:=h
  refine⟨_,iO (uG (i:=2) gG.nd rfl (Or.inl rfl) (jH GE hr rfl G.mg G.F.kp G.b .nil Jc (aQ (pv 0) bS)))
   (iO (uG (i:=3) gG.nd rfl (Or.inr rfl) (ur (NB:=["start","many"]) (own:=1) (ixs:=[0]) rfl (oz (by kernel_rfl)) (lR rfl B.range (aQ (pv 0) bS))
    (λC ex s3 H3 pn=>dg (i:=0) J6 rfl (Or.inl rfl) (hf:=Or.inr rfl)) (λC ex s3 H3 pn=>uU) (λC ex s3 H3 pn=>sE De (Bn (aQ yE bS)) (pv 1))))
   (iO (uA PassesOwn.never rfl (G8 (pv 1)) (qJ rfl (dW (dg (i:=4) gG.nd rfl (Or.inl rfl)) (dW (dg (i:=5) gG.nd rfl (Or.inl rfl)) nK)))
    (jG (p0 yE (tW (mf ij (pv 3) (pv 4) (λ_ _=>rfl)) (pv 5) set_list))))
   (iO (uA PassesOwn.never rfl (lR rfl B.range (aQ (pv 0) bS)) (dg (i:=6) gG.nd rfl (Or.inl rfl))
    (jG (uA PassesOwn.never rfl (yM (pv 2)) (qJ rfl (dW (dg (i:=4) gG.nd rfl (Or.inl rfl)) (dW (dg (i:=5) gG.nd rfl (Or.inl rfl)) nK)))
     (jG (FC (PW.pt (BF (xJ (mf ij (mf ij (pv 3) (pv 4) (λ_ _=>rfl)) (pv 6) (λ_ _=>rfl))) (yr (xJ (mf ij (mf ij (pv 3) (pv 6) (λ_ _=>rfl)) (pv 5) (λ_ _=>rfl))))))
      (jG (p0 yE (tW (mf ij (pv 3) (pv 4) (λ_ _=>rfl)) (pv 5) set_list))) yJ)))))
   (jG (ou (lW c7 rfl B.tuple (by decide +kernel) (aQ (ur (NB:=["a","b","leads"]) (own:=2) (ixs:=[3]) rfl (oz (by kernel_rfl)) (yM (pv 2))
    (λC ex s3 H3 pn=>HY K 0 1 He rfl rfl rfl rfl rfl rfl)
    (λC ex s3 H3 pn=>zq (xJ (mf (Ma K) (mf (Ma K) (pv 2) (pv 0) (λ_ _=>rfl)) (pv 1) (λ_ _=>rfl)))) (λC ex s3 H3 pn=>wQ (aQ (pv 0) (aQ (pv 1) bS)))) bS))))))),?_⟩
  have hn:=Mh h8
  have hn0:(0:Int)<=(n:Int):=by omega
  refine⟨_,rfl,n,rfl,h1,h8,λH1 c ws s1 hc0 hc hw=>?_⟩
  have hwl:ws.length=n * n:=by rw[hw.len,fK]
  have gw:OM.Wn n (OM.cB n):=λp hp=>OM.bC.mp hp
  refine xi ?_
  refine⟨_,rfl,n,rfl,by omega,by omega,λD hD=>?_⟩
  rw[Nf]
  refine vh (λi σ' H'=>(∃v,σ'= [v,some (.int n)])/\ah H1 H'/\∃r:Nat->Addr,H' D=some (.lst ((List.range i).map λk=>V.ref (r k)))/\
   (∀k,k < i->H' (r k)=some (.lst ((List.range n).map λ_=>V.bl false))/\H1 (r k)=none/\r k≠D)/\∀j k,j < i->k < i->r j=r k->j=k)
   ?_ ?_ ?_
  ·exact⟨⟨none,rfl⟩,(ah.refl H1).put hD (Fu hD),λ_=>0,aA,λk hk=>absurd hk (Nat.not_lt_zero _),λj k hj=>absurd hj (Nat.not_lt_zero _)⟩
  ·rintro i σ' H' hi ⟨⟨v,rfl⟩,s2,r,hr0,hr1,hr2⟩
   refine v3 ⟨by show 1<=sizeLine;rw[Nc];omega,λp hp0=>⟨_,rfl,p,n,[.bl false],rfl,rfl,aA,by omega,by omega,by show 1 * (n:Int).toNat<=sizeLine;rw[Nc];omega,λq hq0=>?_⟩⟩
   have hqp:q≠p:=by intro e;subst e;rw[aA] at hq0;cases hq0
   have hq1:H' q=none:=by rw[ay hqp] at hq0;exact hq0
   have hDp:D≠p:=aJ hr0 hp0
   have hDq:D≠q:=aJ hr0 hq1
   rw[Nf,JA]
   refine⟨_,by rw[ay hDq,ay hDp];exact hr0,by rw[MC,NC,Nc];omega,⟨_,rfl⟩,((s2.put (s2.free hp0) (Fu hp0)).put (s2.free hq1) (Fu hq0)).put hD (IC (by rw[ay hDq,ay hDp];exact hr0)),λk=>if k=i then q else r k,?_,λk hk=>?_,λj k hj hk e=>?_⟩
   ·have e:(List.range i).map (λk=>V.ref (r k))=(List.range i).map (λk=>V.ref (if k=i then q else r k)):=NV λk hk=>by
     have:=Nb.mp hk
     rw[MG (by omega)]
    rw[aA,List.range_succ,Nh,e]
    simp
   ·dsimp only
    by_cases e:k=i
    ·rw[My e]
     exact⟨by rw[ay hDq.symm,aA],s2.free hq1,hDq.symm⟩
    ·rw[MG e]
     obtain⟨a1,a2,a3⟩:=hr1 k (by omega)
     exact⟨by rw[ay a3,ay (aJ a1 hq1),ay (aJ a1 hp0)];exact a1,a2,a3⟩
   ·dsimp only at e
    by_cases ej:j=i
    ·by_cases ek:k=i
     ·omega
     ·rw[My ej,MG ek] at e
      exact absurd e.symm (aJ (hr1 k (by omega)).1 hq1)
    ·by_cases ek:k=i
     ·rw[MG ej,My ek] at e
      exact absurd e (aJ (hr1 j (by omega)).1 hq1)
     ·rw[MG ej,MG ek] at e
      exact hr2 j k (by omega) (by omega) e
  rintro σ2 H2 ⟨_,s2,r,hr0,hr1,hr2⟩
  refine⟨⟨_,hr0⟩,?_⟩
  have sep:∀i,i < n->H1 (r i)=none:=λi hi=>(hr1 i hi).2.1
  have T0:TabAt n (λ_ _=>false) D r H2:=⟨hr0,λi hi=>(hr1 i hi).1,hr2,λi hi=>(hr1 i hi).2.2⟩
  refine⟨_,rfl,a,xs,rfl,DH (H1:=H1) (DU s1 hq) (λi σ' H'=>(∃x y,σ'= [some (.int n),some (.ref a),some (.ref c),some (.ref D),x,y,none])/\ah H1 H'/\∃M,TabAt n M D r H'/\∀u v:Nat,M u v=true↔((u:Int),(v:Int))∈ps.take i)
   ⟨⟨none,none,rfl⟩,s2,_,T0,λu v=>by simp⟩ (λi σ' H' q=>q.2.1) ?_ ?_⟩
  ·rintro i x σ' H' hx ⟨⟨_,_,rfl⟩,s3,M,T,hM⟩
   obtain⟨p,hpi,b,rfl,hb⟩:=(hp.same (s1.trans s3)).at hx
   obtain⟨u,v,rfl,hu,hv⟩:=t7 wn (MS hpi)
   refine Bv hb ?_
   refine⟨_,rfl,_,rfl,D,_,u,_,rfl,rfl,.inl (.inl T.top),gE hu,_,rfl,r u,_,v,v,rfl,rfl,T.row u hu,so hv,⟨_,_,rfl⟩,s3.put (sep u hu) (IC (T.row u hu)),_,T.set hu,λx y=>?_⟩
   rw[take_snoc hpi,<-lV,Ec,hM]
  rintro σ3 H3 ⟨⟨x3,y3,rfl⟩,s3,M3,T3,hM3⟩
  rw[hp.len,take_all] at hM3
  refine⟨_,rfl,n,rfl,by omega,by omega,?_⟩
  rw[Nf]
  refine AK (λm σ' H'=>(∃x y z,σ'= [some (.int n),some (.ref a),some (.ref c),some (.ref D),x,y,z])/\ah H1 H'/\∃M,TabAt n M D r H'/\OM.Tab n ps M/\OM.Dp M m)
   ⟨⟨_,_,_,rfl⟩,s3,M3,T3,⟨λa b h=>by have:=wn _ ((hM3 a b).mp h);simp only at this;omega,λa b h=>(hM3 a b).mpr h,λa b h=>.one ((hM3 a b).mp h)⟩,λk a b hk=>absurd hk (Nat.not_lt_zero _)⟩ ?_ ?_
  ·rintro m σ' H' hm ⟨⟨_,_,_,rfl⟩,s4,M,T,TT,Th⟩
   rw[NL]
   refine⟨_,rfl,c,rfl,⟨ws,.inl (.inl (s4 _ _ hc))⟩,vD (xs:=ws) (λi σ' H'=>(∃x y,σ'= [some (.int n),some (.ref a),some (.ref c),some (.ref D),x,y,some (.int m)])/\ah H1 H'/\∃M',TabAt n M' D r H'/\OM.Phase M M' m λu v=>((u:Int),(v:Int))∈(OM.cB n).take i)
    ⟨⟨_,_,rfl⟩,s4,M,T,jA (OM.Phase.start M m) λa b=>by simp⟩ (λi σ' H' _ q=>.inl (.inl (q.2.1 _ _ hc))) ?_ ?_⟩
   ·rintro i x σ' H' hx ⟨⟨_,_,rfl⟩,s5,M',T',Ph⟩
    obtain⟨p,hpi,b,rfl,hb⟩:=(hw.same s5).at hx
    obtain⟨u,v,rfl,hu,hv⟩:=t7 gw (MS hpi)
    refine Bv hb ?_
    have st:=Ph.step u v
    refine⟨_,rfl,_,rfl,D,_,u,_,rfl,rfl,.inl (.inl T'.top),gE hu,_,rfl,r u,_,m,_,rfl,rfl,.inl (.inl (T'.row u hu)),gE hm,_,rfl,?_⟩
    by_cases c1:M' u m=true
    ·refine Lo c1 ?_
     refine⟨_,rfl,_,rfl,D,_,m,_,rfl,rfl,.inl (.inl T'.top),gE hm,_,rfl,r m,_,v,_,rfl,rfl,.inl (.inl (T'.row m hm)),gE hv,_,rfl,?_⟩
     by_cases c2:M' m v=true
     ·refine Lo c2 ?_
      rw[My ⟨c1,c2⟩] at st
      refine⟨_,rfl,_,rfl,D,_,u,_,rfl,rfl,.inl (.inl T'.top),gE hu,_,rfl,r u,_,v,v,rfl,rfl,T'.row u hu,so hv,⟨_,_,rfl⟩,s5.put (sep u hu) (IC (T'.row u hu)),_,T'.set hu,jA st λa b=>?_⟩
      rw[take_snoc hpi];exact lV
     ·refine Lz c2 ?_
      rw[MG λz=>c2 z.2] at st
      refine⟨⟨_,_,rfl⟩,s5,_,T',jA st λa b=>?_⟩
      rw[take_snoc hpi];exact lV
    ·refine Lz c1 ?_
     rw[MG λz=>c1 z.1] at st
     refine p7 ⟨⟨_,_,rfl⟩,s5,_,T',jA st λa b=>?_⟩
     rw[take_snoc hpi];exact lV
   ·rintro σ' H' ⟨⟨_,_,rfl⟩,s5,M',T',Ph⟩
    rw[hw.len,take_all] at Ph
    have dn:=Ph.done (n:=n) (λa b ha hb=>OM.bC.mpr ⟨⟨by simp,by simp;omega⟩,by simp,by simp;omega⟩) TT.inn Th
    exact⟨⟨_,_,_,rfl⟩,s5,M',T',TT.phase Ph,dn.1⟩
  rintro σ4 H4 ⟨⟨x4,y4,z4,rfl⟩,s4,M,T,TT,Th⟩
  refine xi ⟨_,rfl,c,rfl,⟨ws,.inl (.inl (s4 _ _ hc))⟩,λD' hD'=>Eh (xs:=ws) (λi σ' H'=>(∃x y,σ'= [x,y,some (.ref D)])/\ah H4 H'/\∃vs,H' D'=some (.lst vs)/\ba K H' vs (((OM.cB n).take i).filter λp=>M p.1.toNat p.2.toNat))
   ⟨⟨_,_,rfl⟩,(ah.refl H4).put hD' (Fu hD'),[],aA,.nil⟩ (λi σ' H' _ q=>.inl (.inl (q.2.1 _ _ (s4 _ _ hc)))) ?_ ?_⟩
  ·rintro i x σ' H' hx ⟨⟨_,_,rfl⟩,s5,vs,hv,hpv⟩
   obtain⟨p,hpi,b,rfl,hb⟩:=(hw.same (s4.trans s5)).at hx
   obtain⟨u,v,rfl,hu,hv'⟩:=t7 gw (MS hpi)
   refine Bv hb ?_
   have T':=T.same s5
   refine⟨_,rfl,_,rfl,D,_,u,_,rfl,rfl,.inl (.inl T'.top),gE hu,_,rfl,r u,_,v,_,rfl,rfl,.inl (.inl (T'.row u hu)),gE hv',_,rfl,?_⟩
   by_cases c1:M u v=true
   ·refine Lo c1 ?_
    refine⟨_,rfl,_,rfl,by show 2<=sizeLine;rw[Nc];omega,λp hp0=>?_⟩
    have hpD:D'≠p:=aJ hv hp0
    refine⟨vs,by rw[ay hpD];exact hv,?_,⟨_,_,rfl⟩,(s5.put (s5.free hp0) (Fu hp0)).put hD' (IC (by rw[ay hpD];exact hv)),_,aA,?_⟩
    ·rw[hpv.len]
     refine Nat.lt_of_le_of_lt (Nk ..) ?_
     rw[Np,fK,Nc];omega
    ·rw[take_snoc hpi,List.filter_append,List.filter_cons_of_pos (by simpa using c1),List.filter_nil]
     have g1:i5 H' (upd H' p (.tup [.int u,.int v])):=i5.new hp0
     have g2:∀o,i5 (upd H' p (.tup [.int u,.int v])) (upd (upd H' p (.tup [.int u,.int v])) D' o):=λo=>i5.list (by rw[ay hpD];exact hv)
     refine ba.snoc ?_ (hpv.grow (g1.trans (g2 _)))
     exact gM.grow (.inl (.inl aA)) (g2 _)
   ·refine Lz c1 ?_
    refine⟨⟨_,_,rfl⟩,s5,vs,hv,?_⟩
    rw[take_snoc hpi,List.filter_append,List.filter_cons_of_neg (by simpa using c1),List.filter_nil,NU]
    exact hpv
  ·rintro σ' H' ⟨_,s5,vs,hv,hpv⟩
   rw[hw.len,take_all] at hpv
   refine⟨⟨_,hv⟩,D',vs,rfl,.inl ⟨.inl (.inl hv),λt ht=>?_⟩⟩
   have sA:ah H H':=(s1.trans s4).trans s5
   refine k _ t vs (sA.put (sA.free ht) (Fu ht)) (sA.free ht) aA ?_
   have e:((OM.cB n).filter λp=>M p.1.toNat p.2.toNat)=OM.iw n (OM.Tr (OM.Mem ps)):=by
    unfold OM.iw
    refine Oe λp hp=>?_
    obtain⟨u,v,rfl,hu,hv⟩:=t7 gw hp
    have:=TT.all wn Th u v
    simp only[Nf]
    rw[Na,this]
    simp
   rw[e] at hpv
   exact hpv.grow (i5.new ht)
end
end RO
namespace RO
open PySem L2 RM
section
variable {P:Program}{w:World}{K:Frag}{mg:Str->Option Value}{base:Heap}{ca:Str->Addr}
def Mr {k:Nat}{f:Addr}{fd:FuncData}{ps:List Str}{sp:Sp}(F:e8 P w K mg base GP k f fd ps sp):e8 P w K mg base (mO P w) k f fd ps sp:=
 ⟨F.len,λA outer s H args us vs Q E hr he hb hv hs=>codeAny_mono (F.run A outer s H args us vs Q E hr he hb hv hs) λr s' h=>by
  cases r with
  |ok x=>cases x <;> exact h
  |error e=>exact h.elim⟩
def w8 {G H:Hp}(s:ah G H){ws:List V}{ps:List Pr}(h:ba K H ws ps):ba K (eY G H) ws ps:=Paired.mapP h λv p ⟨a,e,q⟩=>⟨a,e,mV s q⟩
def qN {ds:List D}(h:dG ds≠.bad):∃(n:Nat) (d:D) (ps:List Pr),ds= [.int n,d]/\mB d=some (ps.map au)/\1<=n/\n<=8/\OM.Wn n ps/\dG ds=.ok (.tuple ((OM.iw n (OM.Tr (OM.Mem ps))).map au)) false:=by
 unfold dG at h
 split at h
 ·rename_i n d
  cases q:mB d with
  |none=>rw[q] at h;exact absurd rfl h
  |some es=>
   rw[q] at h
   dsimp only at h
   cases q2:iU es with
   |none=>rw[q2] at h;exact absurd rfl h
   |some ps=>
    rw[q2] at h
    dsimp only at h
    by_cases c:1<=n/\n<=8/\OM.Wn n.toNat ps
    ·have e:((n.toNat:Nat):Int)=n:=by omega
     refine⟨n.toNat,d,ps,by rw[e],by rw[q,lS q2],by omega,by omega,c.2.2,?_⟩
     unfold dG
     dsimp only
     rw[q]
     dsimp only
     rw[q2]
     dsimp only
     rw[My c]
    ·rw[MG c] at h;exact absurd rfl h
 ·exact absurd rfl h
def xV {f g:Addr}{fd gd:FuncData}(F:gO K mg "closed" nH ["many","pairs"] f fd)(E:gO K mg "every_pair" kJ ["many"] g gd)(B:i7 mg):cn P w K mg base ca "closed" ["many","pairs"] 3 dG:=by
 refine⟨⟨f,fd,F.mg,F.F.kp,F.b,((Mr (AF F E (AZ E B) B)).mono (by decide)).imp ?_⟩,λds h=>?_⟩
 ·rintro vs H Q X ⟨G,ds,s,hl,r,h⟩
  have hb:dG ds≠.bad:=λz=>by rw[z] at h;exact h
  obtain⟨n,d,ps,rfl,hd,h1,h8,wn,e⟩:=qN hb
  rw[e] at h
  cases r with
  |cons r1 r=>
   cases r with
   |cons r2 r=>
    cases r
    cases r1
    obtain⟨a,xs,rfl,hq,hr⟩:=(l6.seq (B:=none) (G:=G) (H:=G) (.inl r2) hd (ah.refl _))
    refine⟨n,a,xs,ps,rfl,h1,h8,hq.elim (λq=>.inl (s.seq q)) (λq=>.inr (q.grow s.grow)),(hr.pairs).grow s.grow,wn,λH' t ws hh ht ht' hp=>?_⟩
    have s2:=s.trans hh
    refine h (.ref t) (eY G H') H' hh jX (iN s2) (λb m hb=>by rw[pC hh m];exact hb) ?_
    exact .tup (mV s2 (.inl (.inl ht'))) (ba.rps (w8 s2 hp))
 ·obtain⟨n,d,ps,rfl,_⟩:=qN h
  rfl
end
end RO
namespace HD
open PySem PySem.W
noncomputable abbrev Bk:=@PySem.W.Fast.tw10156331382660048174
noncomputable abbrev HC:=@PySem.W.Fast.tw11892475500146522536
noncomputable abbrev K7:=@PySem.W.Fast.tw6613529449190102663
noncomputable abbrev HV:=@PySem.W.Fast.tw14364793385576792824
noncomputable abbrev Fm:=@PySem.W.Fast.tw17154629097778926822
noncomputable abbrev A0:=@PySem.W.Fast.tw12822647523644345616
noncomputable def A4 (p:Program):Thread:=
 ⟨do
  let code <-Fm p.main
  let frame <-A0 code mainNs mainNs
  let _ <-run (.body (behindTheImports p) {scope:=p.main.scope,locals:=mainNs,globals:=mainNs,cells:=[],code,frame:=some frame})
  ret .none,
  .builtin "claim.caller" {},default,[]⟩
def BP (p:Program):topStub p=A4 p:=by
 unfold topStub A4 Fm A0
 rw[<-PySem.W.Fast.te17154629097778926822,<-PySem.W.Fast.te12822647523644345616]
noncomputable def pE (p:Program)(w:World)(n₀:Nat)(ann:Option Value):Nat->SharedT->Thread->Option SharedT
 | 0,_,_=>none
 |n + 1,s,t=>match through t with
  |true=>some s
  |false=>match K7 n₀ ann t with
   |false=>none
   |true=>match Bk (HC HV) p w s t with
    |some (s',t')=>pE p w n₀ ann n s' t'
    |none=>none
theorem sk {p:Program}{w:World}{n₀:Nat}{ann:Option Value}:∀{n:Nat} {s s':SharedT} {t:Thread},pE p w n₀ ann n s t=some s'->topRun treeTable p w n₀ ann n s.abs t=some s'.abs
 | 0,_,_,_,h=>by cases h
 |n + 1,s,s',t,h=>by
  unfold pE at h
  unfold topRun
  cases ht:through t with
  |true=>rw[ht] at h;cases h;rfl
  |false=>
   rw[ht] at h
   have hq:K7 n₀ ann t=stepOk n₀ ann t:=by unfold K7;rw[<-PySem.W.Fast.te6613529449190102663]
   dsimp only at h
   rw[hq] at h
   cases hk:stepOk n₀ ann t with
   |false=>rw[hk] at h;cases h
   |true=>
    rw[hk] at h
    have hq:Bk (HC HV) p w s t=stepT (denote treeTable) p w s t:=by unfold Bk HC HV;rw[<-PySem.W.Fast.te10156331382660048174,<-PySem.W.Fast.te11892475500146522536,<-PySem.W.Fast.te14364793385576792824]
    dsimp only at h
    rw[hq] at h
    cases hs:stepT (denote treeTable) p w s t with
    |none=>rw[hs] at h;cases h
    |some r=>obtain⟨s₂,t₂⟩:=r;rw[hs] at h;rw[stepT_spec hs];exact sk h
def treeOf (l:List Obj):BT:=(l.foldl (λ(x:BT×Nat) o=>(x.1.ins x.2 o,x.2 + 1)) (.nil,0)).1
noncomputable def C9 (P:Params):BT:=treeOf (boot_heap P).objs.toList
abbrev wt:Nat:=11
abbrev BK:Life:={}
def boot_abs (P:Params):absHeap (C9 P) wt BK=boot_heap P:=by kernel_rfl
def zx (w:World):((boot_heap w.params).isNs mainGlobals && (Array.mk ([]:List GenState)).size == 0,(boot_heap w.params).objs.size,(boot_heap w.params).nsMap mainGlobals "__annotations__")=(true,wt,some (.ref 6)):=by kernel_rfl
noncomputable def BX (w:World)(os:OsState):SharedT:=⟨C9 w.params,wt,BK,Array.mk [],boot_drawn,boot_toks,os⟩
noncomputable def FF (p:Program)(w:World)(s:Shared):Bool:=staticsOk (importedModules p.main.body) (boot_heap w.params) s.heap && namesBound p s.heap && gensDone s && laidKept (boot_heap w.params) s.heap
def D3 {p q:Program}{loose:List Str}{Xt:Shared->Bool}{α:Type}{Yf:Shared->α}{Ya:World->α}{N:Nat}{g0:Bool}
  (e:opening p=plainProg p.main.scope.names) (hN:Nat.ble 600 N=true) (f:∀s,fenceModules? p s=some s)
  (run:∀(w:World) (os:OsState),(pE p w wt (some (.ref 6)) N (BX w os) (A4 p)).map (λs=>(FF p w s.abs,openSeen q loose (importedModules p.main.body) Xt g0 s.abs,Yf s.abs))=some (true,openGood q loose,Ya w)):LeftO p q loose Xt Yf Ya N g0:=λw=>by
 obtain⟨⟨h,gs,d,k,os⟩,e,e'⟩:=Option.map_eq_some_iff.mp (boot_open e hN f w)
 obtain⟨rfl,rfl,rfl,rfl⟩:h=boot_heap w.params/\gs=Array.mk []/\d=boot_drawn/\k=boot_toks:=by simpa using e'
 obtain⟨z1,z2,z3⟩:_/\_/\_:=by simpa only [Prod.mk.injEq] using zx w
 obtain⟨s',r,ls⟩:=Option.map_eq_some_iff.mp (run w os)
 obtain⟨l1,l2,l3⟩:_/\_/\_:=by simpa only [Prod.mk.injEq] using ls
 have r:=sk r
 have ha:(BX w os).abs=⟨boot_heap w.params,Array.mk [],boot_drawn,boot_toks,os⟩:=by
  show Shared.mk (absHeap (C9 w.params) wt BK) _ _ _ _=_
  rw[boot_abs]
  rfl
 rw[ha,<-BP] at r
 have t:topFrom treeTable p w N ⟨boot_heap w.params,Array.mk [],boot_drawn,boot_toks,os⟩=some s'.abs:=by
  unfold topFrom
  dsimp only
  rw[z1,z2,z3,r]
  show (match FF p w s'.abs with |true=>_ |false=>_)=_
  rw[l1]
 unfold openEnds
 rw[e]
 show (topFrom treeTable p w N _).map _=_
 rw[t]
 exact congrArg some (Prod.ext l2 l3)
end HD
section
namespace RO
open PySem L2 RM
def Ha {T:Addr}{K:Frag}{ca:Str->Addr}(vs:List V)(H:Hp)(Q:VK)(E:XK)(h:uE T K vs H Q E):spT T K ca 1 HK vs H Q E:=by
 obtain⟨a,ns,rfl,hT,hS,q⟩:=h
 refine⟨H,[du ns],K0 hT,ah.refl _,rfl,.cons (.scr hS) .nil,?_⟩
 rw[JI]
 intro v G' H' s1 s2 s3 s4 fv
 have fv:Rp K G' v (.bool true):=fv
 cases fv
 exact q H' s1
def wY:aR "is_whole" RQ.kn ["thing"]:=λ_ _ _ _ _ _=>yS λ_=>rfl
def x6:aR "is_below" RQ.ke ["thing","bound"]:=λ_ _ _ _ _ _=>ln2 λ_ _=>rfl
def zC:aR "is_many" RQ.lP ["thing"]:=λ_ _ _ _ _ _=>yS λ_=>rfl
def zw:aR "is_pair" RQ.lN ["thing","many"]:=λ_ _ _ _ _ _=>ln2 λ_ _=>rfl
def tP:aR "every_pair" RQ.fJ ["many"]:=λ_ _ _ _ _ _=>yS λ_=>rfl
def BO:aR "closed" nH ["many","pairs"]:=λ_ _ _ _ _ _=>ln2 λ_ _=>rfl
def xF:aR "has_ring" RQ.kl ["pairs"]:=λ_ _ _ _ _ _=>yS λ_=>rfl
def xh:aR "is_order" RQ.kH ["thing"]:=λ_ _ _ _ _ _=>yS λ_=>rfl
def tS:aR "need_order" RQ.iy ["thing"]:=λ_ _ _ _ _ _=>yS λ_=>rfl
def vv:aR "are_apart" RQ.jE ["order","a","b"]:=λ_ _ _ _ _ _=>Dv λ_ _ _=>rfl
def uB:aR "with_thing" RQ.hZ ["placed","thing"]:=λ_ _ _ _ _ _=>ln2 λ_ _=>rfl
def rq:aR "masks_ahead" RQ.gx ["order"]:=λ_ _ _ _ _ _=>yS λ_=>rfl
def rM:aR "free_things" RQ.gz ["masks","placed"]:=λ_ _ _ _ _ _=>ln2 λ_ _=>rfl
def wF:aR "row_along" RQ.jD ["masks","late"]:=λ_ _ _ _ _ _=>ln2 λ_ _=>rfl
def Fd:aR "turns" RQ.pH ["order"]:=λ_ _ _ _ _ _=>yS λ_=>rfl
def wM:aR "is_sharp" RQ.kS ["order","a","b"]:=λ_ _ _ _ _ _=>Dv λ_ _ _=>rfl
def rH:aR "sharp_turns" RQ.gA ["order"]:=λ_ _ _ _ _ _=>yS λ_=>rfl
def x8:aR "leads_on" RQ.kM ["order","turn","other"]:=λ_ _ _ _ _ _=>Dv λ_ _ _=>rfl
def xU:aR "is_ahead" RQ.kQ ["masks","a","b"]:=λ_ _ _ _ _ _=>Dv λ_ _ _=>rfl
def vS:aR "is_turned" RQ.jq ["masks","turn"]:=λ_ _ _ _ _ _=>ln2 λ_ _=>rfl
def vk:aR "is_barred" RQ.jm ["masks","turn"]:=λ_ _ _ _ _ _=>ln2 λ_ _=>rfl
def xP:aR "put_turn" RQ.kx ["masks","turn"]:=λ_ _ _ _ _ _=>ln2 λ_ _=>rfl
def wC:aR "ring_with" RQ.jy ["order","put","turn"]:=λ_ _ _ _ _ _=>Dv λ_ _ _=>rfl
def zX:aR "case_of" RQ.l4 ["order","left","rows","number","turn"]:=λ_ _ _ _ _ _=>Mq λ_ _ _ _ _=>rfl
def wy:aR "free_rows" RQ.jC ["rows","turn"]:=λ_ _ _ _ _ _=>ln2 λ_ _=>rfl
def xS:aR "cases_on" RQ.kO ["order","left","rows"]:=λ_ _ _ _ _ _=>Dv λ_ _ _=>rfl
def Ei:aR "cases" RQ.pf ["order","count"]:=λ_ _ _ _ _ _=>ln2 λ_ _=>rfl
def rn:aR "fewest_rows" RQ.gy ["order"]:=λ_ _ _ _ _ _=>yS λ_=>rfl
def CB:aR "fewest" RQ.nt ["order"]:=λ_ _ _ _ _ _=>yS λ_=>rfl
def tV:aR "need_count" RQ.iG ["thing"]:=λ_ _ _ _ _ _=>yS λ_=>rfl
def ue:aR "case_paper" RQ.iu ["order","count"]:=λ_ _ _ _ _ _=>ln2 λ_ _=>rfl
def xo:aR "_law_box" RQ.kz ["script","k"]:=λ_ _ _ _ _ _=>ln2 λ_ _=>rfl
def vQ:aR "_law_take" RQ.jB ["box","many"]:=λ_ _ _ _ _ _=>ln2 λ_ _=>rfl
def uT:aR "_law_whole" RQ.iD ["thing"]:=λ_ _ _ _ _ _=>yS λ_=>rfl
def oW:aR "_law_shuffled" RQ.eM ["box","some"]:=λ_ _ _ _ _ _=>ln2 λ_ _=>rfl
def vI:aR "_law_told" RQ.jK ["many","rows"]:=λ_ _ _ _ _ _=>ln2 λ_ _=>rfl
def uP:aR "_law_order" RQ.ig ["box","most"]:=λ_ _ _ _ _ _=>ln2 λ_ _=>rfl
def uQ:aR "_law_apart" RQ.hX ["order","a","b"]:=λ_ _ _ _ _ _=>Dv λ_ _ _=>rfl
def vn:aR "_law_tell" RQ.ju ["rows","order"]:=λ_ _ _ _ _ _=>ln2 λ_ _=>rfl
def AA:aR "_law_on" RQ.lO ["order","one","other"]:=λ_ _ _ _ _ _=>Dv λ_ _ _=>rfl
def nR:aR "_law_turn_good" RQ.dI ["order","thing"]:=λ_ _ _ _ _ _=>ln2 λ_ _=>rfl
def vF:aR "_law_ring" RQ.jz ["order","thing"]:=λ_ _ _ _ _ _=>ln2 λ_ _=>rfl
def ui:aR "_law_shows" RQ.iF ["thing","order","put"]:=λ_ _ _ _ _ _=>Dv λ_ _ _=>rfl
def all_mk {T c0:Addr}{l:PySem.W.OpenLaw}{w:World}{K:Frag}{h:Heap}{mg:Str->Option Value}{fa f44:Addr}(X:K.In h)(G:h.Ns mainGlobals mg)(hfa:mg "law"=some (.ref fa))
  {od44 an44:Option Addr} {sl44:Array (Option Value)} {oc44 kV44 dc44 pm44 cd44 ct44:Value} {tMOST_ROWS:Tok} {tMOST_THINGS:Tok}
  (F1:Fo K mg "is_whole" RQ.kn ["thing"])
  (F2:Fo K mg "is_below" RQ.ke ["thing","bound"])
  (F3:Fo K mg "is_many" RQ.lP ["thing"])
  (F4:Fo K mg "is_pair" RQ.lN ["thing","many"])
  (F5:Fo K mg "every_pair" RQ.fJ ["many"])
  (F6:Fo K mg "closed" nH ["many","pairs"])
  (F7:Fo K mg "has_ring" RQ.kl ["pairs"])
  (F8:Fo K mg "is_order" RQ.kH ["thing"])
  (F9:Fo K mg "need_order" RQ.iy ["thing"])
  (F10:Fo K mg "are_apart" RQ.jE ["order","a","b"])
  (F11:Fo K mg "with_thing" RQ.hZ ["placed","thing"])
  (F12:Fo K mg "masks_ahead" RQ.gx ["order"])
  (F13:Fo K mg "free_things" RQ.gz ["masks","placed"])
  (F14:Fo K mg "row_along" RQ.jD ["masks","late"])
  (F15:Fo K mg "turns" RQ.pH ["order"])
  (F16:Fo K mg "is_sharp" RQ.kS ["order","a","b"])
  (F17:Fo K mg "sharp_turns" RQ.gA ["order"])
  (F18:Fo K mg "leads_on" RQ.kM ["order","turn","other"])
  (F19:Fo K mg "is_ahead" RQ.kQ ["masks","a","b"])
  (F20:Fo K mg "is_turned" RQ.jq ["masks","turn"])
  (F21:Fo K mg "is_barred" RQ.jm ["masks","turn"])
  (F22:Fo K mg "put_turn" RQ.kx ["masks","turn"])
  (F23:Fo K mg "ring_with" RQ.jy ["order","put","turn"])
  (F24:Fo K mg "case_of" RQ.l4 ["order","left","rows","number","turn"])
  (F25:Fo K mg "free_rows" RQ.jC ["rows","turn"])
  (F26:L8 K mg "cases_on" RQ.kO ["order","left","rows"] c0)
  (F27:Fo K mg "cases" RQ.pf ["order","count"])
  (F28:Fo K mg "fewest_rows" RQ.gy ["order"])
  (F29:Fo K mg "fewest" RQ.nt ["order"])
  (F30:Fo K mg "need_count" RQ.iG ["thing"])
  (F31:Fo K mg "case_paper" RQ.iu ["order","count"])
  (F32:Fo K mg "_law_box" RQ.kz ["script","k"])
  (F33:Fo K mg "_law_take" RQ.jB ["box","many"])
  (F34:Fo K mg "_law_whole" RQ.iD ["thing"])
  (F35:Fo K mg "_law_shuffled" RQ.eM ["box","some"])
  (F36:Fo K mg "_law_told" RQ.jK ["many","rows"])
  (F37:Fo K mg "_law_order" RQ.ig ["box","most"])
  (F38:Fo K mg "_law_apart" RQ.hX ["order","a","b"])
  (F39:Fo K mg "_law_tell" RQ.ju ["rows","order"])
  (F40:Fo K mg "_law_on" RQ.lO ["order","one","other"])
  (F41:Fo K mg "_law_turn_good" RQ.dI ["order","thing"])
  (F42:Fo K mg "_law_ring" RQ.jz ["order","thing"])
  (F43:Fo K mg "_law_shows" RQ.iF ["thing","order","put"])
  (a44:PySem.W.nsIn K mainGlobals "law"=some (some (.ref f44))) (l44:K.lookup f44=some ⟨oc44,od44,.func (PySem.W.fnOf "law" "law" (ie RQ.mh) (cU RQ.mh) (ao RQ.mh) .none kV44 dc44 pm44 an44 cd44 ct44),sl44⟩) (c44:PySem.W.codeIn K cd44 "law"=true) (k44:PySem.W.keepIn K (.ref f44)=true)
  (zB:KY K=true)
  (yMOST_ROWS:PySem.W.nsIn K mainGlobals "MOST_ROWS"=some (some (.int 8 tMOST_ROWS)))
  (yMOST_THINGS:PySem.W.nsIn K mainGlobals "MOST_THINGS"=some (some (.int 8 tMOST_THINGS)))
  :∃fd:FuncData,(∀(s:Shared) (v:Value),BindsTo s fd ⟨[v],[]⟩ [("script",v)])/\∀base:Heap,K.In base->base.Ns mainGlobals mg->zO mg base c0 T->e8 l.prog w K mg base (mO l.prog w) 91 fa fd ["script"] (uE T K):=by
 have e:=hfa.symm.trans (Oy X G a44)
 cases e
 have B:i7 mg:=JB X G zB
 have lh:=Oy X G yMOST_ROWS
 have jM:=Oy X G yMOST_THINGS
 obtain⟨f1,d1,bz⟩:=F1.ex
 obtain⟨f2,d2,eS⟩:=F2.ex
 obtain⟨f3,d3,iK⟩:=F3.ex
 obtain⟨f4,d4,iI⟩:=F4.ex
 obtain⟨f5,d5,cT⟩:=F5.ex
 obtain⟨f6,d6,j3⟩:=F6.ex
 obtain⟨f7,d7,gq⟩:=F7.ex
 obtain⟨f8,d8,fZ⟩:=F8.ex
 obtain⟨f9,d9,aX⟩:=F9.ex
 obtain⟨f10,d10,fD⟩:=F10.ex
 obtain⟨f11,d11,aE⟩:=F11.ex
 obtain⟨f12,d12,c9⟩:=F12.ex
 obtain⟨f13,d13,c8⟩:=F13.ex
 obtain⟨f14,d14,fg⟩:=F14.ex
 obtain⟨f15,d15,lT⟩:=F15.ex
 obtain⟨f16,d16,gp⟩:=F16.ex
 obtain⟨f17,d17,c6⟩:=F17.ex
 obtain⟨f18,d18,eR⟩:=F18.ex
 obtain⟨f19,d19,bw⟩:=F19.ex
 obtain⟨f20,d20,fG⟩:=F20.ex
 obtain⟨f21,d21,bX⟩:=F21.ex
 obtain⟨f22,d22,fX⟩:=F22.ex
 obtain⟨f23,d23,fy⟩:=F23.ex
 obtain⟨f24,d24,iH⟩:=F24.ex
 obtain⟨f25,d25,fq⟩:=F25.ex
 obtain⟨f26,d26,b9,hcode⟩:=F26.ex
 obtain⟨f27,d27,eH⟩:=F27.ex
 obtain⟨f28,d28,bh⟩:=F28.ex
 obtain⟨f29,d29,i4⟩:=F29.ex
 obtain⟨f30,d30,dF⟩:=F30.ex
 obtain⟨f31,d31,dN⟩:=F31.ex
 obtain⟨f32,d32,gk⟩:=F32.ex
 obtain⟨f33,d33,bJ⟩:=F33.ex
 obtain⟨f34,d34,aO⟩:=F34.ex
 obtain⟨f35,d35,b7⟩:=F35.ex
 obtain⟨f36,d36,bW⟩:=F36.ex
 obtain⟨f37,d37,dO⟩:=F37.ex
 obtain⟨f38,d38,dD⟩:=F38.ex
 obtain⟨f39,d39,fj⟩:=F39.ex
 obtain⟨f40,d40,iJ⟩:=F40.ex
 obtain⟨f41,d41,aZ⟩:=F41.ex
 obtain⟨f42,d42,fm⟩:=F42.ex
 obtain⟨f43,d43,bF⟩:=F43.ex
 have U44:=qi (st:=RQ.mh) l44 c44 k44
 have Jw:gO K mg "law" RQ.mh ["script"] fa _:=⟨Oy X G a44,U44,U44.binds (ps:=["script"]) λ_ _ _ _ _ _=>yS λ_=>rfl⟩
 obtain⟨ca,hca⟩:∃ca:Str->Addr,True:=⟨λ_=>0,trivial⟩
 refine⟨PySem.W.fnOf "law" "law" (ie RQ.mh) (cU RQ.mh) (ao RQ.mh) .none kV44 dc44 pm44 an44 cd44 ct44,λs v=>.of_eq rfl,λbase _ _ LT=>?_⟩
 have cV:=(RQ.tj (P:=l.prog) (w:=w) (base:=base) (ca:=ca) bz B).imp zl
 have kE:=(RQ.td (P:=l.prog) (w:=w) (base:=base) (ca:=ca) eS B cV).imp ED
 have ot:=(RQ.wz (P:=l.prog) (w:=w) (base:=base) (ca:=ca) iK B cV jM).imp GL
 have oi:=(RQ.vd (P:=l.prog) (w:=w) (base:=base) (ca:=ca) iI B kE).imp Hz
 have kA:=RQ.qm (P:=l.prog) (w:=w) (base:=base) (ca:=ca) cT B
 have qy:=xV (P:=l.prog) (w:=w) (base:=base) (ca:=ca) j3 cT B
 have mE:=(RQ.tM (P:=l.prog) (w:=w) (base:=base) (ca:=ca) gq B).imp HW
 have mw:=(RQ.uH (P:=l.prog) (w:=w) (base:=base) (ca:=ca) fZ B ot oi qy mE).imp xB
 have cf:=(RQ.qV (P:=l.prog) (w:=w) (base:=base) (ca:=ca) aX B mw).imp xG
 have la:=RQ.rb (P:=l.prog) (w:=w) (base:=base) (ca:=ca) fD B
 have a7:=RQ.qO (P:=l.prog) (w:=w) (base:=base) (ca:=ca) aE B
 have jO:=RQ.oV (P:=l.prog) (w:=w) (base:=base) (ca:=ca) c9 B a7
 have jP:=RQ.oX (P:=l.prog) (w:=w) (base:=base) (ca:=ca) c8 B a7
 have lG:=RQ.rT (P:=l.prog) (w:=w) (base:=base) (ca:=ca) fg B jP a7
 have tD:=RQ.zM (P:=l.prog) (w:=w) (base:=base) (ca:=ca) lT B cf kA la
 have mF:=RQ.uS (P:=l.prog) (w:=w) (base:=base) (ca:=ca) gp B
 have jS:=RQ.o6 (P:=l.prog) (w:=w) (base:=base) (ca:=ca) c6 B tD mF
 have kR:=RQ.tX (P:=l.prog) (w:=w) (base:=base) (ca:=ca) eR B
 have cW:=RQ.uC (P:=l.prog) (w:=w) (base:=base) (ca:=ca) bw B a7
 have lA:=RQ.rO (P:=l.prog) (w:=w) (base:=base) (ca:=ca) fG B cW
 have fF:=RQ.rD (P:=l.prog) (w:=w) (base:=base) (ca:=ca) bX B cW
 have mN:=RQ.uy (P:=l.prog) (w:=w) (base:=base) (ca:=ca) fX B cW a7
 have lj:=RQ.rJ (P:=l.prog) (w:=w) (base:=base) (ca:=ca) fy B kR
 have lu:=RQ.rA (P:=l.prog) (w:=w) (base:=base) (ca:=ca) fq B fF
 have iW:=vV (T:=T) (P:=l.prog) (w:=w) (base:=base) (ca:=ca) (j:=7) b9 (λk F' hk h=>RQ.ug (by omega) b9 B hcode LT (RQ.wJ (by omega) iH B h fF lj mN) lA lG lu) 40
 have kL:=RQ.Ar (P:=l.prog) (w:=w) (base:=base) (ca:=ca) eH B jO iW jS
 have cH:=(RQ.oZ (P:=l.prog) (w:=w) (base:=base) (ca:=ca) bh B cf kL).new
 have nJ:=RQ.xY (P:=l.prog) (w:=w) (base:=base) (ca:=ca) i4 B cH
 have km:=RQ.qZ (P:=l.prog) (w:=w) (base:=base) (ca:=ca) dF B cV lh
 have kg:=RQ.pQ (P:=l.prog) (w:=w) (base:=base) (ca:=ca) dN B cf km kL
 have mJ:=RQ.uh (P:=l.prog) (w:=w) (base:=base) (ca:=ca) gk B
 have cS:=RQ.rS (P:=l.prog) (w:=w) (base:=base) bJ B
 have bE:=RQ.qQ (P:=l.prog) (w:=w) (base:=base) (ca:=ca) aO B
 have eJ:=RQ.m6 (P:=l.prog) (w:=w) (base:=base) b7 B cS
 have fk:=RQ.rP (P:=l.prog) (w:=w) (base:=base) (ca:=ca) bW B
 have kb:=RQ.pP (P:=l.prog) (w:=w) (base:=base) (ca:=ca) dO B fk cS eJ
 have kG:=RQ.qw (P:=l.prog) (w:=w) (base:=base) (ca:=ca) dD B
 have lD:=RQ.rQ (P:=l.prog) (w:=w) (base:=base) (ca:=ca) fj B bE fk
 have n0:=RQ.v8 (P:=l.prog) (w:=w) (base:=base) (ca:=ca) iJ B
 have cu:=RQ.mK (P:=l.prog) (w:=w) (base:=base) (ca:=ca) aZ B bE kG
 have lF:=RQ.rR (P:=l.prog) (w:=w) (base:=base) (ca:=ca) fm B cu n0
 have fU:=yo (P:=l.prog) (w:=w) (base:=base) (ca:=ca) (j:=3) bF (λk F' hk h=>RQ.qu hk bF B h bE lF cu) 40
 have JS:=RQ.Fg (P:=l.prog) (w:=w) (base:=base) (ca:=ca) Jw B mJ nJ cH bE lD fU kg kb
 exact e8.imp (sp:=spT T K ca 1 HK) JS Ha
def walk {l:PySem.W.OpenLaw}{q:Program}{loose:List Str}{XP:(Str->Option Value)->Heap->Prop}{YP:World->Heap->Prop}{d:DefRec}{K:Params->Frag}(hn:l.most=some 63)(hdf:d.params.defaults= [])(hi:PyProof.Rows.importsNone q=true)
  {T c:Addr} (hY:∀(w:World) (h:Heap),YP w h->(K w.params).In h) (hYT:∀(w:World) (h:Heap),YP w h->h.get? T=some (PySem.W.tabObj #[])) (hKT:∀p,(K p).lookup T=none) (hcd:∀p,PySem.W.codeHdIn (K p) c T=true)
  (F:∀(w:World) (mg:Str->Option Value) (fa:Addr) (h:Heap),(K w.params).In h->h.Ns mainGlobals mg->mg d.name=some (.ref fa)->
   ∃fd:FuncData,(∀(s:Shared) (u:Value),BindsTo s fd ⟨[u],[]⟩ [("script",u)])/\∀base:Heap,(K w.params).In base->base.Ns mainGlobals mg->zO mg base c T->e8 l.prog w (K w.params) mg base (mO l.prog w) 91 fa fd ["script"] (uE T (K w.params))) :
  PySem.W.WalkO q loose XP YP l.row.toRowW d [] (λf vs=>PySem.call f vs):=
 L2.Cs (n:=63) (k:=91) hn (by decide) hdf hi ⟨rfl,by decide,by decide,rfl⟩ hY hYT hKT hcd F
end RO
namespace HD
noncomputable def vw:PySem.Program:=PySem.W.view PySem.Challenge.pw_rowsorder_k41_fewest_rows [1,2,3,4,5,6,8,9,10,12,13,14,15,16,18,19,20,21,23,24,25,26,27,28,29,30,31,33,34,35,36,37,38,39,40,41,43,44,45,46,47,48,49,50,51,52,53,54,55]
def J8:PySem.Challenge.rw_rowsorder_k41_fewest_rows.wellSaid=true:=by kernel_rfl
end HD
local macro_rules | `(tactic|o_head $H)=>`(tactic| (
 refine PySem.W.holds_open (q:=HD.vw) (loose:=[]) (Xt:=λs=>PySem.W.xlAt HD.vw [] s && PySem.W.recOk (PySem.W.RowW.records _) s) (XP:=PySem.W.XL HD.vw []) (Yf:=PySem.W.Hook.obs $H) (Ya:=PySem.W.Hook.val $H) (YP:=PySem.W.Hook.says $H) (N:=4040) ?hl (PySem.W.Hook.of $H) (PySem.W.Hook.keeps $H) (λs e=>PySem.W.xl_of s (Bool.and_eq_true_iff.mp e).1) PySem.W.XL.keeps (by rfl) (by rfl) (by rfl) (λs e=>PySem.W.recFacts_of (Bool.and_eq_true_iff.mp e).2) (by rfl) (by first |assumption |decide +kernel) (by decide +kernel) ⟨rfl,rfl,rfl,rfl,rfl,by decide +kernel⟩ ?hw ?hc
 case hl=>exact HD.D3 (by kernel_rfl) (by kernel_rfl) (λs=>by kernel_rfl) (λw os=>by kernel_rfl)))
open PySem PySem.W PyProof.Rows L2
set_option maxRecDepth 100000 in
set_option maxHeartbeats 0 in
theorem PySem.Challenge.cw_rowsorder_k41_fewest_rows_holds : PySem.Challenge.rw_rowsorder_k41_fewest_rows.Holds := by
 w_on;(refine holds_law HD.J8 λJ8=>?_);k_head;(case hw=>w_witness2)
 k_fill
 refine RO.walk (l:=PySem.Challenge.rw_rowsorder_k41_fewest_rows) (c:=231) (T:=229) rfl rfl ?hi (λw h Y=>PySem.W.km_in_of Y) (λw h Y=>PySem.W.km_tabs_of Y _ (MM ..)) ?hKT ?hcd ?F
 case hi=>kernel_rfl
 case hKT=>exact λp=>by kernel_rfl
 case hcd=>exact λp=>by kernel_rfl
 case F=>
  intro w mg fa h KX G hmg
  refine' RO.all_mk KX G hmg ?F1 ?F2 ?F3 ?F4 ?F5 ?F6 ?F7 ?F8 ?F9 ?F10 ?F11 ?F12 ?F13 ?F14 ?F15 ?F16 ?F17 ?F18 ?F19 ?F20 ?F21 ?F22 ?F23 ?F24 ?F25 ?F26 ?F27 ?F28 ?F29 ?F30 ?F31 ?F32 ?F33 ?F34 ?F35 ?F36 ?F37 ?F38 ?F39 ?F40 ?F41 ?F42 ?F43 ?a44 ?l44 ?c44 ?k44 ?zB ?yMOST_ROWS ?yMOST_THINGS
  case F1=>refine' bG KX G RO.wY ?a ?l ?c ?k;(case a=>k_is);(case l=>k_is);(case c=>k_is);(case k=>k_is)
  case F2=>refine' bG KX G RO.x6 ?a ?l ?c ?k;(case a=>k_is);(case l=>k_is);(case c=>k_is);(case k=>k_is)
  case F3=>refine' bG KX G RO.zC ?a ?l ?c ?k;(case a=>k_is);(case l=>k_is);(case c=>k_is);(case k=>k_is)
  case F4=>refine' bG KX G RO.zw ?a ?l ?c ?k;(case a=>k_is);(case l=>k_is);(case c=>k_is);(case k=>k_is)
  case F5=>refine' bG KX G RO.tP ?a ?l ?c ?k;(case a=>k_is);(case l=>k_is);(case c=>k_is);(case k=>k_is)
  case F6=>refine' bG KX G RO.BO ?a ?l ?c ?k;(case a=>k_is);(case l=>k_is);(case c=>k_is);(case k=>k_is)
  case F7=>refine' bG KX G RO.xF ?a ?l ?c ?k;(case a=>k_is);(case l=>k_is);(case c=>k_is);(case k=>k_is)
  case F8=>refine' bG KX G RO.xh ?a ?l ?c ?k;(case a=>k_is);(case l=>k_is);(case c=>k_is);(case k=>k_is)
  case F9=>refine' bG KX G RO.tS ?a ?l ?c ?k;(case a=>k_is);(case l=>k_is);(case c=>k_is);(case k=>k_is)
  case F10=>refine' bG KX G RO.vv ?a ?l ?c ?k;(case a=>k_is);(case l=>k_is);(case c=>k_is);(case k=>k_is)
  case F11=>refine' bG KX G RO.uB ?a ?l ?c ?k;(case a=>k_is);(case l=>k_is);(case c=>k_is);(case k=>k_is)
  case F12=>refine' bG KX G RO.rq ?a ?l ?c ?k;(case a=>k_is);(case l=>k_is);(case c=>k_is);(case k=>k_is)
  case F13=>refine' bG KX G RO.rM ?a ?l ?c ?k;(case a=>k_is);(case l=>k_is);(case c=>k_is);(case k=>k_is)
  case F14=>refine' bG KX G RO.wF ?a ?l ?c ?k;(case a=>k_is);(case l=>k_is);(case c=>k_is);(case k=>k_is)
  case F15=>refine' bG KX G RO.Fd ?a ?l ?c ?k;(case a=>k_is);(case l=>k_is);(case c=>k_is);(case k=>k_is)
  case F16=>refine' bG KX G RO.wM ?a ?l ?c ?k;(case a=>k_is);(case l=>k_is);(case c=>k_is);(case k=>k_is)
  case F17=>refine' bG KX G RO.rH ?a ?l ?c ?k;(case a=>k_is);(case l=>k_is);(case c=>k_is);(case k=>k_is)
  case F18=>refine' bG KX G RO.x8 ?a ?l ?c ?k;(case a=>k_is);(case l=>k_is);(case c=>k_is);(case k=>k_is)
  case F19=>refine' bG KX G RO.xU ?a ?l ?c ?k;(case a=>k_is);(case l=>k_is);(case c=>k_is);(case k=>k_is)
  case F20=>refine' bG KX G RO.vS ?a ?l ?c ?k;(case a=>k_is);(case l=>k_is);(case c=>k_is);(case k=>k_is)
  case F21=>refine' bG KX G RO.vk ?a ?l ?c ?k;(case a=>k_is);(case l=>k_is);(case c=>k_is);(case k=>k_is)
  case F22=>refine' bG KX G RO.xP ?a ?l ?c ?k;(case a=>k_is);(case l=>k_is);(case c=>k_is);(case k=>k_is)
  case F23=>refine' bG KX G RO.wC ?a ?l ?c ?k;(case a=>k_is);(case l=>k_is);(case c=>k_is);(case k=>k_is)
  case F24=>refine' bG KX G RO.zX ?a ?l ?c ?k;(case a=>k_is);(case l=>k_is);(case c=>k_is);(case k=>k_is)
  case F25=>refine' bG KX G RO.wy ?a ?l ?c ?k;(case a=>k_is);(case l=>k_is);(case c=>k_is);(case k=>k_is)
  case F26=>refine' Ga KX G RO.xS ?a ?l ?c ?k;(case a=>k_is);(case l=>k_is);(case c=>k_is);(case k=>k_is)
  case F27=>refine' bG KX G RO.Ei ?a ?l ?c ?k;(case a=>k_is);(case l=>k_is);(case c=>k_is);(case k=>k_is)
  case F28=>refine' bG KX G RO.rn ?a ?l ?c ?k;(case a=>k_is);(case l=>k_is);(case c=>k_is);(case k=>k_is)
  case F29=>refine' bG KX G RO.CB ?a ?l ?c ?k;(case a=>k_is);(case l=>k_is);(case c=>k_is);(case k=>k_is)
  case F30=>refine' bG KX G RO.tV ?a ?l ?c ?k;(case a=>k_is);(case l=>k_is);(case c=>k_is);(case k=>k_is)
  case F31=>refine' bG KX G RO.ue ?a ?l ?c ?k;(case a=>k_is);(case l=>k_is);(case c=>k_is);(case k=>k_is)
  case F32=>refine' bG KX G RO.xo ?a ?l ?c ?k;(case a=>k_is);(case l=>k_is);(case c=>k_is);(case k=>k_is)
  case F33=>refine' bG KX G RO.vQ ?a ?l ?c ?k;(case a=>k_is);(case l=>k_is);(case c=>k_is);(case k=>k_is)
  case F34=>refine' bG KX G RO.uT ?a ?l ?c ?k;(case a=>k_is);(case l=>k_is);(case c=>k_is);(case k=>k_is)
  case F35=>refine' bG KX G RO.oW ?a ?l ?c ?k;(case a=>k_is);(case l=>k_is);(case c=>k_is);(case k=>k_is)
  case F36=>refine' bG KX G RO.vI ?a ?l ?c ?k;(case a=>k_is);(case l=>k_is);(case c=>k_is);(case k=>k_is)
  case F37=>refine' bG KX G RO.uP ?a ?l ?c ?k;(case a=>k_is);(case l=>k_is);(case c=>k_is);(case k=>k_is)
  case F38=>refine' bG KX G RO.uQ ?a ?l ?c ?k;(case a=>k_is);(case l=>k_is);(case c=>k_is);(case k=>k_is)
  case F39=>refine' bG KX G RO.vn ?a ?l ?c ?k;(case a=>k_is);(case l=>k_is);(case c=>k_is);(case k=>k_is)
  case F40=>refine' bG KX G RO.AA ?a ?l ?c ?k;(case a=>k_is);(case l=>k_is);(case c=>k_is);(case k=>k_is)
  case F41=>refine' bG KX G RO.nR ?a ?l ?c ?k;(case a=>k_is);(case l=>k_is);(case c=>k_is);(case k=>k_is)
  case F42=>refine' bG KX G RO.vF ?a ?l ?c ?k;(case a=>k_is);(case l=>k_is);(case c=>k_is);(case k=>k_is)
  case F43=>refine' bG KX G RO.ui ?a ?l ?c ?k;(case a=>k_is);(case l=>k_is);(case c=>k_is);(case k=>k_is)
  case a44=>k_is
  case l44=>k_is
  case c44=>k_is
  case k44=>k_is
  case zB=>kernel_rfl
  case yMOST_ROWS=>k_is
  case yMOST_THINGS=>k_is
end
